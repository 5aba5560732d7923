import PyProof.Rows.All
import Wide.All
import OpenK.AllK
import Wide.FinOn
import Lean
import PyProof.EqAt
import PyProof.EqKinds
import PyProof.TupleCall
import PySem.Challenge.RW_onelook_k31_who_reads_round
open Array renaming all_eq_true_iff_forall_mem→QP,getD→AS,getD_eq_getD_getElem?→Q8,length_toList→KU
open PySem.AutoSeq1 renaming sub_tuple_tuple→K0
open Bool renaming and_eq_true→ff,and_false→D5,eq_iff_iff→Bx,false_and→KW,false_eq_true→AJ,false_ne_true→bD,or_eq_true→yX
open PySem.Builtin.Dict_items renaming ownsTuple→NQ
open PySem.Builtin.List renaming listTooLong→rE
open PySem.Builtin.Range renaming rangeSize→u5,small→NX
open PySem.Builtin.Slice renaming sliceAdjust→DW,sliceApplied→MD,slicePlaces→yG
open PySem.Builtin.Str renaming occurrences→yw
open PySem.Builtin.Tuple renaming tupleCompareSizes→MB,tupleExact→yH,tupleIsExact→NH,tupleItemsOf→ME
open PySem.Builtin renaming divisionGoesByPylong→NY
open PySem.Calls renaming Name_function_global→L9,callWith_builtin→vh,call_function_entry→NP,evalArgs_plain→yL,spliced_cons→q8,spliced_nil→yA
open Classical renaming propDecidable→ET
open PySem.EntryCells renaming newEntry→MZ
open PySem.F renaming typeOf_object_class→EW
open False renaming elim→ae
open ForInStep renaming yield→y_
open PySem.Heap renaming MadeExcOf→Em,SameBut→u0,get?_push_of_some→bK,get?_push_size→cE,get?_update_other→rp,get?_update_self→yJ,lt_size→aX
open PySem.Heap.SameBut renaming update→vM
open Int renaming fmod_lt_of_pos→lC,fmod_nonneg_of_pos→j8,toNat_natCast→Fw
open List renaming all_cons→i7,any_cons→i8,any_eq_true→HA,append_assoc→vj,append_nil→iz,concat_eq_append→OU,contains_cons→EY,drop_eq_getElem_cons→y7,drop_length→vA,eq_nil_of_length_eq_zero→vt,eq_nil_or_concat→OT,ext_getElem?→zo,filterMap_cons→uZ,filter_append→zY,filter_congr→Hq,filter_cons→rG,filter_cons_of_neg→jb,filter_cons_of_pos→ja,find?_cons→pC,flatten_cons→rB,foldl_cons→rC,getD_eq_getElem?_getD→Fh,getElem?_append_left→fQ,getElem?_append_right→pA,getElem?_cons_succ→cQ,getElem?_cons_zero→cL,getElem?_eq_getElem→dD,getElem?_eq_none→vO,getElem?_map→fh,getElem?_replicate→MA,getElem?_set_ne→aC,getElem?_set_self→pv,getElem?_toArray→Fg,idxOf_lt_length_of_mem→OQ,length→f9,length_append→cF,length_cons→cG,length_filter_le→gM,length_map→bc,length_nil→jK,length_set→rA,length_take→q9,lookup_cons→i_,map→qd,map_append→ju,map_congr_left→wy,map_cons→a6,map_id'→Hy,map_map→mr,map_nil→pB,mem_append_left→fP,mem_append_right→fg,mem_cons→G_,mem_cons_of_mem→aF,mem_cons_self→aB,mem_filter→ng,mem_of_getElem?→Ii,mem_of_mem_take→Bs,nil_append→Au,nodup_append→m_,nodup_nil→Ay,of_mem_zip→Al,pairwise_cons→vL,pairwise_iff_getElem→Jw,pairwise_map→AZ,range→eL,range_succ_eq_map→Jo,replicate→aM,replicate_succ→iL,set_append_left→Ky,set_set→Bw,singleton_append→Kq,size_toArray→aT,take_append_of_le_length→Kr,zip_cons_cons→Am
open PySem.NameKind renaming cell→fJ,free→fI
open Nat renaming le_of_eq→qG,le_of_lt→uY,le_refl→au,le_succ→oI,le_trans→aW,lt_irrefl→eK,lt_of_lt_of_le→bP,lt_trans→Aw,min_le_right→An,mul_le_mul→Br,ne_of_gt→Ak,ne_of_lt→bW,not_lt_zero→vm,sub_self→qJ,succ_le_succ→vw,zero_add→wx,zero_le→dX
open Ne renaming symm→aH
open PySem.Obj renaming data_mapFields→qI,isFreed_of_fields→Az,mapFields→kI,mapSeq→dB
open Option renaming isSome_some→ID,map_some→om
open Or renaming inr→mD
open PySem.PassesOwn renaming leaving→Kh
open Prod renaming ext→u7
open PySem.PyData renaming canLayAll0→AF,depthAll→oF,eqv→b_,eqvAll→ni,list→vx,strOk→br
open PyProof.Rows renaming callWith_type1→qE,intBits_le→Kn,lt_int→Ik,slot_tuple_getitem→u9
open PySem.SeqAt.EqAt renaming int_int→Ij,int_none→HM,int_str→HL,none_int→HQ,none_str→HR,same→HS,str_int→HN,str_none→HP
open PySem.Str renaming ofString→oA
open True renaming intro→qH
open PySem.Txt renaming slice→mH
open PySem.Value renaming bool→jA,builtin→qM,int→og,none→bC,notImplemented→Il,ref→aR,str→mz,type→mB
open PySem renaming Addr→aaG,Around→aaH,FuncData→aaI,NameKind→aaJ,Program→aaK,Shared→aaL,Value→aaM,World→aaN,behindInMarks→aaO,binaryOp→aaP,bootBuiltins→aaQ,codeAny→aaR,compPost→aaS,compareOp→aaT,foldedSetIterable→aaU,isSubtype_type→aaV,mainGlobals→aaW,sizeLine→aaX,starEach→aaY,wpAny→aaZ,wpAny_bind→aa0,wpAny_dictEntries→aa1,wpAny_holding→aa2,wpAny_mono→aa3,wpAny_newList→aa4,wpAny_newObj_type→aa5,wpAny_pure→aa6,wpAny_truthy_bool→aa7
noncomputable section
set_option Elab.async false
set_option linter.all false
set_option maxRecDepth 100000
namespace L2
open PySem PySem.Spec PyProof.Rows
inductive Key where
 | inl (i:Int) | inr (x:Str) | bg
 deriving DecidableEq
def qW:Key->aaM->Bool
 | .inl k,v=>Value.isInt k v
 | .inr x,v=>Value.isStrOf x v
 | .bg,v=>(match v with | .none=>true | _=>false)
def TF(w:aaN):Key->Int
 | .inl k=>hashInt k
 | .inr x=>hashStr w x
 | .bg=>reduceHash 0xFCA86420
theorem eC:∀{k:Key}{v:aaM},qW k v=true->(∃i t,k=Key.inl i/\v=og i t)\/(∃x t,k=Key.inr x/\v=mz x t)\/(k=Key.bg/\v=bC)
 | .inl i,v,h=>by
  obtain⟨t,e⟩:=Value.isInt_shape (k:=i) (v:=v) h
  exact .inl ⟨i,t,rfl,e⟩
 | .inr x,v,h=>by
  obtain⟨t,e⟩:=Value.isStrOf_shape (x:=x) (v:=v) h
  exact .inr (.inl ⟨x,t,rfl,e⟩)
 | .bg,v,h=>by
  cases v<;>first | exact .inr (.inr ⟨rfl,rfl⟩) | (unfold qW at h;cases h)
theorem BK(i:Int)(t:Tok):qW (.inl i) (.int i t)=true:=by simp[qW,Value.isInt]
theorem BL(x:Str)(t:Tok):qW (.inr x) (.str x t)=true:=by simp[qW,Value.isStrOf]
theorem LW(a b:Int):decide ((Key.inl a:Key)=Key.inl b)=(a == b):=by
 by_cases e:a=b
 ·subst e;simp
 ·have h:¬(Key.inl a:Key)=Key.inl b:=λq=>e (Key.inl.inj q)
  rw[decide_eq_false h]
  exact(beq_eq_false_iff_ne.mpr e).symm
theorem LX(a b:Str):decide ((Key.inr a:Key)=Key.inr b)=decide (a=b):=by
 by_cases e:a=b
 ·subst e;simp
 ·have h:¬(Key.inr a:Key)=Key.inr b:=λq=>e (Key.inr.inj q)
  rw[decide_eq_false h,decide_eq_false e]
theorem DD{prog:aaK}{w:aaN}{A:aaH}{E:aaM->aaL->Prop}{s:aaL}{Q:Int->aaL->Prop}(h:Q (reduceHash 0xFCA86420) { s with toks:=s.toks+1 }):aaZ (model prog w) A (PySem.pyHash .none) Q E s :=
 PySem.W.pyHash_slot (T:="NoneType") rfl F.slot_NoneType_hash F.entry_NoneType_hash (F.args_NoneType_hash_1 _) (beq_builtin_none _) (.inl rfl) (aa0 (aa6 (aa0 (wpAny_mkInt (aa6 ⟨_,_,rfl,h⟩)))))
def bp(prog:aaK)(w:aaN):PySem.KeyKind prog w Key where
 is:=qW
 hash:=TF w
 inj:=λv a b ha hb=>by
  rcases eC ha with ⟨i,t,rfl,rfl⟩ | ⟨x,t,rfl,rfl⟩ | ⟨rfl,rfl⟩<;>rcases eC hb with ⟨j,u,rfl,e⟩ | ⟨y,u,rfl,e⟩ | ⟨rfl,e⟩<;>cases e<;>rfl
 byValue:=λk v h=>by
  rcases eC h with ⟨i,t,rfl,rfl⟩ | ⟨x,t,rfl,rfl⟩ | ⟨rfl,rfl⟩<;>rfl
 pyHash:=λhv h=>by
  rcases eC hv with ⟨i,t,rfl,rfl⟩ | ⟨x,t,rfl,rfl⟩ | ⟨rfl,rfl⟩
  ·exact wpAny_pyHash_int h
  ·exact wpAny_pyHash_str h
  ·exact DD h
 eqBool:=λ{A E s a b u v Q} hu hv h=>by
  have no:a≠b->Q false s:=λn=>by rw[decide_eq_false n] at h;exact h
  rcases eC hu with ⟨i,t,rfl,rfl⟩ | ⟨x,t,rfl,rfl⟩ | ⟨rfl,rfl⟩<;>rcases eC hv with ⟨j,u,rfl,rfl⟩ | ⟨y,u,rfl,rfl⟩ | ⟨rfl,rfl⟩
  ·rw[LW] at h;exact wpAny_eqBool_int h
  ·exact HL i t y u _ _ _ _ (no nofun)
  ·exact HM i t _ _ _ _ (no nofun)
  ·exact HN x t j u _ _ _ _ (no nofun)
  ·rw[LX] at h;exact wpAny_eqBool_str h
  ·exact HP x t _ _ _ _ (no nofun)
  ·exact HQ j u _ _ _ _ (no nofun)
  ·exact HR y u _ _ _ _ (no nofun)
  ·exact HS .none _ _ _ _ (by simpa using h)
 «strs»:=λk x t v h=>by
  rcases eC h with ⟨i,u,rfl,e⟩ | ⟨y,u,rfl,e⟩ | ⟨rfl,e⟩<;>cases e
  cases v<;>rfl
theorem wF(prog:aaK)(w:aaN)(i:Int)(t:Tok):(bp prog w).is (.inl i) (.int i t)=true:=BK i t
theorem wG(prog:aaK)(w:aaN)(x:Str)(t:Tok):(bp prog w).is (.inr x) (.str x t)=true:=BL x t
inductive V where
 | bg | bl (b:Bool) | int (i:Int) | str (x:Str) | O6 (b:Array UInt8) | Si (b:UInt64) | ref (a:aaG) | ty (n:String)
 deriving DecidableEq
def RelV:V->aaM->Prop
 | .bg,u=>u=bC
 | .bl b,u=>u=jA b
 | .int i,u=>∃t,u=og i t
 | .str x,u=>∃t,u=mz x t
 | .O6 b,u=>∃t,u=Value.bytes b t
 | .Si b,u=>∃t,u=Value.float b t
 | .ref a,u=>u=aR a
 | .ty n,u=>u=mB n
abbrev Vals:List V->List aaM->Prop:=Paired RelV
theorem Vals.length{xs:List V}{us:List aaM}(r:Vals xs us):xs.length=us.length:=Paired.length r
theorem Vals.get:∀{xs:List V}{us:List aaM}{i:Nat}{x:V},Vals xs us->xs[i]? =some x->∃u,us[i]? =some u/\RelV x u
 | _,_,_,_,.nil,e=>by simp at e
 | _,_,0,_,.cons r _,e=>by simp at e;subst e;exact⟨_,rfl,r⟩
 | _,_,i+1,x,.cons _ t,e=>by
  obtain⟨u,h1,h2⟩:=Vals.get (i:=i) (x:=x) t (by simpa using e)
  exact⟨u,by simpa using h1,h2⟩
theorem Vals.set{x:V}{u:aaM}(r:RelV x u):∀{xs:List V}{us:List aaM}(i:Nat),Vals xs us->Vals (xs.set i x) (us.set i u)
 | _,_,_,.nil=> .nil
 | _,_,0,.cons _ t=> .cons r t
 | _,_,i+1,.cons q t=> .cons q (Vals.set r i t)
theorem Vals.append:∀{xs ys:List V}{us ws:List aaM},Vals xs us->Vals ys ws->Vals (xs++ys) (us++ws)
 | _,_,_,_,.nil,s=>s
 | _,_,_,_,.cons r t,s=> .cons r (Vals.append t s)
theorem Vals.take:∀{xs:List V}{us:List aaM}(n:Nat),Vals xs us->Vals (xs.take n) (us.take n)
 | _,_,0,_=> .nil
 | _,_,_+1,.nil=> .nil
 | _,_,n+1,.cons r t=> .cons r (Vals.take n t)
theorem Vals.drop:∀{xs:List V}{us:List aaM}(n:Nat),Vals xs us->Vals (xs.drop n) (us.drop n)
 | _,_,0,r=>r
 | _,_,_+1,.nil=> .nil
 | _,_,n+1,.cons _ t=>Vals.drop n t
def oh:Option V->Option aaM->Prop
 | some v,some u=>RelV v u
 | none,none=>True
 | _,_=>False
def KV{κ:Type}:List (κ×V)->List (κ×aaM)->Prop:=Paired λ(p:κ×V)(q:κ×aaM)=>p.1=q.1/\RelV p.2 q.2
def kV:Key->V
 | .inl i=> .int i
 | .inr x=> .str x
 | .bg=> .bg
inductive HO where
  | lst (xs:List V)
  | tup (xs:List V)
  | dK (kvs:List (Key×V)) | dT (kvs:List (List Key×V))
  | set (S:Int->Bool) (n:Nat)
  | ins (C dx:aaG) (fs:List (Str×V))
  | own (x:aaG)
  | xd (fs:List (Str×V))
  | met (f x:aaG)
  | Sj (lo hi:Int)
  | iy (o:Obj) (u:HO)
  | pf (ps:Array aaM)
  | ext (φ:Heap->Prop)
abbrev Hp:=aaG->Option HO
def upd(H:Hp)(a:aaG)(o:HO):Hp:=λb=>if b=a then some o else H b
theorem aZ{H:Hp}{a:aaG}{o:HO}:upd H a o a=some o:=by unfold upd;rw[if_pos rfl]
theorem aw{H:Hp}{a b:aaG}{o:HO}(h:b≠a):upd H a o b=H b:=by unfold upd;rw[if_neg h]
theorem KR{H:Hp}{a b:aaG}{o u:HO}(h:H a=some o)(h':H b=some u)(d:o≠u):a≠b:=by
 intro e;subst e;rw[h] at h';exact d (Option.some.inj h')
theorem bI{H:Hp}{a b:aaG}{o:HO}(h:H a=some o)(h':H b=none):a≠b:=by
 intro e;subst e;rw[h] at h';cases h'
def yp(h:Heap)(a:aaG):Prop:=∀o,h.get? a=some o->o.dict=none
theorem yp.new(h:Heap)(us:Array aaM):yp (h.push { cls:=.type "tuple",data:=.seq us }) h.objs.size:=λo q=>by
 rw[cE _ rfl] at q
 cases q
 rfl
section
variable (P:aaK) (w:aaN)
def dv(H:Hp)(h:Heap)(a:aaG):HO->Prop
 | .lst xs=>xs.length<=aaX/\∃(its:List aaM)(n:Nat),Vals xs its/\h.get? a=some { cls:=.type "list",data:=.seq its.toArray n }
 | .tup xs=>xs.length<=aaX/\∃its:List aaM,Vals xs its/\IsTup h a its.toArray/\yp h a
 | .dK kvs=>kvs.length<=aaX/\(a == sysModules)=false/\∃vs,KV kvs vs/\h.DictOf (bp P w) a vs
 | .dT kvs=>kvs.length<=aaX/\(a == sysModules)=false/\∃xs:List (List Key×aaG×aaM),
   Paired (λ(p:List Key×V)(q:List Key×aaG×aaM)=>p.1=q.1/\H q.2.1=some (.tup (p.1.map kV))/\RelV p.2 q.2.2) kvs xs/\
   ∃o es ep,h.get? a=some o/\o.ExactDict/\o.data= .dict es ep/\es.toList=xs.map (entryOfKey (tupleKind (bp P w)))/\(xs.map (·.1)).Nodup
 | .set S n=>h.SetOf (intKind P w) a S n
 | .ins C dx fs=>H dx=some (.own a)/\fs.length<=1000/\dx≠a/\h.get? a=some (PySem.W.instObj C dx)/\
   ∃mA,h.Ns1 dx mA/\(∀f,oh (fs.lookup f) (mA f))/\PySem.Within mA (fs.map (·.1))
 | .own _=>∃o,h.get? a=some o
 | .xd fs=>∃mA,h.Ns1 a mA/\∀f,oh (fs.lookup f) (mA f)
 | .Sj lo hi=>∃t u v,h.get? a=some { cls:=.type "range",data:=.fields #[.int lo t,.int hi u,.int 1 v] }
 | .iy o u=>h.get? a=some o/\dv H h a u
 | .pf ps=>h.get? a=some { cls:=.none,data:=.fields ps }
 | .met f x=>h.get? a=some (PySem.W.methodObj (.ref f) (.ref x))
 | .ext φ=>φ h/\(∃o,h.get? a=some o)/\∀h1 h2:Heap,φ h1->(∀o,h1.get? a=some o->h2.get? a=some o)->φ h2
def lI(H:Hp)(h:Heap):Prop:=∀a o,H a=some o->dv P w H h a o
end
section
variable {P:aaK} {w:aaN} {H H':Hp} {h h':Heap} {a:aaG} {o:HO}
theorem dv.lt(x:dv P w H h a o):a < h.objs.size:=by
 cases o with
 | lst xs=>obtain⟨_,_,_,_,e⟩:=x;exact aX e
 | tup xs=>obtain⟨_,_,_,p,_⟩:=x;exact p.lt
 | dK kvs=>obtain⟨_,_,_,_,o,_,_,e,_⟩:=x;exact aX e
 | dT kvs=>obtain⟨_,_,_,_,o,_,_,e,_⟩:=x;exact aX e
 | set S n=>obtain⟨o,_,_,_,e,_⟩:=x;exact aX e
 | ins C dx fs=>obtain⟨_,_,_,e,_⟩:=x;exact aX e
 | own y=>obtain⟨_,e⟩:=x;exact aX e
 | xd fs=>obtain⟨_,⟨_,_,_,e,_⟩,_⟩:=x;exact aX e
 | Sj lo hi=>obtain⟨_,_,_,e⟩:=x;exact aX e
 | iy ob u=>obtain⟨e,_⟩:=x;exact aX e
 | pf ps=>exact aX (show h.get? a=some _ from x)
 | met f y=>exact aX (show h.get? a=some _ from x)
 | ext φ=>obtain⟨_,⟨_,e⟩,_⟩:=x;exact aX e
theorem Paired.LY{α β:Type}{F G:α->β->Prop}:∀{l₁:List α}{l₂:List β},Paired F l₁ l₂->(∀a b,F a b->G a b)->Paired G l₁ l₂
 | _,_,.nil,_=> .nil
 | _,_,.cons r t,f=> .cons (f _ _ r) (Paired.LY t f)
theorem dv.stay(x:dv P w H h a o)(k:∀b u,(b=a\/H b=some (.own a))->h.get? b=some u->h'.get? b=some u)
  (ho:∀b,H b=some (.own a)->H' b=some (.own a))(ht:∀b xs,H b=some (.tup xs)->H' b=some (.tup xs)):dv P w H' h' a o:=by
 induction o with
 | lst xs=>obtain⟨z,its,n,r,e⟩:=x;exact⟨z,its,n,r,k _ _ (.inl rfl) e⟩
 | tup xs=>obtain⟨z,us,r,⟨ob,e,c⟩,nd⟩:=x;exact⟨z,us,r,⟨ob,k _ _ (.inl rfl) e,c⟩,λo q=>by rw[k _ _ (.inl rfl) e] at q;cases q;exact nd _ e⟩
 | dK kvs=>obtain⟨z,y,vs,r,ob,es,ep,e,c⟩:=x;exact⟨z,y,vs,r,ob,es,ep,k _ _ (.inl rfl) e,c⟩
 | dT kvs=>
  obtain⟨z,y,xs,r,ob,es,ep,e,c⟩:=x
  exact⟨z,y,xs,Paired.LY r λp q z=>⟨z.1,ht _ _ z.2.1,z.2.2⟩,ob,es,ep,k _ _ (.inl rfl) e,c⟩
 | set S n=>obtain⟨ob,es,ep,t,e,c⟩:=x;exact⟨ob,es,ep,t,k _ _ (.inl rfl) e,c⟩
 | ins C dx fs=>
  obtain⟨d,z,ne,e,mA,⟨od,es,ep,e2,c⟩,r⟩:=x
  exact⟨ho _ d,z,ne,k _ _ (.inl rfl) e,mA,⟨od,es,ep,k _ _ (.inr d) e2,c⟩,r⟩
 | own y=>obtain⟨ob,e⟩:=x;exact⟨ob,k _ _ (.inl rfl) e⟩
 | xd fs=>obtain⟨mA,⟨od,es,ep,e,c⟩,r⟩:=x;exact⟨mA,⟨od,es,ep,k _ _ (.inl rfl) e,c⟩,r⟩
 | Sj lo hi=>obtain⟨t,u,v,e⟩:=x;exact⟨t,u,v,k _ _ (.inl rfl) e⟩
 | iy ob u ih=>obtain⟨e,q⟩:=x;exact⟨k _ _ (.inl rfl) e,ih q⟩
 | pf ps=>
  have e:h.get? a=some { cls:=.none,data:=.fields ps }:=x
  show h'.get? a=some { cls:=.none,data:=.fields ps }
  exact k a _ (.inl rfl) e
 | met f y=>
  have e:h.get? a=some (PySem.W.methodObj (.ref f) (.ref y)):=x
  show h'.get? a=some (PySem.W.methodObj (.ref f) (.ref y))
  exact k a _ (.inl rfl) e
 | ext φ=>obtain⟨p,⟨o,e⟩,st⟩:=x;exact⟨st _ _ p λo q=>k _ _ (.inl rfl) q,⟨o,k _ _ (.inl rfl) e⟩,st⟩
theorem lI.lt(x:lI P w H h)(e:H a=some o):a < h.objs.size:=(x a o e).lt
theorem lI.fresh(x:lI P w H h)(e:h.objs.size<=a):H a=none:=by
 cases q:H a with
 | none=>rfl
 | some u=>exact absurd (bP (x.lt q) e) (eK _)
theorem lI.kept(x:lI P w H h)(k:∀b u,h.get? b=some u->h'.get? b=some u):lI P w H h':=λa o e=>
 (x a o e).stay (λb u _ q=>k b u q) (λ_ q=>q) λ_ _ q=>q
theorem lI.laid(x:lI P w H h)(k:∀b u,h.get? b=some u->h'.get? b=some u)(hp:h.objs.size<=a)(new:dv P w (upd H a o) h' a o):lI P w (upd H a o) h':=λb u e=>by
 have hn:=x.fresh hp
 by_cases hb:b=a
 ·subst hb;rw[aZ] at e;cases e;exact new
 ·rw[aw hb] at e
  exact(x b u e).stay (λc v _ q=>k c v q) (λc q=>by rw[aw (bI q hn)];exact q) λc xs q=>by rw[aw (bI q hn)];exact q
end
def Rd(H:Hp)(a:aaG)(u:HO):Prop:=H a=some u\/∃o,H a=some (.iy o u)
theorem Rd.ok{P:aaK}{w:aaN}{H:Hp}{h:Heap}{a:aaG}{u:HO}(r:Rd H a u)(x:lI P w H h):dv P w H h a u:=by
 rcases r with r | ⟨o,r⟩
 ·exact x a u r
 ·obtain⟨_,q⟩:=x a _ r
  exact q
def Pr:Option HO->Prop
 | some (.lst _)=>True
 | some (.dK _)=>True
 | some (.dT _)=>True
 | some (.set _ _)=>True
 | some (.ins _ _ _)=>True
 | some (.ext _)=>True
 | _=>False
section
variable {P:aaK} {w:aaN} {H:Hp} {h h':Heap} {x e:aaG} {o':HO}
theorem lI.write(ok:lI P w H h)(mu:Pr (H x))(he:e=x\/H e=some (.own x))(k:∀b u,b≠e->h.get? b=some u->h'.get? b=some u)(O7:∃u,h'.get? e=some u)
  (new:dv P w (upd H x o') h' x o'):lI P w (upd H x o') h':=λb u q=>by
 have Pu:∀c y,H c=some (.own y)->c≠x:=λc y r z=>by subst z;rw[r] at mu;exact mu
 have TH:∀c xs,H c=some (.tup xs)->c≠x:=λc xs r z=>by subst z;rw[r] at mu;exact mu
 by_cases hb:b=x
 ·subst hb;rw[aZ] at q;cases q;exact new
 ·rw[aw hb] at q
  by_cases LZ:b=e
  ·have q':H b=some (.own x):=by
    rcases he with z | z
    ·exact absurd (LZ.trans z) hb
    ·rw[LZ];exact z
   rw[q] at q';cases q'
   obtain⟨v,hv⟩:=O7
   exact⟨v,by rw[LZ];exact hv⟩
  ·refine(ok b u q).stay (λc v hc r=>k c v ?_ r) (λc r=>by rw[aw (Pu c b r)];exact r) λc xs r=>by rw[aw (TH c xs r)];exact r
   rcases hc with rfl | hc
   ·exact LZ
   ·rintro rfl
    rcases he with z | z
    ·exact Pu c b hc z
    ·rw[hc] at z;cases z;exact hb rfl
end
structure Un(fs ex:List aaG)(H H':Hp)(h h':Heap):Prop where
 keep:∀b o,h.get? b=some o->H b=none->b∉fs->b∉ex->h'.get? b=some o
 slot:∀b o,h.get? b=some o->H b=none->b∈fs->b∉ex->∃sl,h'.get? b=some { o with slots:=sl }
 free:∀b o,h.get? b=some o->H b=none->b∉ex->H' b=none
 there:∀b o,h.get? b=some o->b∉ex->∃o',h'.get? b=some o'
 tups:∀b xs,H b=some (.tup xs)->H' b=some (.tup xs)
 oj:∀b o u,H b=some (.iy o u)->H' b=some (.iy o u)
 qX:∀b ps,H b=some (.pf ps)->∃more,H' b=some (.pf (ps++more))
section
variable {fs fs' ex ex':List aaG} {H H1 H2:Hp} {h h1 h2 h':Heap} {a x e:aaG} {o:HO}
theorem Un.any(u:Un fs ex H H1 h h1){b:aaG}{ob:Obj}(q:h.get? b=some ob)(n:H b=none)(hx:b∉ex):∃sl,h1.get? b=some { ob with slots:=sl }:=by
 by_cases hb:b∈fs
 ·exact u.slot b ob q n hb hx
 ·exact⟨ob.slots,u.keep b ob q n hb hx⟩
theorem Un.kept(k:∀b u,h.get? b=some u->h'.get? b=some u):Un fs ex H H h h' :=
 ⟨λb ob q _ _ _=>k b ob q,λb ob q _ _ _=>⟨ob.slots,k b ob q⟩,λ_ _ _ n _=>n,λb ob q _=>⟨ob,k b ob q⟩,λ_ _ q=>q,λ_ _ _ q=>q,λ_ ps q=>⟨#[],by rw[q];simp⟩⟩
theorem Un.refl:Un fs ex H H h h:=Un.kept λ_ _ q=>q
theorem Un.laid(k:∀b u,h.get? b=some u->h'.get? b=some u)(hp:h.objs.size<=a)(hn:H a=none):Un fs ex H (upd H a o) h h' where
 keep:=λb u q _ _ _=>k b u q
 slot:=λb u q _ _ _=>⟨u.slots,k b u q⟩
 free:=λb u q n _=>by rw[aw (bW (bP (aX q) hp))];exact n
 there:=λb u q _=>⟨u,k b u q⟩
 tups:=λb xs q=>by rw[aw (bI q hn)];exact q
 oj:=λb u xs q=>by rw[aw (bI q hn)];exact q
 qX:=λb ps q=>⟨#[],by rw[aw (bI q hn),q];simp⟩
theorem Un.write(mu:Pr (H x))(he:e=x\/H e=some (.own x))(k:∀b u,b≠e->h.get? b=some u->h'.get? b=some u)(O7:∃u,h'.get? e=some u):Un fs ex H (upd H x o) h h':=by
 have hx:∀b,H b=none->b≠x:=λb n z=>by subst z;rw[n] at mu;exact mu
 have hb:∀b,H b=none->b≠e:=λb n z=>by
  subst z
  rcases he with r | r
  ·exact hx b n r
  ·rw[n] at r;cases r
 have hm:∀b u,H b=some u->¬Pr (some u)->b≠x:=λb u q nm z=>by subst z;rw[q] at mu;exact nm mu
 refine⟨λb u q n _ _=>k b u (hb b n) q,λb u q n _ _=>⟨u.slots,k b u (hb b n) q⟩,λb u q n _=>by rw[aw (hx b n)];exact n,λb u q _=>?_,
  λb xs q=>by rw[aw (hm b _ q λz=>z)];exact q,λb u xs q=>by rw[aw (hm b _ q λz=>z)];exact q,λb ps q=>⟨#[],by rw[aw (hm b _ q λz=>z),q];simp⟩⟩
 by_cases LZ:b=e
 ·subst LZ;exact O7
 ·exact⟨u,k b u LZ q⟩
end
def Sk(h:Heap)(H:Hp):List aaG:=(eL h.objs.size).filter λa=>(H a).isSome
def uW(h:Heap)(H:Hp):Heap:=PySem.W.hideAll h (Sk h H)
theorem BM(h:Heap)(H:Hp):(uW h H).objs.size=h.objs.size:=PySem.W.hideAll_size _ _
theorem DE{h:Heap}{H:Hp}{b:aaG}{o:Obj}(e:h.get? b=some o)(n:H b=none):(uW h H).get? b=some o :=
 PySem.W.hideAll_get _ e λhm=>by
  have q:(H b).isSome=true:=(List.mem_filter.mp hm).2
  rw[n] at q;simp at q
theorem HU{h:Heap}{H:Hp}{b:aaG}{o:Obj}(e:(uW h H).get? b=some o):h.get? b=some o/\H b=none:=by
 have e':h.get? b=some o:=PySem.W.of_hideAll (Sk h H) e
 refine⟨e',?_⟩
 cases q:H b with
 | none=>rfl
 | some x=>
  have hm:b∈Sk h H:=List.mem_filter.mpr ⟨List.mem_range.mpr (aX e'),by simp[q]⟩
  have z:(uW h H).get? b=none:=PySem.W.hideAll_none (Sk h H) hm
  rw[z] at e;cases e
def uX(g h:Heap)(L:aaG):List (aaG×Obj):=(eL h.objs.size).filterMap λa=>if a=L\/(g.get? a).isSome=true then none else(h.get? a).map λo=>(a,o)
theorem cq{g h:Heap}{L a:aaG}{o:Obj}(h1:a≠L)(h2:g.get? a=none)(h3:h.get? a=some o):(a,o)∈uX g h L :=
 List.mem_filterMap.mpr ⟨a,List.mem_range.mpr (aX h3),by simp[h1,h2,h3]⟩
theorem qY{g h:Heap}{L:aaG}{p:aaG×Obj}(hp:p∈uX g h L):p.1≠L/\g.get? p.1=none/\h.get? p.1=some p.2:=by
 obtain⟨b,_,e⟩:=List.mem_filterMap.mp hp
 split at e
 ·cases e
 ·rename_i hn
  cases q:h.get? b with
  | none=>rw[q] at e;simp at e
  | some u=>
   rw[q] at e
   simp only[om,Option.some.injEq] at e
   subst e
   refine⟨λz=>hn (.inl z),?_,q⟩
   show g.get? b=none
   cases r:g.get? b with
   | none=>rfl
   | some v=>exact(hn (.inr (by simp[r]))).elim
theorem oo{g h:Heap}{L:aaG}:News g L h (uX g h L):=λp hp=>let ⟨a,b,c⟩:=qY hp;⟨c,a,b⟩
structure Mod(K:PySem.W.Frag)(mg:Str->Option aaM)(base:Heap):Prop where
 HF:K.In base
 glob:base.Ns aaW mg
 blt:∃mb,base.Ns builtinsNs mb/\∀x:Str,x≠"__name__"->mb x=aaQ x
 nolimit:base.NoLimit
structure Cx where
 prog:aaK
 w:aaN
 K:PySem.W.Frag
 mg:Str->Option aaM
 base:Heap
 A:aaH
 N:List Str
 s₀:aaL
 H₀:Hp
 env:Env
 outer:List Env
 stack:List Env
 ex:List aaG
 fn:Str->Bool
 calm:Bool
 pn:List (aaG×Obj)
 xe:aaM->aaL->Prop
def frs(l:List Env):List aaG:=l.filterMap (·.frame)
abbrev Cx.fs(X:Cx):List aaG:=frs X.outer
def Sl(sc:Scope)(x:Str):Prop:=sc.names.lookup x=some .local\/sc.names.lookup x=some .cell\/sc.names.lookup x=some .free
def Loc(sc:Scope)(x:Str):Prop:=sc.names.lookup x=some .local\/sc.names.lookup x=some .cell
def Look(env:Env)(h:Heap)(m:Str->Option aaM)(x:Str)(u:aaM):Prop :=
 (env.kindOf x=some .local/\m x=some u)\/((env.kindOf x=some .cell\/env.kindOf x=some .free)/\∃c,env.cells.lookup x=some c/\h.IsCell c (some u))
structure Cx.Ok(X:Cx):Prop where
 mod:Mod X.K X.mg X.base
 kind:X.env.scope.kind= .function
 glob:X.env.globals=aaW
 blt:X.env.builtins=builtinsNs
 above:X.s₀.heap.objs.size<=X.env.locals
 inj:∀x y c,X.env.cells.lookup x=some c->X.env.cells.lookup y=some c->x=y
 has:∀x,(X.env.kindOf x=some .cell\/X.env.kindOf x=some .free)->∃c,X.env.cells.lookup x=some c
 TJ:∀x c,X.fn x=true->X.env.cells.lookup x=some c->X.s₀.heap.objs.size<=c
 hd:X.calm=true->X.A.handled=none
 frames:X.A.frames=some X.stack
 stk:X.stack=X.outer\/(X.stack=X.env::X.outer/\X.env.frame=some X.env.locals)
 exf:∀b∈X.ex,b≠X.env.locals/\∀x c,X.env.cells.lookup x=some c->c≠b
 bs:∀b o,X.base.get? b=some o->X.s₀.heap.get? b=some o/\X.H₀ b=none
 O8:X.base.objs.size<=X.s₀.heap.objs.size
 L0:∀b o,X.base.get? b=some o->b∉X.ex
 Pw:∀b∈X.ex,b∉X.fs
 sZ:X.s₀.heap.FunFrames X.base X.outer
 Px:∀b∈X.fs,X.H₀ b=none
structure Inv(X:Cx)(pins:List (aaG×Obj))(σ:List (Option V))(H:Hp)(s:aaL):Prop where
 ok:X.Ok
 os:s.os=X.s₀.os
 bare:AllBare s.gens
 base:Un X.fs X.ex X.H₀ H X.s₀.heap s.heap
 loc:∃m,s.heap.Ns X.env.locals m/\∀(i:Nat)(x:Str)(v:V),X.N[i]? =some x->σ[i]? =some (some v)->Sl X.env.scope x->∃u,RelV v u/\Look X.env s.heap m x u
 cell:∀x c,X.env.cells.lookup x=some c->∃v,s.heap.IsCell c v
 free:H X.env.locals=none
 nz:∀x c,X.env.cells.lookup x=some c->H c=none
 pin:∀p∈X.pn++pins,s.heap.get? p.1=some p.2/\H p.1=none/\p.1≠X.env.locals/\p.1∉X.fs/\∀v,p.2.data≠.cell v
 hok:lI X.prog X.w H s.heap
 len:σ.length=X.N.length
section
variable {X:Cx} {pins:List (aaG×Obj)} {σ:List (Option V)} {H H':Hp} {s:aaL} {h':Heap}
theorem Cx.Ok.TK(ok:X.Ok){b:aaG}{o:Obj}(e:X.base.get? b=some o):b∉X.fs:=λhb=>by
 have:=(ok.sZ.mem hb).1
 rw[e] at this;cases this
theorem Inv.bs(I:Inv X pins σ H s):∀b o,X.base.get? b=some o->s.heap.get? b=some o/\H b=none:=λb o e=>
 ⟨I.base.keep b o (I.ok.bs b o e).1 (I.ok.bs b o e).2 (I.ok.TK e) (I.ok.L0 b o e),I.base.free b o (I.ok.bs b o e).1 (I.ok.bs b o e).2 (I.ok.L0 b o e)⟩
theorem Inv.bk(I:Inv X pins σ H s):∀b o,X.base.get? b=some o->s.heap.get? b=some o:=λb o e=>(I.bs b o e).1
theorem Inv.mod(I:Inv X pins σ H s):Mod X.K X.mg X.base:=I.ok.mod
theorem Inv.Ag(I:Inv X pins σ H s):X.K.In s.heap:=I.ok.mod.HF.keeps I.bk
theorem Inv.lt(I:Inv X pins σ H s):X.env.locals < s.heap.objs.size:=let ⟨_,hn,_⟩:=I.loc;hn.lt
theorem Inv.sz(I:Inv X pins σ H s):X.s₀.heap.objs.size<=s.heap.objs.size:=aW I.ok.above (uY I.lt)
theorem Inv.TL(I:Inv X pins σ H s){a:aaG}(h:s.heap.objs.size<=a):a∉X.fs:=λhb=>by
 obtain⟨_,o,ho,_⟩:=I.ok.sZ.mem hb
 exact absurd (bP (aX ho) (aW I.sz h)) (eK _)
theorem Inv.L3(I:Inv X pins σ H s):∀x c,X.env.cells.lookup x=some c->c≠X.env.locals:=λx c e z=>by
 obtain⟨v,o,ho,hd⟩:=I.cell x c e
 obtain⟨m,⟨o',es,ep,ho',hd',_⟩,_⟩:=I.loc
 rw[z,ho'] at ho;cases ho;rw[hd'] at hd;cases hd
theorem Inv.sZ(I:Inv X pins σ H s):s.heap.FunFrames X.base X.outer:=by
 have all:∀(l:List Env),(∀b∈frs l,b∈X.fs)->X.s₀.heap.FunFrames X.base l->s.heap.FunFrames X.base l:=by
  intro l
  induction l with
  | nil=>intro _ _;trivial
  | cons env r ih=>
   intro hs hl
   obtain⟨hk,⟨L,o,hf,hn,ho,hd⟩,hr⟩:=hl
   have hL:L∈X.fs:=hs L (by unfold frs;rw[uZ,hf];exact aB)
   obtain⟨sl,e⟩:=I.base.slot L o ho (I.ok.Px L hL) hL λz=>I.ok.Pw L z hL
   exact⟨hk,⟨L,_,hf,hn,e,hd⟩,ih (λb hb=>hs b (by unfold frs;rw[uZ,hf];exact aF _ hb)) hr⟩
 exact all X.outer (λ_ hb=>hb) I.ok.sZ
theorem Inv.stack(I:Inv X pins σ H s):s.heap.FunFrames X.base X.stack:=by
 rcases I.ok.stk with e | ⟨e,hf⟩
 ·rw[e];exact I.sZ
 ·rw[e]
  obtain⟨m,hn,_⟩:=I.loc
  refine .cons (by rw[I.ok.kind];decide) hf hn ?_ I.sZ
  exact Heap.get?_none_of_le (aW I.ok.O8 I.ok.above)
theorem Inv.pj(I:Inv X pins σ H s):∀b∈frs X.stack,b∈X.env.locals::X.fs:=λb hb=>by
 rcases I.ok.stk with e | ⟨e,hf⟩
 ·rw[e] at hb;exact aF _ hb
 ·rw[e] at hb
  unfold frs at hb
  rw[uZ,hf] at hb
  exact hb
theorem Inv.qD(I:Inv X pins σ H s):∀b∈frs X.stack,H b=none:=λb hb=>by
 rcases List.mem_cons.mp (I.pj b hb) with e | hb
 ·rw[e];exact I.free
 ·obtain⟨_,o,ho,_⟩:=I.ok.sZ.mem hb
  exact I.base.free b o ho (I.ok.Px b hb) λz=>I.ok.Pw b z hb
theorem Inv.step{g':Array GenState}{t':Nat}{d':Drawn}{ch:List aaG}(I:Inv X pins σ H s)
  (hch:∀b∈ch,(b∈X.ex\/X.s₀.heap.objs.size<=b)/\b≠X.env.locals/\(∀x c,X.env.cells.lookup x=some c->c≠b)/\∀p∈X.pn++pins,p.1≠b)
  (keep:∀b o,b≠X.env.locals->b∉X.fs->b∉ch->s.heap.get? b=some o->H b=none->h'.get? b=some o)
  (slot:∀b o,b≠X.env.locals->b∈X.fs->b∉ch->s.heap.get? b=some o->H b=none->∃sl,h'.get? b=some { o with slots:=sl })(free:∀b o,b∉ch->s.heap.get? b=some o->H b=none->H' b=none)
  (there:∀b o,b∉ch->s.heap.get? b=some o->∃o',h'.get? b=some o')
  (tups:∀b xs,H b=some (.tup xs)->H' b=some (.tup xs))(oj:∀b o u,H b=some (.iy o u)->H' b=some (.iy o u))(qX:∀b ps,H b=some (.pf ps)->∃more,H' b=some (.pf (ps++more)))
  (ns:∀m,s.heap.Ns X.env.locals m->h'.Ns X.env.locals m)(hok:lI X.prog X.w H' h')(hg:AllBare g') :
  Inv X pins σ H' { s with heap:=h',gens:=g',drawn:=d',toks:=t' }:=by
 have DF:∀b o,X.s₀.heap.get? b=some o->b≠X.env.locals:=λb o e=>bW (bP (aX e) I.ok.above)
 have Sm:∀b o,X.s₀.heap.get? b=some o->b∉X.ex->b∉ch:=λb o e hx hb=>by
  rcases(hch b hb).1 with z | z
  ·exact hx z
  ·exact absurd (bP (aX e) z) (eK _)
 have cellK:∀x c,X.env.cells.lookup x=some c->∀v,s.heap.IsCell c v->h'.IsCell c v:=λx c e v ⟨o,ho,hd⟩=>by
  have Py:c∉ch:=λz=>(hch c z).2.2.1 x c e rfl
  by_cases hc:c∈X.fs
  ·obtain⟨sl,q⟩:=slot c o (I.L3 x c e) hc Py ho (I.nz x c e)
   exact⟨_,q,hd⟩
  ·exact⟨o,keep c o (I.L3 x c e) hc Py ho (I.nz x c e),hd⟩
 refine⟨I.ok,I.os,hg,⟨λb o e n hb hx=>?_,λb o e n hb hx=>?_,λb o e n hx=>?_,λb o e hx=>?_,λb xs e=>tups b xs (I.base.tups b xs e),λb o xs e=>oj b o xs (I.base.oj b o xs e),λb ps e=>?_⟩,?_,λx c e=>?_,?_,λx c e=>?_,λp hp=>?_,hok,I.len⟩
 ·exact keep b o (DF b o e) hb (Sm b o e hx) (I.base.keep b o e n hb hx) (I.base.free b o e n hx)
 ·obtain⟨sl,e1⟩:=I.base.slot b o e n hb hx
  obtain⟨X5,e2⟩:=slot b _ (DF b o e) hb (Sm b o e hx) e1 (I.base.free b o e n hx)
  exact⟨X5,e2⟩
 ·obtain⟨o',e1⟩:=I.base.there b o e hx
  exact free b o' (Sm b o e hx) e1 (I.base.free b o e n hx)
 ·obtain⟨o',e1⟩:=I.base.there b o e hx
  exact there b o' (Sm b o e hx) e1
 ·obtain⟨m1,e1⟩:=I.base.qX b ps e
  obtain⟨m2,e2⟩:=qX b _ e1
  exact⟨m1++m2,by rw[e2,Array.append_assoc]⟩
 ·obtain⟨m,hn,hl⟩:=I.loc
  refine⟨m,ns m hn,λi x v e1 e2 e3=>?_⟩
  obtain⟨u,r,l⟩:=hl i x v e1 e2 e3
  refine⟨u,r,?_⟩
  rcases l with l | ⟨k,c,e,z⟩
  ·exact .inl l
  ·exact .inr ⟨k,c,e,cellK x c e _ z⟩
 ·obtain⟨v,z⟩:=I.cell x c e
  exact⟨v,cellK x c e v z⟩
 ·obtain⟨m,⟨o,_,_,ho,_⟩,_⟩:=I.loc
  exact free _ o (λz=>(hch _ z).2.1 rfl) ho I.free
 ·obtain⟨v,o,ho,hd⟩:=I.cell x c e
  exact free c o (λz=>(hch c z).2.2.1 x c e rfl) ho (I.nz x c e)
 ·obtain⟨e,n,ne,nf,d⟩:=I.pin p hp
  have Py:p.1∉ch:=λz=>(hch p.1 z).2.2.2 p hp rfl
  exact⟨keep p.1 p.2 ne nf Py e n,free p.1 p.2 Py e n,ne,nf,d⟩
theorem Inv.un{t':Nat}(I:Inv X pins σ H s)(u:Un X.fs [] H H' s.heap h')(hok:lI X.prog X.w H' h'):Inv X pins σ H' { s with heap:=h',toks:=t' }:=by
 obtain⟨m,⟨o,es,ep,ho,r⟩,_⟩:=id I.loc
 obtain⟨sl,hL⟩:=u.any ho I.free (by simp)
 exact I.step (g':=s.gens) (d':=s.drawn) (ch:=[]) (λ_ z=>nomatch z) (λb o _ hb _ e n=>u.keep b o e n hb (by simp)) (λb o _ hb _ e n=>u.slot b o e n hb (by simp)) (λb o _ e n=>u.free b o e n (by simp)) (λb o _ e=>u.there b o e (by simp)) u.tups u.oj u.qX (λm' hm=>by
  obtain⟨o',es',O9,ho',r'⟩:=hm
  rw[ho] at ho';cases ho'
  exact⟨_,es',O9,hL,r'⟩) hok I.bare
theorem Inv.call{g':Array GenState}{t':Nat}{d':Drawn}{ch:List aaG}(I:Inv X pins σ H s)(u:Un (frs X.stack) ch H H' s.heap h')(hok:lI X.prog X.w H' h')(hg:AllBare g')
  (hch:∀b∈ch,(b∈X.ex\/X.s₀.heap.objs.size<=b)/\b≠X.env.locals/\(∀x c,X.env.cells.lookup x=some c->c≠b)/\∀p∈X.pn++pins,p.1≠b) :
  Inv X pins σ H' { s with heap:=h',gens:=g',drawn:=d',toks:=t' }:=by
 obtain⟨m,⟨o,es,ep,ho,r⟩,_⟩:=id I.loc
 obtain⟨sl,hL⟩:=u.any ho I.free λz=>(hch _ z).2.1 rfl
 exact I.step (ch:=ch) hch (λb o hL hb hc e n=>u.keep b o e n (λz=>(List.mem_cons.mp (I.pj b z)).elim hL hb) hc) (λb o _ _ hc e n=>u.any e n hc) (λb o hc e n=>u.free b o e n hc) (λb o hc e=>u.there b o e hc) u.tups u.oj u.qX (λm' hm=>by
  obtain⟨o',es',O9,ho',r'⟩:=hm
  rw[ho] at ho';cases ho'
  exact⟨_,es',O9,hL,r'⟩) hok hg
theorem Inv.turned{t':Nat}{it:aaG}(I:Inv X pins σ H s)(k:∀b o,b≠it->s.heap.get? b=some o->h'.get? b=some o)(hn:H it=none)(hL:it≠X.env.locals)
  (h1:it∈X.ex\/X.s₀.heap.objs.size<=it)(h2:∀x c,X.env.cells.lookup x=some c->c≠it)(h3:∀p∈X.pn++pins,p.1≠it):Inv X pins σ H { s with heap:=h',toks:=t' }:=by
 have WE:∀b u,H b=some u->b≠it:=λb u e z=>by rw[z,hn] at e;cases e
 refine I.step (g':=s.gens) (d':=s.drawn) (ch:=[it]) (λb hb=>?_) (λb o _ _ hc e _=>k b o (λz=>hc (by simp[z])) e) (λb o _ _ hc e _=>⟨o.slots,k b o (λz=>hc (by simp[z])) e⟩) (λ_ _ _ _ n=>n)
  (λb o hc e=>⟨o,k b o (λz=>hc (by simp[z])) e⟩) (λ_ _ e=>e) (λ_ _ _ e=>e) (λb ps e=>⟨#[],by rw[e];simp⟩) (λm hm=>?_) (λb u e=>?_) I.bare
 ·have e:b=it:=by simpa using hb
  subst e
  exact⟨h1,hL,h2,h3⟩
 ·obtain⟨o,es,ep,ho,r⟩:=hm
  exact⟨o,es,ep,k _ o (aH hL) ho,r⟩
 ·refine(I.hok b u e).stay (λc v hc q=>k c v ?_ q) (λ_ q=>q) λ_ _ q=>q
  rcases hc with z | z
  ·rw[z];exact WE b u e
  ·exact WE c _ z
theorem Inv.tok(I:Inv X pins σ H s)(t:Nat):Inv X pins σ H { s with toks:=t }:=I.un (h':=s.heap) (t':=t) Un.refl I.hok
theorem Inv.kept{t':Nat}(I:Inv X pins σ H s)(k:∀b u,s.heap.get? b=some u->h'.get? b=some u):Inv X pins σ H { s with heap:=h',toks:=t' }:=I.un (Un.kept k) (I.hok.kept k)
theorem Inv.laid{a:aaG}{o:HO}{t':Nat}(I:Inv X pins σ H s)(k:∀b u,s.heap.get? b=some u->h'.get? b=some u)(hp:s.heap.objs.size<=a)(new:dv X.prog X.w (upd H a o) h' a o) :
  Inv X pins σ (upd H a o) { s with heap:=h',toks:=t' }:=I.un (Un.laid k hp (I.hok.fresh hp)) (I.hok.laid k hp new)
theorem Inv.write{x e:aaG}{o:HO}{t':Nat}(I:Inv X pins σ H s)(mu:Pr (H x))(he:e=x\/H e=some (.own x))(k:∀b u,b≠e->s.heap.get? b=some u->h'.get? b=some u)(O7:∃u,h'.get? e=some u)
  (new:dv X.prog X.w (upd H x o) h' x o):Inv X pins σ (upd H x o) { s with heap:=h',toks:=t' }:=I.un (Un.write mu he k O7) (I.hok.write mu he k O7 new)
theorem Inv.Ah{t8:List (aaG×Obj)}(I:Inv X pins σ H s)(h:∀p∈t8,s.heap.get? p.1=some p.2/\H p.1=none/\p.1≠X.env.locals/\p.1∉X.fs/\∀v,p.2.data≠.cell v):Inv X t8 σ H s :=
 ⟨I.ok,I.os,I.bare,I.base,I.loc,I.cell,I.free,I.nz,λp hp=>(List.mem_append.mp hp).elim (λz=>I.pin p (fP _ z)) (h p),I.hok,I.len⟩
theorem wH{N:List Str}(hN:N.Nodup){i j:Nat}{x:Str}(a:N[i]? =some x)(b:N[j]? =some x):i=j:=by
 obtain⟨h1,e1⟩:=List.getElem?_eq_some_iff.mp a
 obtain⟨h2,e2⟩:=List.getElem?_eq_some_iff.mp b
 exact(List.getElem_inj hN).mp (e1.trans e2.symm)
theorem t9{M:Model}{A:aaH}{E:aaM->aaL->Prop}{i:Nat}{x:Str}{v:V}{u:aaM}{Q:Unit->aaL->Prop}(I:Inv X pins σ H s)(hN:X.N.Nodup)(hi:X.N[i]? =some x)(hx:Loc X.env.scope x)(r:RelV v u)
  (h:∀s',Inv X pins (σ.set i (some v)) H s'->(∃a,u0 a s.heap s'.heap/\(a=X.env.locals\/X.env.cells.lookup x=some a))->Q () s')(hf:X.fn x=true\/X.env.scope.names.lookup x=some .local:=by first | exact .inl rfl | exact .inr rfl | assumption):aaZ M A (storeName X.env x u) Q E s:=by
 obtain⟨m,hn,hl⟩:=id I.loc
 have hcls:(X.env.scope.kind == .class||(X.env.scope.kind == .module&&X.env.locals != X.env.globals))=false:=by rw[I.ok.kind];rfl
 have Pz:i < σ.length:=by rw[I.len];exact(List.getElem?_eq_some_iff.mp hi).1
 have L3:=I.L3
 have tracked:∀{a:aaG}{h':Heap},(∃o,s.heap.get? a=some o/\H a=none)->u0 a s.heap h'->lI X.prog X.w H h':=λ{a h'} ha hs b ob e=>by
  obtain⟨_,_,hfree⟩:=ha
  refine(I.hok b ob e).stay (λc w' hc q=>(hs.2 c ?_).trans q) (λ_ q=>q) λ_ _ q=>q
  rintro rfl
  rcases hc with rfl | hc
  ·rw[hfree] at e;cases e
  ·rw[hfree] at hc;cases hc
 rcases hx with hk | hk
 ·refine wpAny_storeName_local hk hn (λh' hn' hs=>?_) hcls
  obtain⟨oL,_,_,X6,_⟩:=id hn
  refine h _ ⟨I.ok,I.os,I.bare,⟨λb o e n hb hx=>?_,λb o e n hb hx=>?_,I.base.free,λb o e hx=>?_,I.base.tups,I.base.oj,I.base.qX⟩,⟨_,hn',λj y v' e1 e2 e3=>?_⟩,λy c e=>?_,I.free,I.nz,λp hp=>?_,tracked ⟨oL,X6,I.free⟩ hs,by simpa using I.len⟩ ⟨_,hs,.inl rfl⟩
  ·exact(hs.2 b (bW (bP (aX e) I.ok.above))).trans (I.base.keep b o e n hb hx)
  ·obtain⟨sl,e1⟩:=I.base.slot b o e n hb hx
   exact⟨sl,(hs.2 b (bW (bP (aX e) I.ok.above))).trans e1⟩
  ·obtain⟨o',e1⟩:=I.base.there b o e hx
   exact⟨o',(hs.2 b (bW (bP (aX e) I.ok.above))).trans e1⟩
  ·by_cases hj:j=i
   ·subst hj
    rw[hi] at e1;cases e1
    rw[pv Pz] at e2
    cases e2
    exact⟨u,r,.inl ⟨hk,by simp⟩⟩
   ·rw[aC (aH hj)] at e2
    obtain⟨u',r',q⟩:=hl j y v' e1 e2 e3
    refine⟨u',r',?_⟩
    rcases q with ⟨k,e⟩ | ⟨k,c,e,z⟩
    ·refine .inl ⟨k,?_⟩
     have:y≠x:=λe=>hj (wH hN e1 (e ▸ hi))
     simp[this,e]
    ·exact .inr ⟨k,c,e,z.sameBut hs (L3 y c e)⟩
  ·obtain⟨w',z⟩:=I.cell y c e
   exact⟨w',z.sameBut hs (L3 y c e)⟩
  ·obtain⟨e,n,ne,nf,d⟩:=I.pin p hp
   exact⟨(hs.2 p.1 ne).trans e,n,ne,nf,d⟩
 ·have hfn:X.fn x=true:=by
   rcases hf with z | z
   ·exact z
   ·rw[z] at hk;cases hk
  obtain⟨c,hc⟩:=I.ok.has x (.inl hk)
  obtain⟨w',z⟩:=I.cell x c hc
  refine wpAny_storeName_cell I.ok.kind hk hc z (λh' hc' hs=>?_)
  obtain⟨oc,hoc,TM⟩:=id z
  refine h { s with heap:=h' } ⟨I.ok,I.os,I.bare,⟨λb o e n hb hx=>?_,λb o e n hb hx=>?_,I.base.free,λb o e hx=>?_,I.base.tups,I.base.oj,I.base.qX⟩,⟨m,hn.sameBut hs (aH (L3 x c hc)),λj y v' e1 e2 e3=>?_⟩,λy c' e=>?_,I.free,I.nz,λp hp=>?_,tracked ⟨oc,hoc,I.nz x c hc⟩ hs,by simpa using I.len⟩ ⟨c,hs,.inr hc⟩
  ·exact(hs.2 b (bW (bP (aX e) (I.ok.TJ x c hfn hc)))).trans (I.base.keep b o e n hb hx)
  ·obtain⟨sl,e1⟩:=I.base.slot b o e n hb hx
   exact⟨sl,(hs.2 b (bW (bP (aX e) (I.ok.TJ x c hfn hc)))).trans e1⟩
  ·obtain⟨o',e1⟩:=I.base.there b o e hx
   exact⟨o',(hs.2 b (bW (bP (aX e) (I.ok.TJ x c hfn hc)))).trans e1⟩
  ·by_cases hj:j=i
   ·subst hj
    rw[hi] at e1;cases e1
    rw[pv Pz] at e2
    cases e2
    exact⟨u,r,.inr ⟨.inl hk,c,hc,hc'⟩⟩
   ·rw[aC (aH hj)] at e2
    obtain⟨u',r',q⟩:=hl j y v' e1 e2 e3
    refine⟨u',r',?_⟩
    rcases q with q | ⟨k,c',e,z'⟩
    ·exact .inl q
    ·refine .inr ⟨k,c',e,z'.sameBut hs ?_⟩
     rintro rfl
     exact hj (wH hN e1 (I.ok.inj _ _ _ e hc ▸ hi))
  ·by_cases hcc:c'=c
   ·subst hcc;exact⟨_,hc'⟩
   ·obtain⟨w2,z2⟩:=I.cell y c' e
    exact⟨w2,z2.sameBut hs hcc⟩
  ·obtain⟨e,n,ne,nf,d⟩:=I.pin p hp
   refine⟨(hs.2 p.1 ?_).trans e,n,ne,nf,d⟩
   intro q
   rw[q,hoc] at e
   have q':oc=p.2:=Option.some.inj e
   exact d w' (by rw[<-q'];exact TM)
theorem oq{M:Model}{A:aaH}{E:aaM->aaL->Prop}{i:Nat}{x:Str}{v:V}{u:aaM}{Q:Unit->aaL->Prop}(I:Inv X pins σ H s)(hN:X.N.Nodup)(hi:X.N[i]? =some x)(hx:Loc X.env.scope x)(r:RelV v u)
  (h:∀s',Inv X pins (σ.set i (some v)) H s'->Q () s')(hf:X.fn x=true\/X.env.scope.names.lookup x=some .local:=by first | exact .inl rfl | exact .inr rfl | assumption):aaZ M A (storeName X.env x u) Q E s :=
 t9 I hN hi hx r (λs' I' _=>h s' I') hf
theorem Inv.KS{s':aaL}{ch:List aaG}(I:Inv X pins σ H s)(ho:s'.os=s.os)(u:Un (frs X.stack) ch H H' s.heap s'.heap)(hok:lI X.prog X.w H' s'.heap)(hg:AllBare s'.gens)
  (hch:∀b∈ch,(b∈X.ex\/X.s₀.heap.objs.size<=b)/\b≠X.env.locals/\(∀x c,X.env.cells.lookup x=some c->c≠b)/\∀p∈X.pn++pins,p.1≠b):Inv X pins σ H' s':=by
 obtain⟨h',g',d',t',o'⟩:=s'
 have e:o'=s.os:=ho
 subst e
 exact I.call (g':=g') (t':=t') (d':=d') u hok hg hch
end
abbrev XK:=aaM->Option aaG->Hp->Prop
abbrev St:=List (Option V)
abbrev VK:=V->Hp->Prop
abbrev TE:=St->Hp->VK->Prop
abbrev TT:=St->Hp->(Bool->Hp->Prop)->Prop
abbrev TA:=St->Hp->(List V->Hp->Prop)->Prop
structure Ends where
 nx:St->Hp->Prop
 rt:VK
 bk:St->Hp->Prop:=λ_ _=>False
 ct:St->Hp->Prop:=λ_ _=>False
abbrev TS:=Ends->St->Hp->Prop
def EP(X:Cx)(pins:List (aaG×Obj))(σ:St)(Q:VK)(u:aaM)(s':aaL):Prop:=∃v H',Inv X pins σ H' s'/\RelV v u/\Q v H'
def TP(X:Cx)(pins:List (aaG×Obj))(σ:St)(Q:Bool->Hp->Prop)(b:Bool)(s':aaL):Prop:=∃H',Inv X pins σ H' s'/\Q b H'
def AP(X:Cx)(pins:List (aaG×Obj))(σ:St)(Q:List V->Hp->Prop)(us:List aaM)(s':aaL):Prop:=∃vs H',Inv X pins σ H' s'/\Vals vs us/\Q vs H'
def SP(X:Cx)(pins:List (aaG×Obj))(D:Ends)(f:Flow)(s':aaL):Prop :=
 match f with
 | .next=>∃σ' H',Inv X pins σ' H' s'/\D.nx σ' H'
 | .brk=>∃σ' H',Inv X pins σ' H' s'/\D.bk σ' H'
 | .cont=>∃σ' H',Inv X pins σ' H' s'/\D.ct σ' H'
 | .ret u=>∃v σ' H',Inv X pins σ' H' s'/\RelV v u/\D.rt v H'
def PE(X:Cx)(e:Expr)(t:TE):Prop :=
 ∀(pins:List (aaG×Obj))(s:aaL)(σ:St)(H:Hp)(Q:VK),Inv X pins σ H s->t σ H Q->aaZ (model X.prog X.w) X.A (eval e X.env) (EP X pins σ Q) X.xe s
def PT(X:Cx)(e:Expr)(t:TT):Prop :=
 ∀(pins:List (aaG×Obj))(s:aaL)(σ:St)(H:Hp)(Q:Bool->Hp->Prop),Inv X pins σ H s->t σ H Q->aaZ (model X.prog X.w) X.A (isTrue e X.env (eval e X.env)) (TP X pins σ Q) X.xe s
def PW(X:Cx)(e:Expr)(t:TT):Prop :=
 ∀(whole:Sem aaM)(pins:List (aaG×Obj))(s:aaL)(σ:St)(H:Hp)(Q:Bool->Hp->Prop),Inv X pins σ H s->t σ H Q->aaZ (model X.prog X.w) X.A (isTrue e X.env whole) (TP X pins σ Q) X.xe s
def PA(X:Cx)(es:List Expr)(t:TA):Prop :=
 ∀(pos:Pos)(pins:List (aaG×Obj))(s:aaL)(σ:St)(H:Hp)(Q:List V->Hp->Prop),Inv X pins σ H s->t σ H Q->aaZ (model X.prog X.w) X.A (spliced (backTo pos (aaY es X.env))) (AP X pins σ Q) X.xe s
def PS(X:Cx)(st:Stmt)(t:TS):Prop :=
 ∀(pins:List (aaG×Obj))(s:aaL)(σ:St)(H:Hp)(D:Ends),Inv X pins σ H s->t D σ H->aaZ (model X.prog X.w) X.A (exec st X.env) (SP X pins D) X.xe s
def Dq(X:Cx)(st:List Stmt)(t:TS):Prop :=
 ∀(pins:List (aaG×Obj))(s:aaL)(σ:St)(H:Hp)(D:Ends),Inv X pins σ H s->t D σ H->aaZ (model X.prog X.w) X.A (execs st X.env) (SP X pins D) X.xe s
theorem a9{α:Type}{t:Sem α}{Q Q':α->aaL->Prop}{M:Model}{A:aaH}{E:aaM->aaL->Prop}{s:aaL}(h:aaZ M A t Q E s)(hQ:∀a s,Q a s->Q' a s):aaZ M A t Q' E s:=aa3 h hQ λ_ _ x=>x
section
variable {X:Cx}
def TN(i:Nat):TE:=λσ H Q=>∃v,σ[i]? =some (some v)/\Q v H
def tC(v:V):TE:=λ_ H Q=>Q v H
theorem L5{i:Nat}{x:Str}{pos:Pos}(hN:X.N[i]? =some x)(hv:Sl X.env.scope x)(hd:(x == ("__debug__":Str))=false:=by decide)(hcd:(x == ("__classdict__":Str))=false:=by decide):PE X (.Name x pos) (TN i):=by
 intro pins s σ H Q I h
 obtain⟨v,e,h⟩:=h
 obtain⟨m,hn,hl⟩:=I.loc
 obtain⟨u,r,l⟩:=hl i x v hN e hv
 have fin:EP X pins σ Q u s:=⟨v,H,I,r,h⟩
 rcases l with ⟨hk,hm⟩ | ⟨hk,c,hc,hcell⟩
 ·exact wpAny_Name (wpAny_loadName_local I.ok.kind hk hn hm fin) hd
 ·rcases hk with hk | hk
  ·exact wpAny_Name (wpAny_loadName_cell I.ok.kind hk hc hcell fin) hd
  ·exact wpAny_Name (wpAny_loadName_free I.ok.kind hk hc hcell fin hcd) hd
theorem L6{i j pos}:PE X (.Constant (.int i) j pos) (tC (.int i)):=λ_ _ _ H _ I h=>wpAny_Constant_int ⟨.int i,H,I.tok _,⟨_,rfl⟩,h⟩
theorem PB{b j pos}:PE X (.Constant (.bool b) j pos) (tC (.bl b)):=λ_ _ _ H _ I h=>Constant_bool ⟨.bl b,H,I,rfl,h⟩
theorem L7{j pos}:PE X (.Constant .none j pos) (tC .bg):=λ_ _ _ H _ I h=>Constant_none ⟨.bg,H,I,rfl,h⟩
theorem L8{x j pos}:PE X (.Constant (.str x) j pos) (tC (.str x)):=λ_ _ _ H _ I h=>Calls.Constant_str ⟨.str x,H,I.tok _,⟨_,rfl⟩,h⟩
def Gl(X:Cx)(x:Str):Prop:=X.env.kindOf x=some .globalImplicit
theorem Ai{E:aaM->aaL->Prop}{pins:List (aaG×Obj)}{s:aaL}{σ:St}{H:Hp}{x:Str}{u:aaM}{pos:Pos}{Q:aaM->aaL->Prop}(I:Inv X pins σ H s)(hg:Gl X x)(hm:X.mg x=some u)(h:Q u s)
  (hd:(x == ("__debug__":Str))=false:=by decide):aaZ (model X.prog X.w) X.A (eval (.Name x pos) X.env) Q E s :=
 L9 I.ok.kind hg (Calls.loadGlobal_global (by rw[I.ok.glob];exact I.mod.glob.keeps I.bk) hm h) hd
theorem nL{E:aaM->aaL->Prop}{pins:List (aaG×Obj)}{s:aaL}{σ:St}{H:Hp}{x:Str}{u:aaM}{pos:Pos}{Q:aaM->aaL->Prop}(I:Inv X pins σ H s)(hg:Gl X x)(hm:X.mg x=none)(hv:aaQ x=some u)(h:Q u s)
  (hn:x≠"__name__":=by decide)(hd:(x == ("__debug__":Str))=false:=by decide):aaZ (model X.prog X.w) X.A (eval (.Name x pos) X.env) Q E s:=by
 obtain⟨mb,h1,h2⟩:=I.mod.blt
 exact L9 I.ok.kind hg (Calls.loadGlobal_builtin (by rw[I.ok.glob];exact I.mod.glob.keeps I.bk) hm (by rw[I.ok.blt];exact h1.keeps I.bk) ((h2 x hn).trans hv) h) hd
theorem iJ{x:Str}{v:V}{u:aaM}{pos:Pos}(hg:Gl X x)(hm:X.mg x=some u)(r:RelV v u)(hd:(x == ("__debug__":Str))=false:=by decide):PE X (.Name x pos) (tC v) :=
 λ_ _ _ H _ I h=>Ai I hg hm ⟨v,H,I,r,h⟩ hd
theorem HV{x:Str}{v:V}{u:aaM}{pos:Pos}(hg:Gl X x)(hm:X.mg x=none)(hv:aaQ x=some u)(r:RelV v u)(hn:x≠"__name__":=by decide)(hd:(x == ("__debug__":Str))=false:=by decide):PE X (.Name x pos) (tC v) :=
 λ_ _ _ H _ I h=>nL I hg hm hv ⟨v,H,I,r,h⟩ hn hd
variable {a b:Expr} {ta tb:TE} {pos:Pos}
def PC(X:Cx)(op:CmpOp)(a b:Expr)(t:TE):Prop :=
 ∀(pins:List (aaG×Obj))(s:aaL)(σ:St)(H:Hp)(Q:VK),Inv X pins σ H s->t σ H Q->
  aaZ (model X.prog X.w) X.A (eval a X.env) (λv s₁=>aaZ (model X.prog X.w) X.A (eval b X.env) (λu s₂=>aaZ (model X.prog X.w) X.A (aaT op v u) (EP X pins σ Q) X.xe s₂) X.xe s₁) X.xe s
def tB(t:TE):TT:=λσ H Q=>t σ H λx H1=>∃c,x= .bl c/\Q c H1
theorem DG{op:CmpOp}{t:TE}(h:PC X op a b t)(h1:aaO op b=false:=by first | exact DH _ (by decide) (by decide) | rfl):PE X (.Compare a [op] [b] pos) t:=λpins s σ H Q I hw=>wpAny_Compare1 (h pins s σ H Q I hw) h1
theorem DI{op:CmpOp}{t:TE}(h:PC X op a b t)(h1:aaO op b=false:=by first | exact DH _ (by decide) (by decide) | rfl):PT X (.Compare a [op] [b] pos) (tB t):=by
 intro pins s σ H Q I hw
 refine wpAny_isTrue_Compare1 (a9 (h pins s σ H _ I hw) λv s1 h1=>a9 h1 λu s2 h2=>a9 h2 λc s3 ⟨x,H1,I1,r1,q1⟩=>?_) h1
 obtain⟨d,rfl,q⟩:=q1
 cases r1
 exact aa7 ⟨H1,I1,q⟩
variable {tA Sn:TT} {rest:List Expr}
def TQ(t u:TT):TT:=λσ H Q=>t σ H λc H1=>if c=true then u σ H1 Q else Q false H1
def X7(t u:TT):TT:=λσ H Q=>t σ H λc H1=>if c=true then Q true H1 else u σ H1 Q
def TR(t:TT):TT:=λσ H Q=>t σ H λc H1=>Q (!c) H1
theorem HW(ha:PT X a tA):PW X (.BoolOp .And [a] pos) tA:=by
 intro wh pins s σ H Q I h
 refine isTrue_and (a9 (ha pins s σ H Q I h) λc s1 e=>?_)
 cases c with
 | true=>exact isTrue_and_nil e
 | false=>exact e
theorem L_(ha:PT X a tA):PW X (.BoolOp .Or [a] pos) tA:=by
 intro wh pins s σ H Q I h
 refine isTrue_or (a9 (ha pins s σ H Q I h) λc s1 e=>?_)
 cases c with
 | false=>exact isTrue_or_nil e
 | true=>exact e
theorem L'(ha:PT X a tA)(hb:PW X (.BoolOp .And (b::rest) pos) Sn):PW X (.BoolOp .And (a::b::rest) pos) (TQ tA Sn):=by
 intro wh pins s σ H Q I h
 refine isTrue_and (a9 (ha pins s σ H _ I h) λc s1 ⟨H1,I1,q1⟩=>?_)
 cases c with
 | true=>exact hb wh pins s1 σ H1 Q I1 q1
 | false=>exact⟨H1,I1,q1⟩
theorem PD(ha:PT X a tA)(hb:PW X (.BoolOp .Or (b::rest) pos) Sn):PW X (.BoolOp .Or (a::b::rest) pos) (X7 tA Sn):=by
 intro wh pins s σ H Q I h
 refine isTrue_or (a9 (ha pins s σ H _ I h) λc s1 ⟨H1,I1,q1⟩=>?_)
 cases c with
 | true=>exact⟨H1,I1,q1⟩
 | false=>exact hb wh pins s1 σ H1 Q I1 q1
theorem Ma(ha:PT X a tA):PT X (.UnaryOp .Not a pos) (TR tA):=by
 intro pins s σ H Q I h
 exact isTrue_not (ha pins s σ H (λc H1=>Q (!c) H1) I h)
def PF(ta tb:TE):TE:=λσ H Q=>ta σ H λx H1=>∃c,x= .bl c/\if c=true then tb σ H1 Q else Q (.bl false) H1
def TU(ta tb:TE):TE:=λσ H Q=>ta σ H λx H1=>∃c,x= .bl c/\if c=true then Q (.bl true) H1 else tb σ H1 Q
def PH(ta:TE):TE:=λσ H Q=>ta σ H λx H1=>∃c,x= .bl c/\Q (.bl (!c)) H1
theorem Mb{op}{t:TE}(h:PE X a t):PE X (.BoolOp op [a] pos) t:=λpins s σ H Q I hw=>BoolOp_one (h pins s σ H Q I hw)
theorem Mc(ha:PE X a ta)(hb:PE X (.BoolOp .And (b::rest) pos) tb):PE X (.BoolOp .And (a::b::rest) pos) (PF ta tb):=by
 intro pins s σ H Q I h
 refine BoolOp_and (a9 (ha pins s σ H _ I h) λv s1 ⟨x,H1,I1,r1,q1⟩=>?_)
 obtain⟨c,rfl,q1⟩:=q1
 cases r1
 refine aa7 ?_
 cases c with
 | true=>exact hb pins s1 σ H1 Q I1 q1
 | false=>exact⟨.bl false,H1,I1,rfl,q1⟩
theorem PJ(ha:PE X a ta)(hb:PE X (.BoolOp .Or (b::rest) pos) tb):PE X (.BoolOp .Or (a::b::rest) pos) (TU ta tb):=by
 intro pins s σ H Q I h
 refine BoolOp_or (a9 (ha pins s σ H _ I h) λv s1 ⟨x,H1,I1,r1,q1⟩=>?_)
 obtain⟨c,rfl,q1⟩:=q1
 cases r1
 refine aa7 ?_
 cases c with
 | false=>exact hb pins s1 σ H1 Q I1 q1
 | true=>exact⟨.bl true,H1,I1,rfl,q1⟩
theorem Md(ha:PE X a ta):PE X (.UnaryOp .Not a pos) (PH ta):=by
 intro pins s σ H Q I h
 refine UnaryOp_ (a9 (ha pins s σ H _ I h) λv s1 ⟨x,H1,I1,r1,q1⟩=>?_)
 obtain⟨c,rfl,q1⟩:=q1
 cases r1
 exact not_of (aa7 ⟨.bl (!c),H1,I1,rfl,q1⟩)
def X8(t:TT)(ta tb:TE):TE:=λσ H Q=>t σ H λc H1=>if c=true then ta σ H1 Q else tb σ H1 Q
theorem DJ{c:Expr}(hc:PT X c tA)(ha:PE X a ta)(hb:PE X b tb):PE X (.IfExp c a b pos) (X8 tA ta tb):=by
 intro pins s σ H Q I h
 refine wpAny_IfExp (a9 (hc pins s σ H _ I h) λd s1 ⟨H1,I1,q1⟩=>?_)
 cases d with
 | true=>exact ha pins s1 σ H1 Q I1 q1
 | false=>exact hb pins s1 σ H1 Q I1 q1
end
def lO(K:PySem.W.Frag)(H:Hp)(a:aaG)(xs:List V):Prop :=
 Rd H a (.lst xs)\/
  ∃(o:Obj)(its:Array aaM)(n:Nat),K.lookup a=some o/\o.cls= .type "list"/\o.dict=none/\o.data= .seq its n/\its.size<=aaX/\Vals xs its.toList
def gN(K:PySem.W.Frag)(H:Hp)(a:aaG)(xs:List V):Prop :=
 Rd H a (.tup xs)\/
  ∃(o:Obj)(its:Array aaM)(n:Nat),K.lookup a=some o/\o.cls= .type "tuple"/\o.data= .seq its n/\its.size<=aaX/\Vals xs its.toList
def TV:aaM->Option V
 | .none=>some .bg
 | .bool b=>some (.bl b)
 | .int i _=>some (.int i)
 | .str x _=>some (.str x)
 | .bytes b _=>some (.O6 b)
 | .float b _=>some (.Si b)
 | .ref a=>some (.ref a)
 | .type n=>some (.ty n)
 | _=>none
theorem RelV.abs{x:V}{u:aaM}(r:RelV x u):TV u=some x:=by
 cases x with
 | bg=>cases r;rfl
 | bl _=>cases r;rfl
 | int _=>obtain⟨t,rfl⟩:=r;rfl
 | str _=>obtain⟨t,rfl⟩:=r;rfl
 | O6 _=>obtain⟨t,rfl⟩:=r;rfl
 | Si _=>obtain⟨t,rfl⟩:=r;rfl
 | ref _=>cases r;rfl
 | ty _=>cases r;rfl
theorem RelV.inj{x y:V}{u:aaM}(r:RelV x u)(q:RelV y u):x=y:=Option.some.inj (r.abs.symm.trans q.abs)
theorem Vals.inj:∀{xs ys:List V}{us:List aaM},Vals xs us->Vals ys us->xs=ys
 | _,_,_,.nil,.nil=>rfl
 | _,_,_,.cons r t,.cons r' t'=>by rw[r.inj r',Vals.inj t t']
section
variable {X:Cx} {pins:List (aaG×Obj)} {σ:St} {H:Hp} {s:aaL} {a:aaG} {xs ys:List V}
theorem lO.of{K:PySem.W.Frag}(h:H a=some (.lst xs)):lO K H a xs:=.inl (.inl h)
theorem gN.of{K:PySem.W.Frag}(h:H a=some (.tup xs)):gN K H a xs:=.inl (.inl h)
theorem Inv.list(I:Inv X pins σ H s)(h:lO X.K H a xs):∃its:List aaM,Vals xs its/\PlainL s.heap a its.toArray/\xs.length<=aaX:=by
 rcases h with h | ⟨o,its,n,hk,hc,hd,hs,hz,r⟩
 ·obtain⟨z,its,n,r,e⟩:=h.ok I.hok
  exact⟨its,r,⟨_,n,e,rfl,rfl,rfl⟩,z⟩
 ·refine⟨its.toList,r,⟨o,n,I.Ag a o hk,hc,hd,by simpa using hs⟩,?_⟩
  have e:=r.length
  simp only[KU] at e
  omega
theorem Inv.tuple(I:Inv X pins σ H s)(h:gN X.K H a xs):∃its:List aaM,Vals xs its/\IsTup s.heap a its.toArray/\xs.length<=aaX:=by
 rcases h with h | ⟨o,its,n,hk,hc,hs,hz,r⟩
 ·obtain⟨z,its,r,p,_⟩:=h.ok I.hok
  exact⟨its,r,p,z⟩
 ·refine⟨its.toList,r,⟨o,I.Ag a o hk,hc,n,by simpa using hs⟩,?_⟩
  have e:=r.length
  simp only[KU] at e
  omega
theorem Inv.wI(I:Inv X pins σ H s)(h:lO X.K H a xs)(h':lO X.K H a ys):xs=ys:=by
 obtain⟨its,r,⟨o,n,e,_,_,d⟩,_⟩:=I.list h
 obtain⟨its',r',⟨o',n',e',_,_,d'⟩,_⟩:=I.list h'
 rw[e] at e';cases e'
 rw[d] at d'
 injection d' with d1 _
 have:its=its':=by simpa using congrArg Array.toList d1
 subst this
 exact r.inj r'
theorem Inv.BN(I:Inv X pins σ H s)(h:gN X.K H a xs)(h':gN X.K H a ys):xs=ys:=by
 obtain⟨its,r,⟨o,e,_,n,d⟩,_⟩:=I.tuple h
 obtain⟨its',r',⟨o',e',_,n',d'⟩,_⟩:=I.tuple h'
 rw[e] at e';cases e'
 rw[d] at d'
 injection d' with d1 _
 have:its=its':=by simpa using congrArg Array.toList d1
 subst this
 exact r.inj r'
end
abbrev Cx.TX(X:Cx)(E:aaM->aaL->Prop):Cx:={ X with xe:=E }
abbrev Cx.lJ(X:Cx):Cx:=X.TX λ_ _=>False
section
variable {X:Cx} {pins:List (aaG×Obj)} {σ:St} {H:Hp} {s:aaL} {E:aaM->aaL->Prop}
end
section
variable {X:Cx} {st:Stmt} {rest:List Stmt} {t u:TS} {e:Expr} {te:TE} {pos:Pos}
def PK:TS:=λD σ H=>D.nx σ H
def TY(t u:TS):TS:=λD σ H=>t { D with nx:=u D } σ H
theorem HX:Dq X [] PK:=λ_ _ σ H _ I h=>wpAny_execs_nil ⟨σ,H,I,h⟩
theorem DK(h1:PS X st t)(h2:Dq X rest u):Dq X (st::rest) (TY t u):=by
 intro pins s σ H D I h
 refine wpAny_execs_cons (a9 (h1 pins s σ H { D with nx:=u D } I h) λf s1 q=>?_)
 cases f with
 | next=>
  obtain⟨σ',H',I',q⟩:=q
  exact h2 pins s1 σ' H' D I' q
 | ret v=>exact q
 | brk=>exact q
 | cont=>exact q
theorem HY(h1:PS X st t):Dq X [st] t:=by
 intro pins s σ H D I h
 refine wpAny_execs_cons (a9 (h1 pins s σ H D I h) λf s1 q=>?_)
 cases f with
 | next=>exact wpAny_execs_nil q
 | ret v=>exact q
 | brk=>exact q
 | cont=>exact q
theorem Inv.quiet{pins:List (aaG×Obj)}{σ:St}{H:Hp}{s:aaL}(I:Inv X pins σ H s):interactive X.env=false:=by simp[interactive,I.ok.kind]
def PL(te:TE):TS:=λD σ H=>te σ H λ_ H1=>D.nx σ H1
theorem HZ(he:PE X e te)(hs:swapsWith e none pos.line X.env=pure false:=by rfl):PS X (.Expr e pos) (PL te):=by
 intro pins s σ H D I h
 exact wpAny_Expr_any (a9 (he pins s σ H _ I h) λv s1 ⟨x,H1,I1,r1,q1⟩=>⟨σ,H1,I1,q1⟩) I.quiet hs
def TZ(te:TE):TS:=λD σ H=>te σ H D.rt
theorem Me(he:PE X e te):PS X (.Return (some e) pos) (TZ te):=by
 intro pins s σ H D I h
 exact wpAny_Return_some (a9 (he pins s σ H _ I h) λv s1 ⟨x,H1,I1,r1,q1⟩=>⟨x,σ,H1,I1,r1,q1⟩)
def PM:TS:=λD _ H=>D.rt .bg H
theorem H_:PS X (.Return none pos) PM:=λ_ _ σ H _ I h=>wpAny_Return_none ⟨.bg,σ,H,I,rfl,h⟩
def T1(c:TT)(t u:TS):TS:=λD σ H=>c σ H λb H1=>if b=true then t D σ H1 else u D σ H1
theorem PN{c:Expr}{a b:List Stmt}{tc:TT}(hc:PT X c tc)(ha:Dq X a t)(hb:Dq X b u):PS X (.If c a b pos) (T1 tc t u):=by
 intro pins s σ H D I h
 refine wpAny_If (a9 (hc pins s σ H _ I h) λd s1 ⟨H1,I1,q1⟩=>?_)
 cases d with
 | true=>exact ha pins s1 σ H1 D I1 q1
 | false=>exact hb pins s1 σ H1 D I1 q1
def DL:TS:=λ_ _ _=>False
theorem DM:PS X st DL:=λ_ _ _ _ _ _ h=>h.elim
theorem BO{sts:List Stmt}:Dq X sts DL:=λ_ _ _ _ _ _ h=>h.elim
end
abbrev TG:=V->St->Hp->(St->Hp->Prop)->Prop
def PG(X:Cx)(target:Expr)(t:TG):Prop :=
 ∀(pins:List (aaG×Obj))(s:aaL)(σ:St)(H:Hp)(v:V)(u:aaM)(Q:St->Hp->Prop),Inv X pins σ H s->RelV v u->t v σ H Q->
  aaZ (model X.prog X.w) X.A (assign target X.env u) (λ_ s'=>∃σ' H',Inv X pins σ' H' s'/\Q σ' H') X.xe s
abbrev Mf:=V->V->V->Hp->(Hp->Prop)->Prop
def PQ(X:Cx)(t:Mf):Prop :=
 ∀(pins:List (aaG×Obj))(s:aaL)(σ:St)(H:Hp)(o i v:V)(ov iv u:aaM)(Q:Hp->Prop),Inv X pins σ H s->RelV o ov->RelV i iv->RelV v u->t o i v H Q->
  aaZ (model X.prog X.w) X.A (setItem ov iv u) (λ_ s'=>∃H',Inv X pins σ H' s'/\Q H') X.xe s
abbrev So:=V->V->Hp->VK->Prop
def Sq(X:Cx)(op:Operator)(t:So):Prop :=
 ∀(pins:List (aaG×Obj))(s:aaL)(σ:St)(H:Hp)(x y:V)(v u:aaM)(Q:VK),Inv X pins σ H s->RelV x v->RelV y u->t x y H Q->
  aaZ (model X.prog X.w) X.A (inplaceOp op v u) (EP X pins σ Q) X.xe s
section
variable {X:Cx} {pos:Pos}
def Aj(i:Nat):TG:=λv σ H Q=>Q (σ.set i (some v)) H
theorem mC{i:Nat}{x:Str}(hN:X.N.Nodup)(hi:X.N[i]? =some x)(hx:Loc X.env.scope x)(hf:X.fn x=true\/X.env.scope.names.lookup x=some .local:=by first | exact .inl rfl | exact .inr rfl | assumption):PG X (.Name x pos) (Aj i):=by
 intro pins s σ H v u Q I r h
 exact wpAny_assign_Name (oq I hN hi hx r (λs' I'=>⟨_,H,I',h⟩) hf)
def T2(to ti:TE)(t:Mf):TG:=λv σ H Q=>to σ H λo H1=>ti σ H1 λi H2=>t o i v H2 λH3=>Q σ H3
theorem Mg{o i:Expr}{to ti:TE}{t:Mf}(ho:PE X o to)(hi:PE X i ti)(hs:PQ X t)
  (ha:∀v,assign (.Subscript o i pos) X.env v=(do
   let ov <-holding [v] (eval o X.env)
   let iv <-holding [v,ov] (eval i X.env)
   standAt pos
   holding [v,ov,iv] (setItem ov iv v)
   release [v,ov,iv] []):=by intro _;rfl):PG X (.Subscript o i pos) (T2 to ti t):=by
 intro pins s σ H v u Q I r h
 rw[ha]
 refine aa0 (aa2 (a9 (ho pins s σ H _ I h) λov s1 ⟨x,H1,I1,r1,q1⟩=>?_))
 refine aa0 (aa2 (a9 (hi pins s1 σ H1 _ I1 q1) λiv s2 ⟨y,H2,I2,r2,q2⟩=>?_))
 refine aa0 (wpAny_standAt (aa0 (aa2 (a9 (hs pins s2 σ H2 x y v ov iv u _ I2 r1 r2 r q2) λ_ s3 ⟨H3,I3,q3⟩=>?_))))
 exact wpAny_release ⟨σ,H3,I3,q3⟩
def PR(te:TE)(g:TG):TS:=λD σ H=>te σ H λx H1=>g x σ H1 D.nx
theorem Mh{tg e:Expr}{te:TE}{g:TG}(he:PE X e te)(hg:PG X tg g)(hs:swapsWithSole [tg] e pos.line X.env=pure false:=by rfl)(hw:swappedStores [tg] e X.env=pure none:=by rfl)
  (h1:(assignEach [tg] X.env).map (·.2)=[assign tg X.env]:=by rfl):PS X (.Assign [tg] e pos) (PR te g):=by
 intro pins s σ H D I h
 refine wpAny_Assign_stores (a9 (he pins s σ H _ I h) λv s1 ⟨x,H1,I1,r1,q1⟩=>?_) hs hw
 rw[h1]
 exact a9 (hg pins s1 σ H1 x v _ I1 r1 q1) λ_ s2 q=>q
theorem Mi{i:Nat}{x:Str}{e:Expr}{te:TE}{pos':Pos}(hN:X.N.Nodup)(hi:X.N[i]? =some x)(hx:Loc X.env.scope x)(he:PE X e te)(hs:swapsWith e (some (.Name x pos')) pos.line X.env=pure false:=by rfl)(hf:X.fn x=true\/X.env.scope.names.lookup x=some .local:=by first | exact .inl rfl | exact .inr rfl | assumption) :
  PS X (.Assign [.Name x pos'] e pos) (PR te (Aj i)):=by
 intro pins s σ H D I h
 refine wpAny_Assign_Name (a9 (he pins s σ H _ I h) λv s1 ⟨y,H1,I1,r1,q1⟩=>?_) hs
 exact oq I1 hN hi hx r1 (λs2 I2=>⟨_,H1,I2,q1⟩) hf
def T3(i:Nat)(te:TE)(ti:So):TS:=λD σ H=>∃x,σ[i]? =some (some x)/\te σ H λy H1=>ti x y H1 λz H2=>D.nx (σ.set i (some z)) H2
theorem Mj{i:Nat}{x:Str}{e:Expr}{te:TE}{op:Operator}{ti:So}{pos':Pos}(hN:X.N.Nodup)(hi:X.N[i]? =some x)(hx:Loc X.env.scope x)(he:PE X e te)(ho:Sq X op ti)(hf:X.fn x=true\/X.env.scope.names.lookup x=some .local:=by first | exact .inl rfl | exact .inr rfl | assumption) :
  PS X (.AugAssign (.Name x pos') op e pos) (T3 i te ti):=by
 intro pins s σ H D I h
 obtain⟨v,e1,h⟩:=h
 obtain⟨m,hn,hl⟩:=I.loc
 have vis:Sl X.env.scope x:=by rcases hx with k | k;exact .inl k;exact .inr (.inl k)
 obtain⟨u,r,l⟩:=hl i x v hi e1 vis
 refine wpAny_AugAssign_Name ?_
 have go:aaZ (model X.prog X.w) X.A (eval e X.env) (λw s₂=>aaZ (model X.prog X.w) X.A (inplaceOp op u w) (λr s₃=>aaZ (model X.prog X.w) X.A (storeName X.env x r) (λ_=>SP X pins D .next) X.xe s₃) X.xe s₂) X.xe s:=by
  refine a9 (he pins s σ H _ I h) λw s1 ⟨y,H1,I1,r1,q1⟩=>?_
  refine a9 (ho pins s1 σ H1 v y u w _ I1 r r1 q1) λz s2 ⟨zv,H2,I2,r2,q2⟩=>?_
  exact oq I2 hN hi hx r2 (λs3 I3=>⟨_,H2,I3,q2⟩) hf
 rcases l with ⟨hk,hm⟩ | ⟨hk,c,hc,hcell⟩
 ·exact wpAny_loadName_local I.ok.kind hk hn hm go
 ·rcases hk with hk | hk
  ·exact wpAny_loadName_cell I.ok.kind hk hc hcell go
  ·rcases hx with k | k
   ·have:X.env.scope.names.lookup x=some .free:=hk
    rw[k] at this;cases this
   ·have:X.env.scope.names.lookup x=some .free:=hk
    rw[k] at this;cases this
def Sr(f:Int->Int->Int):So:=λx y H Q=>∃i j,x= .int i/\y= .int j/\Q (.int (f i j)) H
theorem DN:Sq X .Add (Sr λi j=>i+j):=by
 intro pins s σ H x y v u Q I r1 r2 h
 obtain⟨i,j,e1,e2,q⟩:=h
 subst e1;subst e2
 obtain⟨t,rfl⟩:=r1
 obtain⟨t',rfl⟩:=r2
 exact iadd_int ⟨.int _,H,I.tok _,⟨_,rfl⟩,q⟩
theorem DO:Sq X .Sub (Sr λi j=>i - j):=by
 intro pins s σ H x y v u Q I r1 r2 h
 obtain⟨i,j,e1,e2,q⟩:=h
 subst e1;subst e2
 obtain⟨t,rfl⟩:=r1
 obtain⟨t',rfl⟩:=r2
 exact isub_int ⟨.int _,H,I.tok _,⟨_,rfl⟩,q⟩
end
section
variable {X:Cx} {pos:Pos}
def Mk(c:TT)(tb:TS):TS:=λD σ H=>∃W:Nat->St->Hp->Prop,(∃m,W m σ H)/\∀m σ H,W m σ H->
 c σ H λb H1=>if b=true then ∃N:St->Hp->Prop,(∀σ' H',N σ' H'->∃m',m' < m/\W m' σ' H')/\tb { D with nx:=N,ct:=N,bk:=D.nx } σ H1 else D.nx σ H1
theorem DP{c:Expr}{body:List Stmt}{tc:TT}{tb:TS}(hp:PassesOwn (model X.prog X.w) X.A X.env X.xe)(hc:PT X c tc)(hb:Dq X body tb):PS X (.While c body [] pos) (Mk tc tb):=by
 intro pins s σ H D I h
 obtain⟨W,⟨m0,w0⟩,turn⟩:=h
 refine wpAny_While (codeAny_whileLoop (λn s'=>∃σ' H',Inv X pins σ' H' s'/\W n σ' H') ?_ m0 ⟨σ,H,I,w0⟩)
 rintro n s1 ⟨σ1,H1,I1,w1⟩
 refine wpAny_passesOwn hp (a9 (hc pins s1 σ1 H1 _ I1 (turn n σ1 H1 w1)) λb s2 ⟨H2,I2,q2⟩=>?_)
 cases b with
 | true=>
  obtain⟨N,hN,q2⟩:=q2
  rw[if_pos rfl]
  refine wpAny_passesOwn hp (a9 (hb pins s2 σ1 H2 _ I2 q2) λf s3 q3=>?_)
  cases f with
  | next=>
   obtain⟨σ3,H3,I3,n3⟩:=q3
   obtain⟨m',hm,w3⟩:=hN σ3 H3 n3
   exact⟨m',hm,σ3,H3,I3,w3⟩
  | cont=>
   obtain⟨σ3,H3,I3,n3⟩:=q3
   obtain⟨m',hm,w3⟩:=hN σ3 H3 n3
   exact⟨m',hm,σ3,H3,I3,w3⟩
  | brk=>exact q3
  | ret v=>exact q3
 | false=>
  rw[if_neg bD]
  exact wpAny_execs_nil ⟨σ1,H2,I2,q2⟩
end
structure It where
 go:Nat->Hp->Prop
 BP:Nat->Hp->V->Hp->Prop
 stop:Nat->Hp->Prop
def iK(X:Cx)(pins:List (aaG×Obj))(H:Hp)(b:aaG):Prop :=
 H b=none/\b≠X.env.locals/\b∉X.fs/\(b∈X.ex\/X.s₀.heap.objs.size<=b)/\(∀x c,X.env.cells.lookup x=some c->c≠b)/\∀p∈X.pn++pins,p.1≠b
theorem Inv.yq{X:Cx}{pins:List (aaG×Obj)}{σ:St}{H H':Hp}{s:aaL}{b:aaG}(I:Inv X pins σ H s)(hb:s.heap.objs.size<=b)(hn:H' b=none):iK X pins H' b:=by
 refine⟨hn,Ak (bP I.lt hb),I.TL hb,.inr (aW I.sz hb),λx c e z=>?_,λp hp z=>?_⟩
 ·obtain⟨v,q⟩:=I.cell x c e
  exact absurd (bP q.lt (by rw[z];exact hb)) (eK _)
 ·exact absurd (bP (aX (I.pin p hp).1) (by rw[z];exact hb)) (eK _)
structure Turn(P:aaK)(w:aaN)(K:PySem.W.Frag)(tg:Expr)(J:It)(fp:List aaG)(it:aaG)(tn:Nat->Heap->Prop):Prop where
 mem:it∈fp
 obj:∀i h,tn i h->∀b∈fp,∃o,h.get? b=some o/\∀v,o.data≠.cell v
 keep:∀i h h',tn i h->(∀b∈fp,∀o,h.get? b=some o->h'.get? b=some o)->tn i h'
 item:∀(X:Cx),X.prog=P->X.w=w->X.K=K->X.calm=true->∀(i:Nat)(pins:List (aaG×Obj))(s:aaL)(σ:St)(H:Hp)(E:aaM->aaL->Prop),Inv X pins σ H s->(∀b∈fp,iK X pins H b)->tn i s.heap->J.go i H->
  aaZ (model P w) X.A (pyNext (.ref it)) (λr s1=>∃u,r=some u/\
   aaZ (model P w) X.A (letOwnedTupleGo tg (.ref it) u) (λ_ s2=>∃x H',Inv X pins σ H' s2/\RelV x u/\J.BP i H x H'/\tn (i+1) s2.heap/\∀b∈fp,H' b=none) E s1) E s
 done:∀(X:Cx),X.prog=P->X.w=w->X.K=K->X.calm=true->∀(i:Nat)(pins:List (aaG×Obj))(s:aaL)(σ:St)(H:Hp)(E:aaM->aaL->Prop),Inv X pins σ H s->(∀b∈fp,iK X pins H b)->tn i s.heap->J.stop i H->
  aaZ (model P w) X.A (pyNext (.ref it)) (λr s1=>r=none/\Inv X pins σ H s1) E s
 self:∀(A:aaH)(i:Nat)(s:aaL)(Q:aaM->aaL->Prop)(E:aaM->aaL->Prop),tn i s.heap->Q (.ref it) s->aaZ (model P w) A (pyIter (.ref it)) Q E s
abbrev TI:=St->Hp->(It->Hp->Prop)->Prop
def T4(X:Cx)(pins:List (aaG×Obj))(σ:St)(tg:Expr)(R:It->Hp->Prop)(itv:aaM)(s2:aaL):Prop :=
 ∃(it:aaG)(fp:List aaG)(tn:Nat->Heap->Prop)(J:It)(H':Hp),itv= .ref it/\Inv X pins σ H' s2/\Turn X.prog X.w X.K tg J fp it tn/\tn 0 s2.heap/\(∀b∈fp,iK X pins H' b)/\R J H'
def PI(X:Cx)(tg iter:Expr)(wi:TI):Prop :=
 ∀(pins:List (aaG×Obj))(s:aaL)(σ:St)(H:Hp)(R:It->Hp->Prop),Inv X pins σ H s->wi σ H R->
  aaZ (model X.prog X.w) X.A (eval iter X.env) (λv s1=>aaZ (model X.prog X.w) X.A (pyIter v) (T4 X pins σ tg R) X.xe s1) X.xe s
theorem qg{M:Model}{A:aaH}{E:aaM->aaL->Prop}{s:aaL}{tg:Expr}{it:aaG}{u:aaM}{o:Obj}{n:String}{vs:Array aaM}{Q:Unit->aaL->Prop}(ho:s.heap.get? it=some o)(hc:o.cls= .type n)(hd:o.data= .fields vs)
    (hn:["enumerate","zip","dict_itemiterator","dict_reverseitemiterator","odict_iterator","itertools.zip_longest","itertools.pairwise"].contains n=false)(hQ:Q () s):aaZ M A (letOwnedTupleGo tg (.ref it) u) Q E s:=by
  unfold letOwnedTupleGo
  cases tg<;>first
    | exact aa6 hQ
    | (cases u<;>first
        | exact aa6 hQ
        | (refine aa0 (wpAny_load ho ?_)
           rw[hc,hd]
           show aaZ M A (if(["enumerate","zip","dict_itemiterator","dict_reverseitemiterator","odict_iterator","itertools.zip_longest","itertools.pairwise"].contains n&&vs[0]? == some (rawInt _))=true then _ else _) Q E s
           rw[if_neg (by intro h;rw[hn,KW] at h;cases h)]
           exact aa6 hQ))
def WG(K:PySem.W.Frag)(a:aaG):It :=
 ⟨λi H=>∃xs x,lO K H a xs/\xs[i]? =some x,λi H x H'=>H'=H/\∀xs,lO K H a xs->xs[i]? =some x,λi H=>∃xs,lO K H a xs/\xs.length<=i⟩
def WH(K:PySem.W.Frag)(a:aaG):It :=
 ⟨λi H=>∃xs x,gN K H a xs/\xs[i]? =some x,λi H x H'=>H'=H/\∀xs,gN K H a xs->xs[i]? =some x,λi H=>∃xs,gN K H a xs/\xs.length<=i⟩
def KY(lo:Int)(n:Nat):It:=⟨λi _=>i < n,λi H x H'=>H'=H/\x= .int (lo+i),λi _=>n<=i⟩
theorem BQ{P:aaK}{w:aaN}{K:PySem.W.Frag}{tg:Expr}(a it:aaG):Turn P w K tg (WG K a) [it] it (λi h=>h.IsListIter it a i) where
 mem:=by simp
 obj:=λi h st b hb=>by
  have e:b=it:=by simpa using hb
  subst e
  obtain⟨o,e,c,d⟩:=st
  exact⟨o,e,λv z=>by rw[d] at z;cases z⟩
 keep:=λi h h' st k=>st.at λo e=>k it (by simp) o e
 item:=by
  intro X hP hw hK hc i pins s σ H E I hf st hg
  subst hP hw hK
  obtain⟨xs,x,hq,hx⟩:=hg
  obtain⟨its,rv,p,hz⟩:=I.list hq
  obtain⟨u,hu,ru⟩:=rv.get hx
  obtain⟨f0,f1,f2,f3,f4,f5⟩:=hf it (by simp)
  refine wpAny_pyNext_list_item st p.isList (x:=u) (by simpa using hu) λh' st' sb=>?_
  have I1:Inv X pins σ H { s with heap:=h' }:=I.turned (t':=s.toks) (λb o hb e=>(sb.2 b hb).trans e) f0 f1 f3 f4 f5
  obtain⟨o,e,c,d⟩:=id st'
  exact⟨u,rfl,qg (s:={ s with heap:=h' }) e c d (by decide) ⟨x,H,I1,ru,⟨rfl,λys hy=>by rw[I.wI hy hq];exact hx⟩,st',λb hb=>(hf b hb).1⟩⟩
 done:=by
  intro X hP hw hK hc i pins s σ H E I hf st hg
  subst hP hw hK
  obtain⟨xs,hq,hx⟩:=hg
  obtain⟨its,rv,p,hz⟩:=I.list hq
  obtain⟨f0,f1,f2,f3,f4,f5⟩:=hf it (by simp)
  have hl:=rv.length
  exact wpAny_pyNext_list_end (I.ok.hd hc) st p.isList (by simp;omega) λh' eb=>⟨rfl,I.turned (t':=s.toks) (λb o hb e=>eb b o hb e) f0 f1 f3 f4 f5⟩
 self:=λ_ _ _ _ _ st h=>wpAny_pyIter_listiter st h
theorem yt{P:aaK}{w:aaN}{K:PySem.W.Frag}{tg:Expr}(a it:aaG):Turn P w K tg (WH K a) [it] it (λi h=>h.IsTupleIter it a i) where
 mem:=by simp
 obj:=λi h st b hb=>by
  have e:b=it:=by simpa using hb
  subst e
  obtain⟨o,e,c,d⟩:=st
  exact⟨o,e,λv z=>by rw[d] at z;cases z⟩
 keep:=λi h h' st k=>st.at λo e=>k it (by simp) o e
 item:=by
  intro X hP hw hK hc i pins s σ H E I hf st hg
  subst hP hw hK
  obtain⟨xs,x,hq,hx⟩:=hg
  obtain⟨its,rv,p,hz⟩:=I.tuple hq
  obtain⟨u,hu,ru⟩:=rv.get hx
  obtain⟨f0,f1,f2,f3,f4,f5⟩:=hf it (by simp)
  refine wpAny_pyNext_tuple_item st (show s.heap.IsTuple a its.toArray from p) (x:=u) (by simpa using hu) λh' st' sb=>?_
  have I1:Inv X pins σ H { s with heap:=h' }:=I.turned (t':=s.toks) (λb o hb e=>(sb.2 b hb).trans e) f0 f1 f3 f4 f5
  obtain⟨o,e,c,d⟩:=id st'
  exact⟨u,rfl,qg (s:={ s with heap:=h' }) e c d (by decide) ⟨x,H,I1,ru,⟨rfl,λys hy=>by rw[I.BN hy hq];exact hx⟩,st',λb hb=>(hf b hb).1⟩⟩
 done:=by
  intro X hP hw hK hc i pins s σ H E I hf st hg
  subst hP hw hK
  obtain⟨xs,hq,hx⟩:=hg
  obtain⟨its,rv,p,hz⟩:=I.tuple hq
  obtain⟨f0,f1,f2,f3,f4,f5⟩:=hf it (by simp)
  have hl:=rv.length
  exact wpAny_pyNext_tuple_end (I.ok.hd hc) st (show s.heap.IsTuple a its.toArray from p) (by simp;omega) λh' eb=>⟨rfl,I.turned (t':=s.toks) (λb o hb e=>eb b o hb e) f0 f1 f3 f4 f5⟩
 self:=λ_ _ _ _ _ st h=>wpAny_pyIter_tupleiter st h
theorem yu{P:aaK}{w:aaN}{K:PySem.W.Frag}{tg:Expr}(it:aaG)(lo:Int)(n:Nat):Turn P w K tg (KY lo n) [it] it (λi h=>IsRangeIter h it (lo+(i:Nat) * 1) ((n:Int) - (i:Nat)) 1) where
 mem:=by simp
 obj:=λi h st b hb=>by
  have e:b=it:=by simpa using hb
  subst e
  exact⟨_,st,λv z=>by
   have z':Data.fields _=Data.cell v:=z
   cases z'⟩
 keep:=λi h h' st k=>k it (by simp) _ st
 item:=by
  intro X hP hw hK hc i pins s σ H E I hf st hg
  subst hP hw hK
  obtain⟨f0,f1,f2,f3,f4,f5⟩:=hf it (by simp)
  have W:=Walks.range (prog:=X.prog) (w:=X.w) (I.ok.hd hc) it lo 1 n
  refine W.item i s _ _ hg st λv h' tk hv st' kk=>?_
  obtain⟨t,rfl⟩:=hv
  have I1:Inv X pins σ H { s with heap:=h',toks:=tk }:=I.turned (λb o hb e=>kk b o (by simpa using hb) e) f0 f1 f3 f4 f5
  refine⟨_,rfl,qg (s:={ s with heap:=h',toks:=tk }) (n:="range_iterator") st' rfl rfl (by decide) ⟨.int (lo+i),H,I1,⟨t,?_⟩,⟨rfl,rfl⟩,st',λb hb=>(hf b hb).1⟩⟩
  rw[Int.mul_one]
 done:=by
  intro X hP hw hK hc i pins s σ H E I hf st hg
  subst hP hw hK
  obtain⟨f0,f1,f2,f3,f4,f5⟩:=hf it (by simp)
  exact wpAny_pyNext_range_end (I.ok.hd hc) st (by have:n<=i:=hg;omega) λh' eb=>⟨rfl,I.turned (t':=s.toks) (λb o hb e=>eb b o hb e) f0 f1 f3 f4 f5⟩
 self:=λ_ _ _ _ _ st h=>wpAny_pyIter_rangeiter st h
section
variable {X:Cx} {tg:Expr}
theorem wJ{pins:List (aaG×Obj)}{σ:St}{H:Hp}{s:aaL}{R:It->Hp->Prop}{E:aaM->aaL->Prop}{lo hi:Int}{t u v:Tok}{tk:Nat}(I:Inv X pins σ H s)(h1:-(2 ^ 62)<=lo)(h2:lo < 2 ^ 62)(h3:-(2 ^ 62)<=hi)(h4:hi < 2 ^ 62)
  (q:R (KY lo (hi - lo).toNat) H):aaZ (model X.prog X.w) X.A (pyIter (.ref s.heap.objs.size)) (T4 X pins σ tg R) E { s with heap:=s.heap.push { cls:=.type "range",data:=.fields #[.int lo t,.int hi u,.int 1 v] },toks:=tk }:=by
 refine wpAny_pyIter_range (IsRange.new ..) (small_one h1 h2 h3 h4) ?_
 have I1:Inv X pins σ H { s with heap:=s.heap.push { cls:=.type "range",data:=.fields #[.int lo t,.int hi u,.int 1 v] },toks:=tk }:=I.kept λb o e=>bK _ e
 refine⟨(s.heap.push { cls:=.type "range",data:=.fields #[.int lo t,.int hi u,.int 1 v] }).objs.size,[(s.heap.push { cls:=.type "range",data:=.fields #[.int lo t,.int hi u,.int 1 v] }).objs.size],_,_,H,rfl,
  I1.kept (t':=tk) λb o e=>bK _ e,yu _ lo (hi - lo).toNat,?_,λb hb=>?_,q⟩
 ·have e1:lo+((0:Nat):Int) * 1=lo:=by simp
  have e2:(((hi - lo).toNat:Nat):Int) - ((0:Nat):Int)=u5 lo hi 1:=by rw[rangeSize_one];split<;>omega
  show IsRangeIter _ _ (lo+((0:Nat):Int) * 1) ((((hi - lo).toNat:Nat):Int) - ((0:Nat):Int)) 1
  rw[e1,e2]
  exact cE _ rfl
 ·have e:b=(s.heap.push { cls:=.type "range",data:=.fields #[.int lo t,.int hi u,.int 1 v] }).objs.size:=by simpa using hb
  subst e
  exact I1.yq (au _) (I1.hok.fresh (au _))
def PU(ta:TA):TI:=λσ H R=>ta σ H λvs H1=>∃j:Int,vs=[.int j]/\-(2 ^ 62)<=j/\j < 2 ^ 62/\R (KY 0 j.toNat) H1
def PV(ta:TA):TI:=λσ H R=>ta σ H λvs H1=>∃i j:Int,vs=[.int i,.int j]/\(-(2 ^ 62)<=i/\i < 2 ^ 62/\-(2 ^ 62)<=j/\j < 2 ^ 62)/\R (KY i (j - i).toNat) H1
theorem t_{a:Expr}{ta:TA}{p pos:Pos}(hg:Gl X "range")(hm:X.mg "range"=none)(ha:PA X [a] ta)(hs:aaY [a] X.env=[(false,eval a X.env)]:=by rfl):PI X tg (.Call (.Name "range" p) [a] [] pos) (PU ta):=by
 intro pins s σ H R I h
 refine Call_ (nL I hg hm boot_range (qE (a9 (ha pos pins s σ H _ I h) λus s1 ⟨vs,H1,I1,r1,q1⟩=>?_) hs rfl))
 obtain⟨j,e,q1,q2,q⟩:=q1
 subst e
 cases r1 with
 | cons r rr=>
  cases rr
  obtain⟨t,rfl⟩:=r
  exact call_range_1 (wJ I1 (by omega) (by omega) q1 q2 (by simpa using q))
theorem ua{a b:Expr}{ta:TA}{p pos:Pos}(hg:Gl X "range")(hm:X.mg "range"=none)(ha:PA X [a,b] ta)(hs:aaY [a,b] X.env=[(false,eval a X.env),(false,eval b X.env)]:=by rfl)(hs2:aaY [b] X.env=[(false,eval b X.env)]:=by rfl) :
  PI X tg (.Call (.Name "range" p) [a,b] [] pos) (PV ta):=by
 intro pins s σ H R I h
 refine Call_ (nL I hg hm boot_range (qE (a9 (ha pos pins s σ H _ I h) λus s1 ⟨vs,H1,I1,r1,q1⟩=>?_) (by rw[hs,hs2]) (by rw[hs2];rfl)))
 obtain⟨i,j,e,⟨q1,q2,q3,q4⟩,q⟩:=q1
 subst e
 cases r1 with
 | cons r rr=>
  cases rr with
  | cons r' rr=>
   cases rr
   obtain⟨t,rfl⟩:=r
   obtain⟨t',rfl⟩:=r'
   exact call_range_2 (wJ I1 q1 q2 q3 q4 q)
def T5(wi:TI)(g:TG)(tb:TS):TS:=λD σ H=>wi σ H λJ H1=>∃W:Nat->Nat->St->Hp->Prop,(∃m,W 0 m σ H1)/\∀i m σ H,W i m σ H->
 (J.stop i H/\D.nx σ H)\/(J.go i H/\∃N:St->Hp->Prop,(∀σ' H',N σ' H'->∃m',m' < m/\W (i+1) m' σ' H')/\∀x H',J.BP i H x H'->g x σ H' λσ2 H2=>tb { D with nx:=N,ct:=N,bk:=D.nx } σ2 H2)
def i6(fp:List aaG)(h:Heap):List (aaG×Obj):=fp.filterMap λb=>(h.get? b).map λo=>(b,o)
theorem kG{fp:List aaG}{h:Heap}{b:aaG}{o:Obj}(hb:b∈fp)(e:h.get? b=some o):(b,o)∈i6 fp h:=List.mem_filterMap.mpr ⟨b,hb,by rw[e];rfl⟩
theorem BR{fp:List aaG}{h:Heap}{p:aaG×Obj}(hp:p∈i6 fp h):p.1∈fp/\h.get? p.1=some p.2:=by
 obtain⟨b,hb,e⟩:=List.mem_filterMap.mp hp
 cases q:h.get? b with
 | none=>rw[q] at e;cases e
 | some o=>
  rw[q] at e
  have e':(b,o)=p:=Option.some.inj e
  subst e'
  exact⟨hb,q⟩
theorem Inv.pinned{pins:List (aaG×Obj)}{σ:St}{H:Hp}{s:aaL}{fp:List aaG}(I:Inv X pins σ H s)(hf:∀b∈fp,iK X pins H b)(ho:∀b∈fp,∃o,s.heap.get? b=some o/\∀v,o.data≠.cell v):Inv X (pins++i6 fp s.heap) σ H s :=
 I.Ah λp hp=>(List.mem_append.mp hp).elim (λz=>I.pin p (fg _ z)) λz=>by
  obtain⟨hb,e⟩:=BR z
  obtain⟨f0,f1,f2,_⟩:=hf p.1 hb
  obtain⟨o,e',d⟩:=ho p.1 hb
  rw[e] at e';cases e'
  exact⟨e,f0,f1,f2,d⟩
theorem Inv.ou{pins pl:List (aaG×Obj)}{σ:St}{H:Hp}{s:aaL}(I:Inv X (pins++pl) σ H s):Inv X pins σ H s:=I.Ah λp hp=>I.pin p (fg _ (fP _ hp))
theorem pz{iter:Expr}{body:List Stmt}{wi:TI}{g:TG}{tb:TS}{pos:Pos}(hp:PassesOwn (model X.prog X.w) X.A X.env X.xe)(hc:X.calm=true)(hi:PI X tg iter wi)(hg:PG X tg g)(hb:Dq X body tb)
  (hs:∀x,aaU iter X.env x=pure x:=by intro _;rfl):PS X (.For tg iter body [] pos) (T5 wi g tb):=by
 intro pins s σ H D I h
 refine wpAny_For (a9 (hi pins s σ H _ I h) λv s1 h1=>a9 h1 λitv s2 h2=>?_) hs
 obtain⟨it,fp,tn,J,H2,e,I2,T,st2,f2,W,⟨m0,w0⟩,turn⟩:=h2
 subst e
 -- what stays true of the Ml objects through the loop
 have Mm:∀{H':Hp},(∀b∈fp,H' b=none)->∀b∈fp,iK X pins H' b:=λhn b hb=>⟨hn b hb,(f2 b hb).2⟩
 refine codeAny_forLoop_any (λn s'=>∃i σ' H',Inv X pins σ' H' s'/\tn i s'.heap/\(∀b∈fp,H' b=none)/\W i n σ' H') ?_ m0 ⟨0,σ,H2,I2,st2,λb hb=>(f2 b hb).1,w0⟩
 rintro n s3 ⟨i,σ3,H3,I3,st3,WI,w3⟩
 rcases turn i n σ3 H3 w3 with ⟨stop,qn⟩ | ⟨go,N,hN,step⟩
 ·refine wpAny_passesOwn hp (a9 (T.done X rfl rfl rfl hc i pins s3 σ3 H3 X.xe I3 (Mm WI) st3 stop) λr s4 ⟨hr,I4⟩=>?_)
  subst hr
  exact wpAny_execs_nil ⟨σ3,H3,I4,qn⟩
 ·refine wpAny_passesOwn hp (a9 (T.item X rfl rfl rfl hc i pins s3 σ3 H3 X.xe I3 (Mm WI) st3 go) λr s4 ⟨u,hr,h4⟩=>?_)
  subst hr
  refine wpAny_passesOwn hp (a9 h4 λ_ s5 ⟨x,H5,I5,r5,y5,yv,Ss⟩=>?_)
  have X9:=I5.pinned (Mm Ss) (T.obj _ _ yv)
  refine wpAny_passesOwn hp (a9 (hg _ s5 σ3 H5 x u _ X9 r5 (step x H5 y5)) λ_ s6 ⟨σ6,H6,I6,q6⟩=>?_)
  refine wpAny_passesOwn hp (a9 (hb _ s6 σ6 H6 _ I6 q6) λf s7 q7=>?_)
  have again:∀{σ7:St}{H7:Hp},Inv X (pins++i6 fp s5.heap) σ7 H7 s7->N σ7 H7->∃m,m < n/\∃i σ' H',Inv X pins σ' H' s7/\tn i s7.heap/\(∀b∈fp,H' b=none)/\W i m σ' H':=λ{σ7 H7} I7 n7=>by
   obtain⟨m',hm,w7⟩:=hN σ7 H7 n7
   refine⟨m',hm,i+1,σ7,H7,I7.ou,T.keep _ _ _ yv λb hb o e=>(I7.pin (b,o) (fg _ (fg _ (kG hb e)))).1,λb hb=>?_,w7⟩
   obtain⟨o,e,d⟩:=T.obj _ _ yv b hb
   exact(I7.pin (b,o) (fg _ (fg _ (kG hb e)))).2.1
  cases f with
  | next=>obtain⟨σ7,H7,I7,n7⟩:=q7;exact again I7 n7
  | cont=>obtain⟨σ7,H7,I7,n7⟩:=q7;exact again I7 n7
  | brk=>obtain⟨σ7,H7,I7,q7⟩:=q7;exact⟨σ7,H7,I7.ou,q7⟩
  | ret v=>obtain⟨x7,σ7,H7,I7,r7,q7⟩:=q7;exact⟨x7,σ7,H7,I7.ou,r7,q7⟩
end
abbrev R2:=V->V->Hp->VK->Prop
def eM(X:Cx)(f:aaM->aaM->Sem aaM)(r:R2):Prop :=
 ∀(pins:List (aaG×Obj))(s:aaL)(σ:St)(H:Hp)(x y:V)(v u:aaM)(Q:VK),Inv X pins σ H s->RelV x v->RelV y u->r x y H Q->
  aaZ (model X.prog X.w) X.A (f v u) (EP X pins σ Q) X.xe s
def T6(X:Cx)(f:aaM->Sem aaM)(r:V->Hp->VK->Prop):Prop :=
 ∀(pins:List (aaG×Obj))(s:aaL)(σ:St)(H:Hp)(x:V)(v:aaM)(Q:VK),Inv X pins σ H s->RelV x v->r x H Q->
  aaZ (model X.prog X.w) X.A (f v) (EP X pins σ Q) X.xe s
def dW(X:Cx)(f:aaM)(r:List V->Hp->VK->Prop):Prop :=
 ∀(pins:List (aaG×Obj))(s:aaL)(σ:St)(H:Hp)(xs:List V)(us:List aaM)(Q:VK),Inv X pins σ H s->Vals xs us->r xs H Q->
  aaZ (model X.prog X.w) X.A (call f us) (EP X pins σ Q) X.xe s
def T7(X:Cx)(r:V->Hp->(Bool->Hp->Prop)->Prop):Prop :=
 ∀(pins:List (aaG×Obj))(s:aaL)(σ:St)(H:Hp)(x:V)(v:aaM)(Q:Bool->Hp->Prop),Inv X pins σ H s->RelV x v->r x H Q->
  aaZ (model X.prog X.w) X.A (truthy v) (TP X pins σ Q) X.xe s
def PX(r:R2)(ta tb:TE):TE:=λσ H Q=>ta σ H λx H1=>tb σ H1 λy H2=>r x y H2 Q
def X_(r:V->Hp->VK->Prop)(ta:TE):TE:=λσ H Q=>ta σ H λx H1=>r x H1 Q
def rI(C:Int->Int->Prop)(g:Int->Int->V):R2:=λx y H Q=>∃i j,x= .int i/\y= .int j/\C i j/\Q (g i j) H
def KZ(g:Int->Int->V):R2:=λx y H Q=>∃i j,x= .int i/\y= .int j/\Q (g i j) H
def rU(g:Int->V):V->Hp->VK->Prop:=λx H Q=>∃i,x= .int i/\Q (g i) H
section
variable {X:Cx} {a b c:Expr} {ta tb tc:TE} {pos:Pos}
theorem Mn(ha:PE X a ta)(hb:PE X b tb){pins:List (aaG×Obj)}{s:aaL}{σ:St}{H:Hp}{R:V->V->Hp->Prop}(I:Inv X pins σ H s)
  (h:ta σ H λx H1=>tb σ H1 λy H2=>R x y H2){Q:aaM->aaL->Prop}{f:aaM->aaM->Sem aaM}
  (hf:∀v u s2 x y H2,Inv X pins σ H2 s2->RelV x v->RelV y u->R x y H2->aaZ (model X.prog X.w) X.A (f v u) Q X.xe s2) :
  aaZ (model X.prog X.w) X.A (eval a X.env) (λv s₁=>aaZ (model X.prog X.w) X.A (eval b X.env) (λu s₂=>aaZ (model X.prog X.w) X.A (f v u) Q X.xe s₂) X.xe s₁) X.xe s:=by
 refine a9 (ha pins s σ H _ I h) λv s1 ⟨x,H1,I1,r1,q1⟩=>?_
 refine a9 (hb pins s1 σ H1 _ I1 q1) λu s2 ⟨y,H2,I2,r2,q2⟩=>?_
 exact hf v u s2 x y H2 I2 r1 r2 q2
theorem PY{op:Operator}{r:R2}(ho:eM X (aaP op) r)(ha:PE X a ta)(hb:PE X b tb):PE X (.BinOp a op b pos) (PX r ta tb):=by
 intro pins s σ H Q I h
 exact wpAny_BinOp (Mn ha hb I h λv u s2 x y H2 I2 rx ry q=>ho pins s2 σ H2 x y v u Q I2 rx ry q)
theorem PZ{op:UnaryOp}{r:V->Hp->VK->Prop}(ho:T6 X (unaryOp op) r)(ha:PE X a ta):PE X (.UnaryOp op a pos) (X_ r ta):=by
 intro pins s σ H Q I h
 exact UnaryOp_ (a9 (ha pins s σ H _ I h) λv s1 ⟨x,H1,I1,r1,q1⟩=>ho pins s1 σ H1 x v Q I1 r1 q1)
theorem Su{f:aaM->aaM->Sem aaM}{C:Int->Int->Prop}{g:Int->Int->Int}
  (rule:∀(i j:Int)(t u:Tok)(s:aaL)(Q:aaM->aaL->Prop)(E:aaM->aaL->Prop),C i j->Q (.int (g i j) s.toks) { s with toks:=s.toks+1 }->aaZ (model X.prog X.w) X.A (f (.int i t) (.int j u)) Q E s) :
  eM X f (rI C λi j=> .int (g i j)):=by
 intro pins s σ H x y v u Q I rx ry h
 obtain⟨i,j,rfl,rfl,hc,q⟩:=h
 obtain⟨t,rfl⟩:=rx
 obtain⟨t',rfl⟩:=ry
 exact rule i j t t' s _ _ hc ⟨.int (g i j),H,I.tok _,⟨_,rfl⟩,q⟩
theorem P0{f:aaM->aaM->Sem aaM}{g:Int->Int->Int}
  (rule:∀(i j:Int)(t u:Tok)(s:aaL)(Q:aaM->aaL->Prop)(E:aaM->aaL->Prop),Q (.int (g i j) s.toks) { s with toks:=s.toks+1 }->aaZ (model X.prog X.w) X.A (f (.int i t) (.int j u)) Q E s) :
  eM X f (KZ λi j=> .int (g i j)):=by
 intro pins s σ H x y v u Q I rx ry h
 obtain⟨i,j,rfl,rfl,q⟩:=h
 obtain⟨t,rfl⟩:=rx
 obtain⟨t',rfl⟩:=ry
 exact rule i j t t' s _ _ ⟨.int (g i j),H,I.tok _,⟨_,rfl⟩,q⟩
theorem Ia{f:aaM->aaM->Sem aaM}{g:Int->Int->Bool}
  (rule:∀(i j:Int)(t u:Tok)(s:aaL)(Q:aaM->aaL->Prop)(E:aaM->aaL->Prop),Q (.bool (g i j)) s->aaZ (model X.prog X.w) X.A (f (.int i t) (.int j u)) Q E s) :
  eM X f (KZ λi j=> .bl (g i j)):=by
 intro pins s σ H x y v u Q I rx ry h
 obtain⟨i,j,rfl,rfl,q⟩:=h
 obtain⟨t,rfl⟩:=rx
 obtain⟨t',rfl⟩:=ry
 exact rule i j t t' s _ _ ⟨.bl (g i j),H,I,rfl,q⟩
def T8(i j:Int):Prop:=0<=j/\j<=1000000/\i.natAbs < 2 ^ 64
theorem Mo:eM X (aaP .Add) (KZ λi j=> .int (i+j)):=P0 λ_ _ _ _ _ _ _ q=>add_int q
theorem Mq:eM X (aaP .Sub) (KZ λi j=> .int (i - j)):=P0 λ_ _ _ _ _ _ _ q=>sub_int q
theorem Mr:eM X (aaP .Pow) (rI T8 λi j=> .int (i ^ j.toNat)):=Su λ_ _ _ _ _ _ _ hc q=>pow_int_small hc.1 hc.2.1 hc.2.2 q
theorem O_{f:aaM->Sem aaM}{g:Int->Int}
  (rule:∀(i:Int)(t:Tok)(s:aaL)(Q:aaM->aaL->Prop)(E:aaM->aaL->Prop),Q (.int (g i) s.toks) { s with toks:=s.toks+1 }->aaZ (model X.prog X.w) X.A (f (.int i t)) Q E s) :
  T6 X f (rU λi=> .int (g i)):=by
 intro pins s σ H x v Q I rx h
 obtain⟨i,rfl,q⟩:=h
 obtain⟨t,rfl⟩:=rx
 exact rule i t s _ _ ⟨.int (g i),H,I.tok _,⟨_,rfl⟩,q⟩
theorem Ms:T6 X (unaryOp .USub) (rU λi=> .int (-i)):=O_ λ_ _ _ _ _ q=>neg_int q
end
section
variable {X:Cx} {a b c:Expr} {ta tb tc:TE} {pos:Pos}
theorem u6{pins:List (aaG×Obj)}{σ:St}{H:Hp}{s:aaL}{Q:VK}{k k':Bool}(I:Inv X pins σ H s)(q:Q (.bl k) H)(e:k=k'):EP X pins σ Q (.bool k') s:=by
 subst e
 exact⟨.bl k,H,I,rfl,q⟩
theorem P4:eM X (aaT .Lt) (KZ λi j=> .bl (decide (i < j))):=Ia λ_ _ _ _ _ _ _ q=>lt_int q
theorem P5:eM X (aaT .LtE) (KZ λi j=> .bl (decide (i<=j))):=Ia λ_ _ _ _ _ _ _ q=>le_int q
theorem P6:eM X (aaT .Gt) (KZ λi j=> .bl (decide (j < i))):=Ia λ_ _ _ _ _ _ _ q=>gt_int q
theorem P7:eM X (aaT .GtE) (KZ λi j=> .bl (decide (j<=i))):=Ia λ_ _ _ _ _ _ _ q=>ge_int q
theorem BS:eM X (aaT .Lt) (λx y H Q=>∃i j,x= .str i/\y= .str j/\Q (.bl (decide (i.cps.toList < j.cps.toList))) H):=by
 intro pins s σ H x y v u Q I rx ry h
 obtain⟨i,j,rfl,rfl,q⟩:=h
 obtain⟨t,rfl⟩:=rx
 obtain⟨t',rfl⟩:=ry
 exact lt_str (u6 I q rfl)
theorem BU:eM X (aaT .In) (λx y H Q=>∃i j,x= .str i/\y= .str j/\Q (.bl (!(yw j i 0 j.length 1).isEmpty)) H):=by
 intro pins s σ H x y v u Q I rx ry h
 obtain⟨i,j,rfl,rfl,q⟩:=h
 obtain⟨t,rfl⟩:=rx
 obtain⟨t',rfl⟩:=ry
 exact in_str (u6 I q rfl)
theorem Mt:eM X (aaT .Is) (λx y H Q=>y= .bg/\Q (.bl (decide (x= .bg))) H):=by
 intro pins s σ H x y v u Q I rx ry h
 obtain⟨rfl,q⟩:=h
 cases ry
 refine is_none_gen (u6 I q ?_)
 cases x<;>first
  | (cases rx;rfl)
  | (obtain⟨t,rfl⟩:=rx;rfl)
theorem Ib:eM X (aaT .IsNot) (λx y H Q=>y= .bg/\Q (.bl (!decide (x= .bg))) H):=by
 intro pins s σ H x y v u Q I rx ry h
 obtain⟨rfl,q⟩:=h
 cases ry
 refine isnot_none_gen (u6 I q ?_)
 cases x<;>first
  | (cases rx;rfl)
  | (obtain⟨t,rfl⟩:=rx;rfl)
theorem Ie{op:CmpOp}{r:R2}(ho:eM X (aaT op) r)(ha:PE X a ta)(hb:PE X b tb)(hm:aaO op b=false):PE X (.Compare a [op] [b] pos) (PX r ta tb):=by
 intro pins s σ H Q I h
 exact wpAny_Compare1 (Mn ha hb I h λv u s2 x y H2 I2 rx ry q=>ho pins s2 σ H2 x y v u Q I2 rx ry q) hm
def DQ(t:TE):TT:=λσ H Q=>t σ H λx H'=>∃k,x= .bl k/\Q k H'
theorem Ig{op:CmpOp}{r:R2}(ho:eM X (aaT op) r)(ha:PE X a ta)(hb:PE X b tb)(hm:aaO op b=false):PT X (.Compare a [op] [b] pos) (DQ (PX r ta tb)):=by
 intro pins s σ H Q I h
 refine wpAny_isTrue_Compare1 (a9 (ha pins s σ H _ I h) λv s1 ⟨x,H1,I1,r1,q1⟩=>a9 (hb pins s1 σ H1 _ I1 q1) λu s2 ⟨y,H2,I2,r2,q2⟩=>
  a9 (ho pins s2 σ H2 x y v u _ I2 r1 r2 q2) λc s3 ⟨z,H3,I3,r3,k,e,q3⟩=>?_) hm
 subst e
 cases r3
 exact aa7 ⟨H3,I3,q3⟩
def yx(r r':R2)(ta tb tc:TE):TE:=λσ H Q=>ta σ H λx H1=>tb σ H1 λy H2=>r x y H2 λz H3=>∃k,z= .bl k/\
 (if k=true then tc σ H3 λw' H4=>r' y w' H4 Q else Q (.bl false) H3)
theorem DR{op op':CmpOp}{r r':R2}(ho:eM X (aaT op) r)(ho':eM X (aaT op') r')(ha:PE X a ta)(hb:PE X b tb)(hc:PE X c tc)
  (hm:lastMarks [op,op'] [b,c]=false:=by with_unfolding_all rfl):PE X (.Compare a [op,op'] [b,c] pos) (yx r r' ta tb tc):=by
 intro pins s σ H Q I h
 refine Compare_chain (a9 (ha pins s σ H _ I h) λv s1 ⟨x,H1,I1,r1,q1⟩=>chain_link (a9 (hb pins s1 σ H1 _ I1 q1) λu s2 ⟨y,H2,I2,r2,q2⟩=>
  a9 (ho pins s2 σ H2 x y v u _ I2 r1 r2 q2) λd s3 ⟨z,H3,I3,r3,k,e,q3⟩=>?_)) hm
 subst e
 cases r3
 refine aa7 ?_
 cases k with
 | false=>exact ite_ff ⟨.bl false,H3,I3,rfl,q3⟩
 | true=>exact ite_tt (chain_last (a9 (hc pins s3 σ H3 _ I3 q3) λw' s4 ⟨z',H4,I4,r4,q4⟩=>ho' pins s4 σ H4 y z' u w' Q I4 r2 r4 q4))
theorem DS{op op':CmpOp}{r r':R2}(ho:eM X (aaT op) r)(ho':eM X (aaT op') r')(ha:PE X a ta)(hb:PE X b tb)(hc:PE X c tc)
  (hm:lastMarks [op,op'] [b,c]=false:=by with_unfolding_all rfl):PT X (.Compare a [op,op'] [b,c] pos) (DQ (yx r r' ta tb tc)):=by
 intro pins s σ H Q I h
 refine isTrue_chain (a9 (ha pins s σ H _ I h) λv s1 ⟨x,H1,I1,r1,q1⟩=>test_link (a9 (hb pins s1 σ H1 _ I1 q1) λu s2 ⟨y,H2,I2,r2,q2⟩=>
  a9 (ho pins s2 σ H2 x y v u _ I2 r1 r2 q2) λd s3 ⟨z,H3,I3,r3,k,e,q3⟩=>?_)) hm
 subst e
 cases r3
 refine aa7 ?_
 cases k with
 | false=>
  obtain⟨k',e',q'⟩:=q3
  cases e'
  exact ite_ff ⟨H3,I3,q'⟩
 | true=>
  refine ite_tt (test_last (a9 (hc pins s3 σ H3 _ I3 q3) λw' s4 ⟨z',H4,I4,r4,q4⟩=>a9 (ho' pins s4 σ H4 y z' u w' _ I4 r2 r4 q4) λd' s5 ⟨z2,H5,I5,r5,k2,e2,q5⟩=>?_))
  subst e2
  cases r5
  exact aa7 ⟨H5,I5,q5⟩
def P8(K:PySem.W.Frag)(x:V)(H:Hp)(k:Bool):Prop :=
 match x with
 | .bg=>k=false
 | .bl b=>k=b
 | .int i=>k=(i != 0)
 | .str y=>y.length<=aaX/\k=((y.length:Int) != 0)
 | .O6 y=>y.size<=aaX/\k=((y.size:Int) != 0)
 | .ref p=>(∃xs,lO K H p xs/\k= !xs.isEmpty)\/(∃xs,gN K H p xs/\k= !xs.isEmpty)\/∃kvs,H p=some (.dK kvs)/\k= !kvs.isEmpty
 | _=>False
theorem yy{κ:Type}{kvs:List (κ×V)}{vs:List (κ×aaM)}(r:KV kvs vs):(!vs.isEmpty)= !kvs.isEmpty:=by
 cases r<;>rfl
theorem qZ{xs:List V}{its:List aaM}(r:Vals xs its):(!its.toArray.isEmpty)= !xs.isEmpty:=by
 cases r<;>simp
theorem nM:(aaX:Nat) < 2 ^ 63:=by rw[sizeLine_eq];decide
theorem Mu:T7 X (λx H Q=>∃k,P8 X.K x H k/\Q k H):=by
 intro pins s σ H x v Q I rx h
 obtain⟨k,e,q⟩:=h
 have hl:=nM
 have hs:aaX=16777216:=sizeLine_eq
 cases x with
 | bg=>
  cases rx
  have e':k=false:=e
  subst e'
  exact truthy_none ⟨H,I,q⟩
 | bl b=>
  cases rx
  have e':k=b:=e
  subst e'
  exact aa7 ⟨H,I,q⟩
 | int i=>
  obtain⟨t,rfl⟩:=rx
  have e':k=(i != 0):=e
  subst e'
  exact PySem.P.truthy_int ⟨H,I,q⟩
 | str y=>
  obtain⟨t,rfl⟩:=rx
  obtain⟨hy,e'⟩:y.length<=aaX/\k=((y.length:Int) != 0):=e
  subst e'
  exact PySem.P.truthy_str (by omega) ⟨H,I.tok _,q⟩
 | O6 y=>
  obtain⟨t,rfl⟩:=rx
  obtain⟨hy,e'⟩:y.size<=aaX/\k=((y.size:Int) != 0):=e
  subst e'
  exact PySem.W.truthy_bytes (by omega) ⟨H,I.tok _,q⟩
 | ref p=>
  cases rx
  have e':(∃xs,lO X.K H p xs/\k= !xs.isEmpty)\/(∃xs,gN X.K H p xs/\k= !xs.isEmpty)\/∃kvs,H p=some (.dK kvs)/\k= !kvs.isEmpty:=e
  rcases e' with ⟨xs,hx,e'⟩ | ⟨xs,hx,e'⟩ | ⟨kvs,hx,e'⟩
  ·subst e'
   obtain⟨its,r,pl,hz⟩:=I.list hx
   have hlen:=r.length
   exact wpAny_truthy_list pl.isList (by simp only[aT];omega) ⟨H,I.tok _,by rw[qZ r];exact q⟩
  ·subst e'
   obtain⟨its,r,pl,hz⟩:=I.tuple hx
   have hlen:=r.length
   exact truthy_tuple pl (by simp only[aT];omega) ⟨H,I.tok _,by rw[qZ r];exact q⟩
  ·subst e'
   obtain⟨hz,hS,vs,r,m⟩:kvs.length<=aaX/\(p == sysModules)=false/\∃vs,KV kvs vs/\s.heap.DictOf (bp X.prog X.w) p vs:=I.hok p _ hx
   have hlen:kvs.length=vs.length:=Paired.length r
   exact wpAny_truthy_dict hS m (by omega) ⟨H,I.tok _,by rw[yy r];exact q⟩
 | _=>exact(show False from e).elim
theorem DT(ha:PE X a ta)(he:∀whole,isTrue a X.env whole=(do let v <-whole;standAt a.pos;holding [v] (truthy v))) :
  PT X a (λσ H Q=>ta σ H λx H'=>∃k,P8 X.K x H' k/\Q k H'):=by
 intro pins s σ H Q I h
 exact isTrue_plain (a9 (ha pins s σ H _ I h) λv s1 ⟨x,H1,I1,r1,q1⟩=>Mu pins s1 σ H1 x v Q I1 r1 q1) (he _)
theorem yz:eM X (aaP .Add) (λx y H Q=>∃i j,x= .str i/\y= .str j/\i.length+j.length<=aaX/\Q (.str (i++j)) H):=by
 intro pins s σ H x y v u Q I rx ry h
 obtain⟨i,j,rfl,rfl,hz,q⟩:=h
 obtain⟨t,rfl⟩:=rx
 obtain⟨t',rfl⟩:=ry
 exact add_str (λt' tk=>⟨.str (i++j),H,I.tok _,⟨_,rfl⟩,q⟩) hz
theorem vals1{x:V}{us:List aaM}(r:Vals [x] us):∃u,us=[u]/\RelV x u:=by
 cases r with
 | cons r1 r2=>cases r2;exact⟨_,rfl,r1⟩
theorem vals2{x y:V}{us:List aaM}(r:Vals [x,y] us):∃u w',us=[u,w']/\RelV x u/\RelV y w':=by
 cases r with
 | cons r1 r2=>
  cases r2 with
  | cons r3 r4=>cases r4;exact⟨_,_,rfl,r1,r3⟩
end
section
variable {prog:aaK} {w:aaN} {A:aaH} {E:aaM->aaL->Prop} {s:aaL} {K:PySem.W.Frag} {x dx C f:aaG} {mA:Str->Option aaM} {name:Str} {v:aaM}
end
theorem oh.some_of{v:V}{o:Option aaM}(r:oh (some v) o):∃u,o=some u/\RelV v u:=by
 cases o with
 | none=>exact(show False from r).elim
 | some u=>exact⟨u,rfl,r⟩
section
variable {P:aaK} {w:aaN} {H H':Hp} {h h':Heap} {a C dx:aaG} {fs fs':List (Str×V)}
end
section
variable {X:Cx} {pins:List (aaG×Obj)} {σ:St} {H:Hp} {s:aaL} {a C dx:aaG} {fs:List (Str×V)} {f:Str} {v:V} {A:aaH} {E:aaM->aaL->Prop}
end
def P9(X:Cx)(op:Operator)(rd:V->V->Hp->VK->Prop):Prop :=
 ∀(pins:List (aaG×Obj))(s:aaL)(σ:St)(H:Hp)(x y:V)(u v:aaM)(Q:VK),Inv X pins σ H s->RelV x u->RelV y v->rd x y H Q->aaZ (model X.prog X.w) X.A (inplaceOp op u v) (EP X pins σ Q) X.xe s
section
variable {X:Cx} {o e value:Expr} {f:Str} {pos pos' tpos:Pos} {ta tv:TE}
end
section
variable {X:Cx} {pins:List (aaG×Obj)} {σ:St} {H:Hp} {s:aaL} {A:aaH} {E:aaM->aaL->Prop} {Q:aaM->aaL->Prop} {c:aaM} {b:Bool}
end
structure lK(k:Nat)(A:aaH):Prop where
 hd:A.handled=none
 dp:A.depth+3 * k+5 < recursionLimit
 un:A.units+16 * k+200 < cLine
theorem lK.mono{j k:Nat}{A:aaH}(r:lK k A)(h:j<=k):lK j A:=⟨r.hd,by have:=r.dp;omega,by have:=r.un;omega⟩
theorem lK.deeper{k:Nat}{A:aaH}(r:lK (k+1) A)(env:Env):lK k (A.deeper env) :=
 ⟨r.hd,by have:=r.dp;show A.depth+1+3 * k+5 < _;omega,by have:=r.un;show A.units+3+16 * k+200 < _;omega⟩
theorem lK.depth{k:Nat}{A:aaH}(r:lK k A):A.depth < recursionLimit:=by have:=r.dp;omega
def T9:TA:=λ_ H Q=>Q [] H
def P_(ta:TE)(tr:TA):TA:=λσ H Q=>ta σ H λx H1=>tr σ H1 λxs H2=>Q (x::xs) H2
section
variable {X:Cx} {e:Expr} {es:List Expr} {te:TE} {t:TA} {pos:Pos}
theorem Mv:PA X [] T9:=λ_ _ _ _ H Q I h=>yA ⟨[],H,I,.nil,h⟩
theorem Ih(ha:PE X e te)(hr:PA X es t)(hs:aaY (e::es) X.env=(false,eval e X.env)::aaY es X.env:=by rfl):PA X (e::es) (P_ te t):=by
 intro pos pins s σ H Q I h
 rw[hs]
 show aaZ _ _ (spliced ((false,eval e X.env)::backTo pos (aaY es X.env))) _ _ s
 refine q8 (a9 (ha pins s σ H _ I h) λu s1 ⟨x,H1,I1,r1,q1⟩=>?_)
 exact a9 (hr pos pins s1 σ H1 _ I1 q1) λus s2 ⟨xs,H2,I2,r2,q2⟩=>⟨x::xs,H2,I2,.cons r1 r2,q2⟩
def T_(t:TA):TE:=λσ H Q=>t σ H λxs H1=>xs.length<=aaX/\∀p,H1 p=none->Q (.ref p) (upd H1 p (.tup xs))
def T'(t:TA):TE:=λσ H Q=>t σ H λxs H1=>xs.length<=aaX/\∀p,H1 p=none->Q (.ref p) (upd H1 p (.lst xs))
theorem Mw{x1}(h:PA X es t):PE X (.Tuple es x1 pos) (T_ t):=by
 intro pins s σ H Q I hq
 refine wpAny_Tuple_spliced (a9 (h pos pins s σ H _ I hq) λus s1 ⟨xs,H1,I1,r,z,q⟩=>⟨by rw[<-r.length];exact z,?_⟩)
 have hf:H1 s1.heap.objs.size=none:=I1.hok.fresh (au _)
 refine⟨.ref s1.heap.objs.size,upd H1 s1.heap.objs.size (.tup xs),I1.laid (t':=s1.toks) (λb u e=>bK _ e) (au _) ?_,rfl,q _ hf⟩
 exact⟨z,us,r,⟨_,cE _ rfl,rfl,_,rfl⟩,yp.new _ _⟩
theorem Mx(h:PA X es t):PE X (.List es pos) (T' t):=by
 intro pins s σ H Q I hq
 refine wpAny_List_spliced (a9 (h pos pins s σ H _ I hq) λus s1 ⟨xs,H1,I1,r,z,q⟩=>⟨by rw[<-r.length];exact z,?_⟩)
 have hf:H1 s1.heap.objs.size=none:=I1.hok.fresh (au _)
 refine⟨.ref s1.heap.objs.size,upd H1 s1.heap.objs.size (.lst xs),I1.laid (t':=s1.toks) (λb u e=>bK _ e) (au _) ?_,rfl,q _ hf⟩
 exact⟨z,us,0,r,cE _ rfl⟩
end
abbrev Sp:=List V->Hp->VK->XK->Prop
abbrev Dr:=List Env->Hp->aaL->XK->aaM->aaL->Prop
structure yB(P:aaK)(w:aaN)(K:PySem.W.Frag)(mg:Str->Option aaM)(base:Heap)(A:aaH)(outer:List Env)(s:aaL)(H:Hp):Prop where
 frames:A.frames=some outer
 mod:Mod K mg base
 bs:∀b o,base.get? b=some o->s.heap.get? b=some o/\H b=none
 O8:base.objs.size<=s.heap.objs.size
 sZ:s.heap.FunFrames base outer
 Px:∀b∈frs outer,H b=none
 hok:lI P w H s.heap
 bare:AllBare s.gens
def CE(outer:List Env)(P:aaK)(w:aaN)(H:Hp)(s:aaL)(Q:VK)(u:aaM)(s':aaL):Prop :=
 ∃v H',s'.os=s.os/\AllBare s'.gens/\Un (frs outer) [] H H' s.heap s'.heap/\lI P w H' s'.heap/\RelV v u/\Q v H'
def CR(CX:Dr)(outer:List Env)(P:aaK)(w:aaN)(H:Hp)(s:aaL)(Q:VK)(E:XK)(r:Result)(s':aaL):Prop :=
 match r with
 | .ok (.ret u)=>CE outer P w H s Q u s'
 | .ok _=>False
 | .error e=>CX outer H s E e s'
structure FnOk(P:aaK)(w:aaN)(K:PySem.W.Frag)(mg:Str->Option aaM)(base:Heap)(CX:Dr)(k:Nat)(f:aaG)(fd:aaI)(ps:List Str)(sp:Sp):Prop where
 len:∀vs H Q E,sp vs H Q E->vs.length=ps.length
 run:∀(A:aaH)(outer:List Env)(s:aaL)(H:Hp)(args:Args)(us:List aaM)(vs:List V)(Q:VK)(E:XK),lK k A->yB P w K mg base A outer s H->BindsTo s fd args (ps.zip us)->Vals vs us->sp vs H Q E->
  aaR (model P w) A (.call (.ref f) args) (CR CX outer P w H s Q E) s
theorem FnOk.mono{P:aaK}{w:aaN}{K:PySem.W.Frag}{mg:Str->Option aaM}{base:Heap}{CX:Dr}{j k:Nat}{f:aaG}{fd:aaI}{ps:List Str}{sp:Sp}(F:FnOk P w K mg base CX j f fd ps sp)(h:j<=k) :
  FnOk P w K mg base CX k f fd ps sp:=⟨F.len,λA outer s H args us vs Q E hr=>F.run A outer s H args us vs Q E (hr.mono h)⟩
section
variable {X:Cx} {pins:List (aaG×Obj)} {σ:St} {H:Hp} {s s':aaL}
theorem Inv.Qa(I:Inv X pins σ H s):yB X.prog X.w X.K X.mg X.base X.A X.stack s H :=
 ⟨I.ok.frames,I.ok.mod,I.bs,aW I.ok.O8 I.sz,I.stack,I.qD,I.hok,I.bare⟩
theorem Inv.after{Q:VK}{u:aaM}(I:Inv X pins σ H s)(h:CE X.stack X.prog X.w H s Q u s'):EP X pins σ Q u s':=by
 obtain⟨v,H',os,bare,un,hok,r,q⟩:=h
 obtain⟨hh,g,d,t,os'⟩:=s'
 obtain rfl:os'=s.os:=os
 exact⟨v,H',I.call (h':=hh) (g':=g) (d':=d) (t':=t) (ch:=[]) un hok bare (λb z=>absurd z (by simp)),r,q⟩
end
def Binds(K:PySem.W.Frag)(fd:aaI)(ps:List Str)(ds:List aaM):Prop :=
 ∀(s:aaL)(us:List aaM),K.In s.heap->(us++ds).length=ps.length->BindsTo s fd ⟨us,[]⟩ (ps.zip (us++ds))
theorem Binds.all{K:PySem.W.Frag}{fd:aaI}{ps:List Str}(h:∀us:List aaM,us.length=ps.length->bindArgs fd ⟨us,[]⟩=pure (ps.zip us)):Binds K fd ps []:=λs us _ hl=>by
 rw[iz] at hl ⊢
 exact .of_eq (h us hl)
section
variable {X:Cx} {CX:Dr} {k:Nat} {f C:aaG} {fd:aaI} {ps:List Str} {sp:Sp} {dvs:List V} {ds:List aaM} {E:XK} {x m:Str} {p pos apos:Pos} {e o:Expr} {es:List Expr} {ta:TE} {t:TA}
end
section
variable {X:Cx} {CX:Dr} {k:Nat} {f C:aaG} {fd:aaI} {ps ks:List Str} {sp:Sp} {E:XK} {x m:Str} {p pos apos kpos:Pos} {e o:Expr} {es:List Expr} {kws:List Keyword} {te ta:TE} {t tk:TA} {nm:Option Str}
variable {g:List aaM->List aaM->List aaM} {gV:List V->List V->List V}
end
structure FnScope(N P:List Str)(sc:Scope):Prop where
 kind:sc.kind= .function
 co:sc.isCoroutine=false
 gen:sc.isGenerator=false
 nd:N.Nodup
 pre:N.take P.length=P
 par:∀x∈P,sc.names.lookup x=some .local\/sc.names.lookup x=some .cell
 Mz:∀y∈sc.names,y.2≠.free
theorem ub{kindOf:Str->Option aaJ}{x:Str}:∀{binds:List (Str×aaM)}{m:Str->Option aaM},(∀v,(x,v)∉binds)->bindL kindOf binds m x=m x
 | [],_,_=>rfl
 | (n,v)::r,m,h=>by
  unfold bindL
  rw[ub λw hw=>h w (aF _ hw)]
  split
  ·have:x≠n:=by rintro rfl;exact h v aB
   simp[this]
  ·rfl
theorem ud{kindOf:Str->Option aaJ}{x:Str}:∀{binds:List (Str×aaM)}{m:Str->Option aaM},(∀v,(x,v)∉binds)->bindC kindOf binds m x=m x
 | [],_,_=>rfl
 | (n,v)::r,m,h=>by
  unfold bindC
  rw[ud λw hw=>h w (aF _ hw)]
  split
  ·rfl
  ·have:x≠n:=by rintro rfl;exact h v aB
   simp[this]
theorem ue{kindOf:Str->Option aaJ}{x:Str}{v:aaM}:∀{P:List Str}{vs:List aaM}{i:Nat}{m:Str->Option aaM},P.Nodup->P[i]? =some x->vs[i]? =some v->kindOf x=some .local->
  bindL kindOf (P.zip vs) m x=some v
 | [],_,_,_,_,h,_,_=>by simp at h
 | _::_,[],_,_,_,_,h,_=>by simp at h
 | p::P,w::vs,0,m,nd,h1,h2,hk=>by
  simp at h1 h2;subst h1;subst h2
  show bindL kindOf ((p,w)::P.zip vs) m p=_
  unfold bindL
  rw[ub λv hv=>(List.nodup_cons.mp nd).1 (Al hv).1,if_pos hk]
  simp
 | p::P,w::vs,i+1,m,nd,h1,h2,hk=>by
  show bindL kindOf ((p,w)::P.zip vs) m x=_
  unfold bindL
  exact ue (i:=i) (List.nodup_cons.mp nd).2 (by simpa using h1) (by simpa using h2) hk
theorem uf{kindOf:Str->Option aaJ}{x:Str}{v:aaM}:∀{P:List Str}{vs:List aaM}{i:Nat}{m:Str->Option aaM},P.Nodup->P[i]? =some x->vs[i]? =some v->kindOf x≠some .local->
  bindC kindOf (P.zip vs) m x=some v
 | [],_,_,_,_,h,_,_=>by simp at h
 | _::_,[],_,_,_,_,h,_=>by simp at h
 | p::P,w::vs,0,m,nd,h1,h2,hk=>by
  simp at h1 h2;subst h1;subst h2
  show bindC kindOf ((p,w)::P.zip vs) m p=_
  unfold bindC
  rw[ud λv hv=>(List.nodup_cons.mp nd).1 (Al hv).1,if_neg hk]
  simp
 | p::P,w::vs,i+1,m,nd,h1,h2,hk=>by
  show bindC kindOf ((p,w)::P.zip vs) m x=_
  unfold bindC
  exact uf (i:=i) (List.nodup_cons.mp nd).2 (by simpa using h1) (by simpa using h2) hk
def start(N:List Str)(vs:List V):St:=vs.map some++aM (N.length - vs.length) none
def s_(CX:Dr)(P:aaK)(w:aaN)(K:PySem.W.Frag)(mg:Str->Option aaM)(base:Heap)(N:List Str)(qual:Str)(scope:Scope)(f:aaG)(cd:aaM)(A:aaH)(outer:List Env)(s:aaL)(H:Hp)(E:XK):Cx where
 prog:=P
 w:=w
 K:=K
 mg:=mg
 base:=base
 A:=A.deeper (envOfC qual scope s.heap.objs.size f cd)
 N:=N
 s₀:=s
 H₀:=H
 env:=envOfC qual scope s.heap.objs.size f cd
 outer:=outer
 stack:=envOfC qual scope s.heap.objs.size f cd::outer
 ex:=[]
 calm:=true
 fn:=λ_=>true
 pn:=[]
 xe:=λe s'=>aaZ (model P w) (A.deeper (envOfC qual scope s.heap.objs.size f cd)) (leaving (envOfC qual scope s.heap.objs.size f cd) e) (λ_ s''=>CX outer H s E e s'') (λe' s''=>CX outer H s E e' s'') s'
theorem wK{sc:Scope}{n:Nat}{x:Str}(h:sc.names.lookup x=some .cell):∃c,(cellsFrom n sc.names []).lookup x=some c:=by
 have q:=PySem.W.cellsFrom_some sc.names n [] (.inl h)
 exact Option.isSome_iff_exists.mp q
theorem BV{CX:Dr}{P:aaK}{w:aaN}{K:PySem.W.Frag}{mg:Str->Option aaM}{base:Heap}{N ps:List Str}{qual:Str}{scope:Scope}{f:aaG}{cd:aaM}{A:aaH}{outer:List Env}{s s1:aaL}{H:Hp}{E:XK}{us:List aaM}{vs:List V}
  (S:FnScope N ps scope)(hd:A.handled=none)(e0:yB P w K mg base A outer s H)(hl:vs.length=ps.length)(r:Vals vs us)
  (x:InCallC s s.heap.objs.size (bindL (envOfC qual scope s.heap.objs.size f cd).kindOf (ps.zip us) λ_=>none) (cellsFrom (s.heap.objs.size+1) scope.names []) (bindC (envOfC qual scope s.heap.objs.size f cd).kindOf (ps.zip us) λ_=>none) s1) :
  Inv (s_ CX P w K mg base N qual scope f cd A outer s H E) [] (start N vs) H s1:=by
 have hpl:ps.length<=N.length:=by have:=congrArg f9 S.pre;rw[q9] at this;omega
 obtain⟨h1,tk,rfl,hk⟩:=x.done
 have Qb:∀b:aaG,b∉(s_ CX P w K mg base N qual scope f cd A outer s H E).ex:=λb z=>absurd (show b∈([]:List aaG) from z) (by simp)
 refine⟨⟨e0.mod,S.kind,rfl,rfl,au _,λy z c h1 h2=>?_,λy hy=>?_,λy c _ h=>?_,λ_=>hd,Around.frames_deeper e0.frames,.inr ⟨rfl,rfl⟩,λb z=>absurd z (Qb b),e0.bs,e0.O8,λb _ _=>Qb b,λb z=>absurd z (Qb b),e0.sZ,e0.Px⟩,
  rfl,e0.bare,Un.kept hk,⟨_,x.toInCall.ns,λi y v h1 h2 h3=>?_⟩,λy c h=>⟨_,x.cell y c h⟩,e0.hok.fresh (au _),λy c h=>?_,λp hp=>absurd (show p∈([]:List (aaG×Obj)) from hp) (by simp),e0.hok.kept hk,?_⟩
 ·exact name_of_addr x.apart (PySem.mem_of_lookup h1) (PySem.mem_of_lookup h2)
 ·have hy:scope.names.lookup y=some .cell\/scope.names.lookup y=some .free:=hy
  rcases hy with hy | hy
  ·exact wK hy
  ·exact absurd rfl (S.Mz _ (PySem.mem_of_lookup hy))
 ·exact uY (x.above y c (PySem.mem_of_lookup h))
 ·have hi:i < vs.length:=by
   unfold start at h2
   by_cases hi:i < vs.length
   ·exact hi
   ·rw[pA (by simpa using hi)] at h2
    rw[MA] at h2
    split at h2<;>cases h2
  have ha:vs[i]? =some v:=by
   unfold start at h2
   rw[fQ (by simpa using hi),fh] at h2
   cases e:vs[i]? with
   | none=>rw[e] at h2;cases h2
   | some a=>rw[e] at h2;cases h2;rfl
  obtain⟨u,hu,rv⟩:=r.get ha
  have hp:ps[i]? =some y:=by
   rw[<-S.pre,List.getElem?_take_of_lt (by omega)];exact h1
  have WJ:ps.Nodup:=by rw[<-S.pre];exact S.nd.sublist (List.take_sublist _ _)
  refine⟨u,rv,?_⟩
  rcases S.par y (Ii hp) with k | k
  ·exact .inl ⟨k,ue WJ hp hu k⟩
  ·obtain⟨c,e⟩:=wK (n:=s.heap.objs.size+1) k
   refine .inr ⟨.inl k,c,e,?_⟩
   have q:=x.cell y c e
   rw[uf WJ hp hu (by show scope.names.lookup y≠_;rw[k];decide)] at q
   exact q
 ·exact e0.hok.fresh (uY (x.above y c (PySem.mem_of_lookup h)))
 ·unfold start
  show _=N.length
  rw[cF,bc,List.length_replicate]
  omega
theorem Qc{CX:Dr}{P:aaK}{w:aaN}{K:PySem.W.Frag}{mg:Str->Option aaM}{base:Heap}{k:Nat}{f:aaG}{name qual:Str}{params:Arguments}{body:List Stmt}{scope:Scope}{dV kV doc pm cdv ct oc:aaM}{an od:Option aaG}
  {osl:Array (Option aaM)}{N ps:List Str}{sp:Sp}(lk:K.lookup f=some ⟨oc,od,.func (PySem.W.fnOf name qual params body scope dV kV doc pm an cdv ct),osl⟩)(hcd:PySem.W.codeIn K cdv qual=true)(S:FnScope N ps scope)
  (len:∀vs H Q E,sp vs H Q E->vs.length=ps.length)
  (hbody:∀(A:aaH)(outer:List Env)(s:aaL)(H:Hp)(vs:List V)(Q:VK)(E:XK),lK k (A.deeper (envOfC qual scope s.heap.objs.size f cdv))->sp vs H Q E->
   ∃t,Dq (s_ CX P w K mg base N qual scope f cdv A outer s H E) body t/\t { nx:=λ_ H'=>Q .bg H',rt:=Q } (start N vs) H) :
  FnOk P w K mg base CX (k+1) f (PySem.W.fnOf name qual params body scope dV kV doc pm an cdv ct) ps sp:=by
 refine⟨len,λA outer s H args us vs Q E hr e0 hb r O'=>?_⟩
 have hl:=len _ _ _ _ O'
 have KX:K.In s.heap:=e0.mod.HF.keeps λb o e=>(e0.bs b o e).1
 have lim:s.heap.NoLimit:=e0.mod.nolimit.keeps λb o e=>(e0.bs b o e).1
 have hkind:∀y∈ps.zip us,scope.names.lookup y.1=some .local\/(scope.names.lookup y.1=some .cell/\((cellsFrom (s.heap.objs.size+1) scope.names []).lookup y.1).isSome=true):=λ⟨n,v⟩ hy=>by
  rcases S.par n (Al hy).1 with q | q
  ·exact .inl q
  ·exact .inr ⟨q,PySem.W.cellsFrom_some _ _ _ (.inl q)⟩
 refine codeAny_call_function hr.depth (KX _ _ lk) rfl S.co S.gen rfl (PySem.W.codeRec_of KX hcd) (hb _ _ _ _ ?_)
 refine wpAny_newFunctionEnv_cells S.kind hkind λenv he s1 x=>?_
 subst he
 refine⟨lim.keeps x.toInCall.keep,codeAny_func ?_⟩
 obtain⟨t,ht,hq⟩:=hbody A outer s H vs Q E (hr.deeper _) O'
 have I:Inv (s_ CX P w K mg base N qual scope f cdv A outer s H E) [] (start N vs) H s1:=BV S hr.hd e0 hl r x
 refine aa3 (ht [] s1 (start N vs) H _ I hq) (λfl s' hs=>?_) λe s' hs=>hs
 have fin:∀{σ':St}{H':Hp}{v:V}{u:aaM},Inv (s_ CX P w K mg base N qual scope f cdv A outer s H E) [] σ' H' s'->RelV v u->Q v H'->CE outer P w H s Q u s' :=
  λ{σ' H' v u} J rv q=>⟨v,H',J.os,J.bare,J.base,J.hok,rv,q⟩
 cases fl with
 | ret u=>
  obtain⟨v,σ',H',J,rv,q⟩:=hs
  exact fin J rv q
 | next=>
  obtain⟨σ',H',J,q⟩:=hs
  exact fin (v:=V.bg) (u:=bC) J rfl q
 | brk=>
  obtain⟨_,_,_,q⟩:=hs
  exact ae q
 | cont=>
  obtain⟨_,_,_,q⟩:=hs
  exact ae q
section
variable {X:Cx} {x:Str} {p pos:Pos} {e:Expr} {es:List Expr} {t:TA} {id T:String} {r:List V->Hp->VK->Prop}
def WK(r:List V->Hp->VK->Prop)(t:TA):TE:=λσ H Q=>t σ H λvs H1=>r vs H1 Q
theorem DU(hc:dW X (.builtin id) r)(hg:Gl X x)(hm:X.mg x=none)(hv:aaQ x=some (.builtin id))(ha:PA X (e::es) t)(hn:x≠"__name__":=by decide)(hdb:(x == ("__debug__":Str))=false:=by decide)
  (he:aaY (e::es) X.env=(false,eval e X.env)::aaY es X.env:=by rfl)(hpl:(backTo pos (aaY es X.env)).any (·.1)=false:=by rfl):PE X (.Call (.Name x p) (e::es) [] pos) (WK r t):=by
 intro pins s σ H Q I h
 refine wpAny_Call_Name_kw (nL I hg hm hv ?_ hn hdb)
 exact PyProof.Rows.callWith_builtin1 (a9 (ha pos pins s σ H _ I h) λus s1 ⟨vs,H1,I1,r1,q1⟩=>hc pins s1 σ H1 vs us Q I1 r1 q1) he hpl
theorem BW(hc:dW X (.type T) r)(hg:Gl X x)(hm:X.mg x=none)(hv:aaQ x=some (.type T))(ha:PA X (e::es) t)(hn:x≠"__name__":=by decide)(hdb:(x == ("__debug__":Str))=false:=by decide)
  (he:aaY (e::es) X.env=(false,eval e X.env)::aaY es X.env:=by rfl)(hpl:(backTo pos (aaY es X.env)).any (·.1)=false:=by rfl):PE X (.Call (.Name x p) (e::es) [] pos) (WK r t):=by
 intro pins s σ H Q I h
 refine wpAny_Call_Name_kw (nL I hg hm hv ?_ hn hdb)
 exact qE (a9 (ha pos pins s σ H _ I h) λus s1 ⟨vs,H1,I1,r1,q1⟩=>hc pins s1 σ H1 vs us Q I1 r1 q1) he hpl
end
end L2
namespace HT
open PySem PyProof.Rows
def lexLt:List Int->List Int->Bool
 | [],[]=>false
 | [],_::_=>true
 | _::_,[]=>false
 | x::xs,y::ys=>if x=y then lexLt xs ys else decide (x < y)
theorem yC(x y:Int)(xs ys:List Int):lexLt (x::xs) (y::ys)=if x=y then lexLt xs ys else decide (x < y):=rfl
theorem tm:lexLt [] []=false:=rfl
theorem q_(y:Int)(ys:List Int):lexLt [] (y::ys)=true:=rfl
theorem ra(x:Int)(xs:List Int):lexLt (x::xs) []=false:=rfl
theorem wL(A:aaH)(s:aaL)(a:Int)(t:Tok)(c:Int)(u:Tok):∃e,SeqAt.EqAt A s (.int a t) (.int c u) e/\(e=true↔a=c) :=
 ⟨(a == c),Ij a t c u,by simp⟩
theorem DV(A:aaH)(s:aaL)(a:Int)(t:Tok)(c:Int)(u:Tok)(prog:aaK)(w:aaN)(E:aaM->aaL->Prop)(Q:aaM->aaL->Prop)(h:Q (.bool (decide (a < c))) s) :
  aaZ (model prog w) A (richCompare .Lt (.int a t) (.int c u)) Q E s :=
 (Ik h:aaZ (model prog w) A (aaT .Lt (.int a t) (.int c u)) Q E s)
section
open PySem.SeqAt
open PySem.AutoSeq1 (wpAny_loadPart')
open PySem.MeetsSeq PySem.MeetsSeq2 PySem.MeetsSeq3
theorem tq(l b:aaG)(items items2:Array aaM)(n n2:Nat)(dd dd2:Option aaG)(sl sl2:Array (Option aaM))(ns ms:List Int)(hi:IntsAre items.toList ns)(hj:IntsAre items2.toList ms) :
  Meets (Builtin.«tuple.__lt__» ⟨[.ref l,.ref b],[]⟩)
   (λ_ R s=>s.heap.get? l=some { cls:=.type "tuple",dict:=dd,data:=.seq items n,slots:=sl }/\s.heap.get? b=some { cls:=.type "tuple",dict:=dd2,data:=.seq items2 n2,slots:=sl2 }/\
    R (.ok (.ret (.bool (lexLt ns ms)))) s) :=
 .of_wp λprog w A R s h=>by
  obtain⟨hp,g,d,tk,os⟩:=s;obtain⟨hl,hb,h⟩:=h
  have f2:=K0
  have z1:items.size=ns.length:=by rw[<-hi.length];simp
  have z2:items2.size=ms.length:=by rw[<-hj.length];simp
  wp_walk using wpAny_loadPart' hl,wpAny_loadPart' hb,wpAny_forIn_list _ (λrest b s'=>b.1=none/\s'=⟨hp,g,d,tk,os⟩/\∃(vs ws:List aaM)(ns' ms':List Int),rest=vs.zip ws/\
   IntsAre vs ns'/\IntsAre ws ms'/\ns'.length+items2.size=ms'.length+items.size/\R (.ok (.ret (.bool (lexLt ns' ms')))) ⟨hp,g,d,tk,os⟩) _
  case turn=>
   rintro⟨y,x⟩ rest b s' ⟨hb',rfl,vs,ws,ns',ms',hz,Ua,hwi,hlen,hR⟩
   cases Ua with
   | nil=>rw[List.zip_nil_left] at hz;cases hz
   | cons a t Ub=>
    cases hwi with
    | nil=>rw[List.zip_nil_right] at hz;cases hz
    | cons c u Uc=>
     rw[Am] at hz
     injection hz with hyx hrest
     injection hyx with hy hx
     subst hy hx
     rw[yC] at hR
     simp only[cG] at hlen
     obtain⟨e,he,hiff⟩:=wL A.in1 ⟨hp,g,d,tk,os⟩ a t c u
     refine aa0 (he prog w _ _ ?_)
     cases e with
     | true=>
      rw[if_pos (hiff.mp rfl)] at hR
      wp_walk
      exact⟨rfl,rfl,_,_,_,_,hrest,Ub,Uc,by omega,hR⟩
     | false=>
      rw[if_neg (λq=>absurd (hiff.mpr q) bD)] at hR
      have X':=DV A.in1 ⟨hp,g,d,tk,os⟩ a t c u prog w
      wp_walk using X'
      exact⟨_,rfl,by simpa using hR⟩
  case fin=>
   rintro⟨b1,b2⟩ s' ⟨hb',rfl,vs,ws,ns',ms',hz,Ua,hwi,hlen,hR⟩
   simp only at hb'
   subst hb'
   have hv:lexLt ns' ms'=decide (items.size < items2.size):=by
    cases Ua with
    | nil=>
     cases hwi with
     | nil=>
      simp only[jK] at hlen
      rw[tm]
      exact(decide_eq_false (by omega)).symm
     | cons c u hw=>
      simp only[jK,cG] at hlen
      rw[q_]
      exact(decide_eq_true (by omega)).symm
    | cons a t hv=>
     cases hwi with
     | nil=>
      simp only[jK,cG] at hlen
      rw[ra]
      exact(decide_eq_false (by omega)).symm
     | cons c u hw=>
      rw[Am] at hz
      cases hz
   rw[hv] at hR
   wp_walk
   exact⟨_,rfl,by simpa [MB] using hR⟩
  case h=>
   exact⟨rfl,rfl,items.toList,items2.toList,ns,ms,rfl,hi,hj,by omega,h⟩
end
section
variable {prog:aaK} {w:aaN} {A:aaH} {E:aaM->aaL->Prop} {s:aaL}
theorem yD{l b:aaG}{items items2:Array aaM}{ns ms:List Int}{Q:aaM->aaL->Prop}(hl:IsTup s.heap l items)(hb:IsTup s.heap b items2)(hi:IntsAre items.toList ns)(hj:IntsAre items2.toList ms)
  (hu:A.units < cLine)(h:Q (.bool (lexLt ns ms)) s):aaZ (model prog w) A (aaT .Lt (.ref l) (.ref b)) Q E s:=by
 obtain⟨⟨cls,dd,data,sl⟩,ho,hc,n,hd⟩:=id hl
 obtain⟨⟨Qd,dd2,data2,sl2⟩,ho2,hc2,n2,hd2⟩:=id hb
 simp only at hc hd hc2 hd2
 subst hc hd hc2 hd2
 exact richCompare_meets_room (op:=.Lt) ⟨_,ho,rfl⟩ ⟨_,ho2,rfl⟩ PySem.F.slot_tuple_lt PySem.F.entry_tuple_lt (PySem.F.args_tuple_lt_2 _ _) (tq l b items items2 n n2 dd dd2 sl sl2 ns ms hi hj)
  ⟨ho,ho2,show jA (lexLt ns ms)≠Il/\Q (.bool (lexLt ns ms)) s from⟨(λx=>nomatch x),h⟩⟩ hu
theorem Im{t b:aaG}{vs ws:List aaM}{Q:aaM->aaL->Prop}(ht:IsTup s.heap t vs.toArray)(hb:IsTup s.heap b ws.toArray)(hv:vs≠[])
  (h1:ws=[]->Q (.ref t) s)(h2:ws≠[]->Q (.ref s.heap.objs.size) { s with heap:=s.heap.push { cls:=.type "tuple",data:=.seq (vs++ws).toArray } })
  (hsz:vs.length+ws.length<=aaX):aaZ (model prog w) A (aaP .Add (.ref t) (.ref b)) Q E s:=by
 obtain⟨⟨cls,dd,data,sl⟩,ho,hc,n,hd⟩:=id ht
 obtain⟨⟨Qd,dd2,data2,sl2⟩,ho2,hc2,n2,hd2⟩:=id hb
 simp only at hc hd hc2 hd2
 subst hc hd hc2 hd2
 have e:vs.toArray++ws.toArray=(vs++ws).toArray:=by simp
 by_cases hw:ws=[]
 ·exact concat_meets ⟨_,ho,rfl⟩ ⟨_,ho2,rfl⟩ noFill_tuple_add seq_tuple_add PySem.F.slot_tuple_add PySem.F.entry_tuple_add (PySem.F.args_tuple_add_2 _ _)
   (tuple_addW1 t b vs.toArray ws.toArray n n2 dd dd2 sl sl2 (by simpa using hv) (by simp[hw])) ⟨ho,ho2,h1 hw⟩
 ·refine concat_meets ⟨_,ho,rfl⟩ ⟨_,ho2,rfl⟩ noFill_tuple_add seq_tuple_add PySem.F.slot_tuple_add PySem.F.entry_tuple_add (PySem.F.args_tuple_add_2 _ _)
   (tuple_addW2 t b vs.toArray ws.toArray n n2 dd dd2 sl sl2 (by simpa using hv) (by simpa using hw) (by rw[aT,aT];exact hsz)) ⟨ho,ho2,?_⟩
  rw[e]
  exact h2 hw
def fe(n d:Nat):Option Int->Nat
 | none=>d
 | some v=>if v < 0 then(v+(n:Int)).toNat else min v.toNat n
theorem MC(n d:Nat)(hd:d<=n)(o:Option Int):fe n d o<=n:=by
 cases o with
 | none=>exact hd
 | some v=>
  show(if v < 0 then(v+(n:Int)).toNat else min v.toNat n)<=n
  by_cases hv:v < 0
  ·rw[if_pos hv];omega
  ·rw[if_neg hv];exact An _ _
theorem Ao(v:Int)(n d:Nat):(if v < 0 then max (v+(n:Int)) 0 else min v (n:Int))=((fe n d (some v):Nat):Int):=by
 show(if v < 0 then max (v+(n:Int)) 0 else min v (n:Int))=(((if v < 0 then(v+(n:Int)).toNat else min v.toNat n):Nat):Int)
 by_cases hv:v < 0
 ·simp only[if_pos hv];omega
 ·simp only[if_neg hv];omega
theorem yE(lo hi:Option Int)(n:Nat):DW lo hi 1 (n:Int)=(((fe n 0 lo:Nat):Int),((fe n n hi:Nat):Int)):=by
 have h1:¬((1:Int) < 0):=by omega
 unfold DW
 simp only[h1,if_false]
 refine u7 ?_ ?_
 ·cases lo with
  | none=>rfl
  | some v=>exact Ao v n 0
 ·cases hi with
  | none=>rfl
  | some v=>exact Ao v n n
theorem yF(i j:Nat):yG (i:Int) (j:Int) 1=j - i:=by
 unfold yG
 have h1:(1:Int) > 0:=by omega
 simp only[h1,if_true,Int.ediv_one]
 split<;>omega
theorem rb{v:aaM}{o:Option Int}{Q:Option Int->aaL->Prop}(p:IsPart v o)(h:Q o s):aaZ (model prog w) A (Builtin.Slice.slicePartIndex v) Q E s:=by
 cases p with
 | none=>exact slicePart_none h
 | int i t=>exact slicePart_int h
theorem j_{sl:aaG}{vl vu:aaM}{lo hi:Option Int}{n:Nat}{Q:Int×Int×Nat->aaL->Prop}(hs:s.heap.IsSliceOf sl vl vu .none)(pl:IsPart vl lo)(pu:IsPart vu hi)
  (h:Q (((fe n 0 lo:Nat):Int),1,fe n n hi - fe n 0 lo) s):aaZ (model prog w) A (MD (.ref sl) (pure (n:Int))) Q E s:=by
 obtain⟨os,hos,hcs,hds⟩:=id hs
 unfold MD Builtin.Slice.sliceFields
 refine aa0 (aa0 (wpAny_field hos hds (x:=vl) rfl (aa0 (wpAny_field hos hds (x:=vu) rfl (aa0 (wpAny_field hos hds (x:=.none) rfl (aa6 ?_)))))))
 refine aa0 (slicePart_none ?_)
 show aaZ _ _ (if((1:Int) == 0)=true then _ else _) _ _ s
 rw[if_neg (by decide)]
 refine aa0 (rb pl (aa0 (rb pu (aa0 (aa6 ?_)))))
 show aaZ _ _ (match DW lo hi 1 (n:Int) with | (lo,hi)=>pure (lo,(1:Int),yG lo hi 1)) _ _ s
 rw[yE lo hi n]
 show aaZ _ _ (pure (((fe n 0 lo:Nat):Int),(1:Int),yG ((fe n 0 lo:Nat):Int) ((fe n n hi:Nat):Int) 1)) _ _ s
 rw[yF]
 exact aa6 h
theorem DX(xs:Array aaM)(i k:Nat):((eL k).filterMap λ(m:Nat)=>xs[((i:Int)+(m:Int) * 1).toNat]?).toArray=((xs.toList.drop i).take k).toArray:=by
 have e:(λ(m:Nat)=>xs[((i:Int)+(m:Int) * 1).toNat]?)=λm=>xs[i+m]?:=by
  funext m
  have:((i:Int)+(m:Int) * 1).toNat=i+m:=by omega
  rw[this]
 rw[e]
 have:=pick_run xs i k
 rw[List.filterMap_map] at this
 have e2:((λx=>xs[x]?) ∘ λx=>i+x)=λm=>xs[i+m]?:=rfl
 rw[e2] at this
 rw[this]
theorem oz{t sl:aaG}{items:Array aaM}{vl vu:aaM}{lo hi:Option Int}{Q:aaM->aaL->Prop}(ht:IsTup s.heap t items)(hs:s.heap.IsSliceOf sl vl vu .none)(pl:IsPart vl lo)(pu:IsPart vu hi)
  (hw:¬(fe items.size 0 lo=0/\fe items.size items.size hi=items.size))
  (h:Q (.ref s.heap.objs.size) { s with heap:=s.heap.push { cls:=.type "tuple",data:=.seq ((items.toList.drop (fe items.size 0 lo)).take (fe items.size items.size hi - fe items.size 0 lo)).toArray } })
  (hsz:items.size<=aaX):aaZ (model prog w) A (getItem (.ref t) (.ref sl)) Q E s:=by
 have Ap:sizeOk (.seq ((items.toList.drop (fe items.size 0 lo)).take (fe items.size items.size hi - fe items.size 0 lo)).toArray):=by
  show((items.toList.drop (fe items.size 0 lo)).take (fe items.size items.size hi - fe items.size 0 lo)).toArray.size<=aaX
  rw[aT,q9,List.length_drop,KU]
  omega
 have hj:fe items.size items.size hi<=items.size:=MC _ _ (au _) hi
 obtain⟨os,hos,hcs,hds⟩:=id hs
 have Ya:s.TypeIs (.ref sl) "slice":=⟨os,hos,hcs⟩
 unfold getItem
 try with_reducible refine aa2 ?_
 first | refine aa0 (aa6 ?_) | skip
 refine aa0 (wpAny_sequenceKey ht.typeIs (by decide) ?_)
 refine aa0 (wpAny_callSpecial?_slot (name:=oA "__getitem__") ht.typeIs u9
  (wpAny_call_entry u9 ht.typeIs entry_tuple_getitem ?_ (args_tuple_getitem _ _)))
 show aaZ _ _ (ME (.ref t) >>= _) _ _ s
 refine aa0 (tupleItemsOf_ ht ?_)
 refine aa0 (wpAny_typeOf Ya ?_)
 rw[if_pos (by decide)]
 refine aa0 (j_ hs pl pu ?_)
 have hno:¬((((fe items.size 0 lo:Nat):Int) == 0&&(1:Int) == 1&&(fe items.size items.size hi - fe items.size 0 lo) == items.size)=true):=by
  intro q
  rw[ff,ff] at q
  have q1:((fe items.size 0 lo:Nat):Int)=0:=eq_of_beq q.1.1
  have q2:fe items.size items.size hi - fe items.size 0 lo=items.size:=eq_of_beq q.2
  exact hw ⟨by omega,by omega⟩
 show aaZ _ _ (if(((fe items.size 0 lo:Nat):Int) == 0&&(1:Int) == 1&&(fe items.size items.size hi - fe items.size 0 lo) == items.size)=true then _ else _) _ _ s
 rw[if_neg hno,DX]
 first
  | exact aa0 (m:=yH _) (aa5 (aa6 ⟨_,rfl,aa6 h⟩) Ap)
  | exact aa0 (m:=yH _) (aa5 (aa0 (aa6 (aa6 ⟨_,rfl,aa6 h⟩))) Ap)
  | exact aa0 (aa0 (m:=yH _) (aa5 (aa6 (aa6 ⟨_,rfl,aa6 h⟩)) Ap))
  | exact aa0 (aa0 (m:=yH _) (aa5 (aa6 ⟨_,rfl,aa6 h⟩) Ap))
end
end HT
namespace L2
open PySem PySem.Spec PyProof.Rows
abbrev TO:=St->Hp->(Option Int->Hp->Prop)->Prop
def PO(X:Cx)(e:Option Expr)(t:TO):Prop :=
 ∀(pins:List (aaG×Obj))(s:aaL)(σ:St)(H:Hp)(Q:Option Int->Hp->Prop),Inv X pins σ H s->t σ H Q->
  aaZ (model X.prog X.w) X.A (evalPart e X.env) (λu s'=>∃o H',Inv X pins σ H' s'/\IsPart u o/\Q o H') X.xe s
def Io:TO:=λ_ H Q=>Q none H
def Qe(t:TE):TO:=λσ H Q=>t σ H λx H1=>∃i,x= .int i/\Q (some i) H1
theorem intsAre_of{ns:List Int}:∀{us:List aaM},Vals (ns.map V.int) us->IntsAre us ns:=by
 induction ns with
 | nil=>intro us r;rw[pB] at r;cases r;exact .nil
 | cons n ns ih=>
  intro us r
  rw[a6] at r
  cases r with
  | cons r1 r2=>
   obtain⟨t,e⟩:=r1
   subst e
   exact .cons n t (ih r2)
section
variable {X:Cx} {e:Expr} {te:TE} {lo hi:Option Expr} {tl th:TO} {pos p2:Pos}
theorem Ip:PO X none Io:=by
 intro pins s σ H Q I h
 rw[evalPart_none]
 exact aa6 ⟨none,H,I,.none,h⟩
theorem Iq(h:PE X e te):PO X (some e) (Qe te):=by
 intro pins s σ H Q I hw
 rw[evalPart_some]
 refine a9 (h pins s σ H _ I hw) λu s1 ⟨x,H1,I1,r1,q1⟩=>?_
 obtain⟨i,rfl,q⟩:=q1
 obtain⟨t,rfl⟩:=r1
 exact⟨some i,H1,I1,.int i t,q⟩
def HG(X:Cx)(r:V->Option Int->Option Int->Hp->VK->Prop):Prop :=
 ∀(pins:List (aaG×Obj))(s:aaL)(σ:St)(H:Hp)(x:V)(v vl vu:aaM)(lo hi:Option Int)(sl:aaG)(Q:VK),Inv X pins σ H s->RelV x v->s.heap.IsSliceOf sl vl vu .none->IsPart vl lo->IsPart vu hi->r x lo hi H Q->
  ∃T id,typeLookup (.type T) "__getitem__"=pure (some (.builtin id))/\s.TypeIs v T/\aaZ (model X.prog X.w) X.A (getItem v (.ref sl)) (EP X pins σ Q) X.xe s
theorem HG.or{r r':V->Option Int->Option Int->Hp->VK->Prop}(h:HG X r)(h':HG X r'):HG X (λx lo hi H Q=>r x lo hi H Q\/r' x lo hi H Q):=by
 intro pins s σ H x v vl vu lo hi sl Q I rx hs pl pu q
 rcases q with q | q
 ·exact h pins s σ H x v vl vu lo hi sl Q I rx hs pl pu q
 ·exact h' pins s σ H x v vl vu lo hi sl Q I rx hs pl pu q
def Yb(r:V->Option Int->Option Int->Hp->VK->Prop)(te:TE)(tl th:TO):TE:=λσ H Q=>te σ H λx H1=>tl σ H1 λl H2=>th σ H2 λu H3=>r x l u H3 Q
theorem rj{r:V->Option Int->Option Int->Hp->VK->Prop}(hr:HG X r)(he:PE X e te)(hl:PO X lo tl)(hu:PO X hi th):PE X (.Subscript e (.Slice lo hi none p2) pos) (Yb r te tl th):=by
 intro pins s σ H Q I h
 refine Subscript_ (a9 (he pins s σ H _ I h) λv s1 ⟨x,H1,I1,r1,q1⟩=>?_)
 refine wpAny_Slice (a9 (hl pins s1 σ H1 _ I1 q1) λvl s2 ⟨l,H2,I2,pl,q2⟩=>a9 (hu pins s2 σ H2 _ I2 q2) λvu s3 ⟨u,H3,I3,pu,q3⟩=>?_)
 rw[evalPart_none]
 refine aa6 ?_
 have I4:Inv X pins σ H3 { s3 with heap:=s3.heap.push { cls:=.type "slice",data:=.fields #[vl,vu,.none] } }:=I3.kept (t':=s3.toks) λb ob q=>bK _ q
 obtain⟨T,id,hT,ht,hg⟩:=hr pins { s3 with heap:=s3.heap.push { cls:=.type "slice",data:=.fields #[vl,vu,.none] } } σ H3 x v vl vu l u s3.heap.objs.size Q I4 r1 (Heap.IsSliceOf.new ..) pl pu q3
 show aaZ (model X.prog X.w) X.A (subscriptTail e (.Slice lo hi none p2) v (.ref s3.heap.objs.size)) (EP X pins σ Q) X.xe { s3 with heap:=s3.heap.push { cls:=.type "slice",data:=.fields #[vl,vu,.none] } }
 exact tail_any (ops:=[.ref s3.heap.objs.size,v]) ht hT hg (by with_unfolding_all rfl)
def tw(xs:List V)(lo hi:Option Int):List V:=(xs.drop (HT.fe xs.length 0 lo)).take (HT.fe xs.length xs.length hi - HT.fe xs.length 0 lo)
theorem qh(xs:List V)(lo hi:Option Int):(tw xs lo hi).length<=xs.length:=by
 unfold tw
 rw[q9,List.length_drop]
 omega
def Ud(K:PySem.W.Frag):V->Option Int->Option Int->Hp->VK->Prop:=λx lo hi H Q=>∃a xs,x= .ref a/\gN K H a xs/\
 ¬(HT.fe xs.length 0 lo=0/\HT.fe xs.length xs.length hi=xs.length)/\∀p,H p=none->Q (.ref p) (upd H p (.tup (tw xs lo hi)))
theorem DY:HG X (Ud X.K):=by
 intro pins s σ H x v vl vu lo hi sl Q I rx hs pl pu h
 obtain⟨a,xs,rfl,hx,hw,q⟩:=h
 cases rx
 obtain⟨its,r,ht,hz⟩:=I.tuple hx
 have hlen:its.toArray.size=xs.length:=by rw[aT];exact r.length.symm
 refine⟨"tuple",_,PyProof.Rows.slot_tuple_getitem.lookup,ht.typeIs,?_⟩
 refine HT.oz ht hs pl pu (by rw[hlen];exact hw) ?_ (by rw[hlen];exact hz)
 rw[hlen]
 refine⟨.ref s.heap.objs.size,_,I.laid (t':=s.toks) (o:=.tup (tw xs lo hi)) (λb ob q=>bK _ q) (au _) ?_,rfl,q _ (I.hok.fresh (au _))⟩
 exact⟨aW (qh xs lo hi) hz,_,(r.drop (HT.fe xs.length 0 lo)).take (HT.fe xs.length xs.length hi - HT.fe xs.length 0 lo),IsTup.new _ _,yp.new _ _⟩
def Ue(K:PySem.W.Frag):R2:=λx y H Q=>∃a b ns ms,x= .ref a/\y= .ref b/\gN K H a (ns.map V.int)/\gN K H b (ms.map V.int)/\Q (.bl (HT.lexLt ns ms)) H
theorem MF(hu:X.A.units < cLine):eM X (aaT .Lt) (Ue X.K):=by
 intro pins s σ H x y v u Q I rx ry h
 obtain⟨a,b,ns,ms,rfl,rfl,ha,hb,q⟩:=h
 cases rx
 cases ry
 obtain⟨its,r1,p1,_⟩:=I.tuple ha
 obtain⟨its2,r2,p2,_⟩:=I.tuple hb
 have i1:IntsAre its.toArray.toList ns:=intsAre_of r1
 have i2:IntsAre its2.toArray.toList ms:=intsAre_of r2
 exact HT.yD p1 p2 i1 i2 hu ⟨.bl (HT.lexLt ns ms),H,I,rfl,q⟩
def Qf(K:PySem.W.Frag):R2:=λx y H Q=>∃a b xs ys,x= .ref a/\y= .ref b/\gN K H a xs/\gN K H b ys/\xs≠[]/\xs.length+ys.length<=aaX/\
 (ys=[]->Q (.ref a) H)/\(ys≠[]->∀p,H p=none->Q (.ref p) (upd H p (.tup (xs++ys))))
theorem Vals.u_{xs:List V}{us:List aaM}(r:Vals xs us):us=[]↔xs=[]:=by
 cases r with
 | nil=>simp
 | cons _ _=>simp
theorem Ir:eM X (aaP .Add) (Qf X.K):=by
 intro pins s σ H x y v u Q I rx ry h
 obtain⟨a,b,xs,ys,rfl,rfl,ha,hb,hx,hz,q1,q2⟩:=h
 cases rx
 cases ry
 obtain⟨its,r1,p1,_⟩:=I.tuple ha
 obtain⟨its2,r2,p2,_⟩:=I.tuple hb
 refine HT.Im p1 p2 (λz=>hx (r1.u_.mp z)) (λz=>⟨.ref a,H,I,rfl,q1 (r2.u_.mp z)⟩) (λz=>?_) (by rw[<-r1.length,<-r2.length];exact hz)
 refine⟨.ref s.heap.objs.size,_,I.laid (t':=s.toks) (o:=.tup (xs++ys)) (λb ob q=>bK _ q) (au _) ?_,rfl,q2 (λw=>z (r2.u_.mpr w)) _ (I.hok.fresh (au _))⟩
 exact⟨by rw[cF];exact hz,_,r1.append r2,IsTup.new _ _,yp.new _ _⟩
end
def Ds(n:Nat)(i:Int):Option Nat:=if 0<=i then(if i < n then some i.toNat else none) else if -(n:Int)<=i then some (i+n).toNat else none
def qi{α:Type}(xs:List α)(i:Int):Option α:=(Ds xs.length i).bind λj=>xs[j]?
theorem Aq{n:Nat}{i:Int}{j:Nat}(h:Ds n i=some j):seqIndex? i n=some j/\j < n/\-(n:Int)<=i/\i < n:=by
 unfold Ds at h
 by_cases h0:0<=i
 ·rw[if_pos h0] at h
  by_cases h1:i < n
  ·rw[if_pos h1] at h
   have e:i.toNat=j:=Option.some.inj h
   exact⟨by rw[seqIndex_of h0 h1,e],by omega,by omega,h1⟩
  ·rw[if_neg h1] at h;cases h
 ·rw[if_neg h0] at h
  by_cases h1:-(n:Int)<=i
  ·rw[if_pos h1] at h
   have e:(i+n).toNat=j:=Option.some.inj h
   exact⟨by rw[seqIndex_neg (by omega) h1,e],by omega,h1,by omega⟩
  ·rw[if_neg h1] at h;cases h
theorem qF{α:Type}{xs:List α}{i:Int}{v:α}(h:qi xs i=some v):∃j,seqIndex? i xs.length=some j/\xs[j]? =some v/\j < xs.length/\-(xs.length:Int)<=i/\i < xs.length:=by
 unfold qi at h
 cases e:Ds xs.length i with
 | none=>rw[e] at h;cases h
 | some j=>
  rw[e] at h
  obtain⟨h1,h2,h3,h4⟩:=Aq e
  exact⟨j,h1,h,h2,h3,h4⟩
theorem Ar{α:Type}{xs:List α}{j:Nat}{v:α}(h:xs[j]? =some v):qi xs (j:Int)=some v:=by
 have hj:j < xs.length:=(List.getElem?_eq_some_iff.mp h).1
 have e:Ds xs.length (j:Int)=some j:=by
  unfold Ds
  rw[if_pos (by omega),if_pos (by omega)];simp
 unfold qi;rw[e];exact h
def As(b:Expr):Prop:=∀o i,subscripted b false o i=operate [o,i] (getItem o i)
def Iu(X:Cx)(r:R2):Prop :=
 ∀(value slice:Expr)(pins:List (aaG×Obj))(s:aaL)(σ:St)(H:Hp)(x y:V)(v u:aaM)(Q:VK),Inv X pins σ H s->RelV x v->RelV y u->r x y H Q->
  subscripted slice false v u=operate [v,u] (getItem v u)->aaZ (model X.prog X.w) X.A (subscriptTail value slice v u) (EP X pins σ Q) X.xe s
def Ug(X:Cx)(id:String)(r:V->List V->Hp->VK->Prop):Prop :=
 ∀(pins:List (aaG×Obj))(s:aaL)(σ:St)(H:Hp)(x:V)(xs:List V)(v:aaM)(us:List aaM)(Q:VK),Inv X pins σ H s->RelV x v->Vals xs us->r x xs H Q->
  aaZ (model X.prog X.w) X.A (call (.builtin id) (v::us)) (EP X pins σ Q) X.xe s
section
variable {X:Cx} {a b:Expr} {ta tb:TE} {pos:Pos}
theorem Iu.or{r r':R2}(h:Iu X r)(h':Iu X r'):Iu X (λx y H Q=>r x y H Q\/r' x y H Q):=by
 intro value slice pins s σ H x y v u Q I rx ry q hs
 rcases q with q | q
 ·exact h value slice pins s σ H x y v u Q I rx ry q hs
 ·exact h' value slice pins s σ H x y v u Q I rx ry q hs
theorem Qg{r:R2}(hr:Iu X r)(ha:PE X a ta)(hb:PE X b tb)(hs:As b):PE X (.Subscript a b pos) (PX r ta tb):=by
 intro pins s σ H Q I h
 exact Subscript_ (Mn ha hb I h λv u s2 x y H2 I2 rx ry q=>hr a b pins s2 σ H2 x y v u Q I2 rx ry q (hs _ _))
def Qh(K:PySem.W.Frag):R2:=λx y H Q=>∃p xs i v,x= .ref p/\y= .int i/\lO K H p xs/\qi xs i=some v/\Q v H
def Qi(K:PySem.W.Frag):R2:=λx y H Q=>∃p xs i v,x= .ref p/\y= .int i/\gN K H p xs/\qi xs i=some v/\Q v H
def Qj:R2:=λx y H Q=>∃z i c,x= .str z/\y= .int i/\z.length<=aaX/\qi z.cps.toList i=some c/\Q (.str ⟨#[c]⟩) H
theorem Iv:Iu X (Qh X.K):=by
 intro value slice pins s σ H x y v u Q I rx ry h hs
 obtain⟨p,xs,i,z,rfl,rfl,hq,he,q⟩:=h
 cases rx
 obtain⟨t,rfl⟩:=ry
 obtain⟨its,r,pl,hz⟩:=I.list hq
 obtain⟨j,h1,h2,h3,h4,h5⟩:=qF he
 obtain⟨w,ew,rw'⟩:=r.get h2
 have hl:=r.length
 have hn:=nM
 have fin:EP X pins σ Q w s:=⟨z,H,I,rw',q⟩
 by_cases h0:0<=i
 ·have hj:i.toNat=j:=by
   rw[seqIndex_of h0 h5] at h1
   exact Option.some.inj h1
  exact item_listR pl.isList h0 (by omega) (by rw[hj];simpa using ew) fin hs
 ·have hj:(i+(its.toArray.size:Int)).toNat=j:=by
   rw[seqIndex_neg (by omega) h4] at h1
   rw[aT,<-hl]
   exact Option.some.inj h1
  exact subscriptTail_builtinR (x:=w) pl.isList.typeIs slot_list_getitem.lookup
   (wpAny_getItem_list_neg (Q:=λr s'=>r=w/\EP X pins σ Q r s') pl.isList (by omega) (by rw[aT]<;>omega) (by omega) (by rw[hj];simpa using ew) ⟨rfl,fin⟩) hs
theorem MG:Iu X (Qi X.K):=by
 intro value slice pins s σ H x y v u Q I rx ry h hs
 obtain⟨p,xs,i,z,rfl,rfl,hq,he,q⟩:=h
 cases rx
 obtain⟨t,rfl⟩:=ry
 obtain⟨its,r,pl,hz⟩:=I.tuple hq
 obtain⟨j,h1,h2,h3,h4,h5⟩:=qF he
 obtain⟨w,ew,rw'⟩:=r.get h2
 have hl:=r.length
 have hn:=nM
 have fin:EP X pins σ Q w s:=⟨z,H,I,rw',q⟩
 exact subscriptTail_builtinR (x:=w) pl.typeIs slot_tuple_getitem.lookup
  (getItem_tuple (j:=j) (Q:=λr s'=>r=w/\EP X pins σ Q r s') pl (by omega) (by omega) (by rw[aT,<-hl];exact h1) (by simpa using ew) ⟨rfl,fin⟩) hs
theorem MH:Iu X Qj:=by
 intro value slice pins s σ H x y v u Q I rx ry h hs
 obtain⟨z,i,c,rfl,rfl,hz,he,q⟩:=h
 obtain⟨t,rfl⟩:=rx
 obtain⟨t',rfl⟩:=ry
 obtain⟨j,h1,h2,h3,h4,h5⟩:=qF he
 have hl:z.cps.toList.length=z.length:=by simp[Str.length]
 rw[hl] at h1 h4 h5
 have hn:=nM
 exact tail_any (typeIs_str s z t) slot_str_getitem.lookup (getItem_str (c:=c) (by
  have e1:decide (i < -(2 ^ 63:Int))=false:=decide_eq_false (by omega)
  have e2:decide (i >= 2 ^ 63)=false:=decide_eq_false (by omega)
  rw[e1,e2,Bool.or_false]) (by rw[h1];simpa using h2) ⟨.str ⟨#[c]⟩,H,I.tok _,⟨_,rfl⟩,q⟩) hs
def WL(K:PySem.W.Frag):R2:=λx y H Q=>Qh K x y H Q\/Qi K x y H Q\/Qj x y H Q
theorem MI:Iu X (WL X.K):=Iv.or (MG.or MH)
theorem yI(its:List aaM)(n j:Nat)(u:aaM):dB (·.setIfInBounds j u) { cls:=.type "list",data:=.seq its.toArray n }={ cls:=.type "list",data:=.seq (its.set j u).toArray n }:=by
 simp[dB]
theorem Inv.lst{pins:List (aaG×Obj)}{σ:St}{H:Hp}{s:aaL}{p:aaG}{xs:List V}(I:Inv X pins σ H s)(h:H p=some (.lst xs)) :
  ∃(its:List aaM)(n:Nat),Vals xs its/\s.heap.get? p=some { cls:=.type "list",data:=.seq its.toArray n }/\xs.length<=aaX:=by
 obtain⟨z,its,n,r,e⟩:=I.hok p _ h
 exact⟨its,n,r,e,z⟩
theorem Inv.MJ{pins:List (aaG×Obj)}{σ:St}{H:Hp}{s:aaL}{p:aaG}{xs ys:List V}{its its':List aaM}{n n':Nat}{f:Obj->Obj}(I:Inv X pins σ H s)(h:H p=some (.lst xs))
  (ho:s.heap.get? p=some { cls:=.type "list",data:=.seq its.toArray n })(hf:f { cls:=.type "list",data:=.seq its.toArray n }={ cls:=.type "list",data:=.seq its'.toArray n' })(r:Vals ys its')(hz:ys.length<=aaX)(t:Nat) :
  Inv X pins σ (upd H p (.lst ys)) { s with heap:=s.heap.update p f,toks:=t }:=by
 have e:(s.heap.update p f).get? p=some { cls:=.type "list",data:=.seq its'.toArray n' }:=by
  rw[yJ f ho (by rw[hf]<;>rfl),hf]
 refine I.write (x:=p) (e:=p) (by rw[h];trivial) (.inl rfl) (λb u hb q=>(rp _ _ (aH hb)).trans q) ⟨_,e⟩ ?_
 exact⟨hz,its',n',r,e⟩
def Qk:V->V->V->Hp->(Hp->Prop)->Prop:=λo i v H Q=>∃p xs k j,o= .ref p/\i= .int k/\H p=some (.lst xs)/\Ds xs.length k=some j/\Q (upd H p (.lst (xs.set j v)))
theorem set_list:PQ X Qk:=by
 intro pins s σ H o i v ov iv u Q I ro ri rv h
 obtain⟨p,xs,k,j,rfl,rfl,hp,hj,q⟩:=h
 cases ro
 obtain⟨t,rfl⟩:=ri
 obtain⟨its,n,r,ho,hz⟩:=I.lst hp
 obtain⟨h1,h2,h3,h4⟩:=Aq hj
 have hl:=r.length
 have hn:=nM
 have I':Inv X pins σ (upd H p (.lst (xs.set j v))) { s with heap:=s.heap.update p (dB (·.setIfInBounds j u)) } :=
  I.MJ hp ho (yI its n j u) (r.set rv j) (by rw[rA];exact hz) s.toks
 by_cases h0:0<=k
 ·have hk:k.toNat=j:=by
   rw[seqIndex_of h0 h4] at h1
   exact Option.some.inj h1
  exact PySem.W.ki_setAt ho h0 (by omega) (by rw[aT,<-hl];exact h4) (by rw[hk];exact⟨_,I',q⟩)
 ·have hk:(k+(its.toArray.size:Int)).toNat=j:=by
   rw[seqIndex_neg (by omega) h3] at h1
   rw[aT,<-hl]
   exact Option.some.inj h1
  exact PySem.W.ki_setBack ho (by omega) (by rw[aT,<-hl];exact h3) (by omega) (by rw[hk];exact⟨_,I',q⟩)
theorem va(lo hi:Option Int)(n:Nat):(sliceBounds lo hi none n).1=((HT.fe n 0 lo:Nat):Int)/\(sliceBounds lo hi none n).2.1=((HT.fe n n hi:Nat):Int)/\(sliceBounds lo hi none n).2.2=1:=by
 refine⟨?_,?_,rfl⟩
 ·cases lo with
  | none=>simp[sliceBounds,HT.fe]
  | some i=>
   simp only[sliceBounds,HT.fe,Option.getD_none,show(1:Int) > 0 by decide,if_true]
   by_cases h:i < 0
   ·simp only[h,if_true]<;>omega
   ·simp only[h,if_false]<;>omega
 ·cases hi with
  | none=>simp[sliceBounds,HT.fe]
  | some i=>
   simp only[sliceBounds,HT.fe,Option.getD_none,show(1:Int) > 0 by decide,if_true]
   by_cases h:i < 0
   ·simp only[h,if_true]<;>omega
   ·simp only[h,if_false]<;>omega
theorem tD(its:List aaM)(lo hi:Option Int):slicePick its.toArray lo hi none=((its.drop (HT.fe its.length 0 lo)).take (HT.fe its.length its.length hi - HT.fe its.length 0 lo)).toArray:=by
 obtain⟨h1,h2,h3⟩:=va lo hi its.toArray.size
 unfold slicePick
 rw[h1,h2,h3]
 simp only[sliceRange_one,pick_run,aT]<;>rfl
def Uh(K:PySem.W.Frag):V->Option Int->Option Int->Hp->VK->Prop:=λx lo hi H Q=>∃a xs,x= .ref a/\lO K H a xs/\∀p,H p=none->Q (.ref p) (upd H p (.lst (tw xs lo hi)))
theorem Iw:HG X (Uh X.K):=by
 intro pins s σ H x v vl vu lo hi sl Q I rx hs pl pu h
 obtain⟨a,xs,rfl,hx,q⟩:=h
 cases rx
 obtain⟨its,r,ht,hz⟩:=I.list hx
 have hlen:=r.length
 refine⟨"list",_,slot_list_getitem.lookup,ht.isList.typeIs,?_⟩
 refine wpAny_getItem_list_slice ht.isList hs pl pu .none (by simp) ?_ (by rw[aT]<;>omega)
 rw[tD,<-hlen]
 refine⟨.ref s.heap.objs.size,_,I.laid (t':=s.toks) (o:=.lst (tw xs lo hi)) (λb ob q=>bK _ q) (au _) ?_,rfl,q _ (I.hok.fresh (au _))⟩
 exact⟨aW (qh xs lo hi) hz,_,0,(r.drop (HT.fe xs.length 0 lo)).take (HT.fe xs.length xs.length hi - HT.fe xs.length 0 lo),cE _ rfl⟩
def nA:V->Bool
 | .bg=>true
 | .bl _=>true
 | .int _=>true
 | .str _=>true
 | _=>false
def Iy:V->V->Bool
 | .bg,.bg=>true
 | .bl a,.bl b=>a == b
 | .bl a,.int b=>(if a then 1 else 0) == b
 | .int a,.bl b=>a == (if b then 1 else 0)
 | .int a,.int b=>a == b
 | .str a,.str b=>a == b
 | _,_=>false
theorem MK{A:aaH}{s:aaL}{y x:V}{u v:aaM}(ry:RelV y u)(rx:RelV x v)(fy:nA y=true)(fx:nA x=true):SeqAt.EqAt A s u v (Iy y x):=by
 cases y with
 | bg=>
  cases ry
  cases x with
  | bg=>cases rx;exact HS _
  | bl b=>cases rx;exact SeqAt.EqAt.none_bool b
  | int b=>obtain⟨t,rfl⟩:=rx;exact HQ b t
  | str b=>obtain⟨t,rfl⟩:=rx;exact HR b t
  | _=>exact absurd (show false=true from fx) bD
 | bl a=>
  cases ry
  cases x with
  | bg=>cases rx;exact SeqAt.EqAt.bool_none a
  | bl b=>cases rx;exact SeqAt.EqAt.bool_bool a b
  | int b=>obtain⟨t,rfl⟩:=rx;exact SeqAt.EqAt.bool_int a b t
  | str b=>obtain⟨t,rfl⟩:=rx;exact SeqAt.EqAt.bool_str a b t
  | _=>exact absurd (show false=true from fx) bD
 | int a=>
  obtain⟨t',rfl⟩:=ry
  cases x with
  | bg=>cases rx;exact HM a t'
  | bl b=>cases rx;exact SeqAt.EqAt.int_bool a t' b
  | int b=>obtain⟨t,rfl⟩:=rx;exact Ij a t' b t
  | str b=>obtain⟨t,rfl⟩:=rx;exact HL a t' b t
  | _=>exact absurd (show false=true from fx) bD
 | str a=>
  obtain⟨t',rfl⟩:=ry
  cases x with
  | bg=>cases rx;exact HP a t'
  | bl b=>cases rx;exact SeqAt.EqAt.str_bool a t' b
  | int b=>obtain⟨t,rfl⟩:=rx;exact HN a t' b t
  | str b=>obtain⟨t,rfl⟩:=rx;exact SeqAt.EqAt.str_str a t' b t
  | _=>exact absurd (show false=true from fx) bD
 | _=>exact absurd (show false=true from fy) bD
def yK(x:V)(u:aaM):Bool:=match u with
 | .none=>Iy .bg x
 | .bool b=>Iy (.bl b) x
 | .int i _=>Iy (.int i) x
 | .str z _=>Iy (.str z) x
 | _=>false
theorem DZ{x y:V}{u:aaM}(r:RelV y u)(f:nA y=true):yK x u=Iy y x:=by
 cases y with
 | bg=>cases r;rfl
 | bl b=>cases r;rfl
 | int i=>obtain⟨t,rfl⟩:=r;rfl
 | str z=>obtain⟨t,rfl⟩:=r;rfl
 | _=>exact absurd (show false=true from f) bD
theorem oB{x:V}:∀{xs:List V}{us:List aaM},Vals xs us->xs.all nA=true->us.any (yK x)=xs.any λy=>Iy y x
 | _,_,.nil,_=>rfl
 | y::xs,u::us,.cons r t,f=>by
  rw[i7,ff] at f
  rw[i8,i8,DZ r f.1,oB t f.2]
theorem lP{A:aaH}{s:aaL}{x:V}{v:aaM}(rx:RelV x v)(fx:nA x=true):∀{xs:List V}{us:List aaM},Vals xs us->xs.all nA=true->∀u∈us,SeqAt.EqAt A s u v (yK x u)
 | _,_,.nil,_=>λu hu=>by cases hu
 | y::xs,u::us,.cons r t,f=>λu' hu=>by
  rw[i7,ff] at f
  rcases List.mem_cons.mp hu with rfl | hu
  ·rw[DZ r f.1];exact MK r rx f.1 fx
  ·exact lP rx fx t f.2 u' hu
def Sv(x:V)(xs:List V):Bool:=xs.any λy=>Iy y x
def WM(K:PySem.W.Frag)(neg:Bool):R2:=λx y H Q=>∃p xs,y= .ref p/\(lO K H p xs\/gN K H p xs)/\nA x=true/\xs.all nA=true/\Q (.bl (if neg then !Sv x xs else Sv x xs)) H
theorem BX:eM X (aaT .In) (WM X.K false):=by
 intro pins s σ H x y v u Q I rx ry h
 obtain⟨p,xs,rfl,hq,fx,fs,q⟩:=h
 cases ry
 rcases hq with hq | hq
 ·obtain⟨its,r,pl,hz⟩:=I.list hq
  refine SeqAt.in_listAt (yK x) pl.isList (λw hw=>lP rx fx r fs w (by simpa using hw)) ⟨.bl _,H,I,rfl,?_⟩
  rw[show its.toArray.any (yK x)=its.any (yK x) by simp,oB r fs]
  exact q
 ·obtain⟨its,r,pl,hz⟩:=I.tuple hq
  refine SeqAt.in_tupleAt (yK x) pl (λw hw=>lP rx fx r fs w (by simpa using hw)) ⟨.bl _,H,I,rfl,?_⟩
  rw[show its.toArray.any (yK x)=its.any (yK x) by simp,oB r fs]
  exact q
theorem vb:eM X (aaT .NotIn) (WM X.K true):=by
 intro pins s σ H x y v u Q I rx ry h
 obtain⟨p,xs,rfl,hq,fx,fs,q⟩:=h
 cases ry
 rcases hq with hq | hq
 ·obtain⟨its,r,pl,hz⟩:=I.list hq
  refine SeqAt.notIn_listAt (yK x) pl.isList (λw hw=>lP rx fx r fs w (by simpa using hw)) ⟨.bl _,H,I,rfl,?_⟩
  rw[show its.toArray.any (yK x)=its.any (yK x) by simp,oB r fs]
  exact q
 ·obtain⟨its,r,pl,hz⟩:=I.tuple hq
  refine SeqAt.notIn_tupleAt (yK x) pl (λw hw=>lP rx fx r fs w (by simpa using hw)) ⟨.bl _,H,I,rfl,?_⟩
  rw[show its.toArray.any (yK x)=its.any (yK x) by simp,oB r fs]
  exact q
theorem vc:eM X (aaT .NotIn) (λx y H Q=>∃i j,x= .str i/\y= .str j/\Q (.bl (!(!(yw j i 0 j.length 1).isEmpty))) H):=by
 intro pins s σ H x y v u Q I rx ry h
 obtain⟨i,j,rfl,rfl,q⟩:=h
 obtain⟨t,rfl⟩:=rx
 obtain⟨t',rfl⟩:=ry
 exact notIn_str ⟨.bl _,H,I,rfl,q⟩
theorem ve:dW X (.builtin "len") (λxs H Q=>∃p ys,xs=[.ref p]/\(lO X.K H p ys\/gN X.K H p ys)/\Q (.int ys.length) H):=by
 intro pins s σ H xs us Q I r h
 obtain⟨p,ys,rfl,hq,q⟩:=h
 obtain⟨u,rfl,rx⟩:=vals1 r
 cases rx
 have hn:=nM
 rcases hq with hq | hq
 ·obtain⟨its,r',pl,hz⟩:=I.list hq
  have hlen:=r'.length
  exact Calls.call_len_list pl.isList (by simp only[aT]<;>omega) ⟨.int ys.length,H,I.tok _,⟨s.toks+1,by rw[aT,hlen]⟩,q⟩
 ·obtain⟨its,r',pl,hz⟩:=I.tuple hq
  have hlen:=r'.length
  exact len_tuple pl (by simp only[aT]<;>omega) ⟨.int ys.length,H,I.tok _,⟨s.toks+1,by rw[aT,hlen]⟩,q⟩
theorem vf:dW X (.builtin "len") (λxs H Q=>∃z,xs=[.str z]/\z.length<=aaX/\Q (.int z.length) H):=by
 intro pins s σ H xs us Q I r h
 obtain⟨z,rfl,hz,q⟩:=h
 obtain⟨u,rfl,t,rfl⟩:=vals1 r
 have hn:=nM
 exact len_str (by omega) ⟨.int z.length,H,I.tok _,⟨_,rfl⟩,q⟩
theorem dW.or{f:aaM}{r r':List V->Hp->VK->Prop}(h:dW X f r)(h':dW X f r'):dW X f (λxs H Q=>r xs H Q\/r' xs H Q):=by
 intro pins s σ H xs us Q I rs q
 rcases q with q | q
 ·exact h pins s σ H xs us Q I rs q
 ·exact h' pins s σ H xs us Q I rs q
theorem vg:dW X (.type "list") (λxs H Q=>∃p ys,xs=[.ref p]/\(lO X.K H p ys\/gN X.K H p ys)/\∀l,H l=none->Q (.ref l) (upd H l (.lst ys))):=by
 intro pins s σ H xs us Q I r h
 obtain⟨p,ys,rfl,hq,q⟩:=h
 obtain⟨u,rfl,rx⟩:=vals1 r
 cases rx
 have fin:∀(its:List aaM),Vals ys its->ys.length<=aaX->∀(h':Heap)(c':Nat),(∀b o',s.heap.get? b=some o'->h'.get? b=some o')->
   h'.get? s.heap.objs.size=some { cls:=.type "list",dict:=none,data:=.seq its.toArray c',slots:=#[] }->EP X pins σ Q (.ref s.heap.objs.size) { s with heap:=h' }:=λits r' hz h' c' kp e=>
  ⟨.ref s.heap.objs.size,_,I.laid (t':=s.toks) kp (au _) (show dv X.prog X.w _ h' _ (.lst ys) from⟨hz,its,c',r',e⟩),rfl,q _ (I.hok.fresh (au _))⟩
 rcases hq with hq | hq
 ·obtain⟨its,r',pl,hz⟩:=I.list hq
  have hlen:=r'.length
  obtain⟨o,ho,hc,n,hd⟩:=pl.isList
  exact call_list_seq p (.inl rfl) ho hc hd (λh' c' kp e=>fin its r' hz h' c' kp e) (by simp only[aT]<;>omega)
 ·obtain⟨its,r',pl,hz⟩:=I.tuple hq
  have hlen:=r'.length
  obtain⟨o,ho,hc,n,hd⟩:=pl
  exact call_list_seq p (.inr rfl) ho hc hd (λh' c' kp e=>fin its r' hz h' c' kp e) (by simp only[aT]<;>omega)
theorem tE:dW X (.type "tuple") (λxs H Q=>∃p ys,xs=[.ref p]/\((lO X.K H p ys/\∀l,H l=none->Q (.ref l) (upd H l (.tup ys)))\/(gN X.K H p ys/\Q (.ref p) H))):=by
 intro pins s σ H xs us Q I r h
 obtain⟨p,ys,rfl,h⟩:=h
 obtain⟨u,rfl,rx⟩:=vals1 r
 cases rx
 rcases h with ⟨hq,q⟩ | ⟨hq,q⟩
 ·obtain⟨its,r',pl,hz⟩:=I.list hq
  have hlen:=r'.length
  refine call_tuple_list pl.isList (λh' kp=>?_) (by simp only[aT]<;>omega)
  have I1:Inv X pins σ H { s with heap:=h' }:=I.kept (t':=s.toks) kp
  have I2:Inv X pins σ (upd H h'.objs.size (.tup ys)) { s with heap:=h'.push { cls:=.type "tuple",data:=.seq its.toArray } } :=
   I1.laid (t':=s.toks) (λb o e=>bK _ e) (au _) (show dv X.prog X.w _ _ _ (.tup ys) from⟨hz,its,r',IsTup.new _ _,yp.new _ _⟩)
  exact⟨.ref h'.objs.size,_,I2,rfl,q _ (I1.hok.fresh (au _))⟩
 ·obtain⟨its,r',pl,hz⟩:=I.tuple hq
  exact call_tuple_same pl ⟨.ref p,H,I,rfl,q⟩
def Ui(K:PySem.W.Frag)(T:String)(x:V)(H:Hp):Prop:=match x with
 | .str _=>T="str"
 | .int _=>T="int"
 | .ref p=>(T="list"/\∃xs,lO K H p xs)\/(T="tuple"/\((∃o,K.lookup p=some o/\o.cls= .type "tuple"/\o.dict=none)\/∃xs,H p=some (.tup xs)))\/
   (T="dict"/\((∃kvs,H p=some (.dK kvs))\/∃kvs,H p=some (.dT kvs)))\/(T="set"/\∃S n,H p=some (.set S n))
 | _=>False
theorem D0{pins:List (aaG×Obj)}{σ:St}{H:Hp}{s:aaL}{T:String}{x:V}{v:aaM}(I:Inv X pins σ H s)(r:RelV x v)(ty:Ui X.K T x H) :
  s.TypeIs v T/\∀a,v= .ref a->∃ob,s.heap.get? a=some ob/\ob.dict=none:=by
 cases x with
 | str z=>
  obtain⟨t,rfl⟩:=r
  cases (show T="str" from ty)
  exact⟨typeIs_str s z t,λ_ e=>nomatch e⟩
 | int i=>
  obtain⟨t,rfl⟩:=r
  cases (show T="int" from ty)
  exact⟨typeIs_int s i t,λ_ e=>nomatch e⟩
 | ref p=>
  cases r
  rcases ty with ⟨rfl,xs,hq⟩ | ⟨rfl,⟨o,hk,hc,hd⟩ | ⟨xs,hk⟩⟩ | ⟨rfl,hk⟩ | ⟨rfl,S,n,hk⟩
  ·obtain⟨its,_,pl,_⟩:=I.list hq
   refine⟨pl.isList.typeIs,λa e=>?_⟩
   cases e
   obtain⟨o,n,e,c,hd,_⟩:=pl
   exact⟨o,e,hd⟩
  ·refine⟨⟨o,I.Ag p o hk,hc⟩,λa e=>?_⟩
   cases e
   exact⟨o,I.Ag _ o hk,hd⟩
  ·obtain⟨_,_,_,⟨o,e1,e2,_⟩,nd⟩:=I.hok p _ hk
   refine⟨⟨o,e1,e2⟩,λa e=>?_⟩
   cases e
   exact⟨o,e1,nd o e1⟩
  ·have z:∃o,s.heap.get? p=some o/\o.ExactDict:=by
    rcases hk with ⟨kvs,hk⟩ | ⟨kvs,hk⟩
    ·obtain⟨_,_,_,_,o,_,_,e,ex,_⟩:=I.hok p _ hk
     exact⟨o,e,ex⟩
    ·obtain⟨_,_,_,_,o,_,_,e,ex,_⟩:=I.hok p _ hk
     exact⟨o,e,ex⟩
   obtain⟨o,e,ex⟩:=z
   refine⟨⟨o,e,ex.1⟩,λa e2=>?_⟩
   cases e2
   exact⟨o,e,ex.2.1⟩
  ·obtain⟨o,_,_,_,e,ex,_⟩:=I.hok p _ hk
   refine⟨⟨o,e,ex.1⟩,λa e2=>?_⟩
   cases e2
   exact⟨o,e,ex.2.1⟩
 | _=>exact ae ty
def Yc(K:PySem.W.Frag)(T:String)(r:V->List V->Hp->VK->Prop)(to:TE)(t:TA):TE:=λσ H Q=>to σ H λx H1=>Ui K T x H1/\t σ H1 λxs H2=>r x xs H2 Q
variable {o e:Expr} {es:List Expr} {to:TE} {t:TA} {name:Str} {apos cpos:Pos} {T id:String} {r:V->List V->Hp->VK->Prop}
theorem K4(pa:PlainAttrs T)(slot:Slot T name id)(hty:typeOf (.builtin id)=pure (.type "method_descriptor"))(hm:Ug X id r)(ho:PE X o to)(ha:PA X (e::es) t)
  (hbase:attributeBase o name X.env (eval o X.env)=eval o X.env:=by rfl)
  (hfew:((backTo cpos (aaY (e::es) X.env)).all (λx=> !x.1)&&(backToKw cpos (keywordEach [] X.env)).all (λx=>x.1.isSome)
   &&decide ((e::es).length+([]:List Keyword).length+(if([]:List Keyword).isEmpty then 0 else 1) < 30))=true:=by rfl)
  (hline:(apos.endLine == cpos.line)=true:=by rfl)(hs:aaY (e::es) X.env=(false,eval e X.env)::aaY es X.env:=by rfl)(hplain:(backTo cpos (aaY es X.env)).any (·.1)=false:=by rfl) :
  PE X (.Call (.Attribute o name apos) (e::es) [] cpos) (Yc X.K T r to t):=by
 intro pins s σ H Q I h
 refine wpAny_Call_method_late hbase hfew hline rfl (a9 (ho pins s σ H _ I h) λv s1 ⟨x,H1,I1,r1,ty,q1⟩=>?_)
 obtain⟨h1,h2⟩:=D0 I1 r1 ty
 refine⟨T,id,pa,slot,hty,h1,h2,?_⟩
 have hA:=ha cpos pins s1 σ H1 _ I1 q1
 rw[hs] at hA ⊢
 refine vh (by show(false||(backTo cpos (aaY es X.env)).any (·.1))=false;rw[hplain]<;>rfl) (yL ?_)
 exact a9 hA λus s2 ⟨vs,H2,I2,r2,q2⟩=>hm pins s2 σ H2 x vs v us Q I2 r1 r2 q2
/- xs.append(e),list.index on a D3 tuple .. are Ug facts of 06m -/
end
def Sw(X:Cx)(id:String)(r:V->List V->Hp->VK->Prop):Prop :=
 ∀(pins:List (aaG×Obj))(s:aaL)(σ:St)(H:Hp)(x:V)(xs:List V)(v:aaM)(us:List aaM)(Q:VK),Inv X pins σ H s->RelV x v->Vals xs us->r x xs H Q->
  aaZ (model X.prog X.w) X.A (call (.builtin id) (v::us)) (EP X pins σ Q) X.xe s
theorem Vals.one:∀{x:V}{us:List aaM},Vals [x] us->∃u,us=[u]/\RelV x u
 | _,_,.cons r .nil=>⟨_,rfl,r⟩
theorem Vals.zero:∀{us:List aaM},Vals [] us->us=[]
 | _,.nil=>rfl
theorem Vals.dropLast{xs:List V}{us:List aaM}(h:Vals xs us):Vals xs.dropLast us.dropLast:=by
 induction h with
 | nil=>exact .nil
 | cons r t ih=>
  cases t with
  | nil=>exact .nil
  | cons q t'=>exact .cons r ih
theorem Vals.rep{xs:List V}{us:List aaM}(h:Vals xs us):∀k:Nat,Vals (aM k xs).flatten (aM k us).flatten
 | 0=> .nil
 | k+1=>by
  rw[iL,iL,rB,rB]
  exact Vals.append h (Vals.rep h k)
theorem yM{α:Type}(l:List α):l.eraseIdx (l.length - 1)=l.dropLast:=by
 induction l with
 | nil=>rfl
 | cons a r ih=>
  cases r with
  | nil=>rfl
  | cons b r=>
   have e:(a::b::r).length - 1=((b::r).length - 1)+1:=by
    have h1:(a::b::r).length=r.length+2:=rfl
    have h2:(b::r).length=r.length+1:=rfl
    omega
   rw[e,List.eraseIdx_cons_succ,ih]
   all_goals rfl
theorem foldl_rep(its:List aaM):∀(k:Nat)(acc:List aaM),
  List.foldl (λx1 x2=>x1++x2) acc.toArray (aM k its.toArray)=(acc++(aM k its).flatten).toArray
 | 0,acc=>by simp
 | k+1,acc=>by
  have e:acc.toArray++its.toArray=(acc++its).toArray:=by simp
  have e2:(acc++its)++(aM k its).flatten=acc++(aM (k+1) its).flatten:=by
   rw[iL,rB,vj]
  rw[<-e2,<-foldl_rep its k (acc++its),<-e,iL,rC]
section
variable {X:Cx} {pins:List (aaG×Obj)} {σ:St} {H:Hp} {s:aaL} {l b:aaG} {xs ys zs:List V}
theorem Inv.Iz{its its':List aaM}{n:Nat}{f:Array aaM->Array aaM}{t':Nat}(I:Inv X pins σ H s)(hH:H l=some (.lst xs))
  (e:s.heap.get? l=some { cls:=.type "list",data:=.seq its.toArray n })(hf:f its.toArray=its'.toArray)(hv:Vals ys its')(hz:ys.length<=aaX) :
  Inv X pins σ (upd H l (.lst ys)) { s with heap:=s.heap.update l (dB f),toks:=t' }:=by
 have q:=PySem.IsL.update e f
 rw[hf] at q
 refine I.write (x:=l) (e:=l) (by rw[hH];exact trivial) (.inl rfl) (λb' u hb hu=>(rp s.heap (dB f) (aH hb)).trans hu) ⟨_,q⟩ ?_
 exact⟨hz,its',_,hv,q⟩
theorem Inv.ML{its:List aaM}{t':Nat}(I:Inv X pins σ H s)(hv:Vals ys its)(hz:ys.length<=aaX) :
  Inv X pins σ (upd H s.heap.objs.size (.lst ys)) { s with heap:=s.heap.push { cls:=.type "list",data:=.seq its.toArray },toks:=t' } :=
 I.laid (λ_ _ q=>bK _ q) (au _) ⟨hz,its,0,hv,cE _ rfl⟩
theorem Inv.fresh(I:Inv X pins σ H s):H s.heap.objs.size=none:=I.hok.fresh (au _)
theorem Inv.BY(I:Inv X pins σ H s)(hH:H l=some (.lst xs)):xs.length<=aaX/\∃(its:List aaM)(n:Nat),Vals xs its/\xs.length=its.length/\s.heap.get? l=some { cls:=.type "list",data:=.seq its.toArray n }:=by
 obtain⟨z,its,n,r,e⟩:=I.hok l _ hH
 exact⟨z,its,n,r,r.length,e⟩
theorem rD{n:Nat}(h:n<=aaX):rE n=false:=by
 unfold rE
 exact decide_eq_false (by omega)
end
section
variable {X:Cx}
def IA:V->List V->Hp->VK->Prop:=λx vs H Q=>∃l xs y,x= .ref l/\vs=[y]/\H l=some (.lst xs)/\xs.length < aaX/\Q .bg (upd H l (.lst (xs++[y])))
theorem BZ:Sw X "list.append" IA:=by
 intro pins s σ H x vs v us Q I rx rv h
 obtain⟨l,xs,y,rfl,rfl,hH,hz,q⟩:=h
 cases rx
 obtain⟨u,rfl,ru⟩:=rv.one
 obtain⟨z,its,n,r,hl,e⟩:=I.BY hH
 refine call_meets F.slot_list_append ⟨_,e,rfl⟩ F.entry_list_append (F.args_list_append_2 _ _) (PySem.list_append l its.toArray n u (by rw[aT];omega)) ⟨e,?_⟩
 refine⟨.bg,_,I.Iz (its':=its++[u]) hH e (by simp) (r.append (.cons ru .nil)) ?_,rfl,q⟩
 rw[cF,List.length_singleton]
 omega
def IB:V->List V->Hp->VK->Prop:=λx vs H Q=>∃l b xs zs,x= .ref l/\vs=[.ref b]/\H l=some (.lst xs)/\H b=some (.lst zs)/\xs.length+zs.length<=aaX/\Q .bg (upd H l (.lst (xs++zs)))
theorem B0:Sw X "list.extend" IB:=by
 intro pins s σ H x vs v us Q I rx rv h
 obtain⟨l,b,xs,zs,rfl,rfl,hH,hB,hz,q⟩:=h
 cases rx
 obtain⟨u,rfl,ru⟩:=rv.one
 cases ru
 obtain⟨z,its,n,r,hl,e⟩:=I.BY hH
 obtain⟨z2,its2,n2,r2,hl2,e2⟩:=I.BY hB
 have hsz:its.toArray.size+its2.toArray.size<=aaX:=by rw[aT,aT];omega
 have wM:¬(!its.toArray.isEmpty&&rE (its.toArray.size+its2.toArray.size))=true:=by
  rw[rD hsz,D5]
  exact bD
 refine call_meets F.slot_list_extend ⟨_,e,rfl⟩ F.entry_list_extend (F.args_list_extend_2 _ _)
  (AutoSeq1.list_extend_list_list_0 l its.toArray n b its2.toArray n2 wM (by rw[aT];omega) (by omega)) ⟨e,e2,?_⟩
 refine⟨.bg,_,I.Iz (its':=its++its2) hH e (by simp) (r.append r2) ?_,rfl,q⟩
 rw[cF]
 omega
def Ql:V->List V->Hp->VK->Prop:=λx vs H Q=>∃l xs y,x= .ref l/\vs=[]/\H l=some (.lst xs)/\xs[xs.length - 1]? =some y/\Q y (upd H l (.lst xs.dropLast))
theorem MM:Sw X "list.pop" Ql:=by
 intro pins s σ H x vs v us Q I rx rv h
 obtain⟨l,xs,y,rfl,rfl,hH,hy,q⟩:=h
 cases rx
 have Yd:=rv.zero
 subst Yd
 obtain⟨z,its,n,r,hl,e⟩:=I.BY hH
 obtain⟨u,hu,ru⟩:=r.get hy
 have hy':its.toArray[its.toArray.size - 1]? =some u:=by
  show its.toArray[its.length - 1]? =some u
  rw[<-Array.getElem?_toList,<-hl]
  exact hu
 refine call_meets F.slot_list_pop ⟨_,e,rfl⟩ F.entry_list_pop (F.args_list_pop_1 _) (MeetsSeq.list_pop_last l its.toArray n u hy' (by rw[aT];omega)) ⟨e,?_⟩
 refine⟨y,_,I.Iz (its':=its.dropLast) hH e ?_ r.dropLast ?_,ru,q⟩
 ·show its.toArray.eraseIdxIfInBounds (its.toArray.size - 1)=its.dropLast.toArray
  rw[aT,List.eraseIdxIfInBounds_toArray,yM]
 ·rw[List.length_dropLast]
  omega
def Uj:R2:=λx y H Q=>∃l k xs,x= .ref l/\y= .int k/\H l=some (.lst xs)/\-(2 ^ 63)<=k/\k < 2 ^ 63/\xs.length * k.toNat<=aaX/\
 ∀p,H p=none->Q (.ref p) (upd H p (.lst (aM k.toNat xs).flatten))
theorem len_rep{α:Type}(xs:List α)(k:Nat):(aM k xs).flatten.length=k * xs.length:=by
 induction k with
 | zero=>simp
 | succ k ih=>rw[iL,rB,cF,ih,Nat.succ_mul,Nat.add_comm]
theorem MN:eM X (aaP .Mult) Uj:=by
 intro pins s σ H x y v u Q I rx ry h
 obtain⟨l,k,xs,rfl,rfl,hH,h1,h2,hz,q⟩:=h
 cases rx
 obtain⟨t,rfl⟩:=ry
 obtain⟨z,its,n,r,hl,e⟩:=I.BY hH
 have hlen:its.toArray.size * k.toNat<=aaX:=by rw[aT,<-hl];exact hz
 have hcap:¬its.toArray.size * k.toNat > (2 ^ 63 - 1) / 8:=by
  have:(aaX:Nat)<=(2 ^ 63 - 1) / 8:=by decide
  omega
 have hfit:¬(!Builtin.List.listFitsIndex k)=true:=by
  rw[fitsIndex_both h1 h2]
  exact bD
 have wM:¬rE (its.toArray.size * k.toNat)=true:=by
  rw[rD hlen]
  exact bD
 have hnew:List.foldl (λx1 x2=>x1++x2) #[] (aM (if its.toArray.isEmpty=true then 0 else k.toNat) its.toArray)=(aM k.toNat its).flatten.toArray:=by
  have f0:∀m:Nat,List.foldl (λx1 x2=>x1++x2) #[] (aM m its.toArray)=(aM m its).flatten.toArray:=λm=>by
   have:=foldl_rep its m []
   rw[Au] at this
   exact this
  rw[f0]
  cases its with
  | nil=>simp
  | cons a r'=>rw[if_neg (by simp)]
 refine wpAny_binaryOp_repeat_ref (T:="list") (U:="int") (by decide) ⟨_,e,rfl⟩ (λs'=>typeIs_int s' k t) noFill_list_mul F.fills_int_mul F.slot_int_rmul repeat_list F.slot_int_index.lookup
  (call_meets F.slot_int_rmul (typeIs_int s k t) F.entry_int_rmul (F.args_int_rmul_2 _ _) (int___rmul___int_list k t l its.toArray n)
   ⟨e,rfl,⟨_,e,rfl⟩,call_meets F.slot_list_mul ⟨_,e,rfl⟩ F.entry_list_mul (F.args_list_mul_2 _ _) (AutoListH.list___mul___list_int_3 l its.toArray n k t hfit hcap wM) ⟨e,?_⟩⟩)
 rw[hnew]
 exact⟨.ref _,_,I.ML (t':=s.toks) (r.rep k.toNat) (by rw[len_rep,Nat.mul_comm];exact hz),rfl,q _ I.fresh⟩
end
section
variable {prog:aaK} {w:aaN} {A:aaH} {E:aaM->aaL->Prop} {s:aaL}
set_option maxRecDepth 100000 in
end
section
variable {X:Cx}
end
end L2
namespace Att
open PySem PySem.W PySem.Calls PyProof.Rows
theorem qv{P:Params}{h:Heap}:∀(ns:List Int)(vs:List aaM),WellAll P h vs (ns.map WData.int)->IntsAre vs ns:=by
 intro ns
 induction ns with
 | nil=>
  intro vs w
  rw[pB] at w
  cases w
  exact .nil
 | cons n ns ih=>
  intro vs w
  rw[a6] at w
  cases w with
  | cons a b=>
   cases a
   exact .cons _ _ (ih _ b)
theorem B1{l:OpenLaw}{n:Nat}(hn:l.most=some n){P:Params}{h:Heap}{args:List WData}{vals:List aaM}
  (hpre:l.row.toRowW.claim.pre args=true)(hwl:WellAll P h vals args) :
  ∃a vs ns,vals=[aR a]/\args=[WData.list (ns.map WData.int)]/\h.get? a=some { cls:=.type "list",data:=.seq vs.toArray }/\IntsAre vs ns/\ns.length<=n:=by
 have hsh:WShape.hasAll [] args [.list .int]=true:=(pre_splitW hpre).1
 have hc:l.pre.holds [] { args:=args }=true:=(pre_splitW hpre).2
 obtain⟨d,r,rfl,h1,h2⟩:=hasAllW_cons hsh
 obtain rfl:=hasAllW_nil h2
 obtain⟨xs,rfl,h3⟩:=hasW_list h1
 obtain⟨ns,rfl⟩:=items_int h3
 have hlen:ns.length<=n:=by
  unfold OpenLaw.pre at hc
  have h4:(WTm.not (.lt (.lit (.int (n:Int))) (.len (.arg 0)))).holds [] { args:=[.list (ns.map .int)] }=true:=by
   have h4:=(holds_andW hc).1
   rw[hn] at h4
   exact h4
  have h5:=condW_of h4 (w_not (w_lt w_lit (w_len_list (w_arg rfl))))
  rw[bc] at h5
  refine Nat.le_of_not_lt λq=>?_
  have q':(n:Int) < ((ns.length:Nat):Int):=by omega
  first
   | (rw[decide_eq_true q'] at h5;exact absurd h5 (by decide))
   | (simp at h5;omega)
 cases hwl with
 | cons w1 w2=>
  cases w2
  cases w1 with
  | list ho hall=>exact⟨_,_,ns,rfl,rfl,ho,qv ns _ hall,hlen⟩
theorem B3(l:OpenLaw)(args:List WData):l.row.toRowW.claim.post args (.bool true) args=true :=
 postW_of (r:=l.row.toRowW) (X:=(true == true))
  (show WShape.has [] (.bool true) .bool=true by first | rfl | decide | simp[WShape.has,WShape.arms,WShape.armsAll])
  (show(WTm.eq .res (.lit (.bool true))).value [] { args:=args,res:=some (.bool true),after:=args }=some (.bool (true == true)) from w_eq_bool (w_res rfl) w_lit) rfl
theorem wN{l:OpenLaw}{n:Nat}{q:aaK}{loose:List Str}{XP:(Str->Option aaM)->Heap->Prop}{YP:aaN->Heap->Prop}{d:DefRec}
  (hn:l.most=some n)(hdf:d.params.defaults=[])
  (call:∀(w:aaN)(s₀ s₁:aaL)(mg mb:Str->Option aaM)(fa:aaG)(o:Obj)(pm cd doc:aaM)(a:aaG)(vs:List aaM)(ns:List Int),
   Ground q loose [] XP w s₀ mg mb s₁.heap->YP w s₁.heap->
   s₁.heap.get? fa=some o->o.data= .func (docDef d.name d.params d.body d.scope pm cd doc)->s₁.heap.CodeRec cd d.name->mg d.name=some (.ref fa)->
   s₁.heap.get? a=some { cls:=.type "list",data:=.seq vs.toArray }->IntsAre vs ns->ns.length<=n->s₁.gens=#[]->
   aaR (model l.prog w) callerA (.call (.ref fa) ⟨[.ref a],[]⟩) (λr s'=>r= .ok (.ret (.bool true))/\OldK s₁.heap s'.heap/\s'.os=s₁.os/\AllBare s'.gens) s₁) :
  WalkO q loose XP YP l.row.toRowW d [] (λf vs=>PySem.call f vs):=by
 intro w s₀ s₁ mg mb G Y fa o pm cd doc dV kV ho hd hcd hD hmg hg args vals as hpre hlay hrd hwl hlo
 obtain rfl:dV= .none:=Dflts.none hD hdf
 obtain rfl:kV= .none:=Dflts.noKw hD
 obtain⟨a,vs,ns,rfl,rfl,hobj,hints,hlen⟩:=B1 hn hpre hwl
 refine enter_call (codeAny_mono (call w s₀ s₁ mg mb fa o pm cd doc a vs ns G Y ho (fd_plain hd) hcd hmg hobj hints hlen hg) λr s' hq=>?_)
 obtain⟨rfl,h2,h3,h4⟩:=hq
 exact⟨.inl ⟨.bool true,.bool true,[],rfl,λ_=>rfl,.bool true,B3 l _,λ_=>⟨List.Pairwise.nil,λ_ hm=>(nomatch hm)⟩⟩,h2,h3,h4⟩
section
variable {prog:aaK} {w:aaN} {A:aaH} {E:aaM->aaL->Prop} {s:aaL} {K:Frag}
def nN(h:Heap):Heap:={ h with objs:=#[] }
theorem cH(h:Heap)(b:aaG):(nN h).get? b=none:=by
 cases e:(nN h).get? b with
 | none=>rfl
 | some o=>exact absurd (aX e) (vm _)
theorem vn{h:Heap}{L:aaG}{m:Str->Option aaM}(n:h.Ns L m):Fr (nN h) L h m :=
 ⟨n,λb o e=>(by rw[cH] at e;cases e),dX _⟩
end
end Att
namespace L2
open PySem PySem.Spec PyProof.Rows
theorem ug:∀{vs:List aaM}{ns:List Int},IntsAre vs ns->Vals (ns.map V.int) vs
 | _,_,.nil=> .nil
 | _,_,.cons n t h=> .cons ⟨t,rfl⟩ (ug h)
def IC(H:Hp):Prop:=∀b,H b=none\/∃o xs,H b=some (.iy o (.lst xs))
theorem D6{P:aaK}{w:aaN}{K:PySem.W.Frag}{mg mb:Str->Option aaM}{CX:Dr}{k:Nat}{fa a:aaG}{fd:aaI}{x:Str}{sp:Sp}{s₁:aaL}{vs:List aaM}{ns:List Int}
  (KX:K.In s₁.heap)(hns:s₁.heap.Ns aaW mg)(hb:s₁.heap.Ns builtinsNs mb)(Ye:∀x:Str,x≠"__name__"->mb x=aaQ x)(hlim:s₁.heap.NoLimit)(hg:s₁.gens=#[])
  (ha:s₁.heap.get? a=some { cls:=.type "list",data:=.seq vs.toArray })(hi:IntsAre vs ns)(hl:ns.length<=aaX)(hr:lK k callerA)
  (F:∀base:Heap,K.In base->base.Ns aaW mg->FnOk P w K mg base CX k fa fd [x] sp)(hbind:∀(s:aaL)(u:aaM),BindsTo s fd ⟨[u],[]⟩ [(x,u)])
  (O':∀H:Hp,IC H->lO K H a (ns.map V.int)->sp [.ref a] H (λv _=>v= .bl true) λ_ _ _=>False)
  (Uk:∀H e s',CX [] H s₁ (λ_ _ _=>False) e s'->False) :
  aaR (model P w) callerA (.call (.ref fa) ⟨[.ref a],[]⟩) (λr s'=>r= .ok (.ret (.bool true))/\OldK s₁.heap s'.heap/\s'.os=s₁.os/\AllBare s'.gens) s₁:=by
 have rv:=ug hi
 have Ul:=hi.length
 -- from an abstract heap in which nothing but the script may be tracked
 have core:∀H:Hp,IC H->lO K H a (ns.map V.int)->lI P w H s₁.heap->(∀b,H b≠none->b=a)->(H a≠none->K.lookup a=none)->
   aaR (model P w) callerA (.call (.ref fa) ⟨[.ref a],[]⟩) (λr s'=>r= .ok (.ret (.bool true))/\OldK s₁.heap s'.heap/\s'.os=s₁.os/\AllBare s'.gens) s₁:=by
  intro H hO hS hok hA hK
  have Av:∀{b:aaG}{o:Obj},s₁.heap.get? b=some o->H b=none->(uW s₁.heap H).get? b=some o:=λe n=>DE e n
  have Qb:∀{b:aaG}{o:Obj}{es:Array DictEntry}{ep:Nat},s₁.heap.get? b=some o->o.data= .dict es ep->H b=none:=λ{b o es ep} e d=>by
   cases q:H b with
   | none=>rfl
   | some u=>
    have e':b=a:=hA b (by rw[q];simp)
    subst e'
    rw[ha] at e;cases e
    have d':Data.seq vs.toArray _=Data.dict es ep:=d
    cases d'
  have Sx:∀{b:aaG}{m:Str->Option aaM},s₁.heap.Ns b m->(uW s₁.heap H).Ns b m:=λ{b m} ⟨o,es,ep,e,d,r⟩=>⟨o,es,ep,Av e (Qb e d),d,r⟩
  have WN:K.In (uW s₁.heap H):=λb o e=>Av (KX b o e) (by
   cases q:H b with
   | none=>rfl
   | some u=>
    have e':b=a:=hA b (by rw[q];simp)
    subst e'
    rw[hK (by rw[q];simp)] at e;cases e)
  have hM:Mod K mg (uW s₁.heap H):=⟨WN,Sx hns,⟨mb,Sx hb,Ye⟩,let ⟨mc,h1,h2⟩:=hlim;⟨mc,Sx h1,h2⟩⟩
  have e0:yB P w K mg (uW s₁.heap H) callerA [] s₁ H:=⟨rfl,hM,λb o e=>HU e,qG (BM _ _),trivial,λb hb=>absurd (show b∈([]:List aaG) from hb) (by simp),hok,.of_eq hg⟩
  refine codeAny_mono ((F _ WN (Sx hns)).run callerA [] s₁ H ⟨[.ref a],[]⟩ [.ref a] [.ref a] _ _ hr e0 (hbind s₁ (.ref a)) (.cons rfl .nil) (O' H hO hS)) λr s' h=>?_
  cases r with
  | error e=>exact(Uk H e s' h).elim
  | ok fl=>
   cases fl with
   | next=>exact ae h
   | brk=>exact ae h
   | cont=>exact ae h
   | ret u=>
    obtain⟨v,H',os,bare,un,Um,r',q⟩:=h
    have q':v= .bl true:=q
    subst q'
    obtain rfl:u=jA true:=r'
    refine⟨rfl,OldK.of_keep λb o e=>?_,os,bare⟩
    cases q:H b with
    | none=>exact un.keep b o e q (by intro z;exact absurd (show b∈([]:List aaG) from z) (by simp)) (by simp)
    | some u=>
     rcases hO b with z | ⟨ob,xs,z⟩
     ·rw[q] at z;cases z
     ·have z2:=un.oj b ob _ z
      obtain⟨e1,_⟩:=hok b _ z
      obtain⟨e2,_⟩:=Um b _ z2
      rw[e] at e1;cases e1
      exact e2
 cases hk:K.lookup a with
 | some o=>
  -- the script is one of the D3 own objects
  have e:=KX a o hk
  rw[ha] at e
  cases e
  refine core (λ_=>none) (λ_=> .inl rfl) (.inr ⟨_,vs.toArray,_,hk,rfl,rfl,rfl,by rw[aT,Ul];exact hl,by simpa using rv⟩) (λb u z=>by have z':(none:Option HO)=some u:=z;cases z') (λb z=>absurd rfl z) λz=>absurd rfl z
 | none=>
  refine core (λb=>if b=a then some (.iy { cls:=.type "list",data:=.seq vs.toArray } (.lst (ns.map V.int))) else none) (λb=>?_) (.inl (.inr ⟨{ cls:=.type "list",data:=.seq vs.toArray },if_pos rfl⟩)) (λb u z=>?_) (λb z=>?_) λ_=>hk
  ·by_cases hb:b=a
   ·exact .inr ⟨_,_,if_pos hb⟩
   ·exact .inl (if_neg hb)
  ·by_cases hb:b=a
   ·have z':=(if_pos hb).symm.trans z
    cases z'
    subst hb
    exact⟨ha,by rw[bc];exact hl,vs,_,rv,ha⟩
   ·have z':=(if_neg hb).symm.trans z
    cases z'
  ·by_cases hb:b=a
   ·exact hb
   ·exact absurd (if_neg hb) z
abbrev KOf{K:PySem.W.Frag}{h:Heap}(_:K.In h):PySem.W.Frag:=K
theorem walk_of{l:PySem.W.OpenLaw}{n k:Nat}{q:aaK}{loose:List Str}{XP:(Str->Option aaM)->Heap->Prop}{YP:aaN->Heap->Prop}{d:DefRec}{K:Params->PySem.W.Frag}{CX:aaN->Dr}{sp:aaN->Sp}{x:Str}
  (hn:l.most=some n)(hn2:n<=aaX)(hdf:d.params.defaults=[])(hr:lK k callerA)
  (hY:∀(w:aaN)(h:Heap),YP w h->(K w.params).In h)
  (F:∀(w:aaN)(mg:Str->Option aaM)(fa:aaG)(h:Heap),(K w.params).In h->h.Ns aaW mg->mg d.name=some (.ref fa)->
   ∃fd:aaI,(∀(s:aaL)(u:aaM),BindsTo s fd ⟨[u],[]⟩ [(x,u)])/\
    ∀base:Heap,(K w.params).In base->base.Ns aaW mg->FnOk l.prog w (K w.params) mg base (CX w) k fa fd [x] (sp w))
  (O':∀(w:aaN)(H:Hp)(a:aaG)(ns:List Int),ns.length<=n->IC H->lO (K w.params) H a (ns.map V.int)->sp w [.ref a] H (λv _=>v= .bl true) λ_ _ _=>False)
  (Uk:∀(w:aaN)(H:Hp)(s:aaL)(e:aaM)(s':aaL),CX w [] H s (λ_ _ _=>False) e s'->False) :
  PySem.W.WalkO q loose XP YP l.row.toRowW d [] (λf vs=>PySem.call f vs):=by
 refine Att.wN hn hdf λw s₀ s₁ mg mb fa o pm cd doc a vs ns G Y ho hd hcd hmg hobj hints hlen hg=>?_
 have KX:=hY w _ Y
 obtain⟨fd,hb,hF⟩:=F w mg fa _ KX G.T.g hmg
 exact D6 KX G.T.g G.T.b G.T.builtins G.T.nolimit hg hobj hints (aW hlen hn2) hr hF hb (λH hO hS=>O' w H a ns hlen hO hS) λH e s'=>Uk w H s₁ e s'
end L2
/- THE Yf Sy (shape;LID,My.* are WO):
   My.Adr: a structure of the addresses Uo your WQ names (classes,Pa);My.Txt K t: a structure (Prop) of the equations over K;
   My.MO:{K} {implicit addresses ..} (e1:nsIn K aaW "law"=some (some (.ref f))) (e2:K.lookup f=some ⟨oc,od,.func (fnOf "law" "law" params body scope dV kV doc pm an cdv ct),sl⟩) (e3:codeIn K cdv "law"=true) ..:∃t,My.Txt K t
set_option maxRecDepth 100000 in
set_option maxHeartbeats 0 in
theorem PySem.Challenge.cw_LID_holds:PySem.Challenge.rw_LID.Holds:=by
 w_on;o_law;k_head;(case hw=>w_witness2)
 k_fill
 refine L2.walk_of (l:=PySem.Challenge.rw_LID) (n:=63) (k:=40) (x:="script") (CX:=fun w => ..) (sp:=fun _ => My.sp_law) rfl (by decide) rfl ⟨rfl,by decide,by decide⟩ (fun w h Y => PySem.W.kIn_of Y) ?F ?S ?C
 case F=>
  intro w mg fa h KX G hmg
  have T:∃t,My.Txt (L2.KOf KX) t:=by
   dsimp only[L2.KOf] -- K Yg stand as «<heap const> w.params» for k_is
   refine' My.MO ?e1 ?e2 ?e3 ..
   (case e1=>PySem.W.k_is) -- in the order: a name -> its address -> its object -> its parts
   (case e2=>PySem.W.k_is)
   ..
  obtain⟨t,T⟩:=T
  have e0:=hmg.symm.trans (PySem.W.mg_of KX G T.law)
  cases e0 -- fa is the WR own address
  exact⟨_,λs u=> .of_eq rfl,λbase kb nb=>My.MP T kb nb⟩ -- if «.of_eq rfl» comes too early: refine' ⟨_,?b,λbase kb nb=>My.MP T kb nb⟩;exact λs u=> .of_eq rfl
 case S=>exact λw H a ns hl hO hS=> ..
 case C=>exact ..
(the tactic k_is has no namespace: write k_is) -/
namespace L2
open PySem PySem.Spec PyProof.Rows
def defArgs(s:Stmt):Arguments:=match s with
 | .FunctionDef _ a _ _ _ _ _ _ _ _=>a
 | _=>{ posonlyargs:=[],args:=[],vararg:=none,kwonlyargs:=[],kw_defaults:=[],kwarg:=none,defaults:=[] }
def defBody(s:Stmt):List Stmt:=match s with
 | .FunctionDef _ _ b _ _ _ _ _ _ _=>b
 | _=>[]
def defScope(s:Stmt):Scope:=match s with
 | .FunctionDef _ _ _ _ _ _ sc _ _ _=>sc
 | _=>{ kind:=.function,names:=[],isGenerator:=false,isCoroutine:=false }
abbrev CX0:Dr:=λ_ _ _ _ _ _=>False
structure MQ(K:PySem.W.Frag)(x qual:Str)(st:Stmt)(f:aaG)(fd:aaI):Prop where
 ex:∃(oc:aaM)(od:Option aaG)(kV doc pm:aaM)(an:Option aaG)(cdv ct:aaM)(osl:Array (Option aaM)),
  fd=PySem.W.fnOf x qual (defArgs st) (defBody st) (defScope st) .none kV doc pm an cdv ct/\K.lookup f=some ⟨oc,od,.func fd,osl⟩/\PySem.W.codeIn K cdv qual=true
 kp:PySem.W.keepIn K (.ref f)=true
section
variable {P:aaK} {w:aaN} {K:PySem.W.Frag} {mg:Str->Option aaM} {base:Heap}
theorem MQ.binds{x qual:Str}{st:Stmt}{f:aaG}{fd:aaI}{ps:List Str}(F:MQ K x qual st f fd)
  (h:∀(kV doc pm:aaM)(an:Option aaG)(cdv ct:aaM)(us:List aaM),us.length=ps.length->bindArgs (PySem.W.fnOf x qual (defArgs st) (defBody st) (defScope st) .none kV doc pm an cdv ct) ⟨us,[]⟩=pure (ps.zip us)):Binds K fd ps []:=by
 obtain⟨oc,od,kV,doc,pm,an,cdv,ct,osl,rfl,lk,hcd⟩:=F.ex
 exact .all (h kV doc pm an cdv ct)
theorem MR{x qual:Str}{st:Stmt}{f:aaG}{oc:aaM}{od an:Option aaG}{osl:Array (Option aaM)}{kV doc pm cdv ct:aaM}(l:K.lookup f=some ⟨oc,od,.func (PySem.W.fnOf x qual (defArgs st) (defBody st) (defScope st) .none kV doc pm an cdv ct),osl⟩)
  (c:PySem.W.codeIn K cdv qual=true)(k:PySem.W.keepIn K (.ref f)=true):MQ K x qual st f (PySem.W.fnOf x qual (defArgs st) (defBody st) (defScope st) .none kV doc pm an cdv ct):=⟨⟨oc,od,kV,doc,pm,an,cdv,ct,osl,rfl,l,c⟩,k⟩
end
section
variable {X:Cx}
end
section
variable {κ : Type} [DecidableEq κ]
def kH(kvs : List (κ×V))(k : κ) : Option V := (kvs.find? λkv=>decide (kv.1=k)).map (·.2)
def putK(kvs : List (κ×V))(k : κ)(v : V) : List (κ×V) :=
 if(kvs.any λkv=>decide (kv.1=k))=true then kvs.map (λkv=>if kv.1=k then(kv.1, v) else kv) else kvs++[(k, v)]
def rF(kvs : List (κ×V))(k : κ) : List (κ×V) := kvs.filter λkv=>decide (kv.1≠k)
theorem oC{p : κ×V}{r : List (κ×V)}{k : κ}(e : p.1=k) : kH (p::r) k=some p.2 := by simp[kH, pC, e]
theorem oD{p : κ×V}{r : List (κ×V)}{k : κ}(e : ¬p.1=k) : kH (p::r) k=kH r k := by simp[kH, pC, e]
theorem wO(k : κ) : ∀kvs : List (κ×V), (kvs.any λkv=>decide (kv.1=k))=(kH kvs k).isSome
 | []=>rfl
 | p::r=>by
  rw[i8]
  by_cases e : p.1=k
  ·simp only[oC e, decide_eq_true e, Bool.true_or, ID]
  ·rw[oD e, decide_eq_false e, Bool.false_or];exact wO k r
theorem qj(kvs : List (κ×V))(k : κ)(v : V) : (putK kvs k v).length<=kvs.length+1 := by
 unfold putK
 split
 ·rw[bc];omega
 ·rw[cF, cG, jK];omega
theorem oh.B4{o : Option V}{u : Option aaM}(r : oh o u) : o.isSome=u.isSome := by
 cases o with
 | none=>cases u with
  | none=>rfl
  | some _=>exact(show False from r).elim
 | some _=>cases u with
  | none=>exact(show False from r).elim
  | some _=>rfl
theorem oh.getD{o : Option V}{u : Option aaM}{d : V}{d' : aaM}(r : oh o u)(rd : RelV d d') : RelV (o.getD d) (u.getD d') := by
 cases o with
 | none=>cases u with
  | none=>exact rd
  | some _=>exact(show False from r).elim
 | some _=>cases u with
  | none=>exact(show False from r).elim
  | some _=>exact r
theorem KV.val{kvs : List (κ×V)}{vs : List (κ×aaM)}(r : KV kvs vs)(k : κ) : oh (kH kvs k) (valueAt vs k) := by
 unfold KV at r
 induction r with
 | nil=>exact qH
 | @cons p q ps qs h t ih=>
  obtain⟨h1, h2⟩ := h
  by_cases e : p.1=k
  ·have e' : q.1=k := h1.symm.trans e
   have b : valueAt (q::qs) k=some q.2 := by simp[valueAt, pC, e']
   rw[oC e, b];exact h2
  ·have e' : ¬q.1=k := λz=>e (h1.trans z)
   have b : valueAt (q::qs) k=valueAt qs k := by simp[valueAt, pC, e']
   rw[oD e, b];exact ih
theorem KV.any{kvs : List (κ×V)}{vs : List (κ×aaM)}(r : KV kvs vs)(k : κ) : (kvs.any λkv=>decide (kv.1=k))=vs.any λkv=>decide (kv.1=k) := by
 unfold KV at r
 induction r with
 | nil=>rfl
 | cons h t ih=>rw[i8, i8, ih, h.1]
theorem KV.repl{kvs : List (κ×V)}{vs : List (κ×aaM)}(r : KV kvs vs)(k : κ){y : V}{u : aaM}(ry : RelV y u) :
  KV (kvs.map λkv=>if kv.1=k then(kv.1, y) else kv) (vs.map λkv=>if kv.1=k then(kv.1, u) else kv) := by
 unfold KV at r ⊢
 induction r with
 | nil=>exact .nil
 | @cons p q ps qs h t ih=>
  rw[a6, a6]
  refine .cons ?_ ih
  obtain⟨h1, h2⟩ := h
  by_cases e : p.1=k
  ·rw[if_pos e, if_pos (h1.symm.trans e)];exact⟨h1, ry⟩
  ·rw[if_neg e, if_neg (λz=>e (h1.trans z))];exact⟨h1, h2⟩
theorem KV.put{kvs : List (κ×V)}{vs : List (κ×aaM)}(r : KV kvs vs)(k : κ){y : V}{u : aaM}(ry : RelV y u) : KV (putK kvs k y) (stored vs k u) := by
 unfold putK stored
 rw[r.any k]
 by_cases e : (vs.any λkv=>decide (kv.1=k))=true
 ·rw[if_pos e, if_pos e];exact r.repl k ry
 ·rw[if_neg e, if_neg e];exact Paired.snoc r ⟨rfl, ry⟩
theorem KV.length{kvs : List (κ×V)}{vs : List (κ×aaM)}(r : KV kvs vs) : kvs.length=vs.length := Paired.length r
end
theorem wQ{P : aaK}{w : aaN}{k : Key}{u : aaM}(r : RelV (kV k) u) : (bp P w).is k u=true := by
 cases k with
 | inl i=>obtain⟨t, e⟩ := (show ∃t, u=og i t from r);subst e;exact wF P w i t
 | inr x=>obtain⟨t, e⟩ := (show ∃t, u=mz x t from r);subst e;exact wG P w x t
 | bg=>rw[show u=bC from r];rfl
theorem uh{P : aaK}{w : aaN} : ∀{ks : List Key}{us : List aaM}, Vals (ks.map kV) us->ItemsAre (bp P w) ks us
 | [], _, r=>by rw[pB] at r;cases r;exact .nil
 | k::ks, _, r=>by
  rw[a6] at r
  cases r with
  | cons h t=>exact .cons (wQ h) (uh t)
abbrev KT(H : Hp) : List (List Key×V)->List (List Key×aaG×aaM)->Prop := Paired λp q=>p.1=q.1/\H q.2.1=some (.tup (p.1.map kV))/\RelV p.2 q.2.2
theorem KT.val{H : Hp}{kvs : List (List Key×V)}{xs : List (List Key×aaG×aaM)}(r : KT H kvs xs)(k : List Key) : oh (kH kvs k) ((atKey xs k).map (·.2)) := by
 induction r with
 | nil=>exact qH
 | @cons p q ps qs h t ih=>
  obtain⟨h1, _, h2⟩ := h
  by_cases e : p.1=k
  ·have e' : q.1=k := h1.symm.trans e
   have b : atKey (q::qs) k=some q.2 := by simp[atKey, pC, e']
   rw[oC e, b];exact h2
  ·have e' : ¬q.1=k := λz=>e (h1.trans z)
   have b : atKey (q::qs) k=atKey qs k := by simp[atKey, pC, e']
   rw[oD e, b];exact ih
theorem KT.repl{H : Hp}{kvs : List (List Key×V)}{xs : List (List Key×aaG×aaM)}(r : KT H kvs xs)(k : List Key){y : V}{u : aaM}(ry : RelV y u) :
  KT H (kvs.map λkv=>if kv.1=k then(kv.1, y) else kv) (xs.map (putAt k u)) := by
 induction r with
 | nil=>exact .nil
 | @cons p q ps qs h t ih=>
  rw[a6, a6]
  refine .cons ?_ ih
  obtain⟨h1, h2, h3⟩ := h
  unfold putAt
  by_cases e : p.1=k
  ·rw[if_pos e, if_pos (h1.symm.trans e)];exact⟨h1, h2, ry⟩
  ·rw[if_neg e, if_neg (λz=>e (h1.trans z))];exact⟨h1, h2, h3⟩
theorem KT.put{H : Hp}{kvs : List (List Key×V)}{xs : List (List Key×aaG×aaM)}(r : KT H kvs xs)(k : List Key){b : aaG}{y : V}{u : aaM}(hb : H b=some (.tup (k.map kV)))(ry : RelV y u) :
  KT H (putK kvs k y) (storedH xs k b u) := by
 have e : (kvs.any λkv=>decide (kv.1=k))=(atKey xs k).isSome := by
  rw[wO, (r.val k).B4, Option.isSome_map]
 unfold putK storedH
 rw[e]
 by_cases q : (atKey xs k).isSome=true
 ·rw[if_pos q, if_pos q];exact r.repl k ry
 ·rw[if_neg q, if_neg q];exact Paired.snoc r ⟨rfl, hb, ry⟩
theorem KT.keeps{H H' : Hp}{kvs : List (List Key×V)}{xs : List (List Key×aaG×aaM)}(r : KT H kvs xs)(ht : ∀b ys, H b=some (.tup ys)->H' b=some (.tup ys)) : KT H' kvs xs :=
 Paired.LY r λ_ _ z=>⟨z.1, ht _ _ z.2.1, z.2.2⟩
section
variable {P : aaK} {w : aaN} {H : Hp} {h : Heap} {a : aaG}
theorem D7{u : HO}(ok : lI P w H h)(e : Rd H a u) : dv P w H h a u := e.ok ok
theorem uj{kvs : List (Key×V)}(ok : lI P w H h)(e : Rd H a (.dK kvs)) : kvs.length<=aaX/\(a == sysModules)=false/\∃vs, KV kvs vs/\h.DictOf (bp P w) a vs :=
 show dv P w H h a (.dK kvs) from D7 ok e
theorem Qm{kvs : List (Key×V)}(ok : lI P w H h)(e : H a=some (.dK kvs)) : kvs.length<=aaX/\(a == sysModules)=false/\∃vs, KV kvs vs/\h.DictOf (bp P w) a vs := uj ok (.inl e)
theorem nO{ks : List Key}(ok : lI P w H h)(e : H a=some (.tup (ks.map kV))) : (tupleKind (bp P w)).is h ks a := by
 obtain⟨_, its, r, ⟨o, h1, h2, n, h3⟩, _⟩ := (show dv P w H h a (.tup (ks.map kV)) from ok a _ e)
 exact⟨o, its.toArray, n, h1, h2, h3, by simpa using uh r⟩
theorem qk{kvs : List (List Key×V)}(ok : lI P w H h)(e : Rd H a (.dT kvs)) : kvs.length<=aaX/\(a == sysModules)=false/\
  ∃xs, KT H kvs xs/\h.DictOfH (tupleKind (bp P w)) a xs := by
 obtain⟨z, y, xs, r, o, es, ep, h1, h2, h3, h4, h5⟩ := (show dv P w H h a (.dT kvs) from D7 ok e)
 refine⟨z, y, xs, r, o, es, ep, h1, h2, h3, h4, λx hx=>?_, h5⟩
 have all : ∀{l : List (List Key×V)}{m : List (List Key×aaG×aaM)}, KT H l m->∀x∈m, (tupleKind (bp P w)).is h x.1 x.2.1 := by
  intro l m q
  induction q with
  | nil=>intro x hx;exact nomatch hx
  | @cons p q ps qs hq t ih=>
   intro x hx
   rcases List.mem_cons.mp hx with e | hx
   ·subst e
    exact nO ok (by rw[<-hq.1];exact hq.2.1)
   ·exact ih x hx
 exact all r x hx
theorem K6{kvs : List (List Key×V)}(ok : lI P w H h)(e : H a=some (.dT kvs)) : kvs.length<=aaX/\(a == sysModules)=false/\
  ∃xs, KT H kvs xs/\h.DictOfH (tupleKind (bp P w)) a xs := qk ok (.inl e)
end
def nj(H : Hp)(a : aaG)(y : V)(r : Option V) : Prop :=
 (∃kvs k, Rd H a (.dK kvs)/\y=kV k/\r=kH kvs k)\/∃kvs k b, Rd H a (.dT kvs)/\y= .ref b/\H b=some (.tup (k.map kV))/\r=kH kvs k
def tF(H : Hp)(a : aaG)(y v : V)(H' : Hp) : Prop :=
 (∃kvs k, H a=some (.dK kvs)/\y=kV k/\kvs.length < aaX/\H'=upd H a (.dK (putK kvs k v)))\/
 ∃kvs k b, H a=some (.dT kvs)/\y= .ref b/\H b=some (.tup (k.map kV))/\kvs.length < aaX/\H'=upd H a (.dT (putK kvs k v))
theorem nj.k{H : Hp}{a : aaG}{kvs : List (Key×V)}{k : Key}(e : H a=some (.dK kvs)) : nj H a (kV k) (kH kvs k) := .inl ⟨kvs, k, .inl e, rfl, rfl⟩
theorem nj.t{H : Hp}{a b : aaG}{kvs : List (List Key×V)}{k : List Key}(e : H a=some (.dT kvs))(eb : H b=some (.tup (k.map kV))) : nj H a (.ref b) (kH kvs k) := .inr ⟨kvs, k, b, .inl e, rfl, eb, rfl⟩
theorem tF.k{H : Hp}{a : aaG}{kvs : List (Key×V)}{k : Key}{v : V}(e : H a=some (.dK kvs))(hl : kvs.length < aaX) : tF H a (kV k) v (upd H a (.dK (putK kvs k v))) := .inl ⟨kvs, k, e, rfl, hl, rfl⟩
theorem tF.t{H : Hp}{a b : aaG}{kvs : List (List Key×V)}{k : List Key}{v : V}(e : H a=some (.dT kvs))(eb : H b=some (.tup (k.map kV)))(hl : kvs.length < aaX) :
  tF H a (.ref b) v (upd H a (.dT (putK kvs k v))) := .inr ⟨kvs, k, b, e, rfl, eb, hl, rfl⟩
section
variable {X : Cx} {pins : List (aaG×Obj)} {σ : St} {H : Hp} {s : aaL} {a : aaG} {y v : V} {u r : aaM} {o : Option V} {A : aaH} {E : aaM->aaL->Prop}
theorem Inv.big(I : Inv X pins σ H s) : sysModules < s.heap.objs.size := by
 have h : aaW < s.heap.objs.size := (I.mod.glob.keeps I.bk).lt
 exact Aw (by decide) h
theorem uk{Q : aaM->aaL->Prop}(hu : A.units+1 < cLine)(I : Inv X pins σ H s)(g : nj H a y (some v))(ry : RelV y u)(h : ∀w' s', Inv X pins σ H s'->RelV v w'->Q w' s') :
  aaZ (model X.prog X.w) A (getItem (.ref a) u) Q E s := by
 rcases g with ⟨kvs, k, e, ey, l⟩ | ⟨kvs, k, b, e, ey, eb, l⟩
 ·subst ey
  obtain⟨z, hd, vs, rel, dd⟩ := uj I.hok e
  obtain⟨w', hw, rw'⟩ := oh.some_of (v := v) (o := valueAt vs k) (by rw[l];exact rel.val k)
  exact wpAny_getItem_of (wQ ry) dd.mapOf hw (h w' _ (I.tok _) rw')
 ·subst ey
  cases (show u=aR b from ry)
  obtain⟨z, hd, xs, rel, dd⟩ := qk I.hok e
  obtain⟨w', hw, rw'⟩ := oh.some_of (v := v) (o := (atKey xs k).map (·.2)) (by rw[l];exact rel.val k)
  obtain⟨p, hp, hp2⟩ := Option.map_eq_some_iff.mp hw
  refine wpAny_getItem_heap (tupleKind_room_in1 hu) (nO I.hok eb) dd hp ?_
  rw[hp2]
  exact h w' _ (I.tok _) rw'
theorem vo{h' : Heap}{t' : Nat}{ob : HO}(I : Inv X pins σ H s)(mu : Pr (H a))(hs : u0 a s.heap h')(he : ∃q, h'.get? a=some q)(new : dv X.prog X.w (upd H a ob) h' a ob) :
  Inv X pins σ (upd H a ob) { s with heap := h', toks := t' } :=
 I.write (x := a) (e := a) mu (.inl rfl) (λb q hb z=>(hs.2 b hb).trans z) he new
theorem MS{P : aaK}{w : aaN}{H' : Hp}{h' : Heap}{kvs : List (Key×V)}{vs : List (Key×aaM)}(z : kvs.length<=aaX)(hd : (a == sysModules)=false)(rel : KV kvs vs)(dd : h'.DictOf (bp P w) a vs) :
  dv P w H' h' a (.dK kvs) :=⟨z, hd, vs, rel, dd⟩
theorem um{H' : Hp}{Q : Unit->aaL->Prop}(hu : A.units+1 < cLine)(I : Inv X pins σ H s)(g : tF H a y v H')(ry : RelV y u)(rv : RelV v r)(h : ∀s', Inv X pins σ H' s'->Q () s') :
  aaZ (model X.prog X.w) A (setItem (.ref a) u r) Q E s := by
 rcases g with ⟨kvs, k, e, ey, l, eH⟩ | ⟨kvs, k, b, e, ey, eb, l, eH⟩
 ·subst ey eH
  obtain⟨z, hd, vs, rel, dd⟩ := Qm I.hok e
  have hz : vs.length<=aaX := by rw[<-rel.length];exact z
  have hl : (putK kvs k v).length<=aaX := by have := qj kvs k v;omega
  refine wpAny_setItem_pairs (hsz := hz) (wQ ry) dd λh' Qn hs=>h _ ?_
  have he : ∃q, h'.get? a=some q := let ⟨q, _, _, hq, _⟩ := Qn;⟨q, hq⟩
  exact vo I (by rw[e];exact qH) hs he (MS hl hd (rel.put k rv) Qn)
 ·subst ey eH
  cases (show u=aR b from ry)
  obtain⟨z, hd, xs, rel, dd⟩ := K6 I.hok e
  have hz : xs.length<=aaX := by rw[<-Paired.length rel];exact z
  have hl : (putK kvs k v).length<=aaX := by have := qj kvs k v;omega
  refine wpAny_setItem_heap (hsz := hz) (tupleKind_room_in1 hu) (nO I.hok eb) dd λh' Qn hs=>h _ ?_
  obtain⟨q, es, ep, hq, h2, h3, h4, _, h5⟩ := Qn
  refine vo I (by rw[e];exact qH) hs ⟨q, hq⟩ ⟨hl, hd, _, (rel.put k eb rv).keeps λc ys ec=>?_, q, es, ep, hq, h2, h3, h4, h5⟩
  rw[aw (KR ec e (λz=>nomatch z))]
  exact ec
end
section
variable {X : Cx} {pins : List (aaG×Obj)} {σ : St} {H : Hp} {s : aaL} {a : aaG} {kvs : List (Key×V)} {k : Key} {u : aaM} {A : aaH} {E : aaM->aaL->Prop}
end
def D8(i : Expr) : Prop := ∀ov iv, subscripted i false ov iv=operate [ov, iv] (getItem ov iv)
theorem Ax{prog : aaK}{w : aaN}{A : aaH}{E : aaM->aaL->Prop}{s : aaL}{env : Env}{value slice : Expr}{pos : Pos}{T id : String}{Q : aaM->aaL->Prop}
  (hl : typeLookup (.type T) "__getitem__"=pure (some (.builtin id)))(hs : D8 slice)
  (h : aaZ (model prog w) A (eval value env) (λo s₁=>aaZ (model prog w) A (eval slice env) (λi s₂=>s₂.TypeIs o T/\aaZ (model prog w) A (getItem o i) Q E s₂) E s₁) E s) :
  aaZ (model prog w) A (eval (.Subscript value slice pos) env) Q E s := by
 refine Subscript_ (aa3 h (λo s₁ h₁=>aa3 h₁ (λi s₂ h₂=>?_) λ_ _ x=>x) λ_ _ x=>x)
 obtain⟨hT, h₂⟩ := h₂
 unfold subscriptTail
 refine aa0 ?_
 rw[getitemInPython_of_ne hT.not_modules]
 refine aa0 (wpAny_specialOf hT hl ?_)
 have fin : aaZ (model prog w) A (subscripted slice false o i) (λr s₃=>aaZ (model prog w) A (letTemporaryGo value o r >>= λ_=>pure r) Q E s₃) E s₂ := by
  rw[hs o i]
  exact wpAny_operating (aa3 h₂ (λr s₃ h₃=>aa0 (wpAny_letTemporaryGo (aa6 h₃))) λ_ _ x=>x)
 first
  | exact aa6 (aa0 fin)
  | exact aa0 (aa6 (aa0 fin))
  | exact aa0 fin
theorem wR{X : Cx}{pins : List (aaG×Obj)}{σ : St}{H : Hp}{s : aaL}{a : aaG}{y : V}{o : Option V}(I : Inv X pins σ H s)(g : nj H a y o) : s.TypeIs (.ref a) "dict" := by
 rcases g with ⟨kvs, k, e, _, _⟩ | ⟨kvs, k, b, e, _, _, _⟩
 ·obtain⟨_, _, vs, _, dd⟩ := uj I.hok e
  exact dd.typeIs
 ·obtain⟨_, _, xs, _, dd⟩ := qk I.hok e
  exact dd.typeIs
def Qo(td ty : TE) : TE := λσ H Q=>td σ H λx H1=>ty σ H1 λy H2=>∃a v, x= .ref a/\nj H2 a y (some v)/\Q v H2
def Qp(td ty tv : TE) : TS := λD σ H=>tv σ H λv H1=>td σ H1 λx H2=>ty σ H2 λy H3=>∃a H4, x= .ref a/\tF H3 a y v H4/\D.nx σ H4
def Qq(td ty tv : TE)(rd : V->V->Hp->VK->Prop) : TS := λD σ H=>td σ H λx H1=>ty σ H1 λy H2=>∃a v, x= .ref a/\nj H2 a y (some v)/\
 tv σ H2 λy2 H3=>rd v y2 H3 λz H4=>∃H5, tF H4 a y z H5/\D.nx σ H5
section
variable {X : Cx} {o i e value : Expr} {pos pos' tpos : Pos} {td ty tv : TE}
theorem IE(hu : X.A.units+1 < cLine)(ho : PE X o td)(hi : PE X i ty)(hs : D8 i) : PE X (.Subscript o i pos) (Qo td ty) := by
 intro pins s σ H Q I h
 refine Ax PySem.F.slot_dict_getitem.lookup hs (a9 (ho pins s σ H _ I h) λu s1 ⟨x, H1, I1, rx, q1⟩=>a9 (hi pins s1 σ H1 _ I1 q1) λiv s2 ⟨y, H2, I2, ry, a, v, ex, g, q2⟩=>?_)
 subst ex
 obtain rfl : u=aR a := rx
 exact⟨wR I2 g, uk hu I2 g ry λw' s3 I3 rw'=>⟨v, H2, I3, rw', q2⟩⟩
theorem IF(hu : X.A.units+1 < cLine)(ho : PE X o td)(hi : PE X i ty)(hv : PE X value tv)(hs : swapsWith value (some (.Subscript o i pos')) pos.line X.env=pure false) :
  PS X (.Assign [.Subscript o i pos'] value pos) (Qp td ty tv) := by
 intro pins s σ H D I h
 refine wpAny_Assign_Subscript (a9 (hv pins s σ H _ I h) λr s1 ⟨v, H1, I1, rv, q1⟩=>a9 (ho pins s1 σ H1 _ I1 q1) λu s2 ⟨x, H2, I2, rx, q2⟩=>a9 (hi pins s2 σ H2 _ I2 q2) λiv s3 ⟨y, H3, I3, ry, a, H4, ex, g, q3⟩=>?_) hs
 subst ex
 obtain rfl : u=aR a := rx
 exact um hu I3 g ry rv λs4 I4=>⟨σ, H4, I4, q3⟩
theorem IG{op : Operator}{rd : V->V->Hp->VK->Prop}(hu : X.A.units+1 < cLine)(ho : PE X o td)(hi : PE X i ty)(hv : PE X value tv)(hop : P9 X op rd)
  (ha : ∀ov iv new, augStore i ov iv new=(do holding [new, ov, iv] (setItem ov iv new);release [new, ov, iv] [];pure .next)) : PS X (.AugAssign (.Subscript o i tpos) op value pos) (Qq td ty tv rd) := by
 intro pins s σ H D I h
 refine wpAny_AugAssign_SubscriptAny (a9 (ho pins s σ H _ I h) λu s1 ⟨x, H1, I1, rx, q1⟩=>a9 (hi pins s1 σ H1 _ I1 q1) λiv s2 ⟨y, H2, I2, ry, a, v, ex, g, q2⟩=>?_) ha
 subst ex
 obtain rfl : u=aR a := rx
 refine uk hu I2 g ry λw' s3 I3 rw'=>a9 (hv pins s3 σ H2 _ I3 q2) λw2 s4 ⟨y2, H3, I4, Sz, q3⟩=>a9 (hop pins s4 σ H3 v y2 w' w2 _ I4 rw' Sz q3) λw3 s5 ⟨z, H4, I5, rz, H5, g5, q4⟩=>?_
 exact um hu I5 g5 ry rz λs6 I6=>⟨σ, H5, I6, q4⟩
end
theorem D9{P : aaK}{w : aaN}{H : Hp}(h : Heap)(hb : sysModules < h.objs.size) : dv P w H (h.push { cls := .type "dict", data := .dict #[] }) h.objs.size (.dK []) :=
 ⟨dX _, beq_eq_false_iff_ne.mpr (aH (bW hb)), [], .nil, Heap.DictOf.new h⟩
theorem D_{P : aaK}{w : aaN}{H : Hp}(h : Heap)(hb : sysModules < h.objs.size) : dv P w H (h.push { cls := .type "dict", data := .dict #[] }) h.objs.size (.dT []) :=
 ⟨dX _, beq_eq_false_iff_ne.mpr (aH (bW hb)), [], .nil, _, #[], 0, cE _ rfl, ⟨rfl, rfl, rfl⟩, rfl, rfl, Ay⟩
def MT : TE := λ_ H Q=>∀p, H p=none->Q (.ref p) (upd H p (.dK []))
def MU : TE := λ_ H Q=>∀p, H p=none->Q (.ref p) (upd H p (.dT []))
section
variable {X : Cx} {pos : Pos}
theorem Ea : PE X (.Dict [] [] pos) MT := λpins s σ H Q I h=>
 wpAny_Dict_empty ⟨.ref s.heap.objs.size, _, I.laid (a := s.heap.objs.size) (o := .dK []) (t' := s.toks) (λ_ _ q=>bK _ q) (au _) (D9 s.heap I.big), rfl, h _ (I.hok.fresh (au _))⟩
theorem Eb : PE X (.Dict [] [] pos) MU := λpins s σ H Q I h=>
 wpAny_Dict_empty ⟨.ref s.heap.objs.size, _, I.laid (a := s.heap.objs.size) (o := .dT []) (t' := s.toks) (λ_ _ q=>bK _ q) (au _) (D_ s.heap I.big), rfl, h _ (I.hok.fresh (au _))⟩
end
structure M1(X : Cx)(o : Expr)(m : Str)(apos : Pos)(e : Expr)(cpos : Pos) : Prop where
 base : attributeBase o m X.env (eval o X.env)=eval o X.env
 few : ((backTo cpos (aaY [e] X.env)).all (λx=> !x.1)&&(backToKw cpos (keywordEach [] X.env)).all (λx=>x.1.isSome)
  &&decide (([e] : List Expr).length+([] : List Keyword).length+(if([] : List Keyword).isEmpty then 0 else 1) < 30))=true
 line : (apos.endLine == cpos.line)=true
 trees : backTo cpos (aaY [e] X.env)=[(false, eval e X.env)]
structure M2(X : Cx)(o : Expr)(m : Str)(apos : Pos)(e f : Expr)(cpos : Pos) : Prop where
 base : attributeBase o m X.env (eval o X.env)=eval o X.env
 few : ((backTo cpos (aaY [e, f] X.env)).all (λx=> !x.1)&&(backToKw cpos (keywordEach [] X.env)).all (λx=>x.1.isSome)
  &&decide (([e, f] : List Expr).length+([] : List Keyword).length+(if([] : List Keyword).isEmpty then 0 else 1) < 30))=true
 line : (apos.endLine == cpos.line)=true
 trees : backTo cpos (aaY [e, f] X.env)=[(false, eval e X.env), (false, eval f X.env)]
def SD(H : Hp)(a : aaG) : Prop := (∃kvs, Rd H a (.dK kvs))\/∃kvs, Rd H a (.dT kvs)
theorem Ec{X : Cx}{pins : List (aaG×Obj)}{σ : St}{H : Hp}{s : aaL}{a : aaG}(I : Inv X pins σ H s)(d : SD H a) :
  s.TypeIs (.ref a) "dict"/\(∀b, aR a= .ref b->∃ob, s.heap.get? b=some ob/\ob.dict=none)/\(a == sysModules)=false := by
 rcases d with ⟨kvs, e⟩ | ⟨kvs, e⟩
 ·obtain⟨_, hd, vs, _, dd⟩ := uj I.hok e
  refine⟨dd.typeIs, λb q=>?_, hd⟩
  cases q
  obtain⟨ob, _, _, h1, h2, _⟩ := dd
  exact⟨ob, h1, h2.2.1⟩
 ·obtain⟨_, hd, xs, _, dd⟩ := qk I.hok e
  refine⟨dd.typeIs, λb q=>?_, hd⟩
  cases q
  obtain⟨ob, _, _, h1, h2, _⟩ := dd
  exact⟨ob, h1, h2.2.1⟩
section
variable {X : Cx} {pins : List (aaG×Obj)} {σ : St} {H : Hp} {s : aaL} {a : aaG} {y d : V} {u r : aaM} {o : Option V} {A : aaH} {E : aaM->aaL->Prop}
theorem MV{Q : aaM->aaL->Prop}(hu : A.units+1 < cLine)(I : Inv X pins σ H s)(g : nj H a y o)(ry : RelV y u)(h : ∀w' s', Inv X pins σ H s'->RelV (o.getD .bg) w'->Q w' s') :
  aaZ (model X.prog X.w) A (call (.builtin "dict.get") [.ref a, u]) Q E s := by
 rcases g with ⟨kvs, k, e, ey, l⟩ | ⟨kvs, k, b, e, ey, eb, l⟩
 ·subst ey
  obtain⟨z, hd, vs, rel, dd⟩ := uj I.hok e
  refine call_meetsIn PySem.F.slot_dict_get dd.typeIs PySem.F.entry_dict_get (PySem.F.args_dict_get_2 _ _) (meets_dict_get (bp X.prog X.w) a (wQ ry) hd) ⟨_, dd.mapOf, h _ _ (I.tok _) ?_⟩
  rw[l]
  exact(rel.val k).getD rfl
 ·subst ey
  cases (show u=aR b from ry)
  obtain⟨z, hd, xs, rel, dd⟩ := qk I.hok e
  refine call_meetsIn PySem.F.slot_dict_get dd.typeIs PySem.F.entry_dict_get (PySem.F.args_dict_get_2 _ _) (meetsH_dict_get (tupleKind (bp X.prog X.w)) a b hd) ⟨tupleKind_room_in1 hu, k, xs, nO I.hok eb, dd, h _ _ (I.tok _) ?_⟩
  rw[l]
  exact(rel.val k).getD rfl
theorem MW{Q : aaM->aaL->Prop}(hu : A.units+1 < cLine)(I : Inv X pins σ H s)(g : nj H a y o)(ry : RelV y u)(rd : RelV d r)(h : ∀w' s', Inv X pins σ H s'->RelV (o.getD d) w'->Q w' s') :
  aaZ (model X.prog X.w) A (call (.builtin "dict.get") [.ref a, u, r]) Q E s := by
 rcases g with ⟨kvs, k, e, ey, l⟩ | ⟨kvs, k, b, e, ey, eb, l⟩
 ·subst ey
  obtain⟨z, hd, vs, rel, dd⟩ := uj I.hok e
  refine call_meetsIn PySem.F.slot_dict_get dd.typeIs PySem.F.entry_dict_get (PySem.F.args_dict_get_3 _ _ _) (meets_dict_get_default (bp X.prog X.w) a (wQ ry) hd r) ⟨_, dd.mapOf, h _ _ (I.tok _) ?_⟩
  rw[l]
  exact(rel.val k).getD rd
 ·subst ey
  cases (show u=aR b from ry)
  obtain⟨z, hd, xs, rel, dd⟩ := qk I.hok e
  refine call_meetsIn PySem.F.slot_dict_get dd.typeIs PySem.F.entry_dict_get (PySem.F.args_dict_get_3 _ _ _) (meetsH_dict_get_default (tupleKind (bp X.prog X.w)) a b hd r) ⟨tupleKind_room_in1 hu, k, xs, nO I.hok eb, dd, h _ _ (I.tok _) ?_⟩
  rw[l]
  exact(rel.val k).getD rd
end
def MX(td ty : TE) : TE := λσ H Q=>td σ H λx H1=>∃a, x= .ref a/\SD H1 a/\ty σ H1 λy H2=>∃o, nj H2 a y o/\Q (o.getD .bg) H2
def MY(td ty tx : TE) : TE := λσ H Q=>td σ H λx H1=>∃a, x= .ref a/\SD H1 a/\ty σ H1 λy H2=>tx σ H2 λz H3=>∃o, nj H3 a y o/\Q (o.getD z) H3
section
variable {X : Cx} {o e f : Expr} {apos cpos : Pos} {td ty tx : TE}
theorem Ed(hu : X.A.units+1 < cLine)(ho : PE X o td)(he : PE X e ty)(m : M1 X o "get" apos e cpos) : PE X (.Call (.Attribute o "get" apos) [e] [] cpos) (MX td ty) := by
 intro pins s σ H Q I h
 refine wpAny_Call_method m.base m.few m.line PySem.F.plainAttrs_dict PySem.F.slot_dict_get PySem.F.type_dict_get (a9 (ho pins s σ H _ I h) λu s1 ⟨x, H1, I1, rx, a, ex, d, q1⟩=>?_)
 subst ex
 obtain rfl : u=aR a := rx
 obtain⟨t1, t2, _⟩ := Ec I1 d
 refine⟨t1, t2, ?_⟩
 rw[m.trees]
 refine vh rfl (yL (q8 (a9 (he pins s1 σ H1 _ I1 q1) λiv s2 ⟨y, H2, I2, ry, ov, g, q2⟩=>yA ?_)))
 exact MV hu I2 g ry λw' s3 I3 rw'=>⟨_, H2, I3, rw', q2⟩
theorem Ee(hu : X.A.units+1 < cLine)(ho : PE X o td)(he : PE X e ty)(hf : PE X f tx)(m : M2 X o "get" apos e f cpos) : PE X (.Call (.Attribute o "get" apos) [e, f] [] cpos) (MY td ty tx) := by
 intro pins s σ H Q I h
 refine wpAny_Call_method m.base m.few m.line PySem.F.plainAttrs_dict PySem.F.slot_dict_get PySem.F.type_dict_get (a9 (ho pins s σ H _ I h) λu s1 ⟨x, H1, I1, rx, a, ex, d, q1⟩=>?_)
 subst ex
 obtain rfl : u=aR a := rx
 obtain⟨t1, t2, _⟩ := Ec I1 d
 refine⟨t1, t2, ?_⟩
 rw[m.trees]
 refine vh rfl (yL (q8 (a9 (he pins s1 σ H1 _ I1 q1) λiv s2 ⟨y, H2, I2, ry, q2⟩=>
  q8 (a9 (hf pins s2 σ H2 _ I2 q2) λfv s3 ⟨z, H3, I3, rz, ov, g, q3⟩=>yA ?_))))
 exact MW hu I3 g ry rz λw' s4 I4 rw'=>⟨_, H3, I4, rw', q3⟩
end
section
variable {X : Cx} {pins : List (aaG×Obj)} {σ : St} {H : Hp} {s : aaL} {a : aaG} {kvs : List (Key×V)} {A : aaH} {E : aaM->aaL->Prop}
end
section
variable {X : Cx} {pins : List (aaG×Obj)} {σ : St} {H : Hp} {s : aaL} {a : aaG} {y : V} {u : aaM} {A : aaH} {E : aaM->aaL->Prop}
end
end L2
namespace Att
open PySem PySem.W PySem.Calls PyProof.Rows
end Att
namespace L2
open PySem PySem.Spec PyProof.Rows
section
variable {X : Cx}
end
section
variable {κ : Type} [DecidableEq κ]
theorem B5{p : κ×V}{r : List (κ×V)}{k : κ}(e : p.1=k) : rF (p::r) k=rF r k := by
 unfold rF
 rw[rG, if_neg (by simp[e])]
theorem B6{p : κ×V}{r : List (κ×V)}{k : κ}(e : ¬p.1=k) : rF (p::r) k=p::rF r k := by
 unfold rF
 rw[rG, if_pos (by simp[e])]
end
end L2
set_option maxHeartbeats 4000000
namespace J
open PySem PySem.Spec PyProof.Rows L2
def SF(h base:Heap)(e:aaG)(cls a0 fl:aaM):Prop :=
 ∃ox us T ot ws,h.get? e=some ox/\(ox.cls=cls/\us[2]? =some bC)/\ox.data= .fields us/\us[1]? =some (.ref T)/\base.get? T=none/\T≠e/\h.get? T=some ot/\ot.data= .fields ws/\ws[3]? =some fl
abbrev IH(base:Heap)(l:List Env)(e:aaG)(cls a0 fl:aaM)(h:Heap):Prop:=base.StaysIn h/\base.get? e=none/\h.FunFrames base l/\SF h base e cls a0 fl
def Ef(base:Heap)(l:List Env)(e:aaG)(cls a0:aaM)(L:aaG)(h:Heap):Prop:=IH base l e cls a0 (rawInt L) h
def Eg(base:Heap)(l:List Env)(e:aaG)(cls a0:aaM)(h:Heap):Prop:=IH base l e cls a0 .none h
theorem Eg.first{base h:Heap}{l:List Env}{e:aaG}{cls a0:aaM}(x:Eg base l e cls a0 h):∃ox us,h.get? e=some ox/\ox.cls=cls/\ox.data= .fields us/\us[2]? =some bC :=
 let ⟨_,_,_,ox,us,_,_,_,g1,g2,g3,_⟩:=x;⟨ox,us,g1,g2.1,g3,g2.2⟩
section
variable {M:Model} {A:aaH} {E:aaM->aaL->Prop} {s:aaL} {base:Heap} {env:Env} {outer l:List Env} {L e:aaG} {cls a0 nt:aaM} {Q:Unit->aaL->Prop}
theorem yN{h h1:Heap}{S:List aaG}{ox ob:Obj}{us ws:Array aaM}(so:Heap.SlotsOnly S h h1)(hS:S=l.filterMap (·.frame))(fs:h.FunFrames base l)(g1:h.get? e=some ox)(g3:ox.data= .fields us)(st:base.StaysIn h)(ne:base.get? e=none)(sz:1 < us.size)(g2:us[2]? =some bC)
  (d:ob.data= .fields ws)(w3:ws[3]? =some nt)(nf:ob.isFreed=false) :
  IH base l e ox.cls a0 nt ((h1.push ob).update e (kI (·.setIfInBounds 1 (.ref h1.objs.size))))/\h.UpToSlots ((h1.push ob).update e (kI (·.setIfInBounds 1 (.ref h1.objs.size)))):=by
 have nS:e∉S:=λz=>by
  rw[hS] at z
  obtain⟨_,o2,q2,d2⟩:=fs.mem z
  rw[g1] at q2
  cases q2
  exact d2 us g3
 have q1:h1.get? e=some ox:=(so.2.1 e nS).trans g1
 have lt:e≠h1.objs.size:=bW (aX q1)
 have WS:∀b o,b≠e->h1.get? b=some o->((h1.push ob).update e (kI (·.setIfInBounds 1 (.ref h1.objs.size)))).get? b=some o:=λb o n q=>(rp _ _ (aH n)).trans (bK _ q)
 have up:h.UpToSlots ((h1.push ob).update e (kI (·.setIfInBounds 1 (.ref h1.objs.size)))):=λb o q n=>by
  obtain⟨sl,q2⟩:=so.2.2 b o q
  exact⟨sl,WS b _ (λz=>by rw[z,g1] at q;cases q;exact n us g3) q2⟩
 have stay:base.StaysIn h1:=λb o q=>(so.2.1 b λz=>by
  rw[hS] at z
  rw[(fs.mem z).1] at q
  cases q).trans (st b o q)
 have fresh:base.get? h1.objs.size=none:=by
  cases z:base.get? h1.objs.size with
  | none=>rfl
  | some o=>exact absurd (aX (stay _ _ z)) (eK _)
 have d1:=qI g3 (·.setIfInBounds 1 (aR h1.objs.size))
 refine⟨⟨λb o q=>WS b o (λz=>by rw[z,ne] at q;cases q) (stay b o q),ne,fs.of_keeps λb o q n=>?_,_,_,h1.objs.size,ob,ws,yJ _ (bK _ q1) (Az d1),⟨Obj.cls_mapFields _ _,?_⟩,d1,by simp[sz],fresh,aH lt,?_,d,w3⟩,up⟩
 ·obtain⟨sl,q2⟩:=up b o q n
  exact⟨_,q2,rfl⟩
 ·rw[Array.getElem?_setIfInBounds_ne (by decide)];exact g2
 ·exact(rp _ _ lt).trans (cE _ nf)
theorem Eh{ox:Obj}{us:Array aaM}{head:aaM}{had:Bool}(hfr:A.frames=some (env::outer))(fs:s.heap.FunFrames base (env::outer))(hf:env.frame=some L)(g1:s.heap.get? e=some ox)(st:base.StaysIn s.heap)(ne:base.get? e=none)(g3:ox.data= .fields us)(sz:1 < us.size)(g2:us[2]? =some bC)
  (k:∀h',Ef base (env::outer) e ox.cls a0 L h'->s.heap.UpToSlots h'->Q () { s with heap:=h' }) :
  aaZ M A (do let a <-frameOf env;let pl <-entryPlaceOf L had;let b <-MZ head a .none (rawInt L) .none pl;setField (.ref e) 1 b) Q E s:=by
 refine aa0 (wpAny_frameOf_fun hfr fs hf λh1 so=>aa0 (wpAny_entryPlaceOf λpl pp=>?_))
 have nS:e∉(env::outer).filterMap (·.frame):=λz=>by
  obtain⟨_,o2,q2,d2⟩:=fs.mem z
  rw[g1] at q2
  cases q2
  exact d2 us g3
 have q1:h1.get? e=some ox:=(so.2.1 e nS).trans g1
 simp only[MZ,newFields]
 refine aa0 (aa5 (wpAny_setField (bK _ q1) g3 sz ?_) (pp.sizeOk5 _ _ _ _ _))
 obtain⟨m,up⟩:=yN (a0:=a0) (nt:=rawInt L) so rfl fs g1 g3 st ne sz g2 (ob:={ cls:=.type "traceback",dict:=none,data:=.fields ([head,.ref L,.none,rawInt L,.none]++(if pl.isEmpty then aM 6 bC else pl)).toArray }) rfl (by first | (simp;done) | (rcases pp with rfl | ⟨_,_,_,_,_,_,_,rfl⟩<;>simp)) rfl
 exact k _ m up
theorem M3(hf:env.frame=some L)(x:SF s.heap base e cls a0 (rawInt L))(k:Q () s):aaZ M A (noteFrame (.ref e) env) Q E s:=by
 obtain⟨ox,us,T,ot,ws,g1,g2,g3,g4,g5,g6,g7,g8,g9⟩:=x
 unfold noteFrame
 simp only[hf]
 refine aa0 (wpAny_field g1 g3 g4 ?_)
 rw[if_pos (by simp)]
 refine aa0 (wpAny_field g7 g8 g9 ?_)
 rw[if_pos (by simp)]
 exact aa6 k
theorem K7(x:IH base l e cls a0 nt s.heap)(k:∀h',Eg base l e cls a0 h'->s.heap.UpToSlots h'->Q () { s with heap:=h' }):aaZ M A (setFlight (.ref e) none) Q E s:=by
 obtain⟨x1,x2,x3,ox,us,T,ot,ws,g1,g2,g3,g4,g5,g6,g7,g8,g9⟩:=x
 have sz:3 < ws.size:=(Array.getElem?_eq_some_iff.mp g9).1
 unfold setFlight
 refine aa0 (wpAny_field g1 g3 g4 ?_)
 rw[if_pos (by simp)]
 refine wpAny_setField g7 g8 sz ?_
 generalize hu:s.heap.update T _=h'
 have ap:∀b,b≠T->h'.get? b=s.heap.get? b:=λb n=>by rw[<-hu];exact rp _ _ (aH n)
 have pl:∀b o,s.heap.get? b=some o->(∀vs,o.data≠.fields vs)->h'.get? b=some o:=λb o q n=>(ap b λz=>by rw[z,g7] at q;cases q;exact n ws g8).trans q
 refine k h' ⟨λb o q=>(ap b λz=>by rw[z,g5] at q;cases q).trans (x1 b o q),x2,x3.of_keeps λb o q n=>⟨o,pl b o q n,rfl⟩,ox,us,T,kI (·.setIfInBounds 3 .none) ot,ws.setIfInBounds 3 .none,(ap e (aH g6)).trans g1,g2,g3,g4,g5,g6,?_,qI g8 _,?_⟩ λb o q n=>⟨o.slots,pl b o q n⟩
 ·rw[<-hu];exact yJ _ g7 (Az (qI g8 _))
 ·simp[sz]
end
structure Lm where
 a:aaG
 c:aaG
 q:PySem.Str
 xs:List V
inductive Wv where
 | bg
 | bl (b:Bool)
 | int (i:Int)
 | str (x:PySem.Str)
 | tup (ws:List Wv)
 | rH (ws:List Wv)
 | ref (l:Nat)
 | ty (n:String)
 | cls (c:PySem.Str)
 | wU (c:PySem.Str)
 | fn (p:Lm) (ws:List Wv)
inductive Ob where
 | lst (ws:List Wv)
 | sX (ns:List Int)
 | dct (kvs:List (L2.Key×Wv))
 | bq (kvs:List (List L2.Key×Wv))
 | fH (kvs:List (List L2.Key×Wv))
 | B7 (kvs:List (L2.Key×Wv))
abbrev Hs:=List Ob
abbrev St:=L2.St
abbrev bF:=List (Option Wv)
abbrev Mp:=List aaG
def Ei(a C:aaG):Heap->Prop:=λh=>∃o,h.get? a=some o/\o.cls= .ref C/\∃vs,o.data= .fields vs
def SG(a C:aaG)(u:Option HO):Prop:=∃o vs,u=some (.iy o (.ext (Ei a C)))/\o.data= .fields vs/\vs[2]? =some bC
theorem K8{P:aaK}{w:aaN}{H:Hp}{h:Heap}{a C:aaG}(ok:lI P w H h)(x:SG a C (H a)):Ei a C h:=let ⟨_,_,e,_⟩:=x;(ok a _ e).2.1
def ClsAt(K:PySem.W.Frag)(c:PySem.Str)(C:aaG):Prop:=PySem.W.nsIn K aaW c=some (some (.ref C))
def AA(c:aaG)(q:PySem.Str):Heap->Prop:=λh=>h.CodeRec (.ref c) q
def dY:List PySem.Str:=["form_of","formula_by","turned","readied_content","ordered"]
def kJ(K:PySem.W.Frag)(q:PySem.Str):Option aaG:=match PySem.W.tabIn K q with
 | some (_,P)=>if(K.lookup P).isNone=true then some P else none
 | none=>none
def Uq(q:PySem.Str):PySem.Str:=(q++".<locals>.")++"<lambda>"
def vp(K:PySem.W.Frag)(H:Hp):Prop:=∀q P,q∈dY->kJ K q=some P->∃ps,H P=some (.pf ps)/\TriplesOk ps.toList/\∀pos cv,codeAmong pos ps.toList=some cv->∃c,cv= .ref c/\H c=some (.ext (AA c (Uq q)))
theorem vp.keep{K:PySem.W.Frag}{H H':Hp}(t:vp K H)(h1:∀a ps,H a=some (.pf ps)->H' a=some (.pf ps))(h2:∀a φ,H a=some (.ext φ)->H' a=some (.ext φ)):vp K H':=λq P hq hP=>by
 obtain⟨ps,e1,e2,e3⟩:=t q P hq hP
 refine⟨ps,h1 _ _ e1,e2,λpos cv e=>?_⟩
 obtain⟨c,f1,f2⟩:=e3 pos cv e
 exact⟨c,f1,h2 _ _ f2⟩
def Ur(K:PySem.W.Frag)(a:aaG)(xs:List V):Prop:=∃(o:Obj)(its:Array aaM)(n:Nat),K.lookup a=some o/\o.cls= .type "tuple"/\o.data= .seq its n/\its.size<=aaX/\Vals xs its.toList
mutual
def aj(K:PySem.W.Frag)(m:Mp)(H:Hp):Wv->V->Prop
 | .bg,v=>v= .bg
 | .bl b,v=>v= .bl b
 | .int i,v=>v= .int i
 | .str x,v=>v= .str x/\br x=true
 | .tup ws,v=>∃a xs,v= .ref a/\H a=some (.tup xs)/\ai K m H ws xs
 | .rH ws,v=>∃a xs,v= .ref a/\Ur K a xs/\ai K m H ws xs
 | .ref l,v=>∃a,v= .ref a/\m[l]? =some a
 | .ty n,v=>v= .ty n
 | .cls c,v=>∃C,v= .ref C/\ClsAt K c C
 | .wU c,v=>∃a C,v= .ref a/\ClsAt K c C/\SG a C (H a)
 | .fn p ws,v=>v= .ref p.a/\H p.c=some (.ext (AA p.c p.q))/\ai K m H ws p.xs
def ai(K:PySem.W.Frag)(m:Mp)(H:Hp):List Wv->List V->Prop
 | [],xs=>xs=[]
 | w::ws,xs=>∃x r,xs=x::r/\aj K m H w x/\ai K m H ws r
end
structure Ext(K:PySem.W.Frag)(m:Mp)(H:Hp)(m':Mp)(H':Hp):Prop where
 pre:∀(l:Nat)(a:aaG),m[l]? =some a->m'[l]? =some a
 tup:∀(a:aaG)(xs:List V),H a=some (.tup xs)->H' a=some (.tup xs)
 ext:∀(a:aaG)(φ:Heap->Prop),H a=some (.ext φ)->H' a=some (.ext φ)
 iy:∀(a:aaG)(o:Obj)(u:HO),H a=some (.iy o u)->H' a=some (.iy o u)
section
variable {K:PySem.W.Frag} {m m1 m2:Mp} {H H1 H2:Hp}
theorem Ext.refl:Ext K m H m H:=⟨λ_ _ h=>h,λ_ _ h=>h,λ_ _ h=>h,λ_ _ _ h=>h⟩
theorem Ext.trans(a:Ext K m H m1 H1)(b:Ext K m1 H1 m2 H2):Ext K m H m2 H2 :=
 ⟨λl x h=>b.pre l x (a.pre l x h),λx xs h=>b.tup x xs (a.tup x xs h),λx φ h=>b.ext x φ (a.ext x φ h),λx o u h=>b.iy x o u (a.iy x o u h)⟩
structure wV(K:PySem.W.Frag)(m:Mp)(H:Hp)(m':Mp)(H':Hp):Prop where
 pre:∀(l:Nat)(a:aaG),m[l]? =some a->m'[l]? =some a
 tup:∀(a:aaG)(xs:List V),H a=some (.tup xs)->H' a=some (.tup xs)
 ext:∀(a:aaG)(φ:Heap->Prop),H a=some (.ext φ)->H' a=some (.ext φ)
 fx:∀(a:aaG)(o:Obj)(φ:Heap->Prop),H a=some (.iy o (.ext φ))->H' a=some (.iy o (.ext φ))
theorem Ext.z(e:Ext K m H m1 H1):wV K m H m1 H1:=⟨e.pre,e.tup,e.ext,λa o φ h=>e.iy a o _ h⟩
mutual
theorem aj.fS(e:wV K m H m1 H1):∀(w:Wv)(v:V),aj K m H w v->aj K m1 H1 w v
 | .bg,v,h=>by unfold aj at h ⊢;exact h
 | .bl b,v,h=>by unfold aj at h ⊢;exact h
 | .int i,v,h=>by unfold aj at h ⊢;exact h
 | .str x,v,h=>by unfold aj at h ⊢;exact h
 | .ty n,v,h=>by unfold aj at h ⊢;exact h
 | .cls c,v,h=>by unfold aj at h ⊢;exact h
 | .wU c,v,h=>by
  unfold aj at h ⊢
  obtain⟨a,C,e1,e2,o,vs,e3,e4⟩:=h
  exact⟨a,C,e1,e2,o,vs,e.fx _ _ _ e3,e4⟩
 | .ref l,v,h=>by
  unfold aj at h ⊢
  obtain⟨a,e1,e2⟩:=h
  exact⟨a,e1,e.pre _ _ e2⟩
 | .tup ws,v,h=>by
  unfold aj at h ⊢
  obtain⟨a,xs,e1,e2,e3⟩:=h
  exact⟨a,xs,e1,e.tup _ _ e2,ai.fS e ws xs e3⟩
 | .rH ws,v,h=>by
  unfold aj at h ⊢
  obtain⟨a,xs,e1,e2,e3⟩:=h
  exact⟨a,xs,e1,e2,ai.fS e ws xs e3⟩
 | .fn p ws,v,h=>by
  unfold aj at h ⊢
  obtain⟨e1,e2,e3⟩:=h
  exact⟨e1,e.ext _ _ e2,ai.fS e ws p.xs e3⟩
theorem ai.fS(e:wV K m H m1 H1):∀(ws:List Wv)(xs:List V),ai K m H ws xs->ai K m1 H1 ws xs
 | [],xs,h=>by unfold ai at h ⊢;exact h
 | w::ws,xs,h=>by
  unfold ai at h ⊢
  obtain⟨x,r,e1,e2,e3⟩:=h
  exact⟨x,r,e1,aj.fS e w x e2,ai.fS e ws r e3⟩
end
theorem aj.mono(e:Ext K m H m1 H1)(w:Wv)(v:V)(h:aj K m H w v):aj K m1 H1 w v:=aj.fS e.z w v h
theorem ai.mono(e:Ext K m H m1 H1)(ws:List Wv)(xs:List V)(h:ai K m H ws xs):ai K m1 H1 ws xs:=ai.fS e.z ws xs h
theorem ai.nil:ai K m H [] []:=by unfold ai;rfl
theorem ai.cons{w:Wv}{x:V}{ws:List Wv}{xs:List V}(h:aj K m H w x)(t:ai K m H ws xs):ai K m H (w::ws) (x::xs):=by unfold ai;exact⟨x,xs,rfl,h,t⟩
theorem ai.length:∀{ws:List Wv}{xs:List V},ai K m H ws xs->ws.length=xs.length
 | [],xs,h=>by unfold ai at h;subst h;rfl
 | w::ws,xs,h=>by
  unfold ai at h
  obtain⟨x,r,e1,_,e3⟩:=h
  subst e1
  simp[ai.length e3]
theorem ai.get:∀{ws:List Wv}{xs:List V}{i:Nat}{w:Wv},ai K m H ws xs->ws[i]? =some w->∃x,xs[i]? =some x/\aj K m H w x
 | [],_,i,w,_,e=>by simp at e
 | a::ws,xs,0,w,h,e=>by
  unfold ai at h
  obtain⟨x,r,e1,e2,_⟩:=h
  subst e1
  simp at e
  subst e
  exact⟨x,rfl,e2⟩
 | a::ws,xs,i+1,w,h,e=>by
  unfold ai at h
  obtain⟨x,r,e1,_,e3⟩:=h
  subst e1
  obtain⟨y,f1,f2⟩:=ai.get (i:=i) (w:=w) e3 (by simpa using e)
  exact⟨y,by simpa using f1,f2⟩
theorem ai.append:∀{ws zs:List Wv}{xs ys:List V},ai K m H ws xs->ai K m H zs ys->ai K m H (ws++zs) (xs++ys)
 | [],_,xs,_,h,g=>by unfold ai at h;subst h;exact g
 | w::ws,zs,xs,ys,h,g=>by
  unfold ai at h
  obtain⟨x,r,e1,e2,e3⟩:=h
  subst e1
  exact ai.cons e2 (ai.append e3 g)
theorem ai.set:∀{ws:List Wv}{xs:List V}(i:Nat){w:Wv}{x:V},ai K m H ws xs->aj K m H w x->ai K m H (ws.set i w) (xs.set i x)
 | [],xs,i,w,x,h,_=>by unfold ai at h;subst h;exact ai.nil
 | a::ws,xs,0,w,x,h,g=>by
  unfold ai at h
  obtain⟨y,r,e1,e2,e3⟩:=h
  subst e1
  exact ai.cons g e3
 | a::ws,xs,i+1,w,x,h,g=>by
  unfold ai at h
  obtain⟨y,r,e1,e2,e3⟩:=h
  subst e1
  exact ai.cons e2 (ai.set i e3 g)
theorem ai.drop:∀{ws:List Wv}{xs:List V}(i:Nat),ai K m H ws xs->ai K m H (ws.drop i) (xs.drop i)
 | ws,xs,0,h=>by simpa using h
 | [],xs,i+1,h=>by unfold ai at h;subst h;simpa using ai.nil
 | a::ws,xs,i+1,h=>by
  unfold ai at h
  obtain⟨y,r,e1,e2,e3⟩:=h
  subst e1
  simpa using ai.drop i e3
theorem ai.take:∀{ws:List Wv}{xs:List V}(i:Nat),ai K m H ws xs->ai K m H (ws.take i) (xs.take i)
 | ws,xs,0,h=>by simpa using ai.nil
 | [],xs,i+1,h=>by unfold ai at h;subst h;simpa using ai.nil
 | a::ws,xs,i+1,h=>by
  unfold ai at h
  obtain⟨y,r,e1,e2,e3⟩:=h
  subst e1
  simpa using ai.cons e2 (ai.take i e3)
theorem ai.ints:∀(ns:List Int),ai K m H (ns.map Wv.int) (ns.map V.int)
 | []=>ai.nil
 | n::ns=>ai.cons (by unfold aj;rfl) (ai.ints ns)
end
def wW(K:PySem.W.Frag)(H:Hp)(a:aaG)(ns:List Int):Prop :=
 (∃o,H a=some (.iy o (.lst (ns.map V.int))))\/
  ∃(o:Obj)(its:Array aaM)(n:Nat),K.lookup a=some o/\o.cls= .type "list"/\o.dict=none/\o.data= .seq its n/\its.size<=aaX/\Vals (ns.map V.int) its.toList
def RelK{κ:Type}(K:PySem.W.Frag)(m:Mp)(H:Hp)(kvs:List (κ×Wv))(xs:List (κ×V)):Prop:=kvs.map (·.1)=xs.map (·.1)/\ai K m H (kvs.map (·.2)) (xs.map (·.2))
def tG(K:PySem.W.Frag)(m:Mp)(H:Hp)(a:aaG):Ob->Prop
 | .lst ws=>∃xs,H a=some (.lst xs)/\ai K m H ws xs
 | .sX ns=>wW K H a ns
 | .dct kvs=>∃xs,H a=some (.dK xs)/\RelK K m H kvs xs
 | .bq kvs=>∃xs,H a=some (.dT xs)/\RelK K m H kvs xs
 | .fH kvs=>∃o xs,H a=some (.iy o (.dT xs))/\RelK K m H kvs xs
 | .B7 kvs=>∃o xs,H a=some (.iy o (.dK xs))/\RelK K m H kvs xs
def Ob.mu:Ob->Bool
 | .sX _=>false
 | _=>true
def Ob.wm:Ob->Bool
 | .sX _=>false
 | .fH _=>false
 | .B7 _=>false
 | _=>true
theorem Ob.Qr{o:Ob}(h:o.wm=true):o.mu=true:=by cases o<;>first | rfl | cases h
structure bG(K:PySem.W.Frag)(m:Mp)(st:Hs)(H:Hp):Prop where
 len:m.length=st.length
 obj:∀(l:Nat)(a:aaG)(o:Ob),m[l]? =some a->st[l]? =some o->tG K m H a o
 inj:∀(l l':Nat)(a:aaG)(o o':Ob),m[l]? =some a->m[l']? =some a->st[l]? =some o->st[l']? =some o'->o.mu=true->o'.mu=true->l=l'
 tab:vp K H
def ao(st:Hs)(l:Nat):Option (List Wv):=match st[l]? with
 | some (.lst ws)=>some ws
 | some (.sX ns)=>some (ns.map Wv.int)
 | _=>none
section
variable {K:PySem.W.Frag} {m:Mp} {H:Hp} {st:Hs}
def Wr(u:Option HO):Prop:=u=none\/(∃ys,u=some (.lst ys))\/(∃ys,u=some (.dK ys))\/∃ys,u=some (.dT ys)
theorem Wr.ne{p a:aaG}{u:HO}(hp:Wr (H p))(e:H a=some u)(n1:∀ys,u≠.lst ys)(n2:∀ys,u≠.dK ys)(n3:∀ys,u≠.dT ys):a≠p:=λz=>by
 subst z
 rcases hp with q | ⟨ys,q⟩ | ⟨ys,q⟩ | ⟨ys,q⟩
 ·rw[q] at e;cases e
 ·rw[q] at e;cases e;exact n1 ys rfl
 ·rw[q] at e;cases e;exact n2 ys rfl
 ·rw[q] at e;cases e;exact n3 ys rfl
theorem Ej{p a:aaG}{o:HO}{xs:List V}(hp:Wr (H p))(h:H a=some (.tup xs)):upd H p o a=some (.tup xs):=by
 rw[aw (hp.ne h (by intro ys z;cases z) (by intro ys z;cases z) (by intro ys z;cases z))];exact h
theorem Ek{p a:aaG}{o:HO}{ns:List Int}(hp:Wr (H p))(h:wW K H a ns):wW K (upd H p o) a ns:=by
 rcases h with ⟨o',h⟩ | h
 ·exact .inl ⟨o',by rw[aw (hp.ne h (by intro ys z;cases z) (by intro ys z;cases z) (by intro ys z;cases z))];exact h⟩
 ·exact .inr h
theorem Wr.of{u:Option HO}(h:u=none\/∃ys,u=some (.lst ys)):Wr u:=by
 rcases h with q | q
 ·exact .inl q
 ·exact .inr (.inl q)
theorem Ext.lL{p:aaG}{o:HO}(hp:Wr (H p)):Ext K m H m (upd H p o):=⟨λ_ _ h=>h,λ_ _ h=>Ej hp h,λa φ h=>by
 rw[aw (hp.ne h (by intro ys z;cases z) (by intro ys z;cases z) (by intro ys z;cases z))]
 exact h,λa o u h=>by
 rw[aw (hp.ne h (by intro ys z;cases z) (by intro ys z;cases z) (by intro ys z;cases z))]
 exact h⟩
theorem Ext.upd{p:aaG}{o:HO}(hp:H p=none\/∃ys,H p=some (.lst ys)):Ext K m H m (upd H p o):=Ext.lL (Wr.of hp)
theorem RelK.mono{κ:Type}{m1:Mp}{H1:Hp}{kvs:List (κ×Wv)}{xs:List (κ×V)}(e:Ext K m H m1 H1)(h:RelK K m H kvs xs):RelK K m1 H1 kvs xs:=⟨h.1,ai.mono e _ _ h.2⟩
theorem tG.keep{m1:Mp}{b p:aaG}{u:HO}{o:Ob}(ex:Ext K m H m1 (L2.upd H p u))(hp:Wr (H p))(hb:o.mu=true->b≠p)(h:tG K m H b o):tG K m1 (L2.upd H p u) b o:=by
 cases o with
 | lst ws=>
  obtain⟨xs,e1,e2⟩:=h
  exact⟨xs,by rw[aw (hb rfl)];exact e1,ai.mono ex _ _ e2⟩
 | dct kvs=>
  obtain⟨xs,e1,e2⟩:=h
  exact⟨xs,by rw[aw (hb rfl)];exact e1,e2.mono ex⟩
 | bq kvs=>
  obtain⟨xs,e1,e2⟩:=h
  exact⟨xs,by rw[aw (hb rfl)];exact e1,e2.mono ex⟩
 | fH kvs=>
  obtain⟨o,xs,e1,e2⟩:=h
  exact⟨o,xs,by rw[aw (hb rfl)];exact e1,e2.mono ex⟩
 | B7 kvs=>
  obtain⟨o,xs,e1,e2⟩:=h
  exact⟨o,xs,by rw[aw (hb rfl)];exact e1,e2.mono ex⟩
 | sX ns=>exact Ek hp h
theorem tG.at{b:aaG}{o:Ob}(h:tG K m H b o)(hm:o.mu=true):∃u,H b=some u:=by
 cases o with
 | lst ws=>obtain⟨xs,e1,e2⟩:=h;exact⟨_,e1⟩
 | dct kvs=>obtain⟨xs,e1,e2⟩:=h;exact⟨_,e1⟩
 | bq kvs=>obtain⟨xs,e1,e2⟩:=h;exact⟨_,e1⟩
 | fH kvs=>obtain⟨o,xs,e1,e2⟩:=h;exact⟨_,e1⟩
 | B7 kvs=>obtain⟨o,xs,e1,e2⟩:=h;exact⟨_,e1⟩
 | sX ns=>simp[Ob.mu] at hm
theorem tG.wr{b:aaG}{o:Ob}(h:tG K m H b o)(hm:o.wm=true):Wr (H b):=by
 cases o with
 | lst ws=>obtain⟨xs,e1,e2⟩:=h;exact .inr (.inl ⟨_,e1⟩)
 | dct kvs=>obtain⟨xs,e1,e2⟩:=h;exact .inr (.inr (.inl ⟨_,e1⟩))
 | bq kvs=>obtain⟨xs,e1,e2⟩:=h;exact .inr (.inr (.inr ⟨_,e1⟩))
 | fH kvs=>cases hm
 | B7 kvs=>cases hm
 | sX ns=>cases hm
theorem vp.lL{p:aaG}{o:HO}(t:vp K H)(hp:Wr (H p)):vp K (L2.upd H p o):=t.keep
 (λa ps h=>by rw[aw (hp.ne h (by intro ys z;cases z) (by intro ys z;cases z) (by intro ys z;cases z))];exact h)
 λa φ h=>by rw[aw (hp.ne h (by intro ys z;cases z) (by intro ys z;cases z) (by intro ys z;cases z))];exact h
theorem Ext.more{p:aaG}:Ext K m H (m++[p]) H:=⟨λl a h=>by
 rw[fQ]
 ·exact h
 ·exact(List.getElem?_eq_some_iff.mp h).1,λ_ _ h=>h,λ_ _ h=>h,λ_ _ _ h=>h⟩
theorem bG.fresh{p:aaG}{o:HO}(S:bG K m st H)(hp:H p=none):bG K m st (upd H p o) :=
 ⟨S.len,λl a ob h1 h2=>by
  have q:=S.obj l a ob h1 h2
  refine q.keep (Ext.lL (.inl hp)) (.inl hp) λhm=>?_
  obtain⟨u,e⟩:=q.at hm
  exact bI e hp,S.inj,S.tab.lL (.inl hp)⟩
theorem bG.rJ{l:Nat}{a:aaG}{ws:List Wv}(S:bG K m st H)(h1:m[l]? =some a)(h2:st[l]? =some (.lst ws)):∃xs,H a=some (.lst xs)/\ai K m H ws xs:=S.obj l a _ h1 h2
theorem bG.read{l:Nat}{a:aaG}{ws:List Wv}(S:bG K m st H)(h1:m[l]? =some a)(h2:ao st l=some ws):∃xs,lO K H a xs/\ai K m H ws xs:=by
 unfold ao at h2
 cases e:st[l]? with
 | none=>rw[e] at h2;cases h2
 | some o=>
  rw[e] at h2
  cases o with
  | lst zs=>
   cases h2
   obtain⟨xs,e1,e2⟩:=S.rJ h1 e
   exact⟨xs,lO.of e1,e2⟩
  | dct kvs=>cases h2
  | bq kvs=>cases h2
  | fH kvs=>cases h2
  | B7 kvs=>cases h2
  | sX ns=>
   cases h2
   have q:wW K H a ns:=S.obj l a _ h1 e
   refine⟨ns.map V.int,?_,ai.ints ns⟩
   rcases q with ⟨o,q⟩ | q
   ·exact .inl (.inr ⟨o,q⟩)
   ·exact .inr q
theorem bG.yO{p:aaG}{ob:Ob}{u:HO}(S:bG K m st H)(hp:H p=none)(r:tG K (m++[p]) (L2.upd H p u) p ob):bG K (m++[p]) (st++[ob]) (L2.upd H p u):=by
 have ex:Ext K m H (m++[p]) (L2.upd H p u):=Ext.more.trans (Ext.lL (.inl hp))
 have El:∀(l:Nat)(o:Ob),m[l]? =some p->st[l]? =some o->o.mu=true->False:=λl o h1 h2 hm=>by
  obtain⟨v,e⟩:=(S.obj l p o h1 h2).at hm
  rw[hp] at e;cases e
 have old:∀(l:Nat)(a:aaG),(m++[p])[l]? =some a->(l < m.length/\m[l]? =some a)\/(l=m.length/\a=p):=λl a h=>by
  by_cases hl:l < m.length
  ·exact .inl ⟨hl,by rw[fQ hl] at h;exact h⟩
  ·have h':=h
   rw[pA (by omega)] at h'
   have z:=List.getElem?_eq_some_iff.mp h'
   have z1:l - m.length < 1:=by simpa using z.1
   refine .inr ⟨by omega,?_⟩
   have e0:l - m.length=0:=by omega
   rw[e0] at h'
   simpa using h'.symm
 have olds:∀(l:Nat)(o:Ob),l < m.length->(st++[ob])[l]? =some o->st[l]? =some o:=λl o hl h=>by
  rw[fQ (by rw[<-S.len];exact hl)] at h
  exact h
 refine⟨by simp[S.len],λl a o h1 h2=>?_,λl l' a zs zs' h1 Dt h2 h2' k k'=>?_,S.tab.lL (.inl hp)⟩
 ·rcases old l a h1 with ⟨hl,h1⟩ | ⟨hl,rfl⟩
  ·have q:=S.obj l a o h1 (olds l o hl h2)
   refine q.keep ex (.inl hp) λhm=>?_
   obtain⟨v,e⟩:=q.at hm
   exact bI e hp
  ·have e:o=ob:=by
    rw[hl,S.len,pA (au _),qJ] at h2
    simpa using h2.symm
   subst e
   exact r
 ·rcases old l a h1 with ⟨hl,g1⟩ | ⟨hl,ea⟩
  ·rcases old l' a Dt with ⟨hl',Du⟩ | ⟨hl',ea'⟩
   ·exact S.inj l l' a zs zs' g1 Du (olds l _ hl h2) (olds l' _ hl' h2') k k'
   ·rw[ea'] at g1
    exact(El l zs g1 (olds l _ hl h2) k).elim
  ·rcases old l' a Dt with ⟨hl',Du⟩ | ⟨hl',_⟩
   ·rw[ea] at Du
    exact(El l' zs' Du (olds l' _ hl' h2') k').elim
   ·omega
theorem bG.alloc{p:aaG}{ws:List Wv}{xs:List V}(S:bG K m st H)(hp:H p=none)(r:ai K m H ws xs):bG K (m++[p]) (st++[.lst ws]) (upd H p (.lst xs)) :=
 S.yO hp ⟨xs,aZ,ai.mono (Ext.more.trans (Ext.lL (.inl hp))) _ _ r⟩
theorem bG.pD{l:Nat}{a:aaG}{o0 ob:Ob}{u:HO}(S:bG K m st H)(h1:m[l]? =some a)(h2:st[l]? =some o0)(hw:o0.wm=true)(r:tG K m (L2.upd H a u) a ob):bG K m (st.set l ob) (L2.upd H a u):=by
 have wr:Wr (H a):=(S.obj l a o0 h1 h2).wr hw
 have hm:=Ob.Qr hw
 have ex:Ext K m H m (L2.upd H a u):=Ext.lL wr
 have hl:l < st.length:=(List.getElem?_eq_some_iff.mp h2).1
 have at':∀(k:Nat)(o:Ob),(st.set l ob)[k]? =some o->(k=l/\o=ob)\/(k≠l/\st[k]? =some o):=λk o h=>by
  by_cases e:l=k
  ·subst e
   rw[pv hl] at h
   exact .inl ⟨rfl,(Option.some.inj h).symm⟩
  ·rw[aC e] at h
   exact .inr ⟨λz=>e z.symm,h⟩
 refine⟨by simp[S.len],λk b o g1 g2=>?_,λk k' b us us' g1 Du g2 Qs q q'=>?_,S.tab.lL wr⟩
 ·rcases at' k o g2 with ⟨rfl,rfl⟩ | ⟨hk,g2⟩
  ·rw[h1] at g1;cases g1
   exact r
  ·have q:=S.obj k b o g1 g2
   refine q.keep ex wr λho z=>?_
   subst z
   exact hk (S.inj k l b o o0 g1 h1 g2 h2 ho hm)
 ·have back:∀(k:Nat)(o:Ob),(st.set l ob)[k]? =some o->o.mu=true->∃o',st[k]? =some o'/\o'.mu=true:=λk o h ho=>by
   rcases at' k _ h with ⟨rfl,_⟩ | ⟨_,h⟩
   ·exact⟨o0,h2,hm⟩
   ·exact⟨o,h,ho⟩
  obtain⟨u1,e1,f1⟩:=back k us g2 q
  obtain⟨u2,e2,f2⟩:=back k' us' Qs q'
  exact S.inj k k' b u1 u2 g1 Du e1 e2 f1 f2
theorem bG.write{l:Nat}{a:aaG}{ws zs:List Wv}{xs:List V}(S:bG K m st H)(h1:m[l]? =some a)(h2:st[l]? =some (.lst ws))(r:ai K m H zs xs):bG K m (st.set l (.lst zs)) (upd H a (.lst xs)) :=
 S.pD h1 h2 rfl ⟨xs,aZ,ai.mono (Ext.lL ((S.obj l a _ h1 h2).wr rfl)) _ _ r⟩
end
structure aD(K:PySem.W.Frag)(m:Mp)(H:Hp)(ρ:bF)(σ:St):Prop where
 len:ρ.length=σ.length
 get:∀(i:Nat)(w:Wv),ρ[i]? =some (some w)->∃v,σ[i]? =some (some v)/\aj K m H w v
section
variable {K:PySem.W.Frag} {m m1:Mp} {H H1:Hp} {ρ:bF} {σ:St}
theorem aD.mono(R:aD K m H ρ σ)(e:Ext K m H m1 H1):aD K m1 H1 ρ σ:=⟨R.len,λi w h=>let ⟨v,h1,h2⟩:=R.get i w h;⟨v,h1,aj.mono e _ _ h2⟩⟩
theorem aD.set(R:aD K m H ρ σ)(i:Nat){w:Wv}{v:V}(h:aj K m H w v):aD K m H (ρ.set i (some w)) (σ.set i (some v)):=by
 refine⟨by simp[R.len],λj u e=>?_⟩
 by_cases hj:i=j
 ·subst hj
  have hi:i < ρ.length:=by
   have:=(List.getElem?_eq_some_iff.mp e).1
   simpa using this
  rw[pv hi] at e
  have e':w=u:=Option.some.inj (Option.some.inj e)
  subst e'
  exact⟨v,by rw[pv (by rw[<-R.len];exact hi)],h⟩
 ·rw[aC hj] at e
  obtain⟨x,h1,h2⟩:=R.get j u e
  exact⟨x,by rw[aC hj];exact h1,h2⟩
end
inductive Re(α:Type) where
 | ok (a:α) (st:Hs)
 | err (c:PySem.Str) (st:Hs)
 | bad
def Re.bind{α β:Type}(r:Re α)(f:α->Hs->Re β):Re β:=match r with
 | .ok a st=>f a st
 | .err c st=> .err c st
 | .bad=> .bad
inductive Rs where
 | nx (ρ:bF) (st:Hs)
 | rt (w:Wv) (st:Hs)
 | bk (ρ:bF) (st:Hs)
 | ct (ρ:bF) (st:Hs)
 | err (c:PySem.Str) (ρ:bF) (st:Hs)
 | bad
def Re.a9{α:Type}(ρ:bF)(r:Re α)(f:α->Hs->Rs):Rs:=match r with
 | .ok a st=>f a st
 | .err c st=> .err c ρ st
 | .bad=> .bad
def Re.lJ{α:Type}(r:Re α):Re α:=match r with
 | .ok a st=> .ok a st
 | _=> .bad
abbrev GE:=bF->Hs->Re Wv
abbrev GT:=bF->Hs->Re Bool
abbrev GA:=bF->Hs->Re (List Wv)
abbrev GS:=bF->Hs->Rs
def wX(P:aaK)(w:aaN)(outer:List Env)(H:Hp)(s:aaL)(H':Hp)(cls:aaM)(e:aaM)(s':aaL):Prop :=
 ∃(a:aaG)(a0:aaM)(B:Heap),e= .ref a/\s'.os=s.os/\AllBare s'.gens/\Un (frs outer) [] H H' s.heap s'.heap/\lI P w H' B/\Eg B outer a cls a0 s'.heap/\
  (∀b o,s.heap.get? b=some o->b∉frs outer->∃o',B.get? b=some o'/\(H b=none->o'=o))
def pE(X:Cx)(pins:List (aaG×Obj))(H:Hp)(s:aaL)(H':Hp)(cls:aaM)(e:aaM)(s':aaL):Prop :=
 ∃(a:aaG)(a0 nt:aaM)(B:Heap)(ch:List aaG),e= .ref a/\s'.os=s.os/\AllBare s'.gens/\(∀b∈ch,iK X pins H b)/\Un (frs X.stack) ch H H' s.heap s'.heap/\lI X.prog X.w H' B/\
  (B.StaysIn s'.heap/\B.get? a=none/\s'.heap.FunFrames B X.stack/\SF s'.heap B a cls a0 nt)/\
  (∀b o,s.heap.get? b=some o->b∉frs X.stack->b∉ch->∃o',B.get? b=some o'/\(H b=none->o'=o))
theorem wX.any{X:Cx}{pins:List (aaG×Obj)}{H H':Hp}{s s':aaL}{cls e:aaM}(f:wX X.prog X.w X.stack H s H' cls e s'):pE X pins H s H' cls e s' :=
 let ⟨a,a0,B,e1,e2,e3,un,hok,fl,Qt⟩:=f
 ⟨a,a0,.none,B,[],e1,e2,e3,(λb z=>by cases z),un,hok,fl,λb o q hb _=>Qt b o q hb⟩
def yP(X:Cx)(σ:St)(H':Hp)(c:PySem.Str)(e:aaM)(s':aaL):Prop :=
 ∃(C:aaG)(pins:List (aaG×Obj))(Hc:Hp)(sc:aaL),ClsAt X.K c C/\Inv X pins σ Hc sc/\
  (pE X pins Hc sc H' (.ref C) e s'\/(H'=Hc/\∃a args,e= .ref a/\s'.os=sc.os/\s'.gens=sc.gens/\Em sc.heap s'.heap a (.ref C) args))
def Pb(X:Cx)(σ:St)(m:Mp)(H:Hp)(c:PySem.Str)(st:Hs):Prop :=
 ∀(m':Mp)(H':Hp)(e:aaM)(s':aaL),Ext X.K m H m' H'->bG X.K m' st H'->yP X σ H' c e s'->X.xe e s'
theorem Pb.mono{X:Cx}{σ:St}{m m1:Mp}{H H1:Hp}{c:PySem.Str}{st:Hs}(h:Pb X σ m H c st)(e:Ext X.K m H m1 H1):Pb X σ m1 H1 c st :=
 λm' H' x s' e' S r=>h m' H' x s' (e.trans e') S r
def ax{α:Type}(X:Cx)(σ:St)(m:Mp)(H:Hp)(r:Re α)(ok:α->Hs->Prop):Prop:=match r with
 | .ok a st=>ok a st
 | .err c st=>Pb X σ m H c st
 | .bad=>False
def oE{α:Type}(r:Re α)(ok:α->Hs->Prop):Prop:=match r with
 | .ok a st=>ok a st
 | _=>False
theorem ax.lJ{α:Type}{X:Cx}{σ:St}{m:Mp}{H:Hp}{r:Re α}{ok:α->Hs->Prop}(h:ax X σ m H r.lJ ok):oE r ok:=by
 cases r with
 | ok a st=>exact h
 | err c st=>exact h
 | bad=>exact h
theorem ax.bind{α β:Type}{X:Cx}{σ:St}{m:Mp}{H:Hp}{r:Re α}{f:α->Hs->Re β}{ok:β->Hs->Prop}(h:ax X σ m H (r.bind f) ok):ax X σ m H r (λa st=>ax X σ m H (f a st) ok):=by
 cases r with
 | ok a st=>exact h
 | err c st=>exact h
 | bad=>exact h
theorem ax.imp{α:Type}{X:Cx}{σ:St}{m m1:Mp}{H H1:Hp}{r:Re α}{ok ok':α->Hs->Prop}(h:ax X σ m H r ok)(e:Ext X.K m H m1 H1)(k:∀a st,ok a st->ok' a st):ax X σ m1 H1 r ok':=by
 cases r with
 | ok a st=>exact k a st h
 | err c st=>exact Pb.mono (c:=c) (st:=st) h e
 | bad=>exact h
theorem oE.imp{α:Type}{r:Re α}{ok ok':α->Hs->Prop}(h:oE r ok)(k:∀a st,ok a st->ok' a st):oE r ok':=by
 cases r with
 | ok a st=>exact k a st h
 | err c st=>exact h
 | bad=>exact h
def II(K:PySem.W.Frag)(m:Mp)(H:Hp)(Q:VK)(w:Wv)(st:Hs):Prop:=∀(v:V)(m':Mp)(H':Hp),Ext K m H m' H'->bG K m' st H'->aj K m' H' w v->Q v H'
def Yh(K:PySem.W.Frag)(m:Mp)(H:Hp)(Q:Bool->Hp->Prop)(b:Bool)(st:Hs):Prop:=∀(m':Mp)(H':Hp),Ext K m H m' H'->bG K m' st H'->Q b H'
def Yi(K:PySem.W.Frag)(m:Mp)(H:Hp)(Q:List V->Hp->Prop)(ws:List Wv)(st:Hs):Prop:=∀(vs:List V)(m':Mp)(H':Hp),Ext K m H m' H'->bG K m' st H'->ai K m' H' ws vs->Q vs H'
abbrev fT(X:Cx)(σ:St)(m:Mp)(H:Hp)(r:Re Wv)(Q:VK):Prop:=ax X σ m H r (II X.K m H Q)
abbrev kc(X:Cx)(σ:St)(m:Mp)(H:Hp)(r:Re Bool)(Q:Bool->Hp->Prop):Prop:=ax X σ m H r (Yh X.K m H Q)
abbrev K9(X:Cx)(σ:St)(m:Mp)(H:Hp)(r:Re (List Wv))(Q:List V->Hp->Prop):Prop:=ax X σ m H r (Yi X.K m H Q)
theorem fT.shift{X:Cx}{σ:St}{m m1:Mp}{H H1:Hp}{r:Re Wv}{Q:VK}(h:fT X σ m H r Q)(e:Ext X.K m H m1 H1):fT X σ m1 H1 r Q:=h.imp e λ_ _ k v m' H' e'=>k v m' H' (e.trans e')
theorem kc.shift{X:Cx}{σ:St}{m m1:Mp}{H H1:Hp}{r:Re Bool}{Q:Bool->Hp->Prop}(h:kc X σ m H r Q)(e:Ext X.K m H m1 H1):kc X σ m1 H1 r Q:=h.imp e λ_ _ k m' H' e'=>k m' H' (e.trans e')
abbrev cS(K:PySem.W.Frag)(m:Mp)(H:Hp)(r:Re Wv)(Q:VK):Prop:=oE r (II K m H Q)
theorem cS.shift{K:PySem.W.Frag}{m m1:Mp}{H H1:Hp}{r:Re Wv}{Q:VK}(h:cS K m H r Q)(e:Ext K m H m1 H1):cS K m1 H1 r Q:=oE.imp h λ_ _ k v m' H' e'=>k v m' H' (e.trans e')
def aK(X:Cx)(m:Mp)(H:Hp)(r:Rs)(D:Ends):Prop:=match r with
 | .nx ρ st=>∀(σ:St)(m':Mp)(H':Hp),Ext X.K m H m' H'->bG X.K m' st H'->aD X.K m' H' ρ σ->D.nx σ H'
 | .rt w st=>∀(v:V)(m':Mp)(H':Hp),Ext X.K m H m' H'->bG X.K m' st H'->aj X.K m' H' w v->D.rt v H'
 | .bk ρ st=>∀(σ:St)(m':Mp)(H':Hp),Ext X.K m H m' H'->bG X.K m' st H'->aD X.K m' H' ρ σ->D.bk σ H'
 | .ct ρ st=>∀(σ:St)(m':Mp)(H':Hp),Ext X.K m H m' H'->bG X.K m' st H'->aD X.K m' H' ρ σ->D.ct σ H'
 | .err c ρ st=>∀(σ:St)(m':Mp)(H':Hp)(e:aaM)(s':aaL),Ext X.K m H m' H'->bG X.K m' st H'->aD X.K m' H' ρ σ->yP X σ H' c e s'->X.xe e s'
 | .bad=>False
theorem aK.shift{X:Cx}{m m1:Mp}{H H1:Hp}{r:Rs}{D:Ends}(h:aK X m H r D)(e:Ext X.K m H m1 H1):aK X m1 H1 r D:=by
 cases r with
 | nx ρ st=>exact λσ m' H' e'=>h σ m' H' (e.trans e')
 | rt w st=>exact λv m' H' e'=>h v m' H' (e.trans e')
 | bk ρ st=>exact λσ m' H' e'=>h σ m' H' (e.trans e')
 | ct ρ st=>exact λσ m' H' e'=>h σ m' H' (e.trans e')
 | err c ρ st=>exact λσ m' H' x s' e'=>h σ m' H' x s' (e.trans e')
 | bad=>exact h
theorem aK.cO{α:Type}{X:Cx}{m:Mp}{H:Hp}{ρ:bF}{σ:St}{r:Re α}{f:α->Hs->Rs}{D:Ends}(R:aD X.K m H ρ σ)(h:aK X m H (r.a9 ρ f) D):ax X σ m H r (λa st=>aK X m H (f a st) D):=by
 cases r with
 | ok a st=>exact h
 | err c st=>exact λm' H' x s' e' S r=>h σ m' H' x s' e' S (R.mono e') r
 | bad=>exact h
def SE(X:Cx)(e:Expr):TE:=λσ H Q=>∀(pins:List (aaG×Obj))(s:aaL),Inv X pins σ H s->aaZ (model X.prog X.w) X.A (eval e X.env) (EP X pins σ Q) X.xe s
def ST(X:Cx)(e:Expr):TT:=λσ H Q=>∀(pins:List (aaG×Obj))(s:aaL),Inv X pins σ H s->aaZ (model X.prog X.w) X.A (isTrue e X.env (eval e X.env)) (TP X pins σ Q) X.xe s
def SA(X:Cx)(es:List Expr):TA:=λσ H Q=>∀(pos:Pos)(pins:List (aaG×Obj))(s:aaL),Inv X pins σ H s->aaZ (model X.prog X.w) X.A (spliced (backTo pos (aaY es X.env))) (AP X pins σ Q) X.xe s
def SS(X:Cx)(st:Stmt):TS:=λD σ H=>∀(pins:List (aaG×Obj))(s:aaL),Inv X pins σ H s->aaZ (model X.prog X.w) X.A (exec st X.env) (SP X pins D) X.xe s
def SH(X:Cx)(st:List Stmt):TS:=λD σ H=>∀(pins:List (aaG×Obj))(s:aaL),Inv X pins σ H s->aaZ (model X.prog X.w) X.A (execs st X.env) (SP X pins D) X.xe s
section
variable {X:Cx}
theorem aE{e:Expr}:PE X e (SE X e):=λpins s _ _ _ I h=>h pins s I
theorem ql{e:Expr}:PT X e (ST X e):=λpins s _ _ _ I h=>h pins s I
theorem ke{es:List Expr}:PA X es (SA X es):=λpos pins s _ _ _ I h=>h pos pins s I
theorem K_{st:Stmt}:PS X st (SS X st):=λpins s _ _ _ I h=>h pins s I
theorem f_{st:List Stmt}:Dq X st (SH X st):=λpins s _ _ _ I h=>h pins s I
end
def JE(X:Cx)(e:Expr)(g:GE):Prop:=∀(ρ:bF)(st:Hs)(σ:St)(H:Hp)(m:Mp)(Q:VK),bG X.K m st H->aD X.K m H ρ σ->fT X σ m H (g ρ st) Q->SE X e σ H Q
def JT(X:Cx)(e:Expr)(g:GT):Prop:=∀(ρ:bF)(st:Hs)(σ:St)(H:Hp)(m:Mp)(Q:Bool->Hp->Prop),bG X.K m st H->aD X.K m H ρ σ->kc X σ m H (g ρ st) Q->ST X e σ H Q
def JA(X:Cx)(es:List Expr)(g:GA):Prop:=∀(ρ:bF)(st:Hs)(σ:St)(H:Hp)(m:Mp)(Q:List V->Hp->Prop),bG X.K m st H->aD X.K m H ρ σ->K9 X σ m H (g ρ st) Q->SA X es σ H Q
def JS(X:Cx)(s:Stmt)(g:GS):Prop:=∀(ρ:bF)(st:Hs)(σ:St)(H:Hp)(m:Mp)(D:Ends),bG X.K m st H->aD X.K m H ρ σ->aK X m H (g ρ st) D->SS X s D σ H
def ph(X:Cx)(s:List Stmt)(g:GS):Prop:=∀(ρ:bF)(st:Hs)(σ:St)(H:Hp)(m:Mp)(D:Ends),bG X.K m st H->aD X.K m H ρ σ->aK X m H (g ρ st) D->SH X s D σ H
section
variable {X:Cx}
theorem JE.of{e:Expr}{g:GE}{t:TE}(h:PE X e t)(k:∀(ρ:bF)(st:Hs)(σ:St)(H:Hp)(m:Mp)(Q:VK),bG X.K m st H->aD X.K m H ρ σ->fT X σ m H (g ρ st) Q->t σ H Q):JE X e g :=
 λρ st σ H m Q S R p pins s I=>h pins s σ H Q I (k ρ st σ H m Q S R p)
theorem JT.of{e:Expr}{g:GT}{t:TT}(h:PT X e t)(k:∀(ρ:bF)(st:Hs)(σ:St)(H:Hp)(m:Mp)(Q:Bool->Hp->Prop),bG X.K m st H->aD X.K m H ρ σ->kc X σ m H (g ρ st) Q->t σ H Q):JT X e g :=
 λρ st σ H m Q S R p pins s I=>h pins s σ H Q I (k ρ st σ H m Q S R p)
theorem JA.of{es:List Expr}{g:GA}{t:TA}(h:PA X es t)(k:∀(ρ:bF)(st:Hs)(σ:St)(H:Hp)(m:Mp)(Q:List V->Hp->Prop),bG X.K m st H->aD X.K m H ρ σ->K9 X σ m H (g ρ st) Q->t σ H Q):JA X es g :=
 λρ st σ H m Q S R p pos pins s I=>h pos pins s σ H Q I (k ρ st σ H m Q S R p)
theorem JS.of{e:Stmt}{g:GS}{t:TS}(h:PS X e t)(k:∀(ρ:bF)(st:Hs)(σ:St)(H:Hp)(m:Mp)(D:Ends),bG X.K m st H->aD X.K m H ρ σ->aK X m H (g ρ st) D->t D σ H):JS X e g :=
 λρ st σ H m D S R p pins s I=>h pins s σ H D I (k ρ st σ H m D S R p)
theorem ph.of{e:List Stmt}{g:GS}{t:TS}(h:Dq X e t)(k:∀(ρ:bF)(st:Hs)(σ:St)(H:Hp)(m:Mp)(D:Ends),bG X.K m st H->aD X.K m H ρ σ->aK X m H (g ρ st) D->t D σ H):ph X e g :=
 λρ st σ H m D S R p pins s I=>h pins s σ H D I (k ρ st σ H m D S R p)
theorem JE.go{e:Expr}{g:GE}{ρ:bF}{st:Hs}{σ:St}{H:Hp}{m:Mp}{T:VK}{ok:Wv->Hs->Prop}(h:JE X e g)(S:bG X.K m st H)(R:aD X.K m H ρ σ)(p:ax X σ m H (g ρ st) ok)
  (k:∀(w:Wv)(st1:Hs)(v:V)(m1:Mp)(H1:Hp),ok w st1->Ext X.K m H m1 H1->bG X.K m1 st1 H1->aj X.K m1 H1 w v->T v H1):SE X e σ H T :=
 h ρ st σ H m T S R (p.imp Ext.refl λw st1 q v m1 H1 e1 s1 r1=>k w st1 v m1 H1 q e1 s1 r1)
theorem JT.go{e:Expr}{g:GT}{ρ:bF}{st:Hs}{σ:St}{H:Hp}{m:Mp}{T:Bool->Hp->Prop}{ok:Bool->Hs->Prop}(h:JT X e g)(S:bG X.K m st H)(R:aD X.K m H ρ σ)(p:ax X σ m H (g ρ st) ok)
  (k:∀(b:Bool)(st1:Hs)(m1:Mp)(H1:Hp),ok b st1->Ext X.K m H m1 H1->bG X.K m1 st1 H1->T b H1):ST X e σ H T :=
 h ρ st σ H m T S R (p.imp Ext.refl λb st1 q m1 H1 e1 s1=>k b st1 m1 H1 q e1 s1)
theorem JA.go{es:List Expr}{g:GA}{ρ:bF}{st:Hs}{σ:St}{H:Hp}{m:Mp}{T:List V->Hp->Prop}{ok:List Wv->Hs->Prop}(h:JA X es g)(S:bG X.K m st H)(R:aD X.K m H ρ σ)(p:ax X σ m H (g ρ st) ok)
  (k:∀(ws:List Wv)(st1:Hs)(vs:List V)(m1:Mp)(H1:Hp),ok ws st1->Ext X.K m H m1 H1->bG X.K m1 st1 H1->ai X.K m1 H1 ws vs->T vs H1):SA X es σ H T :=
 h ρ st σ H m T S R (p.imp Ext.refl λw st1 q v m1 H1 e1 s1 r1=>k w st1 v m1 H1 q e1 s1 r1)
end
end J
namespace J
open PySem PySem.Spec PyProof.Rows L2
def lim:Nat:=1000000
theorem f'{n:Nat}(h:n<=lim):n<=aaX:=aW h (by unfold lim;rw[sizeLine_eq];decide)
theorem yQ{n:Nat}(h:n < lim):n < aaX:=bP h (by unfold lim;rw[sizeLine_eq];decide)
def aa(i:Nat):GE:=λρ st=>match ρ[i]? with
 | some (some w)=> .ok w st
 | _=> .bad
def gC(w:Wv):GE:=λ_ st=> .ok w st
section
variable {X:Cx}
theorem yR(i:Nat){x:Str}{pos:Pos}(hN:X.N[i]? =some x:=by rfl)(hv:Sl X.env.scope x:=by first | exact Or.inl rfl | exact mD (Or.inl rfl) | exact mD (mD rfl))(hd:(x == ("__debug__":Str))=false:=by decide)
  (hcd:(x == ("__classdict__":Str))=false:=by decide):JE X (.Name x pos) (aa i):=JE.of (L5 hN hv hd hcd) λρ st σ H m Q S R p=>by
 unfold aa at p
 cases e:ρ[i]? with
 | none=>rw[e] at p;exact ae p
 | some o=>
  cases o with
  | none=>rw[e] at p;exact ae p
  | some w=>
   rw[e] at p
   obtain⟨v,h1,h2⟩:=R.get i w e
   exact⟨v,h1,p v m H Ext.refl S h2⟩
theorem M4{i:Int}{j pos}:JE X (.Constant (.int i) j pos) (gC (.int i)):=JE.of L6 λρ st σ H m Q S R p=>p (.int i) m H Ext.refl S (by unfold aj;rfl)
theorem Qu{b:Bool}{j pos}:JE X (.Constant (.bool b) j pos) (gC (.bl b)):=JE.of PB λρ st σ H m Q S R p=>p (.bl b) m H Ext.refl S (by unfold aj;rfl)
theorem M5{j pos}:JE X (.Constant .none j pos) (gC .bg):=JE.of L7 λρ st σ H m Q S R p=>p .bg m H Ext.refl S (by unfold aj;rfl)
theorem M6{x:PySem.Str}{j pos}(hx:br x=true:=by decide+kernel):JE X (.Constant (.str x) j pos) (gC (.str x)):=JE.of L8 λρ st σ H m Q S R p=>p (.str x) m H Ext.refl S (by unfold aj;exact⟨rfl,hx⟩)
theorem En{x:Str}{i:Int}{t:Tok}{pos:Pos}(hg:Gl X x)(hm:X.mg x=some (.int i t))(hd:(x == ("__debug__":Str))=false:=by decide):JE X (.Name x pos) (gC (.int i)) :=
 JE.of (iJ (v:=.int i) hg hm ⟨t,rfl⟩ hd) λρ st σ H m Q S R p=>p (.int i) m H Ext.refl S (by unfold aj;rfl)
theorem Eo{x y:Str}{t:Tok}{pos:Pos}(hg:Gl X x)(hm:X.mg x=some (.str y t))(hy:br y=true:=by decide+kernel)(hd:(x == ("__debug__":Str))=false:=by decide):JE X (.Name x pos) (gC (.str y)) :=
 JE.of (iJ (v:=.str y) hg hm ⟨t,rfl⟩ hd) λρ st σ H m Q S R p=>p (.str y) m H Ext.refl S (by unfold aj;exact⟨rfl,hy⟩)
theorem Qv{x:Str}{T:String}{pos:Pos}(hg:Gl X x)(hm:X.mg x=none)(hv:aaQ x=some (.type T))(hn:x≠"__name__":=by decide)(hd:(x == ("__debug__":Str))=false:=by decide):JE X (.Name x pos) (gC (.ty T)) :=
 JE.of (HV (v:=.ty T) hg hm hv rfl hn hd) λρ st σ H m Q S R p=>p (.ty T) m H Ext.refl S (by unfold aj;rfl)
abbrev gO:=Wv->Wv->Hs->Re Wv
def ag(op:gO)(ga gb:GE):GE:=λρ st=>(ga ρ st).bind λx st1=>(gb ρ st1).bind λy st2=>(op x y st2).lJ
def rK(X:Cx)(op:gO)(r:R2):Prop:=∀(x y:Wv)(a b:V)(st:Hs)(H:Hp)(m:Mp)(Q:VK),bG X.K m st H->aj X.K m H x a->aj X.K m H y b->cS X.K m H (op x y st) Q->r a b H Q
def jw(X:Cx)(f:aaM->aaM->Sem aaM)(op:gO):Prop:=∃r,eM X f r/\rK X op r
theorem AB{a b:Expr}{ga gb:GE}{op:gO}{r:R2}(h2:rK X op r)(ha:JE X a ga)(hb:JE X b gb){ρ:bF}{st:Hs}{σ:St}{H:Hp}{m:Mp}{Q:VK}(S:bG X.K m st H)(R:aD X.K m H ρ σ)(p:fT X σ m H (ag op ga gb ρ st) Q) :
  PX r (SE X a) (SE X b) σ H Q:=by
 refine ha.go S R (ax.bind p) λx st1 v m1 H1 p1 e1 S1 rx=>?_
 refine hb.go S1 (R.mono e1) ((ax.bind p1).imp e1 λ_ _ q=>q) λy st2 u m2 H2 p2 e2 S2 ry=>?_
 exact h2 x y v u st2 H2 m2 Q S2 (aj.mono e2 _ _ rx) ry (cS.shift (ax.lJ p2) (e1.trans e2))
theorem M7{a b:Expr}{ga gb:GE}{o:Operator}{op:gO}{pos:Pos}(ho:jw X (aaP o) op)(ha:JE X a ga)(hb:JE X b gb):JE X (.BinOp a o b pos) (ag op ga gb):=by
 obtain⟨r,h1,h2⟩:=ho
 exact JE.of (PY h1 aE aE) λρ st σ H m Q S R p=>AB h2 ha hb S R p
theorem yS{a b:Expr}{ga gb:GE}{o:CmpOp}{op:gO}{pos:Pos}(ho:jw X (aaT o) op)(ha:JE X a ga)(hb:JE X b gb)(hm:aaO o b=false):JE X (.Compare a [o] [b] pos) (ag op ga gb):=by
 obtain⟨r,h1,h2⟩:=ho
 exact JE.of (Ie h1 aE aE hm) λρ st σ H m Q S R p=>AB h2 ha hb S R p
def La(w:Wv)(st:Hs):Re Bool:=match w with
 | .bl b=> .ok b st
 | _=> .bad
def aQ(g:GE):GT:=λρ st=>(g ρ st).bind La
theorem lQ{σ:St}{m:Mp}{H:Hp}{r:Re Wv}{Q:Bool->Hp->Prop}(p:kc X σ m H (r.bind La) Q):fT X σ m H r (λx H'=>∃k,x= .bl k/\Q k H'):=by
 cases r with
 | ok w st=>
  cases w with
  | bl b=>
   intro v m' H' e S rw'
   unfold aj at rw'
   exact⟨b,rw',p m' H' e S⟩
  | _=>exact ae p
 | err c st=>exact p
 | bad=>exact p
theorem yT{a b:Expr}{ga gb:GE}{o:CmpOp}{op:gO}{pos:Pos}(ho:jw X (aaT o) op)(ha:JE X a ga)(hb:JE X b gb)(hm:aaO o b=false):JT X (.Compare a [o] [b] pos) (aQ (ag op ga gb)):=by
 obtain⟨r,h1,h2⟩:=ho
 exact JT.of (Ig h1 aE aE hm) λρ st σ H m Q S R p=>AB h2 ha hb S R (lQ p)
def iA(op op':gO)(ga gb gc:GE):GE:=λρ st=>(ga ρ st).bind λx st1=>(gb ρ st1).bind λy st2=>(op x y st2).lJ.bind λz st3=>match z with
 | .bl true=>(gc ρ st3).bind λu rL=>(op' y u rL).lJ
 | .bl false=> .ok (.bl false) st3
 | _=> .bad
theorem Lb{a b c:Expr}{ga gb gc:GE}{op op':gO}{r r':R2}(h2:rK X op r)(h2':rK X op' r')(ha:JE X a ga)(hb:JE X b gb)(hc:JE X c gc){ρ:bF}{st:Hs}{σ:St}{H:Hp}{m:Mp}{Q:VK}
  (S:bG X.K m st H)(R:aD X.K m H ρ σ)(p:fT X σ m H (iA op op' ga gb gc ρ st) Q):yx r r' (SE X a) (SE X b) (SE X c) σ H Q:=by
 refine ha.go S R (ax.bind p) λx st1 v m1 H1 p1 e1 S1 rx=>?_
 refine hb.go S1 (R.mono e1) ((ax.bind p1).imp e1 λ_ _ q=>q) λy st2 u m2 H2 p2 e2 S2 ry=>?_
 refine h2 x y v u st2 H2 m2 _ S2 (aj.mono e2 _ _ rx) ry (oE.imp (ax.lJ (ax.bind p2)) λz st3 p3=>?_)
 intro z' m3 H3 e3 S3 rz
 cases z with
 | bl k=>
  unfold aj at rz
  refine⟨k,rz,?_⟩
  cases k with
  | true=>
   rw[if_pos rfl]
   refine hc.go S3 (R.mono (e1.trans (e2.trans e3))) ((ax.bind p3).imp (e1.trans (e2.trans e3)) λ_ _ q=>q) λq rL u' m4 H4 p4 e4 S4 rq=>?_
   exact h2' y q u u' rL H4 m4 Q S4 (aj.mono (e3.trans e4) _ _ ry) rq (cS.shift (ax.lJ p4) (e1.trans (e2.trans (e3.trans e4))))
  | false=>
   rw[if_neg bD]
   exact p3 (.bl false) m3 H3 (e1.trans (e2.trans e3)) S3 (by unfold aj;rfl)
 | _=>exact ae p3
theorem Ep{a b c:Expr}{ga gb gc:GE}{o o':CmpOp}{op op':gO}{pos:Pos}(ho:jw X (aaT o) op)(ho':jw X (aaT o') op')(ha:JE X a ga)(hb:JE X b gb)(hc:JE X c gc)
  (hm:lastMarks [o,o'] [b,c]=false:=by with_unfolding_all rfl):JE X (.Compare a [o,o'] [b,c] pos) (iA op op' ga gb gc):=by
 obtain⟨r,h1,h2⟩:=ho
 obtain⟨r',Dt,h2'⟩:=ho'
 exact JE.of (DR h1 Dt aE aE aE hm) λρ st σ H m Q S R p=>Lb h2 h2' ha hb hc S R p
theorem Er{a b c:Expr}{ga gb gc:GE}{o o':CmpOp}{op op':gO}{pos:Pos}(ho:jw X (aaT o) op)(ho':jw X (aaT o') op')(ha:JE X a ga)(hb:JE X b gb)(hc:JE X c gc)
  (hm:lastMarks [o,o'] [b,c]=false:=by with_unfolding_all rfl):JT X (.Compare a [o,o'] [b,c] pos) (aQ (iA op op' ga gb gc)):=by
 obtain⟨r,h1,h2⟩:=ho
 obtain⟨r',Dt,h2'⟩:=ho'
 exact JT.of (DS h1 Dt aE aE aE hm) λρ st σ H m Q S R p=>Lb h2 h2' ha hb hc S R (lQ p)
def WT(op:Wv->Hs->Re Wv)(ga:GE):GE:=λρ st=>(ga ρ st).bind op
def Es:Wv->Hs->Re Wv
 | .int i,st=> .ok (.int (-i)) st
 | _,_=> .bad
theorem M8{a:Expr}{ga:GE}{pos:Pos}(ha:JE X a ga):JE X (.UnaryOp .USub a pos) (WT Es ga):=by
 refine JE.of (PZ Ms aE) λρ st σ H m Q S R p=>?_
 refine ha.go S R (ax.bind p) λx st1 v m1 H1 p1 e1 S1 rx=>?_
 cases x with
 | int i=>
  unfold aj at rx
  exact⟨i,rx,p1 _ m1 H1 e1 S1 (by unfold aj;rfl)⟩
 | _=>exact ae p1
def SW(X:Cx)(e:Expr):TT:=λσ H Q=>∀(wh:Sem aaM)(pins:List (aaG×Obj))(s:aaL),Inv X pins σ H s->aaZ (model X.prog X.w) X.A (isTrue e X.env wh) (TP X pins σ Q) X.xe s
theorem Lc{e:Expr}:PW X e (SW X e):=λwh pins s _ _ _ I h=>h wh pins s I
def JW(X:Cx)(e:Expr)(g:GT):Prop:=∀(ρ:bF)(st:Hs)(σ:St)(H:Hp)(m:Mp)(Q:Bool->Hp->Prop),bG X.K m st H->aD X.K m H ρ σ->kc X σ m H (g ρ st) Q->SW X e σ H Q
theorem JW.of{e:Expr}{g:GT}{t:TT}(h:PW X e t)(k:∀(ρ:bF)(st:Hs)(σ:St)(H:Hp)(m:Mp)(Q:Bool->Hp->Prop),bG X.K m st H->aD X.K m H ρ σ->kc X σ m H (g ρ st) Q->t σ H Q):JW X e g :=
 λρ st σ H m Q S R p wh pins s I=>h wh pins s σ H Q I (k ρ st σ H m Q S R p)
theorem JW.jt{e:Expr}{g:GT}(h:JW X e g):JT X e g:=λρ st σ H m Q S R p pins s I=>h ρ st σ H m Q S R p _ pins s I
def nP(ga gb:GT):GT:=λρ st=>(ga ρ st).bind λb st1=>if b=true then gb ρ st1 else .ok false st1
def Qw(ga gb:GT):GT:=λρ st=>(ga ρ st).bind λb st1=>if b=true then .ok true st1 else gb ρ st1
def wY(ga:GT):GT:=λρ st=>(ga ρ st).bind λb st1=> .ok (!b) st1
theorem IJ{a:Expr}{ga:GT}{pos:Pos}(ha:JT X a ga):JW X (.BoolOp .And [a] pos) ga:=JW.of (HW ql) λρ st σ H m Q S R p=>ha ρ st σ H m Q S R p
theorem M9{a:Expr}{ga:GT}{pos:Pos}(ha:JT X a ga):JW X (.BoolOp .Or [a] pos) ga:=JW.of (L_ ql) λρ st σ H m Q S R p=>ha ρ st σ H m Q S R p
theorem M_{a b:Expr}{rest:List Expr}{ga gb:GT}{pos:Pos}(ha:JT X a ga)(hb:JW X (.BoolOp .And (b::rest) pos) gb):JW X (.BoolOp .And (a::b::rest) pos) (nP ga gb):=by
 refine JW.of (L' ql Lc) λρ st σ H m Q S R p=>?_
 refine ha.go S R (ax.bind p) λc st1 m1 H1 p1 e1 S1=>?_
 cases c with
 | true=>rw[if_pos rfl] at p1 ⊢;exact hb ρ st1 σ H1 m1 Q S1 (R.mono e1) (kc.shift p1 e1)
 | false=>rw[if_neg bD] at p1 ⊢;exact p1 m1 H1 e1 S1
theorem Qx{a b:Expr}{rest:List Expr}{ga gb:GT}{pos:Pos}(ha:JT X a ga)(hb:JW X (.BoolOp .Or (b::rest) pos) gb):JW X (.BoolOp .Or (a::b::rest) pos) (Qw ga gb):=by
 refine JW.of (PD ql Lc) λρ st σ H m Q S R p=>?_
 refine ha.go S R (ax.bind p) λc st1 m1 H1 p1 e1 S1=>?_
 cases c with
 | true=>rw[if_pos rfl] at p1 ⊢;exact p1 m1 H1 e1 S1
 | false=>rw[if_neg bD] at p1 ⊢;exact hb ρ st1 σ H1 m1 Q S1 (R.mono e1) (kc.shift p1 e1)
theorem M'{a:Expr}{ga:GT}{pos:Pos}(ha:JT X a ga):JT X (.UnaryOp .Not a pos) (wY ga):=by
 refine JT.of (Ma ql) λρ st σ H m Q S R p=>?_
 exact ha.go S R (ax.bind p) λc st1 m1 H1 p1 e1 S1=>p1 m1 H1 e1 S1
def fU(ga gb:GE):GE:=λρ st=>(ga ρ st).bind λw st1=>match w with
 | .bl true=>gb ρ st1
 | .bl false=> .ok (.bl false) st1
 | _=> .bad
def Qy(ga gb:GE):GE:=λρ st=>(ga ρ st).bind λw st1=>match w with
 | .bl true=> .ok (.bl true) st1
 | .bl false=>gb ρ st1
 | _=> .bad
def AD(ga:GE):GE:=λρ st=>(ga ρ st).bind λw st1=>match w with
 | .bl b=> .ok (.bl (!b)) st1
 | _=> .bad
theorem Et{op}{a:Expr}{ga:GE}{pos:Pos}(ha:JE X a ga):JE X (.BoolOp op [a] pos) ga:=JE.of (Mb aE) λρ st σ H m Q S R p=>ha ρ st σ H m Q S R p
theorem Na{a b:Expr}{rest:List Expr}{ga gb:GE}{pos:Pos}(ha:JE X a ga)(hb:JE X (.BoolOp .And (b::rest) pos) gb):JE X (.BoolOp .And (a::b::rest) pos) (fU ga gb):=by
 refine JE.of (Mc aE aE) λρ st σ H m Q S R p=>?_
 refine ha.go S R (ax.bind p) λx st1 v m1 H1 p1 e1 S1 rx=>?_
 cases x with
 | bl c=>
  unfold aj at rx
  refine⟨c,rx,?_⟩
  cases c with
  | true=>rw[if_pos rfl];exact hb ρ st1 σ H1 m1 Q S1 (R.mono e1) (fT.shift p1 e1)
  | false=>rw[if_neg bD];exact p1 _ m1 H1 e1 S1 (by unfold aj;rfl)
 | _=>exact ae p1
theorem Qz{a b:Expr}{rest:List Expr}{ga gb:GE}{pos:Pos}(ha:JE X a ga)(hb:JE X (.BoolOp .Or (b::rest) pos) gb):JE X (.BoolOp .Or (a::b::rest) pos) (Qy ga gb):=by
 refine JE.of (PJ aE aE) λρ st σ H m Q S R p=>?_
 refine ha.go S R (ax.bind p) λx st1 v m1 H1 p1 e1 S1 rx=>?_
 cases x with
 | bl c=>
  unfold aj at rx
  refine⟨c,rx,?_⟩
  cases c with
  | true=>rw[if_pos rfl];exact p1 _ m1 H1 e1 S1 (by unfold aj;rfl)
  | false=>rw[if_neg bD];exact hb ρ st1 σ H1 m1 Q S1 (R.mono e1) (fT.shift p1 e1)
 | _=>exact ae p1
theorem Nb{a:Expr}{ga:GE}{pos:Pos}(ha:JE X a ga):JE X (.UnaryOp .Not a pos) (AD ga):=by
 refine JE.of (Md aE) λρ st σ H m Q S R p=>?_
 refine ha.go S R (ax.bind p) λx st1 v m1 H1 p1 e1 S1 rx=>?_
 cases x with
 | bl c=>
  unfold aj at rx
  exact⟨c,rx,p1 _ m1 H1 e1 S1 (by unfold aj;rfl)⟩
 | _=>exact ae p1
def QA(gt:GT)(ga gb:GE):GE:=λρ st=>(gt ρ st).bind λb st1=>if b=true then ga ρ st1 else gb ρ st1
theorem QB{c a b:Expr}{gt:GT}{ga gb:GE}{pos:Pos}(hc:JT X c gt)(ha:JE X a ga)(hb:JE X b gb):JE X (.IfExp c a b pos) (QA gt ga gb):=by
 refine JE.of (DJ ql aE aE) λρ st σ H m Q S R p=>?_
 refine hc.go S R (ax.bind p) λk st1 m1 H1 p1 e1 S1=>?_
 cases k with
 | true=>rw[if_pos rfl] at p1 ⊢;exact ha ρ st1 σ H1 m1 Q S1 (R.mono e1) (fT.shift p1 e1)
 | false=>rw[if_neg bD] at p1 ⊢;exact hb ρ st1 σ H1 m1 Q S1 (R.mono e1) (fT.shift p1 e1)
def aq:GA:=λ_ st=> .ok [] st
def af(ga:GE)(gr:GA):GA:=λρ st=>(ga ρ st).bind λx st1=>(gr ρ st1).bind λxs st2=> .ok (x::xs) st2
theorem yU:JA X [] aq:=JA.of Mv λρ st σ H m Q S R p=>p [] m H Ext.refl S ai.nil
theorem vq{e:Expr}{es:List Expr}{ga:GE}{gr:GA}(ha:JE X e ga)(hr:JA X es gr)(hs:aaY (e::es) X.env=(false,eval e X.env)::aaY es X.env:=by rfl):JA X (e::es) (af ga gr):=by
 refine JA.of (Ih aE ke hs) λρ st σ H m Q S R p=>?_
 refine ha.go S R (ax.bind p) λx st1 v m1 H1 p1 e1 S1 rx=>?_
 refine hr.go S1 (R.mono e1) ((ax.bind p1).imp e1 λ_ _ q=>q) λxs st2 vs m2 H2 p2 e2 S2 rs=>?_
 exact p2 (v::vs) m2 H2 (e1.trans e2) S2 (ai.cons (aj.mono e2 _ _ rx) rs)
def eh(g:GA):GE:=λρ st=>(g ρ st).bind λws st1=>if ws.length<=lim then .ok (.tup ws) st1 else .bad
def dR(g:GA):GE:=λρ st=>(g ρ st).bind λws st1=>if ws.length<=lim then .ok (.ref st1.length) (st1++[.lst ws]) else .bad
theorem Nc{es:List Expr}{g:GA}{x1 pos}(h:JA X es g):JE X (.Tuple es x1 pos) (eh g):=by
 refine JE.of (Mw ke) λρ st σ H m Q S R p=>?_
 refine h.go S R (ax.bind p) λws st1 vs m1 H1 p1 e1 S1 rs=>?_
 by_cases hl:ws.length<=lim
 ·rw[if_pos hl] at p1
  refine⟨by rw[<-rs.length];exact f' hl,λq hq=>?_⟩
  have e2:Ext X.K m1 H1 m1 (upd H1 q (.tup vs)):=Ext.upd (.inl hq)
  exact p1 (.ref q) m1 _ (e1.trans e2) (S1.fresh hq) (by unfold aj;exact⟨q,vs,rfl,aZ,ai.mono e2 _ _ rs⟩)
 ·rw[if_neg hl] at p1;exact ae p1
theorem bG.newest{K:PySem.W.Frag}{m:Mp}{st:Hs}{H:Hp}(S:bG K m st H)(q:aaG)(H':Hp):aj K (m++[q]) H' (.ref st.length) (.ref q):=by
 unfold aj
 refine⟨q,rfl,?_⟩
 rw[<-S.len,pA (au _),qJ]
 rfl
theorem kg{m m1:Mp}{H H1:Hp}{st1:Hs}{ws:List Wv}{vs:List V}{Q:VK}(p1:II X.K m H Q (.ref st1.length) (st1++[.lst ws]))(e1:Ext X.K m H m1 H1)(S1:bG X.K m1 st1 H1)(rs:ai X.K m1 H1 ws vs)(q:aaG)(hq:H1 q=none) :
  Q (.ref q) (upd H1 q (.lst vs)) :=
 p1 (.ref q) (m1++[q]) _ (e1.trans (Ext.more.trans (Ext.upd (.inl hq)))) (S1.alloc hq rs) (S1.newest q _)
theorem Nd{es:List Expr}{g:GA}{pos}(h:JA X es g):JE X (.List es pos) (dR g):=by
 refine JE.of (Mx ke) λρ st σ H m Q S R p=>?_
 refine h.go S R (ax.bind p) λws st1 vs m1 H1 p1 e1 S1 rs=>?_
 by_cases hl:ws.length<=lim
 ·rw[if_pos hl] at p1
  exact⟨by rw[<-rs.length];exact f' hl,λq hq=>kg p1 e1 S1 rs q hq⟩
 ·rw[if_neg hl] at p1;exact ae p1
end
section
variable {X:Cx}
theorem eM.or{f:aaM->aaM->Sem aaM}{r r':R2}(h:eM X f r)(h':eM X f r'):eM X f (λx y H Q=>r x y H Q\/r' x y H Q):=by
 intro pins s σ H x y v u Q I rx ry q
 rcases q with q | q
 ·exact h pins s σ H x y v u Q I rx ry q
 ·exact h' pins s σ H x y v u Q I rx ry q
theorem Eu:eM X (aaP .FloorDiv) (rI (λ_ j=>j≠0/\j.natAbs.log2 < 9000) λi j=> .int (i.fdiv j)):=Su λi j _ _ _ _ _ hc q=>floordiv_int hc.1 q (.inl (PyProof.noPylong_of_log2 hc.2))
theorem IK:eM X (aaP .Mod) (rI (λ_ j=>j≠0) λi j=> .int (i.fmod j)):=Su λi j _ _ _ _ _ hc q=>mod_int' hc q
theorem IL:eM X (aaP .Mult) (rI (λi j=>IntMulOk i j) λi j=> .int (i * j)):=Su λ_ _ _ _ _ _ _ hc q=>mul_int q hc
instance Us{a b:Int}:Decidable (IntMulOk a b):=by unfold IntMulOk;infer_instance
def kK:gO
 | .int i,.int j,st=> .ok (.int (i - j)) st
 | _,_,_=> .bad
def bB:gO
 | .int i,.int j,st=>if j≠0/\j.natAbs.log2 < 9000 then .ok (.int (i.fdiv j)) st else .bad
 | _,_,_=> .bad
def oMod:gO
 | .int i,.int j,st=>if j≠0 then .ok (.int (i.fmod j)) st else .bad
 | _,_,_=> .bad
def qw:gO
 | .int i,.int j,st=>if 0<=j/\j<=1000000/\i.natAbs < 2 ^ 64 then .ok (.int (i ^ j.toNat)) st else .bad
 | _,_,_=> .bad
def QC:gO
 | .int i,.int j,st=> .ok (.bl (decide (i < j))) st
 | .str i,.str j,st=> .ok (.bl (decide (i.cps.toList < j.cps.toList))) st
 | _,_,_=> .bad
def QD:gO
 | .int i,.int j,st=> .ok (.bl (decide (i<=j))) st
 | _,_,_=> .bad
def Ut:gO
 | .int i,.int j,st=> .ok (.bl (decide (j < i))) st
 | _,_,_=> .bad
def Uu:gO
 | .int i,.int j,st=> .ok (.bl (decide (j<=i))) st
 | _,_,_=> .bad
theorem aV{m:Mp}{H:Hp}{i:Int}{a:V}(h:aj X.K m H (.int i) a):a= .int i:=by unfold aj at h;exact h
theorem gj{m:Mp}{H:Hp}{x:PySem.Str}{a:V}(h:aj X.K m H (.str x) a):a= .str x/\br x=true:=by unfold aj at h;exact h
theorem mkInt{m:Mp}{H:Hp}{i:Int}:aj X.K m H (.int i) (.int i):=by unfold aj;rfl
theorem iB{m:Mp}{H:Hp}{i:Bool}:aj X.K m H (.bl i) (.bl i):=by unfold aj;rfl
theorem AE{m:Mp}{H:Hp}:aj X.K m H .bg .bg:=by unfold aj;rfl
theorem mkStr{m:Mp}{H:Hp}{x:PySem.Str}(h:br x=true):aj X.K m H (.str x) (.str x):=by unfold aj;exact⟨rfl,h⟩
theorem Nf:jw X (aaP .Sub) kK:=⟨_,Mq,λx y a b st H m Q S rx ry p=>by
 cases x with
 | int i=>
  cases y with
  | int j=>exact⟨i,j,aV rx,aV ry,p _ m H Ext.refl S mkInt⟩
  | _=>exact ae p
 | _=>cases y<;>exact ae p⟩
theorem IM:jw X (aaP .FloorDiv) bB:=⟨_,Eu,λx y a b st H m Q S rx ry p=>by
 cases x with
 | int i=>
  cases y with
  | int j=>
   dsimp only[bB] at p
   by_cases c:j≠0/\j.natAbs.log2 < 9000
   ·rw[if_pos c] at p;exact⟨i,j,aV rx,aV ry,c,p _ m H Ext.refl S mkInt⟩
   ·rw[if_neg c] at p;exact ae p
  | _=>exact ae p
 | _=>cases y<;>exact ae p⟩
theorem Ng:jw X (aaP .Mod) oMod:=⟨_,IK,λx y a b st H m Q S rx ry p=>by
 cases x with
 | int i=>
  cases y with
  | int j=>
   dsimp only[oMod] at p
   by_cases c:j≠0
   ·rw[if_pos c] at p;exact⟨i,j,aV rx,aV ry,c,p _ m H Ext.refl S mkInt⟩
   ·rw[if_neg c] at p;exact ae p
  | _=>exact ae p
 | _=>cases y<;>exact ae p⟩
theorem Nh:jw X (aaP .Pow) qw:=⟨_,Mr,λx y a b st H m Q S rx ry p=>by
 cases x with
 | int i=>
  cases y with
  | int j=>
   dsimp only[qw] at p
   by_cases c:0<=j/\j<=1000000/\i.natAbs < 2 ^ 64
   ·rw[if_pos c] at p;exact⟨i,j,aV rx,aV ry,c,p _ m H Ext.refl S mkInt⟩
   ·rw[if_neg c] at p;exact ae p
  | _=>exact ae p
 | _=>cases y<;>exact ae p⟩
theorem QE:jw X (aaT .Lt) QC:=⟨_,eM.or P4 BS,λx y a b st H m Q S rx ry p=>by
 cases x with
 | int i=>
  cases y with
  | int j=>exact .inl ⟨i,j,aV rx,aV ry,p _ m H Ext.refl S iB⟩
  | _=>exact ae p
 | str i=>
  cases y with
  | str j=>exact .inr ⟨i,j,(gj rx).1,(gj ry).1,p _ m H Ext.refl S iB⟩
  | _=>exact ae p
 | _=>cases y<;>exact ae p⟩
theorem QF:jw X (aaT .LtE) QD:=⟨_,P5,λx y a b st H m Q S rx ry p=>by
 cases x with
 | int i=>
  cases y with
  | int j=>exact⟨i,j,aV rx,aV ry,p _ m H Ext.refl S iB⟩
  | _=>exact ae p
 | _=>cases y<;>exact ae p⟩
theorem QG:jw X (aaT .Gt) Ut:=⟨_,P6,λx y a b st H m Q S rx ry p=>by
 cases x with
 | int i=>
  cases y with
  | int j=>exact⟨i,j,aV rx,aV ry,p _ m H Ext.refl S iB⟩
  | _=>exact ae p
 | _=>cases y<;>exact ae p⟩
theorem QH:jw X (aaT .GtE) Uu:=⟨_,P7,λx y a b st H m Q S rx ry p=>by
 cases x with
 | int i=>
  cases y with
  | int j=>exact⟨i,j,aV rx,aV ry,p _ m H Ext.refl S iB⟩
  | _=>exact ae p
 | _=>cases y<;>exact ae p⟩
def WU:gO
 | x,.bg,st=> .ok (.bl (match x with | .bg=>true | _=>false)) st
 | _,_,_=> .bad
def pF:gO
 | x,.bg,st=> .ok (.bl (match x with | .bg=>false | _=>true)) st
 | _,_,_=> .bad
theorem Ld{m:Mp}{H:Hp}{x:Wv}{a:V}(h:aj X.K m H x a):decide (a=V.bg)=(match x with | .bg=>true | _=>false):=by
 cases x with
 | bg=>unfold aj at h;subst h;rfl
 | bl b=>unfold aj at h;subst h;rfl
 | int b=>unfold aj at h;subst h;rfl
 | str b=>unfold aj at h;obtain⟨h,_⟩:=h;subst h;rfl
 | tup b=>unfold aj at h;obtain⟨q,xs,h,_⟩:=h;subst h;rfl
 | rH b=>unfold aj at h;obtain⟨q,xs,h,_⟩:=h;subst h;rfl
 | ref b=>unfold aj at h;obtain⟨q,h,_⟩:=h;subst h;rfl
 | ty b=>unfold aj at h;subst h;rfl
 | cls b=>unfold aj at h;obtain⟨q,h,_⟩:=h;subst h;rfl
 | wU b=>unfold aj at h;obtain⟨q,C,h,_⟩:=h;subst h;rfl
 | fn fp b=>unfold aj at h;obtain⟨h,_⟩:=h;subst h;rfl
theorem QI:jw X (aaT .Is) WU:=⟨_,Mt,λx y a b st H m Q S rx ry p=>by
 cases y with
 | bg=>
  refine⟨by unfold aj at ry;exact ry,?_⟩
  rw[Ld rx]
  cases x<;>exact p _ m H Ext.refl S iB
 | _=>cases x<;>exact ae p⟩
theorem Ew:jw X (aaT .IsNot) pF:=⟨_,Ib,λx y a b st H m Q S rx ry p=>by
 cases y with
 | bg=>
  refine⟨by unfold aj at ry;exact ry,?_⟩
  rw[Ld rx]
  cases x<;>exact p _ m H Ext.refl S iB
 | _=>cases x<;>exact ae p⟩
theorem vr{a b:PySem.Str}(ha:br a=true)(hb:br b=true):br (a++b)=true:=by
 unfold br at *
 show((a.cps++b.cps).all _)=true
 rw[Array.all_append,ha,hb]
 rfl
def QJ(K:PySem.W.Frag):R2:=λx y H Q=>∃l b xs zs,x= .ref l/\y= .ref b/\lO K H l xs/\lO K H b zs/\xs.length+zs.length<=aaX/\∀p,H p=none->Q (.ref p) (upd H p (.lst (xs++zs)))
theorem IP:eM X (aaP .Add) (QJ X.K):=by
 intro pins s σ H x y v u Q I rx ry h
 obtain⟨l,b,xs,zs,rfl,rfl,hH,hB,hz,q⟩:=h
 cases rx
 cases ry
 obtain⟨its,r,pl,hs⟩:=I.list hH
 obtain⟨its2,r2,Yj,hs2⟩:=I.list hB
 have hl:=r.length
 have hl2:=r2.length
 obtain⟨⟨cls,dd,data,sl⟩,ho,hc,n,hd⟩:=id pl.isList
 obtain⟨⟨Qd,dd2,data2,sl2⟩,ho2,hc2,n2,hd2⟩:=id Yj.isList
 simp only at hc hd hc2 hd2
 subst hc hd hc2 hd2
 have e:its.toArray++its2.toArray=(its++its2).toArray:=by simp
 refine PySem.concat_meets ⟨_,ho,rfl⟩ ⟨_,ho2,rfl⟩ PySem.noFill_list_add PySem.seq_list_add PySem.F.slot_list_add PySem.F.entry_list_add (PySem.F.args_list_add_2 _ _) (list_addW l b its.toArray its2.toArray n n2 dd dd2 sl sl2 (by simp;omega)) ⟨ho,ho2,?_⟩
 rw[e]
 exact⟨.ref _,_,I.ML (t':=s.toks) (r.append r2) (by rw[cF];omega),rfl,q _ I.fresh⟩
def QK(K:PySem.W.Frag):R2:=λx y H Q=>∃a b ys,x= .ref a/\y= .ref b/\gN K H a []/\gN K H b ys/\Q (.ref b) H
theorem IQ:eM X (aaP .Add) (QK X.K):=by
 intro pins s σ H x y v u Q I rx ry h
 obtain⟨a,b,ys,rfl,rfl,ha,hb,q⟩:=h
 cases rx
 cases ry
 obtain⟨its,r1,p1,_⟩:=I.tuple ha
 obtain⟨its2,r2,p2,_⟩:=I.tuple hb
 cases r1
 obtain⟨⟨c1,d1,t1,l1⟩,g1,k1,n1,j1⟩:=id p1
 obtain⟨⟨c2,d2,t2,l2⟩,g2,k2,n2,j2⟩:=id p2
 simp only at k1 j1 k2 j2
 subst k1 j1 k2 j2
 exact PySem.concat_meets ⟨_,g1,rfl⟩ ⟨_,g2,rfl⟩ PySem.noFill_tuple_add PySem.seq_tuple_add PySem.F.slot_tuple_add PySem.F.entry_tuple_add (PySem.F.args_tuple_add_2 _ _) (tuple_addW0 a b #[] its2.toArray n1 n2 d1 d2 l1 l2 (by simp)) ⟨g1,g2,⟨.ref b,H,I,rfl,q⟩⟩
def cu:gO
 | .int i,.int j,st=> .ok (.int (i+j)) st
 | .str i,.str j,st=>if i.length+j.length<=lim then .ok (.str (i++j)) st else .bad
 | .tup i,.tup j,st=>if i.length+j.length<=lim then .ok (.tup (i++j)) st else .bad
 | .ref l,.ref k,st=>match ao st l,ao st k with
  | some i,some j=>if i.length+j.length<=lim then .ok (.ref st.length) (st++[.lst (i++j)]) else .bad
  | _,_=> .bad
 | _,_,_=> .bad
instance {α:Type}{xs:List α}:Decidable (xs≠[]):=match xs with
 | []=>isFalse (λh=>h rfl)
 | _::_=>isTrue (λh=>by cases h)
theorem Ni:jw X (aaP .Add) cu:=⟨_,eM.or Mo (eM.or yz (eM.or Ir (eM.or IP IQ))),λx y a b st H m Q S rx ry p=>by
 cases x with
 | int i=>
  cases y with
  | int j=>exact .inl ⟨i,j,aV rx,aV ry,p _ m H Ext.refl S mkInt⟩
  | _=>exact ae p
 | str i=>
  cases y with
  | str j=>
   dsimp only[cu] at p
   by_cases c:i.length+j.length<=lim
   ·rw[if_pos c] at p
    exact .inr (.inl ⟨i,j,(gj rx).1,(gj ry).1,f' c,p _ m H Ext.refl S (mkStr (vr (gj rx).2 (gj ry).2))⟩)
   ·rw[if_neg c] at p;exact ae p
  | _=>exact ae p
 | tup i=>
  cases y with
  | tup j=>
   dsimp only[cu] at p
   by_cases c:i.length+j.length<=lim
   ·rw[if_pos c] at p
    by_cases c0:i=[]
    ·subst c0
     unfold aj at rx ry
     obtain⟨a1,xs,rfl,h1,h2⟩:=rx
     obtain⟨a2,ys,rfl,h3,h4⟩:=ry
     have l1:xs=[]:=vt h2.length.symm
     subst l1
     exact .inr (.inr (.inr (.inr ⟨a1,a2,ys,rfl,rfl,gN.of h1,gN.of h3,p (.ref a2) m H Ext.refl S (by rw[Au];unfold aj;exact⟨a2,ys,rfl,h3,h4⟩)⟩)))
    unfold aj at rx ry
    obtain⟨a1,xs,rfl,h1,h2⟩:=rx
    obtain⟨a2,ys,rfl,h3,h4⟩:=ry
    have l1:=h2.length
    have l2:=h4.length
    have n1:xs≠[]:=λz=>by rw[z] at l1;exact c0 (vt l1)
    refine .inr (.inr (.inl ⟨a1,a2,xs,ys,rfl,rfl,gN.of h1,gN.of h3,n1,by rw[<-l1,<-l2];exact f' c,λz=>?_,λ_ q hq=>?_⟩))
    ·rw[z] at l2
     rw[vt l2,iz] at p
     exact p (.ref a1) m H Ext.refl S (by unfold aj;exact⟨a1,xs,rfl,h1,h2⟩)
    have e2:Ext X.K m H m (upd H q (.tup (xs++ys))):=Ext.upd (.inl hq)
    exact p (.ref q) m _ e2 (S.fresh hq) (by unfold aj;exact⟨q,xs++ys,rfl,aZ,ai.mono e2 _ _ (h2.append h4)⟩)
   ·rw[if_neg c] at p;exact ae p
  | _=>exact ae p
 | ref l=>
  cases y with
  | ref k=>
   dsimp only[cu] at p
   unfold aj at rx ry
   obtain⟨a1,rfl,h1⟩:=rx
   obtain⟨a2,rfl,h2⟩:=ry
   cases e1:ao st l with
   | none=>rw[e1] at p;exact ae p
   | some i=>
    cases e2:ao st k with
    | none=>rw[e1,e2] at p;exact ae p
    | some j=>
     rw[e1,e2] at p
     by_cases c:i.length+j.length<=lim
     ·simp only[if_pos c] at p
      obtain⟨xs,q1,q2⟩:=S.read h1 e1
      obtain⟨ys,q3,q4⟩:=S.read h2 e2
      exact .inr (.inr (.inr (.inl ⟨a1,a2,xs,ys,rfl,rfl,q1,q3,by rw[<-q2.length,<-q4.length];exact f' c,λq hq=>kg p Ext.refl S (q2.append q4) q hq⟩)))
     ·simp only[if_neg c] at p;exact ae p
  | _=>exact ae p
 | _=>cases y<;>exact ae p⟩
def wZ(n:Nat)(x:PySem.Str):PySem.Str:=⟨(aM n x.cps).foldl (· ++·) #[]⟩
end
open PySem PySem.Spec PySem.SeqAt PyProof.Rows L2
def lM{α β:Type}(f:α->Option β):List α->Option (List β)
 | []=>some []
 | w::ws=>match f w,lM f ws with
  | some d,some ds=>some (d::ds)
  | _,_=>none
def bJ(st:Hs):Nat->Wv->Option PyData
 | 0,w=>match w with
  | .bg=>some .none
  | .bl b=>some (.bool b)
  | .int i=>some (.int i)
  | .str x=>some (.str x)
  | _=>none
 | n+1,w=>match w with
  | .bg=>some .none
  | .bl b=>some (.bool b)
  | .int i=>some (.int i)
  | .str x=>some (.str x)
  | .tup ws=>(lM (bJ st n) ws).map .tuple
  | .rH ws=>(lM (bJ st n) ws).map .tuple
  | .ref l=>match ao st l with
   | some ws=>(lM (bJ st n) ws).map .list
   | none=>none
  | .ty _=>none
  | .cls _=>none
  | .wU _=>none
  | .fn _ _=>none
section
variable {X:Cx} {pins:List (aaG×Obj)} {σ:St} {H:Hp} {s:aaL} {m:Mp} {st:Hs}
def Le(h:Heap)(n:Nat)(u:aaM)(d:PyData):Prop:=∃as,Reads h u d as/\d.canLay0=true/\d.depth<=n
theorem mE{n:Nat}(ih:∀(w:Wv)(a:V)(u:aaM)(d:PyData),aj X.K m H w a->RelV a u->bJ st n w=some d->Le s.heap n u d) :
  ∀(ws:List Wv)(xs:List V)(us:List aaM)(ds:List PyData),ai X.K m H ws xs->Vals xs us->lM (bJ st n) ws=some ds->∃as,ReadsAll s.heap us ds as/\AF ds=true/\oF ds<=n
 | [],xs,us,ds,h,r,e=>by
  unfold ai at h
  subst h
  cases r
  cases e
  exact⟨[],.nil,rfl,dX _⟩
 | w::ws,xs,us,ds,h,r,e=>by
  unfold ai at h
  obtain⟨x,xr,rfl,h1,h2⟩:=h
  cases r with
  | cons r1 r2=>
   unfold lM at e
   cases e1:bJ st n w with
   | none=>rw[e1] at e;cases e
   | some d=>
    cases e2:lM (bJ st n) ws with
    | none=>rw[e1,e2] at e;cases e
    | some dr=>
     rw[e1,e2] at e
     cases e
     obtain⟨as,q1,q2,q3⟩:=ih w x _ d h1 r1 e1
     obtain⟨bs,p1,p2,p3⟩:=mE ih ws xr _ dr h2 r2 e2
     refine⟨as++bs,.cons q1 p1,?_,?_⟩
     ·show(PyData.canLay0 d&&AF dr)=true
      rw[q2,p2];rfl
     ·show max d.depth (oF dr)<=n
      omega
theorem ik(I:Inv X pins σ H s)(S:bG X.K m st H):∀(n:Nat)(w:Wv)(a:V)(u:aaM)(d:PyData),aj X.K m H w a->RelV a u->bJ st n w=some d->Le s.heap n u d:=by
 intro n
 induction n with
 | zero=>
  intro w a u d h r e
  cases w with
  | bg=>unfold aj at h;subst h;cases r;cases e;exact⟨[],.none,rfl,au _⟩
  | bl b=>unfold aj at h;subst h;cases r;cases e;exact⟨[],.bool b,rfl,au _⟩
  | int i=>unfold aj at h;subst h;obtain⟨t,rfl⟩:=r;cases e;exact⟨[],.int i t,rfl,au _⟩
  | str x=>unfold aj at h;obtain⟨rfl,hx⟩:=h;obtain⟨t,rfl⟩:=r;cases e;exact⟨[],.str x t,hx,au _⟩
  | tup ws=>cases e
  | rH ws=>cases e
  | ref l=>cases e
  | ty t=>cases e
  | cls t=>cases e
  | wU t=>cases e
  | fn fp t=>cases e
 | succ n ih=>
  intro w a u d h r e
  cases w with
  | bg=>unfold aj at h;subst h;cases r;cases e;exact⟨[],.none,rfl,dX _⟩
  | bl b=>unfold aj at h;subst h;cases r;cases e;exact⟨[],.bool b,rfl,dX _⟩
  | int i=>unfold aj at h;subst h;obtain⟨t,rfl⟩:=r;cases e;exact⟨[],.int i t,rfl,dX _⟩
  | str x=>unfold aj at h;obtain⟨rfl,hx⟩:=h;obtain⟨t,rfl⟩:=r;cases e;exact⟨[],.str x t,hx,dX _⟩
  | ty t=>cases e
  | cls t=>cases e
  | wU t=>cases e
  | fn fp t=>cases e
  | tup ws=>
   unfold aj at h
   obtain⟨p,xs,rfl,h1,h2⟩:=h
   cases r
   have e':(lM (bJ st n) ws).map PyData.tuple=some d:=e
   cases e2:lM (bJ st n) ws with
   | none=>rw[e2] at e';cases e'
   | some ds=>
    rw[e2] at e'
    cases e'
    obtain⟨its,rv,ht,hz⟩:=I.tuple (gN.of h1)
    obtain⟨as,q1,q2,q3⟩:=mE ih ws xs its ds h2 rv e2
    obtain⟨o,ho,hc,k,hd⟩:=ht
    exact⟨as,.tuple ho hc hd (by simpa using q1),q2,vw q3⟩
  | rH ws=>
   unfold aj at h
   obtain⟨p,xs,rfl,h1,h2⟩:=h
   cases r
   have e':(lM (bJ st n) ws).map PyData.tuple=some d:=e
   cases e2:lM (bJ st n) ws with
   | none=>rw[e2] at e';cases e'
   | some ds=>
    rw[e2] at e'
    cases e'
    obtain⟨its,rv,ht,hz⟩:=I.tuple (.inr h1)
    obtain⟨as,q1,q2,q3⟩:=mE ih ws xs its ds h2 rv e2
    obtain⟨o,ho,hc,k,hd⟩:=ht
    exact⟨as,.tuple ho hc hd (by simpa using q1),q2,vw q3⟩
  | ref l=>
   unfold aj at h
   obtain⟨p,rfl,h1⟩:=h
   cases r
   have e':(match ao st l with | some ws=>(lM (bJ st n) ws).map vx | none=>none)=some d:=e
   cases e1:ao st l with
   | none=>rw[e1] at e';cases e'
   | some ws=>
    rw[e1] at e'
    have e'':(lM (bJ st n) ws).map vx=some d:=e'
    cases e2:lM (bJ st n) ws with
    | none=>rw[e2] at e'';cases e''
    | some ds=>
     rw[e2] at e''
     cases e''
     obtain⟨xs,hq,h2⟩:=S.read h1 e1
     obtain⟨its,rv,ht,hz⟩:=I.list hq
     obtain⟨as,q1,q2,q3⟩:=mE ih ws xs its ds h2 rv e2
     obtain⟨o,ho,hc,k,hd⟩:=ht.isList
     exact⟨_,.list ho hc hd (by simpa using q1),q2,vw q3⟩
end
def oEq:gO:=λx y st=>match bJ st 20 x,bJ st 20 y with
 | some a,some b=> .ok (.bl (b_ a b)) st
 | _,_=> .bad
def yk:gO:=λx y st=>match bJ st 20 x,bJ st 20 y with
 | some a,some b=> .ok (.bl (!PyData.eqv a b)) st
 | _,_=> .bad
section
variable {X:Cx}
def QL(K:PySem.W.Frag)(neg:Bool):R2:=λa b H Q=>∃m st x y da db,bG K m st H/\aj K m H x a/\aj K m H y b/\bJ st 20 x=some da/\bJ st 20 y=some db/\Q (.bl (if neg then !PyData.eqv da db else b_ da db)) H
theorem mG{n:Nat}{d:PyData}(hn:n<=64)(h:d.canLay0=true)(k:d.depth<=n):shaped d=true:=by
 unfold shaped
 rw[h,decide_eq_true (aW k hn)]
 rfl
theorem Nj(hu:X.A.units+64 < cLine):eM X (aaT .Eq) (QL X.K false):=by
 intro pins s σ H a b v u Q I rx ry h
 obtain⟨m,st,x,y,da,db,S,h1,h2,e1,e2,q⟩:=h
 obtain⟨as,q1,q2,q3⟩:=ik I S 20 x a v da h1 rx e1
 obtain⟨bs,p1,p2,p3⟩:=ik I S 20 y b u db h2 ry e2
 exact eq_dataH q1 p1 (mG (by decide) q2 q3) (mG (by decide) p2 p3) hu ⟨.bl _,H,I,rfl,q⟩
theorem Nk(hu:X.A.units+64 < cLine):eM X (aaT .NotEq) (QL X.K true):=by
 intro pins s σ H a b v u Q I rx ry h
 obtain⟨m,st,x,y,da,db,S,h1,h2,e1,e2,q⟩:=h
 obtain⟨as,q1,q2,q3⟩:=ik I S 20 x a v da h1 rx e1
 obtain⟨bs,p1,p2,p3⟩:=ik I S 20 y b u db h2 ry e2
 exact ne_dataH q1 p1 (mG (by decide) q2 q3) (mG (by decide) p2 p3) hu ⟨.bl _,H,I,rfl,q⟩
theorem QM(hu:X.A.units+64 < cLine):jw X (aaT .Eq) oEq:=⟨_,Nj hu,λx y a b st H m Q S rx ry p=>by
 unfold oEq at p
 cases e1:bJ st 20 x with
 | none=>rw[e1] at p;exact ae p
 | some da=>
  cases e2:bJ st 20 y with
  | none=>rw[e1,e2] at p;exact ae p
  | some db=>
   rw[e1,e2] at p
   exact⟨m,st,x,y,da,db,S,rx,ry,e1,e2,p _ m H Ext.refl S iB⟩⟩
theorem QN(hu:X.A.units+64 < cLine):jw X (aaT .NotEq) yk:=⟨_,Nk hu,λx y a b st H m Q S rx ry p=>by
 unfold yk at p
 cases e1:bJ st 20 x with
 | none=>rw[e1] at p;exact ae p
 | some da=>
  cases e2:bJ st 20 y with
  | none=>rw[e1,e2] at p;exact ae p
  | some db=>
   rw[e1,e2] at p
   exact⟨m,st,x,y,da,db,S,rx,ry,e1,e2,p _ m H Ext.refl S iB⟩⟩
def kh:Wv->Bool
 | .bg=>true
 | .bl _=>true
 | .int _=>true
 | .str _=>true
 | _=>false
def SI:Wv->Wv->Bool
 | .bg,.bg=>true
 | .bl a,.bl b=>a == b
 | .bl a,.int b=>(if a then 1 else 0) == b
 | .int a,.bl b=>a == (if b then 1 else 0)
 | .int a,.int b=>a == b
 | .str a,.str b=>a == b
 | _,_=>false
def lR(st:Hs):Wv->Option (List Wv)
 | .tup ws=>some ws
 | .rH ws=>some ws
 | .ref l=>ao st l
 | _=>none
def Uv:gO:=λx y st=>match lR st y with
 | some ws=>if kh x=true/\ws.all kh=true then .ok (.bl (ws.any λz=>SI z x)) st else .bad
 | none=> .bad
def yV:gO:=λx y st=>match lR st y with
 | some ws=>if kh x=true/\ws.all kh=true then .ok (.bl (!(ws.any λz=>SI z x))) st else .bad
 | none=> .bad
theorem rM{m:Mp}{H:Hp}{x:Wv}{a:V}(h:aj X.K m H x a)(f:kh x=true):nA a=true:=by
 cases x with
 | bg=>unfold aj at h;subst h;rfl
 | bl b=>unfold aj at h;subst h;rfl
 | int b=>unfold aj at h;subst h;rfl
 | str b=>unfold aj at h;obtain⟨h,_⟩:=h;subst h;rfl
 | _=>cases f
theorem IS{m:Mp}{H:Hp}{x y:Wv}{a b:V}(h:aj X.K m H x a)(k:aj X.K m H y b)(f:kh x=true)(g:kh y=true):Iy a b=SI x y:=by
 cases x with
 | bg=>
  unfold aj at h;subst h
  cases y with
  | str j=>unfold aj at k;obtain⟨k,_⟩:=k;subst k;rfl
  | tup j=>cases g
  | rH j=>cases g
  | ref j=>cases g
  | ty j=>cases g
  | cls j=>cases g
  | wU j=>cases g
  | fn fp j=>cases g
  | _=>unfold aj at k;subst k;rfl
 | bl i=>
  unfold aj at h;subst h
  cases y with
  | str j=>unfold aj at k;obtain⟨k,_⟩:=k;subst k;rfl
  | tup j=>cases g
  | rH j=>cases g
  | ref j=>cases g
  | ty j=>cases g
  | cls j=>cases g
  | wU j=>cases g
  | fn fp j=>cases g
  | _=>unfold aj at k;subst k;rfl
 | int i=>
  unfold aj at h;subst h
  cases y with
  | str j=>unfold aj at k;obtain⟨k,_⟩:=k;subst k;rfl
  | tup j=>cases g
  | rH j=>cases g
  | ref j=>cases g
  | ty j=>cases g
  | cls j=>cases g
  | wU j=>cases g
  | fn fp j=>cases g
  | _=>unfold aj at k;subst k;rfl
 | str i=>
  unfold aj at h;obtain⟨h,_⟩:=h;subst h
  cases y with
  | str j=>unfold aj at k;obtain⟨k,_⟩:=k;subst k;rfl
  | tup j=>cases g
  | rH j=>cases g
  | ref j=>cases g
  | ty j=>cases g
  | cls j=>cases g
  | wU j=>cases g
  | fn fp j=>cases g
  | _=>unfold aj at k;subst k;rfl
 | _=>cases f
theorem pG{m:Mp}{H:Hp}{x:Wv}{a:V}(h:aj X.K m H x a)(f:kh x=true):∀{ws:List Wv}{xs:List V},ai X.K m H ws xs->ws.all kh=true->xs.all nA=true/\Sv a xs=ws.any λz=>SI z x
 | [],xs,r,_=>by unfold ai at r;subst r;exact⟨rfl,rfl⟩
 | w::ws,xs,r,g=>by
  unfold ai at r
  obtain⟨y,yr,rfl,r1,r2⟩:=r
  rw[i7,ff] at g
  obtain⟨q1,q2⟩:=pG h f r2 g.2
  constructor
  ·rw[i7,rM r1 g.1,q1];rfl
  ·unfold Sv at q2 ⊢
   rw[i8,i8,IS r1 h g.1 f,q2]
theorem qK{m:Mp}{H:Hp}{st:Hs}{y:Wv}{b:V}{ws:List Wv}(S:bG X.K m st H)(h:aj X.K m H y b)(e:lR st y=some ws):∃p xs,b= .ref p/\(lO X.K H p xs\/gN X.K H p xs)/\ai X.K m H ws xs:=by
 cases y with
 | tup zs=>
  cases e
  unfold aj at h
  obtain⟨p,xs,e1,e2,e3⟩:=h
  exact⟨p,xs,e1,.inr (gN.of e2),e3⟩
 | rH zs=>
  cases e
  unfold aj at h
  obtain⟨p,xs,e1,e2,e3⟩:=h
  exact⟨p,xs,e1,.inr (.inr e2),e3⟩
 | ref l=>
  unfold aj at h
  obtain⟨p,e1,e2⟩:=h
  obtain⟨xs,q1,q2⟩:=S.read e2 e
  exact⟨p,xs,e1,.inl q1,q2⟩
 | _=>cases e
theorem QO:jw X (aaT .In) Uv:=⟨_,BX,λx y a b st H m Q S rx ry p=>by
 unfold Uv at p
 cases e:lR st y with
 | none=>rw[e] at p;exact ae p
 | some ws=>
  rw[e] at p
  by_cases c:kh x=true/\ws.all kh=true
  ·simp only[if_pos c] at p
   obtain⟨q,xs,e1,e2,e3⟩:=qK S ry e
   obtain⟨f1,f2⟩:=pG rx c.1 e3 c.2
   refine⟨q,xs,e1,e2,rM rx c.1,f1,?_⟩
   rw[f2]
   exact p _ m H Ext.refl S iB
  ·simp only[if_neg c] at p;exact ae p⟩
theorem Ex:jw X (aaT .NotIn) yV:=⟨_,vb,λx y a b st H m Q S rx ry p=>by
 unfold yV at p
 cases e:lR st y with
 | none=>rw[e] at p;exact ae p
 | some ws=>
  rw[e] at p
  by_cases c:kh x=true/\ws.all kh=true
  ·simp only[if_pos c] at p
   obtain⟨q,xs,e1,e2,e3⟩:=qK S ry e
   obtain⟨f1,f2⟩:=pG rx c.1 e3 c.2
   refine⟨q,xs,e1,e2,rM rx c.1,f1,?_⟩
   rw[f2]
   exact p _ m H Ext.refl S iB
  ·simp only[if_neg c] at p;exact ae p⟩
def aU:gO
 | .str z,.int i,st=>if z.length<=lim then(match qi z.cps.toList i with | some c=> .ok (.str ⟨#[c]⟩) st | none=> .bad) else .bad
 | x,.int i,st=>match lR st x with
  | some ws=>(match qi ws i with | some w=> .ok w st | none=> .bad)
  | none=> .bad
 | _,_,_=> .bad
theorem IT{m:Mp}{H:Hp}{ws:List Wv}{xs:List V}{i:Int}{w:Wv}(r:ai X.K m H ws xs)(h:qi ws i=some w):∃x,qi xs i=some x/\aj X.K m H w x:=by
 unfold qi at h ⊢
 rw[<-r.length]
 cases e:Ds ws.length i with
 | none=>rw[e] at h;cases h
 | some j=>rw[e] at h;exact r.get h
theorem IU{α:Type}{xs:List α}{i:Int}{v:α}(h:qi xs i=some v):v∈xs:=by
 obtain⟨j,_,h2,_⟩:=qF h
 exact Ii h2
theorem B8{z:PySem.Str}{c:Nat}(h:br z=true)(hc:c∈z.cps.toList):br ⟨#[c]⟩=true:=by
 unfold br at h ⊢
 rw[QP] at h
 have q:=h c (by simpa using hc)
 simpa using q
theorem QQ{a b:Expr}{ga gb:GE}{pos:Pos}(ha:JE X a ga)(hb:JE X b gb)(hs:As b:=by exact λ_ _=>rfl):JE X (.Subscript a b pos) (ag aU ga gb) :=
 JE.of (Qg MI aE aE hs) λρ st σ H m Q S R p=>AB (op:=aU) (λx y a b st H m Q S rx ry p=>by
  have seqs:∀(i:Int),y= .int i->(match lR st x with | some ws=>(match qi ws i with | some w=>Re.ok w st | none=> .bad) | none=> .bad)=aU x y st->WL X.K a b H Q:=λi hy hp=>by
   subst hy
   rw[<-hp] at p
   cases e:lR st x with
   | none=>rw[e] at p;exact ae p
   | some ws=>
    rw[e] at p
    dsimp only at p
    cases e1:qi ws i with
    | none=>rw[e1] at p;exact ae p
    | some w=>
     rw[e1] at p
     obtain⟨q,xs,e2,e3,e4⟩:=qK S rx e
     obtain⟨v,f1,f2⟩:=IT e4 e1
     rcases e3 with e3 | e3
     ·exact .inl ⟨q,xs,i,v,e2,aV ry,e3,f1,p v m H Ext.refl S f2⟩
     ·exact .inr (.inl ⟨q,xs,i,v,e2,aV ry,e3,f1,p v m H Ext.refl S f2⟩)
  cases y with
  | int i=>
   cases x with
   | str z=>
    dsimp only[aU] at p
    by_cases c:z.length<=lim
    ·simp only[if_pos c] at p
     cases e1:qi z.cps.toList i with
     | none=>rw[e1] at p;exact ae p
     | some ch=>
      rw[e1] at p
      exact .inr (.inr ⟨z,i,ch,(gj rx).1,aV ry,f' c,e1,p _ m H Ext.refl S (mkStr (B8 (gj rx).2 (IU e1)))⟩)
    ·simp only[if_neg c] at p;exact ae p
   | _=>exact seqs i rfl rfl
  | _=>cases x<;>exact ae p) ha hb S R p
abbrev GO:=bF->Hs->Re (Option Int)
def SO(X:Cx)(e:Option Expr):TO:=λσ H Q=>∀(pins:List (aaG×Obj))(s:aaL),Inv X pins σ H s->aaZ (model X.prog X.w) X.A (evalPart e X.env) (λu s'=>∃o H',Inv X pins σ H' s'/\IsPart u o/\Q o H') X.xe s
theorem uo{e:Option Expr}:PO X e (SO X e):=λpins s _ _ _ I h=>h pins s I
def Yk(K:PySem.W.Frag)(m:Mp)(H:Hp)(Q:Option Int->Hp->Prop)(o:Option Int)(st:Hs):Prop:=∀(m':Mp)(H':Hp),Ext K m H m' H'->bG K m' st H'->Q o H'
def JO(X:Cx)(e:Option Expr)(g:GO):Prop:=∀(ρ:bF)(st:Hs)(σ:St)(H:Hp)(m:Mp)(Q:Option Int->Hp->Prop),bG X.K m st H->aD X.K m H ρ σ->ax X σ m H (g ρ st) (Yk X.K m H Q)->SO X e σ H Q
def kL:GO:=λ_ st=> .ok none st
def rN(g:GE):GO:=λρ st=>(g ρ st).bind λw st1=>match w with
 | .int i=> .ok (some i) st1
 | _=> .bad
theorem IV:JO X none kL:=λρ st σ H m Q S R p pins s I=>Ip pins s σ H Q I (p m H Ext.refl S)
theorem IW{e:Expr}{g:GE}(h:JE X e g):JO X (some e) (rN g):=λρ st σ H m Q S R p pins s I=>
 Iq aE pins s σ H Q I (h.go S R (ax.bind p) λw st1 v m1 H1 p1 e1 S1 r1=>by
  cases w with
  | int i=>exact⟨i,aV r1,p1 m1 H1 e1 S1⟩
  | _=>exact ae p1)
theorem JO.go{e:Option Expr}{g:GO}{ρ:bF}{st:Hs}{σ:St}{H:Hp}{m:Mp}{T:Option Int->Hp->Prop}{ok:Option Int->Hs->Prop}(h:JO X e g)(S:bG X.K m st H)(R:aD X.K m H ρ σ)(p:ax X σ m H (g ρ st) ok)
  (k:∀(b:Option Int)(st1:Hs)(m1:Mp)(H1:Hp),ok b st1->Ext X.K m H m1 H1->bG X.K m1 st1 H1->T b H1):SO X e σ H T :=
 h ρ st σ H m T S R (p.imp Ext.refl λb st1 q m1 H1 e1 s1=>k b st1 m1 H1 q e1 s1)
def w4(xs:List Wv)(lo hi:Option Int):List Wv:=(xs.drop (HT.fe xs.length 0 lo)).take (HT.fe xs.length xs.length hi - HT.fe xs.length 0 lo)
def Pc(x:Wv)(lo hi:Option Int)(st:Hs):Re Wv:=match x with
 | .tup ws=>if HT.fe ws.length 0 lo=0/\HT.fe ws.length ws.length hi=ws.length then .bad else .ok (.tup (w4 ws lo hi)) st
 | .ref l=>match ao st l with
  | some ws=> .ok (.ref st.length) (st++[.lst (w4 ws lo hi)])
  | none=> .bad
 | _=> .bad
theorem vz{m:Mp}{H:Hp}{ws:List Wv}{xs:List V}{lo hi:Option Int}(r:ai X.K m H ws xs):ai X.K m H (w4 ws lo hi) (tw xs lo hi):=by
 unfold w4 tw
 rw[<-r.length]
 exact(r.drop _).take _
def yW(ga:GE)(gl gh:GO):GE:=λρ st=>(ga ρ st).bind λx st1=>(gl ρ st1).bind λlo st2=>(gh ρ st2).bind λhi st3=>Pc x lo hi st3
theorem w5{a:Expr}{lo hi:Option Expr}{ga:GE}{gl gh:GO}{pos p2:Pos}(ha:JE X a ga)(hl:JO X lo gl)(hh:JO X hi gh):JE X (.Subscript a (.Slice lo hi none p2) pos) (yW ga gl gh):=by
 refine JE.of (rj (DY.or Iw) aE uo uo) λρ st σ H m Q S R p=>?_
 refine ha.go S R (ax.bind p) λx st1 v m1 H1 p1 e1 S1 rx=>?_
 refine hl.go S1 (R.mono e1) ((ax.bind p1).imp e1 λ_ _ q=>q) λl st2 m2 H2 p2 e2 S2=>?_
 refine hh.go S2 (R.mono (e1.trans e2)) ((ax.bind p2).imp (e1.trans e2) λ_ _ q=>q) λh st3 m3 H3 p3 e3 S3=>?_
 have B9:=e1.trans (e2.trans e3)
 have SJ:=aj.mono (e2.trans e3) _ _ rx
 cases x with
 | tup ws=>
  have pH:fT X σ m H (if HT.fe ws.length 0 l=0/\HT.fe ws.length ws.length h=ws.length then .bad else .ok (.tup (w4 ws l h)) st3) Q:=p3
  by_cases c:HT.fe ws.length 0 l=0/\HT.fe ws.length ws.length h=ws.length
  ·rw[if_pos c] at pH;exact ae pH
  ·rw[if_neg c] at pH
   unfold aj at SJ
   obtain⟨q,xs,rfl,f1,f2⟩:=SJ
   refine .inl ⟨q,xs,rfl,gN.of f1,by rw[<-f2.length];exact c,λr hr=>?_⟩
   have e4:Ext X.K m3 H3 m3 (upd H3 r (.tup (tw xs l h))):=Ext.upd (.inl hr)
   exact pH (.ref r) m3 _ (B9.trans e4) (S3.fresh hr) (by unfold aj;exact⟨r,_,rfl,aZ,ai.mono e4 _ _ (vz f2)⟩)
 | ref k=>
  have pH:fT X σ m H (match ao st3 k with | some ws=> .ok (.ref st3.length) (st3++[.lst (w4 ws l h)]) | none=> .bad) Q:=p3
  unfold aj at SJ
  obtain⟨q,rfl,f1⟩:=SJ
  cases e:ao st3 k with
  | none=>rw[e] at pH;exact ae pH
  | some ws=>
   rw[e] at pH
   obtain⟨xs,g1,g2⟩:=S3.read f1 e
   exact .inr ⟨q,xs,rfl,g1,λr hr=>kg pH B9 S3 (vz g2) r hr⟩
 | _=>exact ae p3
end
section
variable {X:Cx}
def fV(X:Cx)(f:aaM)(op:List Wv->Hs->Re Wv):Prop:=∃r,dW X f r/\∀(ws:List Wv)(vs:List V)(st:Hs)(H:Hp)(m:Mp)(Q:VK),bG X.K m st H->ai X.K m H ws vs->cS X.K m H (op ws st) Q->r vs H Q
def a7(op:List Wv->Hs->Re Wv)(g:GA):GE:=λρ st=>(g ρ st).bind λws st1=>(op ws st1).lJ
theorem Ey{x:Str}{id:String}{p pos:Pos}{e:Expr}{es:List Expr}{g:GA}{op:List Wv->Hs->Re Wv}(hc:fV X (.builtin id) op)(hg:Gl X x)(hm:X.mg x=none)(hv:aaQ x=some (.builtin id))(ha:JA X (e::es) g)
  (hn:x≠"__name__":=by decide)(hdb:(x == ("__debug__":Str))=false:=by decide)(he:aaY (e::es) X.env=(false,eval e X.env)::aaY es X.env:=by rfl)(hpl:(backTo pos (aaY es X.env)).any (·.1)=false:=by rfl) :
  JE X (.Call (.Name x p) (e::es) [] pos) (a7 op g):=by
 obtain⟨r,h1,h2⟩:=hc
 refine JE.of (DU h1 hg hm hv ke hn hdb he hpl) λρ st σ H m Q S R p=>?_
 exact ha.go S R (ax.bind p) λws st1 vs m1 H1 p1 e1 S1 rs=>h2 ws vs st1 H1 m1 Q S1 rs (cS.shift (ax.lJ p1) e1)
theorem B_{x:Str}{T:String}{p pos:Pos}{e:Expr}{es:List Expr}{g:GA}{op:List Wv->Hs->Re Wv}(hc:fV X (.type T) op)(hg:Gl X x)(hm:X.mg x=none)(hv:aaQ x=some (.type T))(ha:JA X (e::es) g)
  (hn:x≠"__name__":=by decide)(hdb:(x == ("__debug__":Str))=false:=by decide)(he:aaY (e::es) X.env=(false,eval e X.env)::aaY es X.env:=by rfl)(hpl:(backTo pos (aaY es X.env)).any (·.1)=false:=by rfl) :
  JE X (.Call (.Name x p) (e::es) [] pos) (a7 op g):=by
 obtain⟨r,h1,h2⟩:=hc
 refine JE.of (BW h1 hg hm hv ke hn hdb he hpl) λρ st σ H m Q S R p=>?_
 exact ha.go S R (ax.bind p) λws st1 vs m1 H1 p1 e1 S1 rs=>h2 ws vs st1 H1 m1 Q S1 rs (cS.shift (ax.lJ p1) e1)
theorem nk{m:Mp}{H:Hp}{w:Wv}{vs:List V}(r:ai X.K m H [w] vs):∃v,vs=[v]/\aj X.K m H w v:=by
 unfold ai at r
 obtain⟨v,t,rfl,h1,h2⟩:=r
 unfold ai at h2
 subst h2
 exact⟨v,rfl,h1⟩
theorem Ca{m:Mp}{H:Hp}{w w':Wv}{vs:List V}(r:ai X.K m H [w,w'] vs):∃v v',vs=[v,v']/\aj X.K m H w v/\aj X.K m H w' v':=by
 unfold ai at r
 obtain⟨v,t,rfl,h1,h2⟩:=r
 obtain⟨v',rfl,h3⟩:=nk h2
 exact⟨v,v',rfl,h1,h3⟩
def nq:List Wv->Hs->Re Wv
 | [.str z],st=>if z.length<=lim then .ok (.int z.length) st else .bad
 | [x],st=>match lR st x with
  | some ws=> .ok (.int ws.length) st
  | none=> .bad
 | _,_=> .bad
theorem Ez:fV X (.builtin "len") nq:=⟨_,ve.or vf,λws vs st H m Q S r p=>by
 match ws,r,p with
 | [],r,p=>exact ae p
 | x::y::t,r,p=>cases x<;>exact ae p
 | [x],r,p=>
  obtain⟨v,rfl,rx⟩:=nk r
  have seqs:(match lR st x with | some ws=>Re.ok (Wv.int ws.length) st | none=> .bad)=nq [x] st->(∃p ys,[v]=[V.ref p]/\(lO X.K H p ys\/gN X.K H p ys)/\Q (.int ys.length) H):=λhp=>by
   rw[<-hp] at p
   cases e:lR st x with
   | none=>rw[e] at p;exact ae p
   | some ws=>
    rw[e] at p
    obtain⟨q,xs,rfl,e2,e3⟩:=qK S rx e
    refine⟨q,xs,rfl,e2,?_⟩
    rw[<-e3.length]
    exact p _ m H Ext.refl S mkInt
  cases x with
  | str z=>
   have p':cS X.K m H (if z.length<=lim then .ok (.int z.length) st else .bad) Q:=p
   by_cases c:z.length<=lim
   ·rw[if_pos c] at p'
    obtain⟨rfl,_⟩:=gj rx
    exact .inr ⟨z,rfl,f' c,p' _ m H Ext.refl S mkInt⟩
   ·rw[if_neg c] at p';exact ae p'
  | _=>exact .inl (seqs rfl)⟩
def Uw:List Wv->Hs->Re Wv
 | [.int i],st=> .ok (.int (if i < 0 then -i else i)) st
 | _,_=> .bad
def SK(st:Hs)(T:String):Wv->Option Bool
 | .bg=>some false
 | .bl _=>some (T == "bool"||T == "int")
 | .int _=>some (T == "int")
 | .str _=>some (T == "str")
 | .tup _=>some (T == "tuple")
 | .rH _=>none
 | .ref l=>(ao st l).map λ_=>T == "list"
 | .ty _=>none
 | .cls _=>none
 | .wU _=>none
 | .fn _ _=>none
def EA(T:String):Bool:=T == "int"||T == "str"||T == "bool"||T == "tuple"||T == "list"
def QR:List Wv->Hs->Re Wv
 | [x,.ty T],st=>if EA T=true then(match SK st T x with | some b=> .ok (.bl b) st | none=> .bad) else .bad
 | _,_=> .bad
def Ux(K:PySem.W.Frag):List V->Hp->VK->Prop:=λvs H Q=>∃m st x T v b,vs=[v,.ty T]/\bG K m st H/\aj K m H x v/\EA T=true/\SK st T x=some b/\Q (.bl b) H
theorem EB:dW X (.builtin "isinstance") (Ux X.K):=by
 intro pins s σ H xs us Q I r h
 obtain⟨m,st,x,T,v,b,rfl,S,rx,hT,hb,q⟩:=h
 obtain⟨u,u',rfl,r1,r2⟩:=vals2 r
 cases r2
 have fin:∀tk,EP X pins σ Q (.bool b) { s with toks:=tk }:=λtk=>⟨.bl b,H,I.tok tk,rfl,q⟩
 have EC:EP X pins σ Q (.bool b) s:=⟨.bl b,H,I,rfl,q⟩
 unfold EA at hT
 simp only[yX,beq_iff_eq] at hT
 cases x with
 | bg=>
  unfold aj at rx;subst rx;cases r1
  cases hb
  rcases hT with (((rfl | rfl) | rfl) | rfl) | rfl<;>
   exact call_isinstance (isinstance_false_none (by decide) (by kernel_rfl) (by rw[aaV];kernel_rfl)) (fin _)
 | bl c=>
  unfold aj at rx;subst rx;cases r1
  rcases hT with (((rfl | rfl) | rfl) | rfl) | rfl<;>cases hb<;>first
   | exact call_isinstance_yes (Tx:="bool") rfl (by kernel_rfl) (by rw[aaV];kernel_rfl) EC
   | exact call_isinstance (isinstance_false_bool (by decide) (by kernel_rfl) (by rw[aaV];kernel_rfl)) (fin _)
 | int c=>
  unfold aj at rx;subst rx;obtain⟨t,rfl⟩:=r1
  rcases hT with (((rfl | rfl) | rfl) | rfl) | rfl<;>cases hb<;>first
   | exact call_isinstance_yes (Tx:="int") (typeIs_int s c t) (by kernel_rfl) (by rw[aaV];kernel_rfl) EC
   | exact call_isinstance (isinstance_false_int (by decide) (by kernel_rfl) (by rw[aaV];kernel_rfl)) (fin _)
 | str c=>
  obtain⟨rfl,_⟩:=gj rx;obtain⟨t,rfl⟩:=r1
  rcases hT with (((rfl | rfl) | rfl) | rfl) | rfl<;>cases hb<;>first
   | exact call_isinstance_yes (Tx:="str") (typeIs_str s c t) (by kernel_rfl) (by rw[aaV];kernel_rfl) EC
   | exact call_isinstance (isinstance_false_str (by decide) (by kernel_rfl) (by rw[aaV];kernel_rfl)) (fin _)
 | rH ws=>cases hb
 | tup ws=>
  unfold aj at rx;obtain⟨a,xs,rfl,h1,h2⟩:=rx;cases r1
  obtain⟨its,rv,ht,hz⟩:=I.tuple (gN.of h1)
  have hty:=ht.typeIs
  obtain⟨o,ho,hc,k,hd⟩:=ht
  rcases hT with (((rfl | rfl) | rfl) | rfl) | rfl<;>cases hb<;>first
   | exact call_isinstance_yes (Tx:="tuple") hty (by kernel_rfl) (by rw[aaV];kernel_rfl) EC
   | exact call_isinstance (isinstance_false_tuple (by decide) (by kernel_rfl) (by rw[aaV];kernel_rfl)) ⟨⟨o,ho,hc⟩,fin _⟩
 | ref l=>
  unfold aj at rx;obtain⟨a,rfl,h1⟩:=rx;cases r1
  have hb':(ao st l).map (λ_=>T == "list")=some b:=hb
  cases e:ao st l with
  | none=>rw[e] at hb';cases hb'
  | some ws=>
   rw[e] at hb'
   obtain⟨xs,hq,h2⟩:=S.read h1 e
   obtain⟨its,rv,ht,hz⟩:=I.list hq
   have hty:=ht.isList.typeIs
   obtain⟨o,ho,hc,k,hd⟩:=ht.isList
   rcases hT with (((rfl | rfl) | rfl) | rfl) | rfl<;>cases hb'<;>first
    | exact call_isinstance_yes (Tx:="list") hty (by kernel_rfl) (by rw[aaV];kernel_rfl) EC
    | exact call_isinstance (isinstance_false_list (by decide) (by kernel_rfl) (by rw[aaV];kernel_rfl)) ⟨⟨o,ho,hc⟩,fin _⟩
 | ty t=>cases hb
 | cls t=>cases hb
 | wU t=>cases hb
 | fn fp t=>cases hb
theorem Nl:fV X (.builtin "isinstance") QR:=⟨_,EB,λws vs st H m Q S r p=>by
 match ws,r,p with
 | [],r,p=>exact ae p
 | [x],r,p=>cases x<;>exact ae p
 | x::y::z::t,r,p=>cases y<;>exact ae p
 | [x,y],r,p=>
  obtain⟨v,v',rfl,rx,ry⟩:=Ca r
  cases y with
  | ty T=>
   unfold aj at ry
   subst ry
   have p':cS X.K m H (if EA T=true then(match SK st T x with | some b=> .ok (.bl b) st | none=> .bad) else .bad) Q:=p
   by_cases c:EA T=true
   ·rw[if_pos c] at p'
    cases e:SK st T x with
    | none=>rw[e] at p';exact ae p'
    | some b=>rw[e] at p';exact⟨m,st,x,T,v,b,rfl,S,rx,c,e,p' _ m H Ext.refl S iB⟩
   ·rw[if_neg c] at p';exact ae p'
  | _=>exact ae p⟩
def bt:GS:=λρ st=> .nx ρ st
def aA(g h:GS):GS:=λρ st=>match g ρ st with
 | .nx ρ' st'=>h ρ' st'
 | r=>r
theorem IX:ph X [] bt:=ph.of HX λρ st σ H m D S R p=>p σ m H Ext.refl S R
theorem ED{s:Stmt}{rest:List Stmt}{g h:GS}(h1:JS X s g)(h2:ph X rest h):ph X (s::rest) (aA g h) :=
 ph.of (DK K_ f_) λρ st σ H m D S R p=>h1 ρ st σ H m _ S R (by
  unfold aA at p
  cases e:g ρ st with
  | nx ρ' st'=>rw[e] at p;exact λσ' m' H' e' S' R'=>h2 ρ' st' σ' H' m' D S' R' (aK.shift p e')
  | rt w st'=>rw[e] at p;exact p
  | bk ρ' st'=>rw[e] at p;exact p
  | ct ρ' st'=>rw[e] at p;exact p
  | err c ρ' st'=>rw[e] at p;exact p
  | bad=>rw[e] at p;exact p)
theorem IY{s:Stmt}{g:GS}(h1:JS X s g):ph X [s] g:=ph.of (HY K_) λρ st σ H m D S R p=>h1 ρ st σ H m D S R p
def aY(g:GE):GS:=λρ st=>(g ρ st).a9 ρ λw st'=> .rt w st'
theorem Nm{e:Expr}{g:GE}{pos:Pos}(h:JE X e g):JS X (.Return (some e) pos) (aY g) :=
 JS.of (Me aE) λρ st σ H m D S R p=>h.go S R (aK.cO R p) λw st1 v m1 H1 q e1 S1 r1=>q v m1 H1 e1 S1 r1
def i9(g:GE):GS:=λρ st=>(g ρ st).a9 ρ λ_ st'=> .nx ρ st'
theorem IZ{e:Expr}{g:GE}{pos:Pos}(h:JE X e g)(hs:swapsWith e none pos.line X.env=pure false:=by rfl):JS X (.Expr e pos) (i9 g) :=
 JS.of (HZ aE hs) λρ st σ H m D S R p=>h.go S R (aK.cO R p) λw st1 v m1 H1 q e1 S1 r1=>q σ m1 H1 e1 S1 (R.mono e1)
def jz(gt:GT)(ga gb:GS):GS:=λρ st=>(gt ρ st).a9 ρ λb st'=>if b=true then ga ρ st' else gb ρ st'
theorem QS{c:Expr}{a b:List Stmt}{gt:GT}{ga gb:GS}{pos:Pos}(hc:JT X c gt)(ha:ph X a ga)(hb:ph X b gb):JS X (.If c a b pos) (jz gt ga gb) :=
 JS.of (PN ql f_ f_) λρ st σ H m D S R p=>hc.go S R (aK.cO R p) λk st1 m1 H1 q e1 S1=>by
  cases k with
  | true=>rw[if_pos rfl] at q ⊢;exact ha ρ st1 σ H1 m1 D S1 (R.mono e1) (aK.shift q e1)
  | false=>rw[if_neg bD] at q ⊢;exact hb ρ st1 σ H1 m1 D S1 (R.mono e1) (aK.shift q e1)
def aO(i:Nat)(g:GE):GS:=λρ st=>(g ρ st).a9 ρ λw st'=> .nx (ρ.set i (some w)) st'
theorem yY(i:Nat){x:Str}{e:Expr}{g:GE}{pos pos':Pos}(hN:X.N.Nodup)(h:JE X e g)(hi:X.N[i]? =some x:=by rfl)(hx:Loc X.env.scope x:=by first | exact Or.inl rfl | exact mD rfl)(hs:swapsWith e (some (.Name x pos')) pos.line X.env=pure false:=by rfl)
  (hf:X.fn x=true\/X.env.scope.names.lookup x=some .local:=by first | exact .inl rfl | exact .inr rfl | assumption):JS X (.Assign [.Name x pos'] e pos) (aO i g) :=
 JS.of (Mi hN hi hx aE hs hf) λρ st σ H m D S R p=>h.go S R (aK.cO R p) λw st1 v m1 H1 q e1 S1 r1=>q _ m1 H1 e1 S1 ((R.mono e1).set i r1)
def dC:GS:=λ_ _=> .bad
theorem b7{s:Stmt}:JS X s dC:=JS.of DM λρ st σ H m D S R p=>p
theorem Cb{s:List Stmt}:ph X s dC:=ph.of BO λρ st σ H m D S R p=>p
def QT(o i v:Wv)(ρ:bF)(st:Hs):Rs:=match o,i with
 | .ref l,.int k=>match st[l]? with
  | some (.lst ws)=>(match Ds ws.length k with | some j=> .nx ρ (st.set l (.lst (ws.set j v))) | none=> .bad)
  | _=> .bad
 | _,_=> .bad
def AG(ge go gi:GE):GS:=λρ st=>(ge ρ st).a9 ρ λv st1=>(go ρ st1).a9 ρ λo st2=>(gi ρ st2).a9 ρ λi st3=>QT o i v ρ st3
theorem I0{o i e:Expr}{go gi ge:GE}{pos pos':Pos}(he:JE X e ge)(ho:JE X o go)(hi:JE X i gi)(hs:swapsWithSole [.Subscript o i pos'] e pos.line X.env=pure false:=by rfl)(hw:swappedStores [.Subscript o i pos'] e X.env=pure none:=by rfl)
  (h1:(assignEach [.Subscript o i pos'] X.env).map (·.2)=[assign (.Subscript o i pos') X.env]:=by rfl)
  (ha:∀v,assign (.Subscript o i pos') X.env v=(do
   let ov <-holding [v] (eval o X.env)
   let iv <-holding [v,ov] (eval i X.env)
   standAt pos'
   holding [v,ov,iv] (setItem ov iv v)
   release [v,ov,iv] []):=by intro _;rfl):JS X (.Assign [.Subscript o i pos'] e pos) (AG ge go gi):=by
 refine JS.of (Mh aE (Mg aE aE set_list ha) hs hw h1) λρ st σ H m D S R p=>?_
 refine he.go S R (aK.cO R p) λv st1 vv m1 H1 p1 e1 S1 rv=>?_
 refine ho.go S1 (R.mono e1) ((aK.cO (m:=m) (H:=H) R p1).imp e1 λ_ _ q=>q) λo' st2 ov m2 H2 p2 e2 S2 ro=>?_
 refine hi.go S2 (R.mono (e1.trans e2)) ((aK.cO (m:=m) (H:=H) R p2).imp (e1.trans e2) λ_ _ q=>q) λi' st3 iv m3 H3 p3 e3 S3 ri=>?_
 have B9:=e1.trans (e2.trans e3)
 cases o' with
 | ref l=>
  cases i' with
  | int k=>
   have pH:aK X m H (match st3[l]? with | some (.lst ws)=>(match Ds ws.length k with | some j=> .nx ρ (st3.set l (.lst (ws.set j v))) | none=> .bad) | _=> .bad) D:=p3
   have WV:=aj.mono e3 _ _ ro
   unfold aj at WV
   obtain⟨a,rfl,f1⟩:=WV
   cases e:st3[l]? with
   | none=>rw[e] at pH;exact ae pH
   | some ob=>
    cases ob with
    | dct kvs=>rw[e] at pH;exact ae pH
    | bq kvs=>rw[e] at pH;exact ae pH
    | fH kvs=>rw[e] at pH;exact ae pH
    | B7 kvs=>rw[e] at pH;exact ae pH
    | sX ns=>rw[e] at pH;exact ae pH
    | lst ws=>
     rw[e] at pH
     cases ej:Ds ws.length k with
     | none=>simp only[ej] at pH;exact ae pH
     | some j=>
      simp only[ej] at pH
      obtain⟨xs,g1,g2⟩:=S3.rJ f1 e
      refine⟨a,xs,k,j,rfl,aV ri,g1,by rw[<-g2.length];exact ej,?_⟩
      have Yl:=aj.mono (e2.trans e3) _ _ rv
      have e4:Ext X.K m3 H3 m3 (upd H3 a (.lst (xs.set j vv))):=Ext.upd (.inr ⟨xs,g1⟩)
      exact pH σ m3 _ (B9.trans e4) (S3.write f1 e (g2.set j Yl)) (R.mono (B9.trans e4))
  | _=>exact ae p3
 | _=>cases i'<;>exact ae p3
open Classical in
def forL(i:Nat)(gb:GS)(l:Nat)(all:List Wv):List Wv->bF->Hs->Rs
 | [],ρ,st=> .nx ρ st
 | w::r,ρ,st=>match gb (ρ.set i (some w)) st with
  | .nx ρ' st'=>if ao st' l=some all then forL i gb l all r ρ' st' else .bad
  | .ct ρ' st'=>if ao st' l=some all then forL i gb l all r ρ' st' else .bad
  | .bk ρ' st'=> .nx ρ' st'
  | .rt w st'=> .rt w st'
  | .err c ρ' st'=> .err c ρ' st'
  | .bad=> .bad
end
def CXJ(P:aaK)(w:aaN):Dr:=λouter H s E e s'=>∃H' C,wX P w outer H s H' (.ref C) e s'/\E (.ref C) none H'
section
variable {X:Cx} {pins:List (aaG×Obj)} {σ:St} {Hc H':Hp} {sc s':aaL} {cls e:aaM} {E:aaM->aaL->Prop} {Q:Unit->aaL->Prop}
theorem old_ne(I:Inv X pins σ Hc sc){b:aaG}{o:Obj}(q:X.s₀.heap.get? b=some o):b≠X.env.locals:=λz=>by
 have h1:=aX q
 have h2:=I.ok.above
 rw[z] at h1
 exact absurd (bP h1 h2) (eK _)
theorem I_(I:Inv X pins σ Hc sc)(hst:X.stack=X.env::X.outer)(hf:X.env.frame=some X.env.locals){b:aaG}{o:Obj}(q:X.s₀.heap.get? b=some o)(hb:b∉frs X.outer):b∉frs X.stack:=λz=>by
 rw[hst] at z
 unfold frs at z
 rw[uZ,hf] at z
 rcases List.mem_cons.mp z with z | z
 ·exact old_ne I q z
 ·exact hb z
theorem EE(hst:X.stack=X.env::X.outer)(hf:X.env.frame=some X.env.locals){b:aaG}(hb:b∈frs X.outer):b∈frs X.stack:=by
 rw[hst]
 unfold frs
 rw[uZ,hf]
 exact aF _ hb
theorem EF{M:Model}{A:aaH}{E:aaM->aaL->Prop}{s:aaL}{base:Heap}{env:Env}{outer:List Env}{L e:aaG}{cls a0 nt:aaM}{Q:Unit->aaL->Prop}(hfr:A.frames=some (env::outer))(hf:env.frame=some L)
  (x:base.StaysIn s.heap/\base.get? e=none/\s.heap.FunFrames base (env::outer)/\SF s.heap base e cls a0 nt)(k:∀h',Ef base (env::outer) e cls a0 L h'->s.heap.UpToSlots h'->Q () { s with heap:=h' }) :
  aaZ M A (noteFrame (.ref e) env) Q E s:=by
 obtain⟨x1,x2,x3,x4⟩:=x
 by_cases z:nt=rawInt L
 ·subst z
  exact M3 hf x4 (k s.heap ⟨x1,x2,x3,x4⟩ (Heap.UpToSlots.refl _))
 ·obtain⟨ox,us,T,ot,ws,g1,⟨g2,g3⟩,g4,g5,g6,g7,g8,g9,WW⟩:=x4
  subst g2
  have apart:∀b,b≠T->(s.heap.update T (kI (·.setIfInBounds 3 bC))).get? b=s.heap.get? b:=λb hb=>rp _ _ (aH hb)
  have plain:∀b o,s.heap.get? b=some o->(∀vs,o.data≠.fields vs)->b≠T:=λb o hb hd q=>by
   subst q
   rw[g8] at hb
   cases hb
   exact hd ws g9
  unfold noteFrame
  simp only[hf]
  refine aa0 (wpAny_field g1 g4 g5 ?_)
  rw[if_pos (show(aR T != bC)=true from by simp)]
  refine aa0 (wpAny_field g8 g9 WW ?_)
  rw[if_neg (show ¬((nt == rawInt L)=true) from by simpa using z)]
  refine aa0 (wpAny_setField g8 g9 (Array.getElem?_eq_some_iff.mp WW).1 ?_)
  refine Eh (a0:=a0) hfr (x3.of_keeps λb o hb hd=>⟨o,(apart b (plain b o hb hd)).trans hb,rfl⟩) hf ((apart e (aH g7)).trans g1) (λb o hb=>(apart b λq=>by rw[q,g6] at hb;cases hb).trans (x1 b o hb)) x2 g4 (Array.getElem?_eq_some_iff.mp g5).1 g3 λh' y y4=>?_
  exact k h' y λb o hb hd=>y4 b o ((apart b (plain b o hb hd)).trans hb) hd
theorem Cc{M:Model}{A:aaH}{E:aaM->aaL->Prop}{s:aaL}{base h:Heap}{env:Env}{outer:List Env}{L a:aaG}{cls:aaM}{args:List aaM}{Q:Unit->aaL->Prop}(hfr:A.frames=some (env::outer))(hf:env.frame=some L)
  (st:base.StaysIn h)(fs:h.FunFrames base (env::outer))(mk:Em h s.heap a cls args)(k:∀h' a0,Ef base (env::outer) a cls a0 L h'->s.heap.UpToSlots h'->Q () { s with heap:=h' }) :
  aaZ M A (noteFrame (.ref a) env) Q E s:=by
 obtain⟨t,e1,e2,e3⟩:=mk.there
 have fresh:∀b,h.get? b=none->base.get? b=none:=λb hb=>by
  cases q:base.get? b with
  | none=>rfl
  | some o'=>have z:=st b o' q;rw[hb] at z;cases z
 have fs':=fs.of_keeps (h':=s.heap) λb o hb _=>⟨o,mk.keeps b o hb,rfl⟩
 unfold noteFrame
 simp only[hf]
 refine aa0 (wpAny_field e1 rfl (x:=.none) rfl ?_)
 rw[if_neg (by decide)]
 exact Eh hfr fs' hf e1 (λb o hb=>mk.keeps b o (st b o hb)) (fresh a mk.new) rfl (by simp) (a0:=.ref t) rfl λh' l1 l4=>k h' (.ref t) l1 l4
theorem EG{ch:List aaG}(hx:X.ex=[])(hst:X.stack=X.env::X.outer)(hf:X.env.frame=some X.env.locals)(I:Inv X pins σ Hc sc){B h2:Heap}(hch:∀b∈ch,iK X pins Hc b)(un:Un (frs X.stack) ch Hc H' sc.heap s'.heap)(up:s'.heap.UpToSlots h2)(stay:B.StaysIn h2)
  (Qt:∀b o,sc.heap.get? b=some o->b∉frs X.stack->b∉ch->∃o',B.get? b=some o'/\(Hc b=none->o'=o)) :
  Un (frs X.outer) [] X.H₀ H' X.s₀.heap h2/\(∀b o,X.s₀.heap.get? b=some o->b∉frs X.outer->∃o',B.get? b=some o'/\(X.H₀ b=none->o'=o)):=by
 have nx:∀b:aaG,b∉X.ex:=λb=>by rw[hx];simp
 have nc:∀b o,X.s₀.heap.get? b=some o->b∉ch:=λb o q z=>by
  rcases(hch b z).2.2.2.1 with y | y
  ·exact nx b y
  ·exact absurd (bP (aX q) y) (eK _)
 have Nn:∀b o,X.s₀.heap.get? b=some o->b∉frs X.outer->∃o',B.get? b=some o'/\(X.H₀ b=none->o'=o):=λb o q hb=>by
  obtain⟨o1,q1⟩:=I.base.there b o q (nx b)
  obtain⟨o2,q2,q3⟩:=Qt b o1 q1 (I_ I hst hf q hb) (nc b o q)
  refine⟨o2,q2,λn=>?_⟩
  have q4:=I.base.keep b o q n hb (nx b)
  rw[q4] at q1
  cases q1
  exact q3 (I.base.free b o q n (nx b))
 have sl:∀b o,X.s₀.heap.get? b=some o->X.H₀ b=none->b∈frs X.outer->∃sl,h2.get? b=some { o with slots:=sl }:=λb o q n hb=>by
  obtain⟨s1,q1⟩:=I.base.slot b o q n hb (nx b)
  obtain⟨s2,q2⟩:=un.slot b _ q1 (I.base.free b o q n (nx b)) (EE hst hf hb) (nc b o q)
  obtain⟨_,o3,q3,q4⟩:=I.ok.sZ.mem hb
  rw[q] at q3
  cases q3
  obtain⟨s3,q5⟩:=up b _ q2 q4
  exact⟨s3,q5⟩
 refine⟨⟨λb o q n hb _=>?_,λb o q n hb _=>sl b o q n hb,λb o q n _=>?_,λb o q _=>?_,λb xs h=>un.tups b xs (I.base.tups b xs h),λb o u h=>un.oj b o u (I.base.oj b o u h),λb ps h=>?_⟩,Nn⟩
 ·obtain⟨o2,q2,q3⟩:=Nn b o q hb
  rw[q3 n] at q2
  exact stay b o q2
 ·obtain⟨o1,q1⟩:=I.base.there b o q (nx b)
  exact un.free b o1 q1 (I.base.free b o q n (nx b)) (nc b o q)
 ·by_cases hb:b∈frs X.outer
  ·obtain⟨s3,q3⟩:=sl b o q (I.ok.Px b hb) hb
   exact⟨_,q3⟩
  ·obtain⟨o2,q2,_⟩:=Nn b o q hb
   exact⟨o2,stay b o2 q2⟩
 ·obtain⟨m1,t1⟩:=I.base.qX b ps h
  obtain⟨m2,t2⟩:=un.qX b _ t1
  exact⟨m1++m2,by rw[<-Array.append_assoc];exact t2⟩
theorem w6(hx:X.ex=[])(hst:X.stack=X.env::X.outer)(hf:X.env.frame=some X.env.locals)(I:Inv X pins σ Hc sc)(F:pE X pins Hc sc H' cls e s')
  (k:∀s2,wX X.prog X.w X.outer X.H₀ X.s₀ H' cls e s2->Q () s2):aaZ (model X.prog X.w) X.A (leaving X.env e) Q E s':=by
 obtain⟨a,a0,nt,B,ch,rfl,os,bare,hch,un,hok,fl,Qt⟩:=F
 have hfr:X.A.frames=some (X.env::X.outer):=by rw[I.ok.frames,hst]
 rw[hst] at fl
 unfold leaving
 refine aa0 (EF hfr hf fl λh1 hd1 up1=>?_)
 refine K7 hd1 λh2 HH Uy=>k _ ?_
 obtain⟨k1,k2,⟨_,_,k3⟩,k4⟩:=HH
 obtain⟨u2,c2⟩:=EG hx hst hf I hch un (up1.trans Uy) k1 Qt
 exact⟨a,a0,B,rfl,os.trans I.os,bare,u2,hok,⟨k1,k2,k3,k4⟩,c2⟩
theorem EH{P:aaK}{w:aaN}{H:Hp}{h:Heap}{l:List aaG}(ok:lI P w H h)(fr:∀b∈l,H b=none):lI P w H (PySem.W.hideAll h l):=λa o q=>
 (ok a o q).stay (λb u hb r=>PySem.W.hideAll_get _ r λz=>by
  have n:=fr b z
  rcases hb with hb | hb
  ·rw[hb,q] at n;cases n
  ·rw[hb] at n;cases n) (λ_ r=>r) λ_ _ r=>r
theorem yZ{a C:aaG}{args:List aaM}(hx:X.ex=[])(hst:X.stack=X.env::X.outer)(hf:X.env.frame=some X.env.locals)(I:Inv X pins σ Hc sc)(ho:s'.os=sc.os)(Ym:s'.gens=sc.gens)
  (M:Em sc.heap s'.heap a (.ref C) args)(k:∀s2,wX X.prog X.w X.outer X.H₀ X.s₀ Hc (.ref C) (.ref a) s2->Q () s2):aaZ (model X.prog X.w) X.A (leaving X.env (.ref a)) Q E s':=by
 have hfr:X.A.frames=some (X.env::X.outer):=by rw[I.ok.frames,hst]
 have fs:sc.heap.FunFrames (PySem.W.hideAll sc.heap (frs X.stack)) (X.env::X.outer):=by
  rw[<-hst]
  exact PySem.W.funFrames_hide I.stack λenv he b hb=>List.mem_filterMap.mpr ⟨env,he,hb⟩
 unfold leaving
 refine aa0 (Cc (base:=PySem.W.hideAll sc.heap (frs X.stack)) hfr hf (λb o q=>PySem.W.of_hideAll _ q) fs M λh1 t hd1 up1=>?_)
 refine K7 hd1 λh2 HH Uy=>k _ ?_
 have up:=up1.trans Uy
 replace HH:Eg (PySem.W.hideAll sc.heap (frs X.stack)) X.outer a (.ref C) t h2:=let ⟨k1,k2,⟨_,_,k3⟩,k4⟩:=HH;⟨k1,k2,k3,k4⟩
 obtain⟨u2,c2⟩:=EG (H':=Hc) (s':=s') (ch:=[]) hx hst hf I (λb z=>by cases z) (Un.kept M.keeps) up HH.1 λb o q hb _=>⟨o,PySem.W.hideAll_get _ q hb,λ_=>rfl⟩
 exact⟨a,t,_,rfl,ho.trans I.os,by rw[show({ s' with heap:=h2 }:aaL).gens=sc.gens from Ym];exact I.bare,u2,EH I.hok I.qD,HH,c2⟩
end
def Lf(K:PySem.W.Frag)(m:Mp)(H:Hp)(r:Re Wv)(Q:VK)(E:XK):Prop:=match r with
 | .ok w st=>II K m H Q w st
 | .err c st=>∀(m':Mp)(H':Hp)(C:aaG),Ext K m H m' H'->bG K m' st H'->ClsAt K c C->E (.ref C) none H'
 | .bad=>False
def spW(K:PySem.W.Frag)(n:Nat)(F:List Wv->Hs->Re Wv):Sp:=λvs H Q E=>∃m st ws,bG K m st H/\ai K m H ws vs/\ws.length=n/\Lf K m H (F ws st) Q E
def ay(n:Nat)(F:List Wv->Hs->Re Wv)(g:GA):GE:=λρ st=>(g ρ st).bind λws st1=>if ws.length=n then F ws st1 else .bad
section
variable {X:Cx}
theorem Ja{k n:Nat}{f:aaG}{fd:aaI}{ps:List Str}{F:List Wv->Hs->Re Wv}{x:Str}{p pos:Pos}{e:Expr}{es:List Expr}{g:GA}
  (G:FnOk X.prog X.w X.K X.mg X.base (CXJ X.prog X.w) k f fd ps (spW X.K n F))(hr:lK k X.A)(hm:X.mg x=some (.ref f))(hk:PySem.W.keepIn X.K (.ref f)=true)(hb:Binds X.K fd ps [])(ha:JA X (e::es) g)(hg:Gl X x:=by rfl)
  (hdb:(x == ("__debug__":Str))=false:=by decide)(he:aaY (e::es) X.env=(false,eval e X.env)::aaY es X.env:=by rfl)(hpl:(backTo pos (aaY es X.env)).any (·.1)=false:=by rfl) :
  JE X (.Call (.Name x p) (e::es) [] pos) (ay n F g):=by
 intro ρ st σ H m Q S R p pins s I
 have args:=ha.go (T:=λvs H1=>∃ws st1 m1,fT X σ m H (if ws.length=n then F ws st1 else .bad) Q/\Ext X.K m H m1 H1/\bG X.K m1 st1 H1/\ai X.K m1 H1 ws vs) S R (ax.bind p)
  λws st1 vs m1 H1 p1 e1 S1 rs=>⟨ws,st1,m1,p1,e1,S1,rs⟩
 refine wpAny_Call_Name_kw (Ai I hg hm ?_ hdb)
 refine PySem.W.callWith_K (h₀:=X.base) I.ok.mod.HF hk (a9 (args pos pins s I) λus s1 ⟨vs,H1,I1,r,ws,st1,m1,p1,e1,S1,rs⟩=>⟨I1.Ag,?_⟩) he hpl
 by_cases c:ws.length=n
 ·rw[if_pos c] at p1
  let E:XK:=λcl _ H2=>∃c' st2 m2 C,cl= .ref C/\ClsAt X.K c' C/\F ws st1= .err c' st2/\Ext X.K m1 H1 m2 H2/\bG X.K m2 st2 H2
  have sp:spW X.K n F vs H1 Q E:=by
   refine⟨m1,st1,ws,S1,rs,c,?_⟩
   cases er:F ws st1 with
   | ok w st2=>rw[er] at p1;exact fT.shift (r:=.ok w st2) p1 e1
   | err c' st2=>exact λm2 H2 C e2 S2 hC=>⟨c',st2,m2,C,rfl,hC,er,e2,S2⟩
   | bad=>rw[er] at p1;exact ae p1
  have hl:us.length=ps.length:=by rw[<-r.length];exact G.len _ _ _ _ sp
  have bd:=hb s1 us I1.Ag (by rw[iz];exact hl)
  rw[iz] at bd
  refine wpAny_call (codeAny_mono (G.run X.A X.stack s1 H1 ⟨us,[]⟩ us vs Q E hr I1.Qa bd r sp) λrr s2 hq=>?_)
  cases rr with
  | error x=>
   obtain⟨H2,C,fl,c',st2,m2,C',ec,hC,er,e2,S2⟩:=hq
   cases ec
   rw[er] at p1
   exact p1 m2 H2 x s2 (e1.trans e2) S2 ⟨C,pins,H1,s1,hC,I1,.inl fl.any⟩
  | ok fw=>
   cases fw with
   | ret u=>exact I1.after hq
   | next=>exact ae hq
   | brk=>exact ae hq
   | cont=>exact ae hq
 ·rw[if_neg c] at p1;exact ae p1
end
def df(n:Nat)(g:GS):List Wv->Hs->Re Wv:=λws st=>match g (ws.map some++aM (n - ws.length) none) st with
 | .nx _ st'=> .ok .bg st'
 | .rt w st'=> .ok w st'
 | .err c _ st'=> .err c st'
 | _=> .bad
theorem EI{K:PySem.W.Frag}{m:Mp}{H:Hp}{N:List Str}{ws:List Wv}{vs:List V}(r:ai K m H ws vs)(h:ws.length<=N.length):aD K m H (ws.map some++aM (N.length - ws.length) none) (L2.start N vs):=by
 have hl:=r.length
 refine⟨by unfold L2.start;simp[hl],λi w e=>?_⟩
 by_cases hi:i < ws.length
 ·rw[fQ (by simpa using hi),fh] at e
  cases q:ws[i]? with
  | none=>rw[q] at e;cases e
  | some w'=>
   rw[q] at e
   cases e
   obtain⟨x,h1,h2⟩:=r.get q
   refine⟨x,?_,h2⟩
   unfold L2.start
   rw[fQ (by simp;omega),fh,h1]
   rfl
 ·rw[pA (by simpa using hi),MA] at e
  split at e<;>cases e
section
variable {P:aaK} {w:aaN} {K:PySem.W.Frag} {mg:Str->Option aaM} {base:Heap}
theorem y6{N:List Str}{qual:Str}{scope:Scope}{f:aaG}{cdv:aaM}{A:aaH}{outer:List Env}{s s':aaL}{H H':Hp}{E:XK}{σ:St}{c:PySem.Str}{e:aaM}
  (r:yP (s_ (CXJ P w) P w K mg base N qual scope f cdv A outer s H E) σ H' c e s')(h:∀C,ClsAt K c C->E (.ref C) none H'):(s_ (CXJ P w) P w K mg base N qual scope f cdv A outer s H E).xe e s':=by
 obtain⟨C,pins,Hc,sc,hC,I,r⟩:=r
 rcases r with fl | ⟨rfl,a,args,rfl,ho,hg,M⟩
 ·exact w6 (X:=s_ (CXJ P w) P w K mg base N qual scope f cdv A outer s H E) rfl rfl rfl I fl λs2 HH=>⟨H',C,HH,h C hC⟩
 ·exact yZ (X:=s_ (CXJ P w) P w K mg base N qual scope f cdv A outer s H E) rfl rfl rfl I ho hg M λs2 HH=>⟨H',C,HH,h C hC⟩
def EJ(K:PySem.W.Frag)(f:aaG)(cdv:aaM):Prop:=∃o,K.lookup f=some o/\∃fd,o.data= .func fd/\fd.code=cdv
theorem Lg{x qual:Str}{st:Stmt}{f:aaG}{fd:aaI}{N ps:List Str}{k:Nat}{g:GS}(F:MQ K x qual st f fd)(S:FnScope N ps (defScope st))
  (body:∀(cdv:aaM),EJ K f cdv->∀(A:aaH)(outer:List Env)(s:aaL)(H:Hp)(E:XK),lK k (A.deeper (envOfC qual (defScope st) s.heap.objs.size f cdv))->ph (s_ (CXJ P w) P w K mg base N qual (defScope st) f cdv A outer s H E) (defBody st) g) :
  FnOk P w K mg base (CXJ P w) (k+1) f fd ps (spW K ps.length (df N.length g)):=by
 have hpl:ps.length<=N.length:=by have:=congrArg f9 S.pre;rw[q9] at this;omega
 obtain⟨oc,od,kV,doc,pm,an,cdv,ct,osl,rfl,lk,hcd⟩:=F.ex
 refine Qc lk hcd S (λvs H Q E h=>?_) λA outer s H vs Q E hr h=>?_
 ·obtain⟨m,st',ws,_,r,hl,_⟩:=h
  rw[<-r.length];exact hl
 ·obtain⟨m,st',ws,S',r,hl,p⟩:=h
  refine⟨_,f_,?_⟩
  refine body cdv ⟨_,lk,_,rfl,rfl⟩ A outer s H E hr _ st' _ H m _ S' (EI r (by omega)) ?_
  unfold df at p
  cases e:g (ws.map some++aM (N.length - ws.length) none) st' with
  | nx ρ st2=>rw[e] at p;exact λσ m' H' e' S2 R2=>p _ m' H' e' S2 (by unfold aj;rfl)
  | rt w' st2=>rw[e] at p;exact p
  | bk ρ st2=>rw[e] at p;exact ae p
  | ct ρ st2=>rw[e] at p;exact ae p
  | err c ρ st2=>rw[e] at p;exact λσ m' H' x s' e' S2 R2 rz=>y6 rz λC hC=>p m' H' C e' S2 hC
  | bad=>rw[e] at p;exact ae p
end
def OnlyT(H:Hp):Prop:=∀b,H b=none\/(∃o xs,H b=some (.iy o (.lst xs)))\/H b=some (.pf #[])
theorem OnlyT.of{H:Hp}(h:IC H):OnlyT H:=λb=>by
 rcases h b with q | q
 ·exact .inl q
 ·exact .inr (.inl q)
theorem law_sp{K:PySem.W.Frag}{F:List Wv->Hs->Re Wv}(h:∀ns:List Int,ns.length<=63->∃st,F [.ref 0] [.sX ns]= .ok (.bl true) st)(H:Hp)(a:aaG)(ns:List Int)(hl:ns.length<=63)(hO:OnlyT H)(hS:lO K H a (ns.map V.int))(hT:vp K H) :
  spW K 1 F [.ref a] H (λv _=>v= .bl true) λ_ _ _=>False:=by
 obtain⟨st,e⟩:=h ns hl
 refine⟨[a],[.sX ns],[.ref 0],⟨rfl,λl b o h1 h2=>?_,λl l' b ws ws' _ _ h2 _ k _=>?_,hT⟩,ai.cons (by unfold aj;exact⟨a,rfl,rfl⟩) ai.nil,rfl,?_⟩
 ·cases l with
  | zero=>
   simp at h1 h2
   subst h1 h2
   show wW K H a ns
   rcases hS with (q | ⟨o',q⟩) | q
   ·rcases hO a with z | ⟨o',xs,z⟩ | z
    ·rw[z] at q;cases q
    ·rw[z] at q;cases q
    ·rw[z] at q;cases q
   ·exact .inl ⟨o',q⟩
   ·exact .inr q
  | succ l=>simp at h1
 ·cases l with
  | zero=>simp at h2;subst h2;simp[Ob.mu] at k
  | succ l=>simp at h2
 ·rw[e]
  intro v m' H' _ _ r
  unfold aj at r
  exact r
def EK(w:Wv)(st:Hs):Re Bool:=match w with
 | .bg=> .ok false st
 | .bl b=> .ok b st
 | .int i=> .ok (i != 0) st
 | .str y=>if y.length<=lim then .ok ((y.length:Int) != 0) st else .bad
 | .tup ws=> .ok (!ws.isEmpty) st
 | .rH _=> .bad
 | .ref l=>match ao st l with
  | some ws=> .ok (!ws.isEmpty) st
  | none=> .bad
 | .ty _=> .bad
 | .cls _=> .bad
 | .wU _=> .bad
 | .fn _ _=> .bad
def fi(g:GE):GT:=λρ st=>(g ρ st).bind EK
section
variable {X:Cx}
theorem WX{m:Mp}{H:Hp}{ws:List Wv}{xs:List V}(r:ai X.K m H ws xs):(!ws.isEmpty)= !xs.isEmpty:=by
 have h:=r.length
 cases ws<;>cases xs<;>simp_all
theorem rO{e:Expr}{g:GE}(h:JE X e g)(he:∀whole,isTrue e X.env whole=(do let v <-whole;standAt e.pos;holding [v] (truthy v))):JT X e (fi g) :=
 JT.of (DT aE he) λρ st σ H m Q S R p=>h.go S R (ax.bind p) λw st1 v m1 H1 p1 e1 S1 r1=>by
  cases w with
  | bg=>unfold aj at r1;subst r1;exact⟨false,rfl,p1 m1 H1 e1 S1⟩
  | bl b=>unfold aj at r1;subst r1;exact⟨b,rfl,p1 m1 H1 e1 S1⟩
  | int i=>unfold aj at r1;subst r1;exact⟨_,rfl,p1 m1 H1 e1 S1⟩
  | str y=>
   obtain⟨rfl,_⟩:=gj r1
   have p2:kc X σ m H (if y.length<=lim then .ok ((y.length:Int) != 0) st1 else .bad) Q:=p1
   by_cases c:y.length<=lim
   ·rw[if_pos c] at p2;exact⟨_,⟨f' c,rfl⟩,p2 m1 H1 e1 S1⟩
   ·rw[if_neg c] at p2;exact ae p2
  | rH ws=>exact ae p1
  | tup ws=>
   unfold aj at r1
   obtain⟨a,xs,rfl,h1,h2⟩:=r1
   refine⟨!xs.isEmpty,.inr (.inl ⟨xs,gN.of h1,rfl⟩),?_⟩
   rw[<-WX h2]
   exact p1 m1 H1 e1 S1
  | ref l=>
   unfold aj at r1
   obtain⟨a,rfl,h1⟩:=r1
   have p2:kc X σ m H (match ao st1 l with | some ws=> .ok (!ws.isEmpty) st1 | none=> .bad) Q:=p1
   cases el:ao st1 l with
   | none=>rw[el] at p2;exact ae p2
   | some ws=>
    rw[el] at p2
    obtain⟨xs,hq,h2⟩:=S1.read h1 el
    refine⟨!xs.isEmpty,.inl ⟨xs,hq,rfl⟩,?_⟩
    rw[<-WX h2]
    exact p2 m1 H1 e1 S1
  | ty T=>exact ae p1
  | cls T=>exact ae p1
  | wU T=>exact ae p1
  | fn fp T=>exact ae p1
theorem w8{p:Nat->Bool}{x:Array Nat}(hx:x.all p=true):∀(n:Nat)(a:Array Nat),a.all p=true->((aM n x).foldl (· ++·) a).all p=true
 | 0,a,h=>h
 | n+1,a,h=>by
  rw[iL,rC]
  refine w8 hx n _ ?_
  rw[Array.all_append,h,hx]
  rfl
theorem Cd{x:PySem.Str}{n:Nat}(h:br x=true):br (wZ n x)=true:=by
 unfold br at h ⊢
 unfold wZ
 exact w8 h n #[] (by simp)
theorem uq{x:Array Nat}:∀(n:Nat)(a:Array Nat),((aM n x).foldl (· ++·) a).size=a.size+x.size * n
 | 0,a=>by simp
 | n+1,a=>by
  rw[iL,rC,uq n,Array.size_append,Nat.mul_succ]
  omega
theorem EL{x:PySem.Str}{n:Nat}:(wZ n x).length=x.length * n:=by
 show((aM n x.cps).foldl (· ++·) #[]).size=x.cps.size * n
 rw[uq]
 simp
def ur(x:PySem.Str)(n:Int):Prop:=1 < n/\n<=100000/\x.length≠0/\x.length * n.toNat<=lim
instance {x n}:Decidable (ur x n):=by unfold ur;infer_instance
theorem Jb:eM X (aaP .Mult) (λx y H Q=>∃z n,x= .str z/\y= .int n/\ur z n/\Q (.str (wZ n.toNat z)) H):=by
 intro pins s σ H x y v u Q I rx ry h
 obtain⟨z,n,rfl,rfl,⟨h1,h2,h3,h4⟩,q⟩:=h
 obtain⟨t,rfl⟩:=rx
 obtain⟨t',rfl⟩:=ry
 have n1:¬n < 1:=by omega
 have hlen:z.length<=lim:=by
  refine aW ?_ h4
  exact Nat.le_mul_of_pos_right _ (by omega)
 have hne:(n == 1||z.length == 0)=false:=by
  have e1:(n == 1)=false:=by rw[beq_eq_false_iff_ne];omega
  have e2:(z.length == 0)=false:=by rw[beq_eq_false_iff_ne];exact h3
  rw[e1,e2];rfl
 have hl:PySem.Builtin.Str.tooLong (z.length * n.toNat)=false:=by
  unfold PySem.Builtin.Str.tooLong
  have q:=f' h4
  first
   | exact decide_eq_false (by omega)
   | simp only[decide_eq_false_iff_not];omega
 refine PySem.P.mul_str (by
   have e1:¬n < -(2 ^ 63:Int):=by omega
   have e2:¬n >= 2 ^ 63:=by omega
   rw[decide_eq_false e1,decide_eq_false e2];rfl) (λ_ _=>?_) (λ_ _=>hl) ?_
 ·have e:((2:Int) ^ 63 - 1) / 100000<=(2 ^ 63 - 1) / n:=by
   refine Int.le_ediv_of_mul_le (by omega) ?_
   have:((2:Int) ^ 63 - 1) / 100000 * n<=((2:Int) ^ 63 - 1) / 100000 * 100000:=Int.mul_le_mul_of_nonneg_left h2 (by decide)
   exact Int.le_trans this (by decide)
  have e':(1000000:Int)<=(2 ^ 63 - 1) / 100000:=by decide
  unfold lim at hlen
  omega
 ·rw[if_neg n1,if_neg (by rw[hne];exact bD)]
  exact⟨by show(wZ n.toNat z).length<=_;rw[EL];exact f' h4,.str (wZ n.toNat z),H,I.tok _,⟨_,rfl⟩,q⟩
def Lh:gO
 | .int i,.int j,st=>if IntMulOk i j then .ok (.int (i * j)) st else .bad
 | .str z,.int n,st=>if ur z n then .ok (.str (wZ n.toNat z)) st else .bad
 | _,_,_=> .bad
theorem Jc:jw X (aaP .Mult) Lh:=⟨_,eM.or IL Jb,λx y a b st H m Q S rx ry p=>by
 cases x with
 | int i=>
  cases y with
  | int j=>
   cases aV rx;cases aV ry
   have p':cS X.K m H (if IntMulOk i j then .ok (.int (i * j)) st else .bad) Q:=p
   by_cases c:IntMulOk i j
   ·rw[if_pos c] at p';exact .inl ⟨i,j,rfl,rfl,c,p' _ m H Ext.refl S mkInt⟩
   ·rw[if_neg c] at p';exact ae p'
  | _=>exact ae p
 | str z=>
  cases y with
  | int n=>
   obtain⟨rfl,hz⟩:=gj rx
   cases aV ry
   have p':cS X.K m H (if ur z n then .ok (.str (wZ n.toNat z)) st else .bad) Q:=p
   by_cases c:ur z n
   ·rw[if_pos c] at p';exact .inr ⟨z,n,rfl,rfl,c,p' _ m H Ext.refl S (mkStr (Cd hz))⟩
   ·rw[if_neg c] at p';exact ae p'
  | _=>exact ae p
 | _=>exact ae p⟩
def cz:GE:=λ_ _=> .bad
def lD:GT:=λ_ _=> .bad
theorem aN{e:Expr}:JE X e cz:=λρ st σ H m Q S R p=>ae p
theorem kM{e:Expr}:JT X e lD:=λρ st σ H m Q S R p=>ae p
end
def f7(P:aaK)(w:aaN)(K:PySem.W.Frag)(mg:Str->Option aaM)(base:Heap)(k:Nat)(x:Str)(n:Nat)(F:List Wv->Hs->Re Wv):Prop :=
 ∃f fd ps,FnOk P w K mg base (CXJ P w) k f fd ps (spW K n F)/\mg x=some (.ref f)/\PySem.W.keepIn K (.ref f)=true/\Binds K fd ps []
theorem f7.mono{P:aaK}{w:aaN}{K:PySem.W.Frag}{mg:Str->Option aaM}{base:Heap}{j k:Nat}{x:Str}{n:Nat}{F:List Wv->Hs->Re Wv}(h:f7 P w K mg base j x n F)(l:j<=k):f7 P w K mg base k x n F:=by
 obtain⟨f,fd,ps,G,r⟩:=h
 exact⟨f,fd,ps,G.mono l,r⟩
def bh(K:PySem.W.Frag)(x:Str)(st:Stmt):Prop:=∃f fd,PySem.W.nsIn K aaW x=some (some (.ref f))/\MQ K x x st f fd
theorem Np{K:PySem.W.Frag}{x:Str}{st:Stmt}{f:aaG}{oc:aaM}{od an:Option aaG}{osl:Array (Option aaM)}{kV doc pm cdv ct:aaM}(a:PySem.W.nsIn K aaW x=some (some (.ref f)))
  (l:K.lookup f=some ⟨oc,od,.func (PySem.W.fnOf x x (defArgs st) (defBody st) (defScope st) .none kV doc pm an cdv ct),osl⟩)(c:PySem.W.codeIn K cdv x=true)(k:PySem.W.keepIn K (.ref f)=true):bh K x st:=⟨f,_,a,MR l c k⟩
theorem EM:aaQ "isinstance"=some (.builtin "isinstance"):=by decide+kernel
theorem Ce:aaQ "len"=some (.builtin "len"):=by decide+kernel
theorem EN:aaQ "int"=some (.type "int"):=by decide+kernel
theorem EO:aaQ "str"=some (.type "str"):=by decide+kernel
theorem ER:aaQ "bool"=some (.type "bool"):=by decide+kernel
theorem w9:aaQ "tuple"=some (.type "tuple"):=by decide+kernel
theorem w_:aaQ "list"=some (.type "list"):=by decide+kernel
def du(i:Nat)(gb:GS):List Wv->bF->Hs->Rs
 | [],ρ,st=> .nx ρ st
 | w::r,ρ,st=>match gb (ρ.set i (some w)) st with
  | .nx ρ' st'=>du i gb r ρ' st'
  | .ct ρ' st'=>du i gb r ρ' st'
  | .bk ρ' st'=> .nx ρ' st'
  | .rt w st'=> .rt w st'
  | .err c ρ' st'=> .err c ρ' st'
  | .bad=> .bad
section
variable {X:Cx}
theorem kj(i:Nat){body:List Stmt}{gb:GS}(hb:ph X body gb){J':It}{ws:List Wv}{m1:Mp}{H1:Hp}{st1:Hs}{ρ:bF}{σ:St}{D:Ends}(S1:bG X.K m1 st1 H1)(R:aD X.K m1 H1 ρ σ)(p1:aK X m1 H1 (du i gb ws ρ st1) D)
  (hgo:∀(k:Nat)(H:Hp)(m':Mp),Ext X.K m1 H1 m' H->k < ws.length->J'.go k H)(hstop:∀(k:Nat)(H:Hp)(m':Mp),Ext X.K m1 H1 m' H->k=ws.length->J'.stop k H)
  (hy:∀(k:Nat)(hk:k < ws.length)(H:Hp)(x:V)(H':Hp)(m':Mp),Ext X.K m1 H1 m' H->J'.BP k H x H'->H'=H/\aj X.K m' H ws[k] x) :
  ∃W:Nat->Nat->St->Hp->Prop,(∃m,W 0 m σ H1)/\∀k n σ H,W k n σ H->
   (J'.stop k H/\D.nx σ H)\/(J'.go k H/\∃N:St->Hp->Prop,(∀σ' H',N σ' H'->∃m',m' < n/\W (k+1) m' σ' H')/\∀x H',J'.BP k H x H'->Aj i x σ H' λσ2 H2=>SH X body { D with nx:=N,ct:=N,bk:=D.nx } σ2 H2):=by
 let Pv:Nat->St->Hp->Prop:=λk σ H=>∃ρ st m',Ext X.K m1 H1 m' H/\bG X.K m' st H/\aD X.K m' H ρ σ/\aK X m' H (du i gb (ws.drop k) ρ st) D
 refine⟨λk n σ H=>n=ws.length - k/\k<=ws.length/\Pv k σ H,⟨ws.length,by simp,dX _,ρ,st1,m1,Ext.refl,S1,R,p1⟩,?_⟩
 rintro k n σ2 H2 ⟨rfl,hk,ρ2,st2,m2,e2,S2,R2,p2⟩
 by_cases hlt:k < ws.length
 ·refine .inr ⟨hgo k H2 m2 e2 hlt,Pv (k+1),λσ' H' p'=>⟨ws.length - (k+1),by omega,rfl,hlt,p'⟩,λx H' y=>?_⟩
  obtain⟨ee,tH⟩:=hy k hlt H2 x H' m2 e2 y
  subst ee
  have ed:ws.drop k=ws[k]::ws.drop (k+1):=y7 hlt
  rw[ed] at p2
  refine hb _ st2 _ _ m2 _ S2 (R2.set i tH) ?_
  unfold du at p2
  cases eg:gb (ρ2.set i (some ws[k])) st2 with
  | nx ρ3 st3=>rw[eg] at p2;exact λσ3 m3 H3 e3 S3 R3=>⟨ρ3,st3,m3,e2.trans e3,S3,R3,aK.shift p2 e3⟩
  | ct ρ3 st3=>rw[eg] at p2;exact λσ3 m3 H3 e3 S3 R3=>⟨ρ3,st3,m3,e2.trans e3,S3,R3,aK.shift p2 e3⟩
  | bk ρ3 st3=>rw[eg] at p2;exact p2
  | rt w3 st3=>rw[eg] at p2;exact p2
  | err c3 ρ3 st3=>rw[eg] at p2;exact p2
  | bad=>rw[eg] at p2;exact p2
 ·have e:k=ws.length:=by omega
  subst e
  rw[vA] at p2
  exact .inl ⟨hstop _ H2 m2 e2 rfl,p2 σ2 m2 H2 Ext.refl S2 R2⟩
def Uz(K:PySem.W.Frag)(tl:TE):TI:=λσ H R=>tl σ H λx H1=>∃a,x= .ref a/\(((∃xs,lO K H1 a xs)/\R (WG K a) H1)\/((∃xs,gN K H1 a xs)/\R (WH K a) H1))
theorem ES{tg l:Expr}{tl:TE}(hl:PE X l tl):PI X tg l (Uz X.K tl):=by
 intro pins s σ H R I h
 refine a9 (hl pins s σ H _ I h) λv s1 ⟨x,H1,I1,r1,q1⟩=>?_
 obtain⟨a,e,q1⟩:=q1
 subst e
 cases r1
 have frs:∀b∈[s1.heap.objs.size],iK X pins H1 b:=λb hb=>by
  have e:b=s1.heap.objs.size:=by simpa using hb
  subst e
  exact I1.yq (au _) (I1.hok.fresh (au _))
 rcases q1 with ⟨⟨xs,hq⟩,q⟩ | ⟨⟨xs,hq⟩,q⟩
 ·obtain⟨its,rv,p,hz⟩:=I1.list hq
  refine wpAny_pyIter_list p.isList ?_
  exact⟨s1.heap.objs.size,[s1.heap.objs.size],_,_,H1,rfl,I1.kept (t':=s1.toks) λb o e=>bK _ e,BQ a _,⟨_,cE _ rfl,rfl,rfl⟩,frs,q⟩
 ·obtain⟨its,rv,p,hz⟩:=I1.tuple hq
  refine wpAny_pyIter_tuple (show s1.heap.IsTuple a its.toArray from p) ?_
  exact⟨s1.heap.objs.size,[s1.heap.objs.size],_,_,H1,rfl,I1.kept (t':=s1.toks) λb o e=>bK _ e,yt a _,⟨_,cE _ rfl,rfl,rfl⟩,frs,q⟩
def jL(i:Nat)(gi:GE)(gb:GS):GS:=λρ st=>(gi ρ st).a9 ρ λw st1=>match w with
 | .ref l=>(match ao st1 l with | some ws=>forL i gb l ws ws ρ st1 | none=> .bad)
 | .tup ws=>du i gb ws ρ st1
 | .rH ws=>du i gb ws ρ st1
 | _=> .bad
theorem vB(i:Nat){x:Str}{iter:Expr}{body:List Stmt}{gi:GE}{gb:GS}{pos pos':Pos}(hN:X.N.Nodup)(hp:PassesOwn (model X.prog X.w) X.A X.env X.xe)(hc:X.calm=true)(hi:JE X iter gi)(hb:ph X body gb)
  (hx:X.N[i]? =some x)(hlo:Loc X.env.scope x)(Jd:X.fn x=true\/X.env.scope.names.lookup x=some .local)
  (hs:∀x,aaU iter X.env x=pure x):JS X (.For (.Name x pos') iter body [] pos) (jL i gi gb):=by
 refine JS.of (pz hp hc (ES aE) (mC hN hx hlo Jd) f_ hs) λρ st σ H m D S R p=>?_
 refine hi.go S R (aK.cO R p) λw st1 v m1 H1 p1 e1 S1 rw'=>?_
 cases w with
 | ref l=>
  have p1':aK X m H (match ao st1 l with | some ws=>forL i gb l ws ws ρ st1 | none=> .bad) D:=p1
  unfold aj at rw'
  obtain⟨a,rfl,hla⟩:=rw'
  cases el:ao st1 l with
  | none=>rw[el] at p1';exact ae p1'
  | some ws=>
   rw[el] at p1'
   obtain⟨Nq,q0,_⟩:=S1.read hla el
   refine⟨a,rfl,.inl ⟨⟨Nq,q0⟩,?_⟩⟩
   let Pv:Nat->St->Hp->Prop:=λk σ H=>∃ρ st m',Ext X.K m1 H1 m' H/\bG X.K m' st H/\aD X.K m' H ρ σ/\ao st l=some ws/\aK X m' H (forL i gb l ws (ws.drop k) ρ st) D
   refine⟨λk n σ H=>n=ws.length - k/\k<=ws.length/\Pv k σ H,⟨ws.length,by simp,dX _,ρ,st1,m1,Ext.refl,S1,R.mono e1,el,aK.shift p1' e1⟩,?_⟩
   rintro k n σ2 H2 ⟨rfl,hk,ρ2,st2,m2,e2,S2,R2,l2,p2⟩
   obtain⟨xs,hq,rws⟩:=S2.read (e2.pre _ _ hla) l2
   have hlen:=rws.length
   by_cases hlt:k < ws.length
   ·have hx':k < xs.length:=by omega
    refine .inr ⟨⟨xs,xs[k],hq,by simp[hx']⟩,Pv (k+1),λσ' H' p'=>⟨ws.length - (k+1),by omega,rfl,hlt,p'⟩,λx H' y=>?_⟩
    obtain⟨ee,y⟩:=y
    subst ee
    have ey:=y xs hq
    have ed:ws.drop k=ws[k]::ws.drop (k+1):=y7 hlt
    obtain⟨x',ex',tH⟩:=rws.get (i:=k) (w:=ws[k]) (dD hlt)
    rw[ey] at ex'
    cases ex'
    rw[ed] at p2
    refine hb _ st2 _ _ m2 _ S2 (R2.set i tH) ?_
    unfold forL at p2
    cases eg:gb (ρ2.set i (some ws[k])) st2 with
    | nx ρ3 st3=>
     rw[eg] at p2
     by_cases c:ao st3 l=some ws
     ·simp only[if_pos c] at p2
      exact λσ3 m3 H3 e3 S3 R3=>⟨ρ3,st3,m3,e2.trans e3,S3,R3,c,aK.shift p2 e3⟩
     ·simp only[if_neg c] at p2;exact ae p2
    | ct ρ3 st3=>
     rw[eg] at p2
     by_cases c:ao st3 l=some ws
     ·simp only[if_pos c] at p2
      exact λσ3 m3 H3 e3 S3 R3=>⟨ρ3,st3,m3,e2.trans e3,S3,R3,c,aK.shift p2 e3⟩
     ·simp only[if_neg c] at p2;exact ae p2
    | bk ρ3 st3=>rw[eg] at p2;exact p2
    | rt w3 st3=>rw[eg] at p2;exact p2
    | err c3 ρ3 st3=>rw[eg] at p2;exact p2
    | bad=>rw[eg] at p2;exact p2
   ·have e:k=ws.length:=by omega
    subst e
    rw[vA] at p2
    exact .inl ⟨⟨xs,hq,by omega⟩,p2 σ2 m2 H2 Ext.refl S2 R2⟩
 | tup ws=>
  unfold aj at rw'
  obtain⟨a,xs,rfl,hq,rws⟩:=rw'
  have hlen:=rws.length
  refine⟨a,rfl,.inr ⟨⟨xs,gN.of hq⟩,?_⟩⟩
  refine kj i hb (ws:=ws) S1 (R.mono e1) (aK.shift p1 e1) (λk H m' e hk=>?_) (λk H m' e hk=>?_) λk hk H x H' m' e y=>?_
  ·have hx':k < xs.length:=by omega
   exact⟨xs,xs[k],gN.of (e.tup _ _ hq),by simp[hx']⟩
  ·exact⟨xs,gN.of (e.tup _ _ hq),by omega⟩
  ·obtain⟨ee,y⟩:=y
   refine⟨ee,?_⟩
   obtain⟨x',ex',tH⟩:=(ai.mono e _ _ rws).get (i:=k) (w:=ws[k]) (dD hk)
   rw[y xs (gN.of (e.tup _ _ hq))] at ex'
   cases ex'
   exact tH
 | rH ws=>
  unfold aj at rw'
  obtain⟨a,xs,rfl,hq,rws⟩:=rw'
  have hlen:=rws.length
  refine⟨a,rfl,.inr ⟨⟨xs,.inr hq⟩,?_⟩⟩
  refine kj i hb (ws:=ws) S1 (R.mono e1) (aK.shift p1 e1) (λk H m' e hk=>?_) (λk H m' e hk=>?_) λk hk H x H' m' e y=>?_
  ·have hx':k < xs.length:=by omega
   exact⟨xs,xs[k],.inr hq,by simp[hx']⟩
  ·exact⟨xs,.inr hq,by omega⟩
  ·obtain⟨ee,y⟩:=y
   refine⟨ee,?_⟩
   obtain⟨x',ex',tH⟩:=(ai.mono e _ _ rws).get (i:=k) (w:=ws[k]) (dD hk)
   rw[y xs (.inr hq)] at ex'
   cases ex'
   exact tH
 | _=>exact ae p1
def bZ(lo:Int)(n:Nat):List Wv:=(eL n).map λk:Nat=>Wv.int (lo+k)
theorem kn{lo:Int}{n k:Nat}(h:k < n):(bZ lo n)[k]? =some (.int (lo+k)):=by
 unfold bZ
 rw[fh,List.getElem?_range h]
 rfl
theorem xa{lo:Int}{n k:Nat}(h:k < (bZ lo n).length):(bZ lo n)[k]= .int (lo+k):=by
 have q:=kn (lo:=lo) (n:=n) (k:=k) (by unfold bZ at h;simpa using h)
 rw[dD h] at q
 exact Option.some.inj q
theorem bQ{lo:Int}{n:Nat}:(bZ lo n).length=n:=by unfold bZ;simp
def dE(i:Int):Prop:=-(2 ^ 62)<=i/\i < 2 ^ 62
instance {i}:Decidable (dE i):=ET _
def kN(i:Nat)(ga:GA)(gb:GS):GS:=λρ st=>(ga ρ st).a9 ρ λws st1=>match ws with
 | [.int j]=>if dE j then du i gb (bZ 0 j.toNat) ρ st1 else .bad
 | _=> .bad
def vC(i:Nat)(ga:GA)(gb:GS):GS:=λρ st=>(ga ρ st).a9 ρ λws st1=>match ws with
 | [.int a,.int j]=>if dE a/\dE j then du i gb (bZ a (j - a).toNat) ρ st1 else .bad
 | _=> .bad
theorem AH(i:Nat){body:List Stmt}{gb:GS}(hb:ph X body gb){lo:Int}{n:Nat}{m1:Mp}{H1:Hp}{st1:Hs}{ρ:bF}{σ:St}{D:Ends}(S1:bG X.K m1 st1 H1)(R:aD X.K m1 H1 ρ σ)(p1:aK X m1 H1 (du i gb (bZ lo n) ρ st1) D) :
  ∃W:Nat->Nat->St->Hp->Prop,(∃m,W 0 m σ H1)/\∀k n' σ H,W k n' σ H->
   ((KY lo n).stop k H/\D.nx σ H)\/((KY lo n).go k H/\∃N:St->Hp->Prop,(∀σ' H',N σ' H'->∃m',m' < n'/\W (k+1) m' σ' H')/\∀x H',(KY lo n).BP k H x H'->Aj i x σ H' λσ2 H2=>SH X body { D with nx:=N,ct:=N,bk:=D.nx } σ2 H2) :=
 kj i hb S1 R p1 (λk H m' e hk=>by rw[bQ] at hk;exact hk) (λk H m' e hk=>by rw[bQ] at hk;exact qG hk.symm) λk hk H x H' m' e y=>by
  obtain⟨y1,y2⟩:=y
  refine⟨y1,?_⟩
  rw[xa,y2]
  exact mkInt
theorem EU(i:Nat){x:Str}{a:Expr}{body:List Stmt}{ga:GA}{gb:GS}{pos pos' p q:Pos}(hN:X.N.Nodup)(hp:PassesOwn (model X.prog X.w) X.A X.env X.xe)(hc:X.calm=true)(hg:Gl X "range")(hm:X.mg "range"=none)(ha:JA X [a] ga)(hb:ph X body gb)
  (hx:X.N[i]? =some x)(hlo:Loc X.env.scope x)(Jd:X.fn x=true\/X.env.scope.names.lookup x=some .local)(hst:aaY [a] X.env=[(false,eval a X.env)]):JS X (.For (.Name x pos') (.Call (.Name "range" p) [a] [] q) body [] pos) (kN i ga gb):=by
 refine JS.of (pz hp hc (t_ hg hm ke hst) (mC hN hx hlo Jd) f_ (λ_=>rfl)) λρ st σ H m D S R p=>?_
 refine ha.go S R (aK.cO R p) λws st1 vs m1 H1 p1 e1 S1 rs=>?_
 match ws,rs,p1 with
 | [],rs,p1=>exact ae p1
 | x::y::t,rs,p1=>cases x<;>exact ae p1
 | [x],rs,p1=>
  obtain⟨v,rfl,r1⟩:=nk rs
  cases x with
  | int j=>
   cases aV r1
   have p2:aK X m H (if dE j then du i gb (bZ 0 j.toNat) ρ st1 else .bad) D:=p1
   by_cases c:dE j
   ·rw[if_pos c] at p2
    exact⟨j,rfl,c.1,c.2,AH i hb S1 (R.mono e1) (aK.shift p2 e1)⟩
   ·rw[if_neg c] at p2;exact ae p2
  | _=>exact ae p1
theorem EV(i:Nat){x:Str}{a b:Expr}{body:List Stmt}{ga:GA}{gb:GS}{pos pos' p q:Pos}(hN:X.N.Nodup)(hp:PassesOwn (model X.prog X.w) X.A X.env X.xe)(hc:X.calm=true)(hg:Gl X "range")(hm:X.mg "range"=none)(ha:JA X [a,b] ga)(hb:ph X body gb)
  (hx:X.N[i]? =some x)(hlo:Loc X.env.scope x)(Jd:X.fn x=true\/X.env.scope.names.lookup x=some .local)(hst:aaY [a,b] X.env=[(false,eval a X.env),(false,eval b X.env)])(Nr:aaY [b] X.env=[(false,eval b X.env)]):JS X (.For (.Name x pos') (.Call (.Name "range" p) [a,b] [] q) body [] pos) (vC i ga gb):=by
 refine JS.of (pz hp hc (ua hg hm ke hst Nr) (mC hN hx hlo Jd) f_ (λ_=>rfl)) λρ st σ H m D S R p=>?_
 refine ha.go S R (aK.cO R p) λws st1 vs m1 H1 p1 e1 S1 rs=>?_
 match ws,rs,p1 with
 | [],rs,p1=>exact ae p1
 | [x],rs,p1=>cases x<;>exact ae p1
 | x::y::z::t,rs,p1=>cases x<;>cases y<;>exact ae p1
 | [x,y],rs,p1=>
  obtain⟨v,v',rfl,r1,r2⟩:=Ca rs
  cases x with
  | int a=>
   cases y with
   | int j=>
    cases aV r1;cases aV r2
    have p2:aK X m H (if dE a/\dE j then du i gb (bZ a (j - a).toNat) ρ st1 else .bad) D:=p1
    by_cases c:dE a/\dE j
    ·rw[if_pos c] at p2
     exact⟨a,j,rfl,⟨c.1.1,c.1.2,c.2.1,c.2.2⟩,AH i hb S1 (R.mono e1) (aK.shift p2 e1)⟩
    ·rw[if_neg c] at p2;exact ae p2
   | _=>exact ae p1
  | _=>cases y<;>exact ae p1
theorem Je{pos:Pos}:JS X (.Return none pos) (aY (gC .bg)):=JS.of H_ λρ st σ H m D S R p=>p .bg m H Ext.refl S AE
end
abbrev Li:List aaM:=[.type "ValueError",.type "Exception",.type "BaseException",.type "object"]
abbrev Jf:String:="ValueError.__new__"
structure Jg(K:PySem.W.Frag)(c:PySem.Str)(C:aaG):Prop where
 cls:ClsAt K c C
 exc:PySem.W.excIn K C Li Jf=true
theorem qL{K:PySem.W.Frag}{h:Heap}{C:aaG}(KX:K.In h)(q:PySem.W.excIn K C Li Jf=true) :
  ∃(bm:List aaM)(N:aaG)(nm qn:Str)(bs:List aaM)(hd:Bool)(sn:List Str)(sub:List aaM)(ab:Bool)(col:Option Bool)(dd:Option aaG)(k0 k1 k2 k3 k5:Option aaM)(mN:Str->Option aaM),
   h.get? C=some (excClassObj nm qn C N bs bm hd sn sub ab col dd k0 k1 k2 k3 k5 Jf)/\h.Ns N mN/\mN "__init__"=none/\OwnTail h Li bm/\(∀v r,PySem.W.mroIn K C v=some r->(aR C::bm).contains v=r):=by
 unfold PySem.W.excIn at q
 split at q
 ·rename_i dd cd sl lk
  split at q
  ·rename_i C1 bm k0 k1 k2 k3 n1 k5 em es
   simp only[ff,beq_iff_eq,Bool.not_eq_true'] at q
   obtain⟨⟨⟨⟨⟨q1,q2⟩,q3⟩,q4⟩,q5⟩,q6⟩:=q
   subst q1 q2
   obtain⟨nm,bs,mro,N,qn,hd,sn,sub,ab,col,del⟩:=cd
   dsimp only at em q3 q5 q6
   subst em q3
   have Yn:sl=#[k0,k1,k2,k3,some (.builtin Jf),k5]:=by
    cases sl with
    | mk l=>exact congrArg Array.mk es
   subst Yn
   refine⟨bm,N,nm,qn,bs,hd,sn,sub,ab,col,dd,k0,k1,k2,k3,k5,_,KX _ _ lk,.of_isNs (PySem.W.isNs_of_in KX q5),PySem.W.nsMap_none_of_in KX q5 q6,PySem.W.tail_of_in KX q4,λv r e=>?_⟩
   unfold PySem.W.mroIn PySem.W.clsIn at e
   rw[lk] at e
   first
    | exact Option.some.inj e
    | (simp at e;exact e)
  ·cases q
 ·cases q
section
variable {X:Cx}
end
structure pI(K:PySem.W.Frag)(C:aaG):Prop where
 exc:PySem.W.excIn K C Li Jf=true
 ga:PySem.W.findIn K (.ref C) "__getattribute__"=some (some (.builtin "BaseException.__getattribute__"))
 gx:PySem.W.findIn K (.ref C) "__getattr__"=some none
 cl:PySem.W.findIn K (.ref C) "__class__"=some (some (.builtin "object.__class__"))
section
variable {prog:aaK} {w:aaN} {A:aaH} {E:aaM->aaL->Prop} {h:Heap} {g:Array GenState} {d:Drawn} {t:Nat} {os:OsState} {a C:aaG} {o:Obj} {K:PySem.W.Frag}
theorem Nt{R:Result->aaL->Prop}(Y:K.In h)(Z:pI K C)(ha:h.get? a=some o)(hc:o.cls= .ref C)(k:R (.ok (.ret (.ref C))) ⟨h,g,d,t,os⟩) :
  aaR (model prog w) A (.call (.builtin "getset_descriptor.__get__") ⟨[.builtin "object.__class__",.ref a,.ref C],[]⟩) R ⟨h,g,d,t,os⟩:=by
 obtain⟨bm,N,nm,qn,bs,UA,sn,sub,ab,col,dd,k0,k1,k2,k3,k5,mN,hC,hN,hni,T,_⟩:=qL Y Z.exc
 have ty:(⟨h,g,d,t,os⟩:aaL).TypeIs (.builtin "object.__class__") "getset_descriptor":=EW
 have own:(aR C::bm).contains (.type (".".intercalate ("object.__class__".cutAt '.').dropLast))=true:=by
  rw[F.owner_object_class,EY,T.hasType (X:="object") (b:=true) (by decide)];rfl
 refine codeAny_call_builtin F.slot_gs_get.plain F.entry_gs_get (F.slot_gs_get.check _ _ _ _ _ _ _ _ ty (F.args_gs_get _ _ _) ?_)
 repeat (any_goals (first | assumption | (with_reducible refine wpAny_loadPart_at ha ?_;rw[hc]) | (with_reducible refine wpAny_isSubtype_exc hC ?_;rw[own]) | wp_step))
 refine⟨Code.quiet_builtin _ (by decide+kernel),codeAny_builtin F.entry_object_class ?_⟩
 repeat (any_goals (first | assumption | (with_reducible refine wpAny_loadPart_at ha ?_;rw[hc]) | wp_step))
theorem EZ{tk:Tok}{Q:Fin->aaL->Prop}(Y:K.In h)(Z:pI K C)(ha:h.get? a=some o)(hc:o.cls= .ref C)(k:Q (.done (.ret (.ref C))) ⟨h,g,d,t,os⟩) :
  aaZ (model prog w) A (Builtin.«object.__getattribute__» ⟨[.ref a,.str "__class__" tk],[]⟩) Q E ⟨h,g,d,t,os⟩:=by
 have ty:(⟨h,g,d,t,os⟩:aaL).TypeIs (.builtin "object.__class__") "getset_descriptor":=EW
 have t1:=EW
 have t2:=F.slot_gs_get.lookup
 have t3:=F.slot_gs_set.lookup
 have L:=PySem.W.looks_findIn (M:=model prog w) Y Z.cl
 repeat (any_goals (first | assumption | (with_reducible refine wpAny_loadPart_at ha ?_;rw[hc]) | with_reducible refine L.at ?_ | wp_step))
 refine Nt Y Z ha hc ?_
 repeat (any_goals (first | assumption | wp_step))
theorem E0{M:Model}{nv:aaM}{Q:Unit->aaL->Prop}(Y:K.In h)(Z:pI K C)(ha:h.get? a=some o)(hc:o.cls= .ref C)(k:Q () ⟨h,g,d,t,os⟩) :
  aaZ M A (checkBuiltinCall "BaseException.__getattribute__" ⟨[.ref a,nv],[]⟩) Q E ⟨h,g,d,t,os⟩:=by
 obtain⟨bm,N,nm,qn,bs,UA,sn,sub,ab,col,dd,k0,k1,k2,k3,k5,mN,hC,hN,hni,T,_⟩:=qL Y Z.exc
 have u1:builtinKind "BaseException.__getattribute__"=some .slot:=by decide+kernel
 have u2:splitId "BaseException.__getattribute__"=some ("BaseException","__getattribute__"):=by decide+kernel
 have u3:(aR C::bm).contains (.type "BaseException")=true:=by rw[EY,T.hasType (X:="BaseException") (b:=true) (by decide)];rfl
 have u4:=F.args_bexc_ga (.ref a) nv
 simp only[checkBuiltinCall,u1,u2]
 refine aa0 ?_
 unfold isInstance
 repeat (first | (with_reducible refine wpAny_loadPart_at ha ?_;rw[hc]) | (with_reducible refine wpAny_isSubtype_exc hC ?_;rw[u3]) | wp_step)
 exact k
theorem QU{tk:Tok}{Q:aaM->aaL->Prop}(Y:K.In h)(Z:pI K C)(ha:h.get? a=some o)(hc:o.cls= .ref C)(k:Q (.ref C) ⟨h,g,d,t,os⟩) :
  aaZ (model prog w) A (getAttrBy (.ref a) (.str "__class__" tk) false) Q E ⟨h,g,d,t,os⟩:=by
 have v1:=F.excAttr_ValueError.ga.bind (.ref a)
 have v2:(qM "BaseException.__getattribute__" == qM "object.__getattribute__")=false:=by decide+kernel
 have v3:(onTheHeap (aR C)&&qM "BaseException.__getattribute__" == qM "object.__getattribute__")=false:=by rw[v2];rfl
 have v4:(false&&onTheHeap (qM "BaseException.__getattribute__"))=false:=rfl
 have L1:=PySem.W.looks_findIn (M:=model prog w) Y Z.ga
 have L2:=PySem.W.looks_findIn (M:=model prog w) Y Z.gx
 repeat (any_goals (first | assumption | (with_reducible refine wpAny_loadPart_at ha ?_;rw[hc]) | with_reducible refine L1.at ?_ | with_reducible refine L2.at ?_ | wp_step))
 refine codeAny_call_builtin F.excAttr_ValueError.ga.plain F.entry_bexc_ga (E0 Y Z ha hc (EZ Y Z ha hc ?_))
 repeat (any_goals (first | assumption | wp_step))
theorem Jh{Q:Option aaM->aaL->Prop}(Y:K.In h)(Z:pI K C)(ha:h.get? a=some o)(hc:o.cls= .ref C)(k:Q (some (.ref C)) ⟨h,g,d,t+1,os⟩) :
  aaZ (model prog w) A (getAttr? (.ref a) "__class__") Q E ⟨h,g,d,t,os⟩:=by
 unfold getAttr? getAttrBy?
 repeat (any_goals (first | assumption | with_reducible apply QU Y Z ha hc | wp_step))
end
structure Yo(X:Cx):Prop where
 st:X.stack=X.env::X.outer
 fr:X.env.frame=some X.env.locals
 ex:X.ex=[]
theorem pJ{P:aaK}{w:aaN}{H:Hp}{h:Heap}{a:aaG}{o:HO}(x:dv P w H h a o):∃u,h.get? a=some u:=by
 cases o with
 | lst xs=>obtain⟨_,_,_,_,e⟩:=x;exact⟨_,e⟩
 | tup xs=>obtain⟨_,_,_,⟨ob,e,_⟩,_⟩:=x;exact⟨_,e⟩
 | dK kvs=>obtain⟨_,_,_,_,ob,_,_,e,_⟩:=x;exact⟨_,e⟩
 | dT kvs=>obtain⟨_,_,_,_,ob,_,_,e,_⟩:=x;exact⟨_,e⟩
 | set S n=>obtain⟨ob,_,_,_,e,_⟩:=x;exact⟨_,e⟩
 | ins C dx fs=>obtain⟨_,_,_,e,_⟩:=x;exact⟨_,e⟩
 | own y=>exact x
 | xd fs=>obtain⟨_,⟨_,_,_,e,_⟩,_⟩:=x;exact⟨_,e⟩
 | Sj lo hi=>obtain⟨_,_,_,e⟩:=x;exact⟨_,e⟩
 | iy ob u=>obtain⟨e,_⟩:=x;exact⟨_,e⟩
 | pf ps=>exact⟨_,x⟩
 | met f y=>exact⟨_,x⟩
 | ext φ=>exact x.2.1
def QV(o:Obj):Prop:=∃vs,o.data= .fields vs/\vs[2]? =some bC
section
variable {X:Cx} {pins:List (aaG×Obj)} {σ:St} {Hc H':Hp} {sc s':aaL} {B h2:Heap} {a C:aaG} {a0:aaM} {ch:List aaG}
end
theorem xb{K:PySem.W.Frag}{a C:aaG}(Z:pI K C):PySem.W.KitX K (.ref a) (.ref C) (Ei a C) where
 ty:=λM h _ p=>by
  obtain⟨o,h1,h2,_⟩:=p
  rw[<-h2]
  exact(PySem.W.Looks.ld h1).andThen .now
 it:=λM h Y _=>by
  obtain⟨bm,N,nm,qn,bs,UA,sn,sub,ab,col,dd,k0,k1,k2,k3,k5,mN,hC,_⟩:=qL Y Z.exc
  intro A' Q' E' s' k q
  unfold isType loadHead
  exact aa0 (wpAny_loadPart (k _ _ hC) (aa6 q))
 ne:=λh tp dd its n sl Y e=>by
  obtain⟨bm,N,nm,qn,bs,UA,sn,sub,ab,col,Qn,k0,k1,k2,k3,k5,mN,hC,_⟩:=qL Y Z.exc
  refine Bool.eq_false_iff.mpr λq=>?_
  have z:C=tp:=Value.ref.inj (beq_iff_eq.mp q)
  subst z
  rw[hC] at e
  have z2:mB "type"=mB "tuple":=congrArg Obj.cls (Option.some.inj e)
  exact absurd z2 (by decide)
 ca:=λ{prog w A E Q s} Y p k=>by
  obtain⟨o,h1,h2,_⟩:=p
  obtain⟨h,g,d,t,os⟩:=s
  exact Jh Y Z h1 h2 k
abbrev Tab:=List ((PySem.Str×PySem.Str)×Bool)
abbrev y8:=List ((PySem.Str×String)×Bool)
structure TabOk(K:PySem.W.Frag)(tb:Tab)(tt:y8)(tc:Tab):Prop where
 own:∀c d b C D,tb.lookup (c,d)=some b->ClsAt K c C->ClsAt K d D->pI K C/\PySem.W.kitOne K (.ref C) (.ref D)=some b
 cat:∀c d b C D,tc.lookup (c,d)=some b->ClsAt K c C->ClsAt K d D->PySem.W.excIn K C Li Jf=true/\PySem.W.excIn K D Li Jf=true/\PySem.W.mroIn K C (.ref D)=some b
 typ:∀c T b C,tt.lookup (c,T)=some b->ClsAt K c C->pI K C/\PySem.W.kitOne K (.ref C) (.type T)=some b
def pK(tb:Tab)(c:PySem.Str):List Wv->Option Bool
 | []=>some false
 | .cls d::r=>(match tb.lookup (c,d) with
  | some true=>some true
  | some false=>pK tb c r
  | none=>none)
 | _=>none
theorem uu{K:PySem.W.Frag}{m:Mp}{H:Hp}{tb:Tab}{tt:y8}{tc:Tab}(O:TabOk K tb tt tc){c:PySem.Str}{C:aaG}(hC:ClsAt K c C):∀{ds:List Wv}{vs:List V}{its:List aaM}{b:Bool},ai K m H ds vs->Vals vs its->pK tb c ds=some b->PySem.W.kitAny K (.ref C) its=some b
 | [],vs,its,b,r,v,e=>by
  unfold ai at r
  subst r
  cases v
  cases e
  rfl
 | w::ds,vs,its,b,r,v,e=>by
  unfold ai at r
  obtain⟨x,t,rfl,r1,r2⟩:=r
  cases v with
  | cons h1 h2=>
   cases w with
   | cls d=>
    unfold aj at r1
    obtain⟨D,rfl,hD⟩:=r1
    cases h1
    unfold pK at e
    unfold PySem.W.kitAny
    cases q:tb.lookup (c,d) with
    | none=>rw[q] at e;cases e
    | some k=>
     rw[q] at e
     obtain⟨_,z3⟩:=O.own c d k C D q hC hD
     rw[z3]
     cases k with
     | true=>cases e;rfl
     | false=>exact uu O hC r2 h2 e
   | _=>cases e
def nQ(tb:Tab)(tt:y8):List Wv->Hs->Re Wv
 | [.wU c,.cls d],st=>(match tb.lookup (c,d) with | some b=> .ok (.bl b) st | none=> .bad)
 | [.wU c,.ty T],st=>(match tt.lookup (c,T) with | some b=> .ok (.bl b) st | none=> .bad)
 | [.wU c,.tup (.cls d::ds)],st=>(match pK tb c (.cls d::ds) with | some b=> .ok (.bl b) st | none=> .bad)
 | ws,st=>QR ws st
section
variable {X:Cx}
theorem E1:dW X (.builtin "isinstance") (λvs H Q=>∃a C v c b,vs=[.ref a,v]/\SG a C (H a)/\pI X.K C/\RelV v c/\PySem.W.kitOne X.K (.ref C) c=some b/\Q (.bl b) H):=by
 intro pins s σ H xs us Q I r h
 obtain⟨a,C,v,c,b,rfl,ha,Z,rc,e,q⟩:=h
 obtain⟨u,u',rfl,r1,r2⟩:=vals2 r
 cases r1
 have uc:u'=c:=by
  cases v with
  | int i=>obtain⟨t,rfl⟩:=rc;cases e
  | str i=>obtain⟨t,rfl⟩:=rc;cases e
  | O6 i=>obtain⟨t,rfl⟩:=rc;cases e
  | Si i=>obtain⟨t,rfl⟩:=rc;cases e
  | bg=>cases rc;cases r2;rfl
  | bl i=>cases rc;cases r2;rfl
  | ref i=>cases rc;cases r2;rfl
  | ty i=>cases rc;cases r2;rfl
 subst uc
 exact PySem.W.kia_one (xb Z) I.Ag (K8 I.hok ha) e (by intro z;cases z) λtk=>⟨.bl b,H,I.tok tk,rfl,q⟩
theorem Cf:dW X (.builtin "isinstance") (λvs H Q=>∃a C p xs b,vs=[.ref a,.ref p]/\SG a C (H a)/\pI X.K C/\gN X.K H p xs/\(∀its,Vals xs its->PySem.W.kitAny X.K (.ref C) its=some b)/\Q (.bl b) H):=by
 intro pins s σ H xs us Q I r h
 obtain⟨a,C,p,ys,b,rfl,ha,Z,hT,e,q⟩:=h
 obtain⟨u,u',rfl,r1,r2⟩:=vals2 r
 cases r1
 cases r2
 obtain⟨its,rv,⟨o,g1,g2,n,g3⟩,z⟩:=I.tuple hT
 obtain⟨oc,od,oda,osl⟩:=o
 cases g2
 cases g3
 exact PySem.W.kia_tup (xb Z) I.Ag (K8 I.hok ha) g1 (e its rv) (by intro z;cases z) λtk=>⟨.bl b,H,I.tok tk,rfl,q⟩
theorem Nu{tb:Tab}{tt:y8}{tc:Tab}(O:TabOk X.K tb tt tc):fV X (.builtin "isinstance") (nQ tb tt):=by
 obtain⟨r,h1,h2⟩:=Nl (X:=X)
 refine⟨_,E1.or (Cf.or h1),λws vs st H m Q S rs p=>?_⟩
 unfold nQ at p
 split at p
 ·rename_i _ c d
  cases e:tb.lookup (c,d) with
  | none=>rw[e] at p;exact ae p
  | some b=>
   rw[e] at p
   obtain⟨v,v',rfl,r1,r2⟩:=Ca rs
   unfold aj at r1 r2
   obtain⟨a,C,rfl,hC,ha⟩:=r1
   obtain⟨D,rfl,hD⟩:=r2
   obtain⟨z1,z3⟩:=O.own c d b C D e hC hD
   exact .inl ⟨a,C,.ref D,.ref D,b,rfl,ha,z1,rfl,z3,p _ m H Ext.refl S iB⟩
 ·rename_i _ c T
  cases e:tt.lookup (c,T) with
  | none=>rw[e] at p;exact ae p
  | some b=>
   rw[e] at p
   obtain⟨v,v',rfl,r1,r2⟩:=Ca rs
   unfold aj at r1 r2
   obtain⟨a,C,rfl,hC,ha⟩:=r1
   subst r2
   obtain⟨z1,z3⟩:=O.typ c T b C e hC
   exact .inl ⟨a,C,.ty T,.type T,b,rfl,ha,z1,rfl,z3,p _ m H Ext.refl S iB⟩
 ·rename_i _ c d ds
  cases e:pK tb c (.cls d::ds) with
  | none=>rw[e] at p;exact ae p
  | some b=>
   rw[e] at p
   obtain⟨v,v',rfl,r1,r2⟩:=Ca rs
   unfold aj at r1
   obtain⟨a,C,rfl,hC,ha⟩:=r1
   have r2':=r2
   unfold aj at r2'
   obtain⟨t,xs,rfl,hT,rx⟩:=r2'
   have Z:pI X.K C:=by
    have tH:=rx
    unfold ai at tH
    obtain⟨x,r,_,rd,_⟩:=tH
    unfold aj at rd
    obtain⟨D,_,hD⟩:=rd
    unfold pK at e
    cases q:tb.lookup (c,d) with
    | none=>rw[q] at e;cases e
    | some k=>exact(O.own c d k C D q hC hD).1
   exact .inr (.inl ⟨a,C,t,xs,b,rfl,ha,Z,gN.of hT,λits hv=>uu O hC rx hv e,p _ m H Ext.refl S iB⟩)
 ·exact .inr (.inr (h2 ws vs st H m Q S rs p))
end
section
variable {X:Cx} {pins:List (aaG×Obj)} {σ:St} {H:Hp} {s:aaL}
abbrev WY(X:Cx)(A':aaH)(cm:Bool)(pn:List (aaG×Obj))(E:aaM->aaL->Prop):Cx:={ X with A:=A',calm:=cm,pn:=pn,xe:=E }
def Nv(X:Cx):Prop:=X.A.handled=none\/∃a o u,X.A.handled=some (.ref a)/\QV o/\X.H₀ a=some (.iy o u)
def Cg(A:aaH)(H:Hp):Prop:=A.handled=none\/∃a o u,A.handled=some (.ref a)/\QV o/\H a=some (.iy o u)
theorem Nv.at(h:Nv X)(I:Inv X pins σ H s):Cg X.A H:=h.imp id λ⟨a,o,u,h1,h2,h3⟩=>⟨a,o,u,h1,h2,I.base.oj _ _ _ h3⟩
end
section
variable {X:Cx}
theorem pE.er{A:aaH}{b:Bool}{E:aaM->aaL->Prop}{pins t8:List (aaG×Obj)}{H H':Hp}{s s':aaL}{cls e:aaM}(f:pE (WY X A b (X.pn++pins) E) t8 H s H' cls e s'):pE X pins H s H' cls e s' :=
 let ⟨a,a0,nt,B,ch,e1,e2,e3,hch,r⟩:=f
 ⟨a,a0,nt,B,ch,e1,e2,e3,λb hb=>let ⟨h1,h2,h3,h4,h5,h6⟩:=hch b hb;⟨h1,h2,h3,h4,h5,λp hp=>h6 p (fP _ hp)⟩,r⟩
end
section
variable {X:Cx}
def QW:List Wv->Hs->Re Wv
 | [.int i],st=>if i.natAbs.log2 < 1920 then .ok (.str (toString i:String)) st else .bad
 | _,_=> .bad
def lS(o v:Wv)(st:Hs):Re Wv:=match o with
 | .ref l=>(match st[l]? with
  | some (.lst ws)=>if ws.length < lim then .ok .bg (st.set l (.lst (ws++[v]))) else .bad
  | _=> .bad)
 | _=> .bad
def E2(o v:Wv)(st:Hs):Re Wv:=match o,v with
 | .ref l,.ref k=>(match st[l]?,st[k]? with
  | some (.lst ws),some (.lst zs)=>if ws.length+zs.length<=lim then .ok .bg (st.set l (.lst (ws++zs))) else .bad
  | _,_=> .bad)
 | _,_=> .bad
def gP(mt:Wv->Wv->Hs->Re Wv)(go ga:GE):GE:=λρ st=>(go ρ st).bind λo st1=>match o with
 | .ref l=>(match ao st1 l with
  | some _=>(ga ρ st1).bind λv st2=>(mt o v st2).lJ
  | none=> .bad)
 | _=> .bad
def QX(X:Cx)(id:String)(mt:Wv->Wv->Hs->Re Wv):Prop:=∃r,Ug X id r/\∀(o w:Wv)(x v:V)(st:Hs)(H:Hp)(m:Mp)(Q:VK),bG X.K m st H->aj X.K m H o x->aj X.K m H w v->cS X.K m H (mt o w st) Q->r x [v] H Q
theorem y9:QX X "list.append" lS:=⟨_,BZ,λo w x v st H m Q S ro rw' p=>by
 cases o with
 | ref l=>
  unfold aj at ro
  obtain⟨a,rfl,ha⟩:=ro
  have p':cS X.K m H (match st[l]? with | some (.lst ws)=>if ws.length < lim then .ok .bg (st.set l (.lst (ws++[w]))) else .bad | _=> .bad) Q:=p
  cases e:st[l]? with
  | none=>rw[e] at p';exact ae p'
  | some ob=>
   cases ob with
   | dct kvs=>rw[e] at p';exact ae p'
   | bq kvs=>rw[e] at p';exact ae p'
   | fH kvs=>rw[e] at p';exact ae p'
   | B7 kvs=>rw[e] at p';exact ae p'
   | sX ns=>rw[e] at p';exact ae p'
   | lst ws=>
    rw[e] at p'
    dsimp only at p'
    by_cases c:ws.length < lim
    ·rw[if_pos c] at p'
     obtain⟨xs,h1,h2⟩:=S.rJ ha e
     have e4:Ext X.K m H m (upd H a (.lst (xs++[v]))):=Ext.upd (.inr ⟨xs,h1⟩)
     exact⟨a,xs,v,rfl,rfl,h1,by rw[<-h2.length];exact yQ c,p' _ m _ e4 (S.write ha e (h2.append (ai.cons rw' ai.nil))) AE⟩
    ·rw[if_neg c] at p';exact ae p'
 | _=>exact ae p⟩
theorem Nw:QX X "list.extend" E2:=⟨_,B0,λo w x v st H m Q S ro rw' p=>by
 cases o with
 | ref l=>
  cases w with
  | ref k=>
   unfold aj at ro rw'
   obtain⟨a,rfl,ha⟩:=ro
   obtain⟨b,rfl,hb⟩:=rw'
   have p':cS X.K m H (match st[l]?,st[k]? with | some (.lst ws),some (.lst zs)=>if ws.length+zs.length<=lim then .ok .bg (st.set l (.lst (ws++zs))) else .bad | _,_=> .bad) Q:=p
   cases e:st[l]? with
   | none=>rw[e] at p';exact ae p'
   | some ob=>
    cases ob with
    | dct kvs=>rw[e] at p';exact ae p'
    | bq kvs=>rw[e] at p';exact ae p'
    | fH kvs=>rw[e] at p';exact ae p'
    | B7 kvs=>rw[e] at p';exact ae p'
    | sX ns=>rw[e] at p';exact ae p'
    | lst ws=>
     cases e2:st[k]? with
     | none=>rw[e,e2] at p';exact ae p'
     | some Yp=>
      cases Yp with
      | dct kvs=>rw[e,e2] at p';exact ae p'
      | bq kvs=>rw[e,e2] at p';exact ae p'
      | fH kvs=>rw[e,e2] at p';exact ae p'
      | B7 kvs=>rw[e,e2] at p';exact ae p'
      | sX ns=>rw[e,e2] at p';exact ae p'
      | lst zs=>
       rw[e,e2] at p'
       dsimp only at p'
       by_cases c:ws.length+zs.length<=lim
       ·rw[if_pos c] at p'
        obtain⟨xs,h1,h2⟩:=S.rJ ha e
        obtain⟨ys,g1,g2⟩:=S.rJ hb e2
        have e4:Ext X.K m H m (upd H a (.lst (xs++ys))):=Ext.upd (.inr ⟨xs,h1⟩)
        exact⟨a,b,xs,ys,rfl,rfl,h1,g1,by rw[<-h2.length,<-g2.length];exact f' c,p' _ m _ e4 (S.write ha e (h2.append g2)) AE⟩
       ·rw[if_neg c] at p';exact ae p'
  | _=>exact ae p
 | _=>exact ae p⟩
theorem AI{x name:Str}{id:String}{e:Expr}{go ga:GE}{p apos cpos:Pos}{mt:Wv->Wv->Hs->Re Wv}(hm:QX X id mt)(slot:Slot "list" name id)(hty:typeOf (.builtin id)=pure (.type "method_descriptor"))(ho:JE X (.Name x p) go)(ha:JE X e ga)
  (hst:aaY [e] X.env=[(false,eval e X.env)])(hline:(apos.endLine == cpos.line)=true):JE X (.Call (.Attribute (.Name x p) name apos) [e] [] cpos) (gP mt go ga):=by
 obtain⟨r,h1,h2⟩:=hm
 have hfew:((backTo cpos (aaY [e] X.env)).all (λx=> !x.1)&&(backToKw cpos (keywordEach [] X.env)).all (λx=>x.1.isSome)&&decide ([e].length+([]:List Keyword).length+(if([]:List Keyword).isEmpty then 0 else 1) < 30))=true:=by
  rw[hst];rfl
 refine JE.of (K4 PySem.F.plainAttrs_list slot hty h1 aE ke rfl hfew hline hst rfl) λρ st σ H m Q S R p=>?_
 refine ho.go S R (ax.bind p) λo st1 v m1 H1 p1 e1 S1 ro=>?_
 cases o with
 | ref l=>
  dsimp only at p1
  cases el:ao st1 l with
  | none=>rw[el] at p1;exact ae p1
  | some Yq=>
   rw[el] at p1
   dsimp only at p1
   have QY:=ro
   unfold aj at QY
   obtain⟨a,rfl,hla⟩:=QY
   obtain⟨xs,hq,_⟩:=S1.read hla el
   refine⟨.inl ⟨rfl,xs,hq⟩,?_⟩
   refine(vq ha yU hst).go S1 (R.mono e1) (ok:=λws st2=>ax X σ m H (match ws with | [w]=>(mt (.ref l) w st2).lJ | _=> .bad) (II X.K m H Q)) ?_ λws st2 vs m2 H2 p2 e2 S2 rs=>?_
   ·have p3:=(ax.bind p1).imp e1 (λ_ _ q=>q)
    show ax X σ m1 H1 ((ga ρ st1).bind λx st1=>(aq ρ st1).bind λxs st2=> .ok (x::xs) st2) _
    cases eg:ga ρ st1 with
    | ok w st2=>rw[eg] at p3;exact p3
    | err c st2=>rw[eg] at p3;exact p3
    | bad=>rw[eg] at p3;exact p3
   ·match ws,rs,p2 with
    | [],rs,p2=>exact ae p2
    | [w],rs,p2=>
     obtain⟨v2,rfl,UB⟩:=nk rs
     exact h2 (.ref l) w (.ref a) v2 st2 H2 m2 Q S2 (aj.mono e2 _ _ ro) UB (cS.shift (ax.lJ p2) (e1.trans e2))
    | _::_::_,rs,p2=>exact ae p2
 | _=>exact ae p1
end
section
variable {X:Cx}
def QZ:List Wv->Hs->Re Wv
 | [.str z],st=> .ok (.str z) st
 | ws,st=>QW ws st
def UC:List Wv->Hs->Re Wv
 | [.int i,.int j],st=> .ok (.int (if j > i then j else i)) st
 | _,_=> .bad
def UD:List Wv->Hs->Re Wv
 | [.int i,.int j],st=> .ok (.int (if j < i then j else i)) st
 | _,_=> .bad
open Classical in
end
def vD(env:Env):List (Str×aaJ)->List (Str×aaG)->List (Str×aaG)
 | [],acc=>acc
 | (n,k)::r,acc=>if k= .free then vD env r ((n,(env.cells.lookup n).getD 0)::acc) else vD env r acc
theorem xc(env:Env):∀(names:List (Str×aaJ))(acc:List (Str×aaG)),(∀y∈names,y.2= .free->∃c,env.cells.lookup y.1=some c)->
  (forIn names acc λx r=>match x with
   | (name,kind)=>if(kind == fI)=true then do let c <-cellOf env name;pure (y_ ((name,c)::r)) else(pure (y_ r):Sem _))=pure (vD env names acc)
 | [],acc,_=>rfl
 | (n,k)::r,acc,h=>by
  have ih:=λacc=>xc env r acc λy hy=>h y (aF _ hy)
  rw[List.forIn_cons]
  by_cases hk:k= .free
  ·subst hk
   obtain⟨c,e⟩:=h (n,.free) aB rfl
   have e':env.cells.lookup n=some c:=e
   have cc:cellOf env n=pure c:=by unfold cellOf;rw[e']
   simp only[beq_self_eq_true,if_true,cc]
   have q:vD env ((n,.free)::r) acc=vD env r ((n,c)::acc):=by
    show(if fI= .free then vD env r ((n,(env.cells.lookup n).getD 0)::acc) else _)=_
    rw[if_pos rfl,e']
    rfl
   rw[q,<-ih]
   rfl
  ·have hb:(k == fI)=false:=by simpa using hk
   simp only[hb,AJ,if_false]
   have q:vD env ((n,k)::r) acc=vD env r acc:=by
    show(if k= .free then _ else vD env r acc)=_
    rw[if_neg hk]
   rw[q,<-ih]
   rfl
theorem Ji{env:Env}{scope:Scope}(h:∀y∈scope.names,y.2= .free->∃c,env.cells.lookup y.1=some c):closureFor scope env=pure (vD env scope.names []):=by
 have q:=xc env scope.names [] h
 unfold closureFor
 first
  | (rw[<-q];rfl)
  | (simp only[bind_pure];exact q)
theorem vE{env:Env}:∀{names:List (Str×aaJ)}{acc:List (Str×aaG)}{y:Str}{c:aaG},(∀y∈names,y.2= .free->∃c,env.cells.lookup y.1=some c)->(∀y c,acc.lookup y=some c->env.cells.lookup y=some c)->(vD env names acc).lookup y=some c->env.cells.lookup y=some c
 | [],acc,y,c,_,ha,e=>ha y c e
 | (n,k)::r,acc,y,c,h,ha,e=>by
  unfold vD at e
  by_cases hk:k= .free
  ·rw[if_pos hk] at e
   subst hk
   obtain⟨c0,e0⟩:=h (n,.free) aB rfl
   have Yr:env.cells.lookup n=some c0:=e0
   refine vE (λy hy=>h y (aF _ hy)) (λy' c' e'=>?_) e
   rw[i_] at e'
   cases q:y' == n with
   | true=>
    rw[q] at e'
    have q':=eq_of_beq q
    subst q'
    rw[Yr] at e' ⊢
    exact e'
   | false=>rw[q] at e';exact ha y' c' e'
  ·rw[if_neg hk] at e
   exact vE (λy hy=>h y (aF _ hy)) ha e
theorem qN{env:Env}{y:Str}:∀{names:List (Str×aaJ)}{acc:List (Str×aaG)},((∃c,acc.lookup y=some c)\/(y,fI)∈names)->∃c,(vD env names acc).lookup y=some c
 | [],acc,h=>by
  rcases h with h | h
  ·exact h
  ·cases h
 | (n,k)::r,acc,h=>by
  unfold vD
  by_cases hk:k= .free
  ·rw[if_pos hk]
   refine qN ?_
   rw[i_]
   cases q:y == n with
   | true=>exact .inl ⟨_,rfl⟩
   | false=>
    rcases h with h | h
    ·exact .inl h
    ·rcases List.mem_cons.mp h with h | h
     ·cases h;simp at q
     ·exact .inr h
  ·rw[if_neg hk]
   refine qN ?_
   rcases h with h | h
   ·exact .inl h
   ·rcases List.mem_cons.mp h with h | h
    ·cases h;exact absurd rfl hk
    ·exact .inr h
theorem lookup_mem{α β:Type}[BEq α][LawfulBEq α]{y:α}{k:β}:∀{names:List (α×β)},names.lookup y=some k->(y,k)∈names
 | [],h=>by cases h
 | (n,j)::r,h=>by
  rw[i_] at h
  cases q:y == n with
  | true=>
   rw[q] at h
   cases h
   have q':=eq_of_beq q
   subst q'
   exact aB
  | false=>rw[q] at h;exact aF _ (lookup_mem h)
theorem oG{env:Env}:∀{names:List (Str×aaJ)}{y:Str},(names.map λ(n,k)=>if(k == fI&&env.scope.kind == .function&&env.kindOf n == some .cell) then(n,fJ) else(n,k)).lookup y=
  (names.lookup y).map λk=>if(k == fI&&env.scope.kind == .function&&env.kindOf y == some .cell)=true then fJ else k
 | [],y=>rfl
 | (n,k)::r,y=>by
  have ih:=oG (env:=env) (names:=r) (y:=y)
  show List.lookup y ((if(k == fI&&env.scope.kind == .function&&env.kindOf n == some .cell)=true then(n,fJ) else(n,k))::_)=_
  cases q:y == n with
  | true=>
   have q':=eq_of_beq q
   subst q'
   by_cases hc:(k == fI&&env.scope.kind == .function&&env.kindOf y == some .cell)=true
   ·rw[if_pos hc]
    simp only[i_,beq_self_eq_true,om]
    rw[if_pos hc]
   ·rw[if_neg hc]
    simp only[i_,beq_self_eq_true,om]
    rw[if_neg hc]
  | false=>
   by_cases hc:(k == fI&&env.scope.kind == .function&&env.kindOf n == some .cell)=true
   ·rw[if_pos hc];simp only[i_,q];exact ih
   ·rw[if_neg hc];simp only[i_,q];exact ih
open Classical in
def iF(ck:Hs->Prop)(gt:Wv->Hs->Re Bool)(ge:Wv->Hs->Re Wv)(l:Nat):List Wv->Hs->Option Hs
 | [],st=>some st
 | w::r,st=>match gt w st with
  | .ok false st1=>if ck st1 then iF ck gt ge l r st1 else none
  | .ok true st1=>(match ge w st1 with
   | .ok v st2=>(match lS (.ref l) v st2 with
    | .ok _ st3=>if ck st3 then iF ck gt ge l r st3 else none
    | _=>none)
   | _=>none)
  | _=>none
open Classical in
def qm(ck:Hs->Prop)(gt:Wv->Hs->Re Bool)(ge:Wv->Hs->Re Wv)(l:Nat):List Wv->Hs->Re Unit
 | [],st=> .ok () st
 | w::r,st=>match gt w st with
  | .ok false st1=>if ck st1 then qm ck gt ge l r st1 else .bad
  | .ok true st1=>(match ge w st1 with
   | .ok v st2=>(match lS (.ref l) v st2 with
    | .ok _ st3=>if ck st3 then qm ck gt ge l r st3 else .bad
    | _=> .bad)
   | .err c st2=> .err c st2
   | .bad=> .bad)
  | .err c st1=> .err c st1
  | .bad=> .bad
theorem rP{ck:Hs->Prop}{gt:Wv->Hs->Re Bool}{ge:Wv->Hs->Re Wv}{l:Nat}{AK:Hs}:∀(ws:List Wv)(st:Hs),iF ck gt ge l ws st=some AK->qm ck gt ge l ws st= .ok () AK
 | [],st,h=>by cases h;rfl
 | w::r,st,h=>by
  unfold iF at h
  unfold qm
  cases eg:gt w st with
  | err c st1=>rw[eg] at h;cases h
  | bad=>rw[eg] at h;cases h
  | ok b st1=>
   rw[eg] at h
   cases b with
   | false=>
    dsimp only at h ⊢
    by_cases c:ck st1
    ·rw[if_pos c] at h ⊢;exact rP r st1 h
    ·rw[if_neg c] at h;cases h
   | true=>
    dsimp only at h ⊢
    cases ee:ge w st1 with
    | err c st2=>rw[ee] at h;cases h
    | bad=>rw[ee] at h;cases h
    | ok v st2=>
     rw[ee] at h
     dsimp only at h ⊢
     cases ea:lS (.ref l) v st2 with
     | err c st3=>rw[ea] at h;cases h
     | bad=>rw[ea] at h;cases h
     | ok u st3=>
      rw[ea] at h
      dsimp only at h ⊢
      by_cases c:ck st3
      ·rw[if_pos c] at h ⊢;exact rP r st3 h
      ·rw[if_neg c] at h;cases h
abbrev ip:=List (Str×Nat)
def eD(cs:ip)(ρ:bF):bF:=cs.map λp=>(ρ[p.2]?).getD none
def vF(cs:ip)(σ:St):St:=cs.map λp=>(σ[p.2]?).getD none
theorem Jj{K:PySem.W.Frag}{m:Mp}{H:Hp}{ρ:bF}{σ:St}(cs:ip)(R:aD K m H ρ σ):aD K m H (eD cs ρ) (vF cs σ):=by
 refine⟨by unfold eD vF;simp,λi w e=>?_⟩
 unfold eD at e
 rw[fh] at e
 cases q:cs[i]? with
 | none=>rw[q] at e;cases e
 | some p=>
  rw[q] at e
  have e':(ρ[p.2]?).getD none=some w:=by simpa using e
  cases q2:ρ[p.2]? with
  | none=>rw[q2] at e';cases e'
  | some o=>
   rw[q2] at e'
   have e2:o=some w:=e'
   subst e2
   obtain⟨v,h1,h2⟩:=R.get _ _ q2
   refine⟨v,?_,h2⟩
   unfold vF
   rw[fh,q]
   simp[h1]
def ym(X:Cx)(scope:Scope)(C:aaG):List (Str×aaG):=cellsFrom (C+1) scope.names (vD X.env scope.names [])
theorem oH:∀{names:List (Str×aaJ)}(n:Nat)(acc:List (Str×aaG))(h:Heap),(names.filter λy=>y.2 == .cell)=[]->cellsFrom n names acc=acc/\pushCells h names=h
 | [],_,_,_,_=>⟨rfl,rfl⟩
 | (y,k)::r,n,acc,h,e=>by
  cases q:(k == fJ) with
  | true=>rw[ja (by exact q)] at e;cases e
  | false=>
   rw[jb (by show ¬(k == fJ)=true;rw[q];exact bD)] at e
   unfold cellsFrom pushCells
   rw[q]
   exact oH n acc h e
theorem ko{x:Str}:∀{names:List (Str×aaJ)}(n:Nat)(acc:List (Str×aaG))(h:Heap),(names.filter λy=>y.2 == .cell)=[(x,.cell)]->cellsFrom n names acc=(x,n)::acc/\pushCells h names=h.push { cls:=.type "cell",data:=.cell none }
 | [],_,_,_,e=>by cases e
 | (y,k)::r,n,acc,h,e=>by
  cases q:(k == fJ) with
  | true=>
   rw[ja (by exact q)] at e
   have e1:=(List.cons.inj e).1
   have e2:=(List.cons.inj e).2
   cases e1
   unfold cellsFrom pushCells
   rw[q]
   exact oH _ _ _ e2
  | false=>
   rw[jb (by show ¬(k == fJ)=true;rw[q];exact bD)] at e
   unfold cellsFrom pushCells
   rw[q]
   exact ko n acc h e
theorem rQ{M:Model}{A:aaH}{E:aaM->aaL->Prop}{s:aaL}{scope:Scope}{globals:aaG}{closure:List (Str×aaG)}{qual:Str}{env:Env}{Q:Env->aaL->Prop}
  (hQ:Q (newEnv scope s.heap.objs.size globals (cellsFrom (s.heap.objs.size+1) scope.names closure) qual none .none (some env) builtinsNs) { s with heap:=pushCells (s.heap.push { cls:=.type "dict",data:=.dict #[] }) scope.names }) :
  aaZ M A (newFunctionEnv scope globals closure [] qual none .none (some env)) Q E s:=by
 simp only[newFunctionEnv,ID,if_true]
 refine aa0 (wpAny_alloc ?_)
 refine aa0 (wpAny_layCells _ (λname kind cells=>by cases hkc:kind == fJ<;>simp[hkc]) _ _ _ _ ?_)
 rw[show({ s with heap:=s.heap.push { cls:=.type "dict",data:=.dict #[] } }:aaL).heap.objs.size=s.heap.objs.size+1 from Heap.size_push ..]
 rw[List.forIn_nil]
 exact aa0 (aa6 (aa6 hQ))
def iG(X:Cx)(scope:Scope)(x:Str)(cs:ip)(C:aaG)(s0:aaL)(H0:Hp)(fp:List aaG)(pn:List (aaG×Obj))(E:aaM->aaL->Prop):Cx where
 prog:=X.prog
 w:=X.w
 K:=X.K
 mg:=X.mg
 base:=X.base
 A:=X.A
 N:=x::cs.map (·.1)
 s₀:=s0
 H₀:=H0
 env:=compEnvC scope (ym X scope C) C X.env
 outer:=X.stack
 stack:=X.stack
 ex:=fp
 fn:=λy=>scope.names.lookup y == some .cell
 calm:=X.calm
 pn:=pn
 xe:=E
structure dS(X:Cx)(scope:Scope)(x:Str)(cs:ip):Prop where
 kind:scope.kind= .function
 look:∀y∈scope.names,scope.names.lookup y.1=some y.2
 own:(scope.names.filter λy=>y.2 == .cell)=[]\/(scope.names.filter λy=>y.2 == .cell)=[(x,.cell)]
 var:scope.names.lookup x=some .local\/scope.names.lookup x=some .cell
 cap:∀y∈scope.names,y.2= .free->X.env.kindOf y.1=some .cell\/X.env.kindOf y.1=some .free
 at_:∀p∈cs,X.N[p.2]? =some p.1/\scope.names.lookup p.1=some .free
 nd:(x::cs.map (·.1)).Nodup
section
variable {X:Cx} {pins:List (aaG×Obj)} {σ:St} {H:Hp} {s:aaL} {scope:Scope} {x:Str} {cs:ip}
theorem xf(I:Inv X pins σ H s){b:aaG}(f:iK X pins H b):b∉frs X.stack:=λz=>by
 rcases List.mem_cons.mp (I.pj b z) with q | q
 ·exact f.2.1 q
 ·exact f.2.2.1 q
theorem dS.has(S:dS X scope x cs)(ok:X.Ok):∀y∈scope.names,y.2= .free->∃c,X.env.cells.lookup y.1=some c:=λy hy e=>ok.has y.1 (S.cap y hy e)
theorem dS.E3(S:dS X scope x cs){y:Str}(e:scope.names.lookup y=some .cell):y=x/\(scope.names.filter λy=>y.2 == .cell)=[(x,.cell)]:=by
 have h:(y,fJ)∈scope.names.filter λy=>y.2 == .cell:=List.mem_filter.mpr ⟨lookup_mem e,rfl⟩
 rcases S.own with z | z
 ·rw[z] at h;cases h
 ·rw[z] at h
  have:=List.mem_singleton.mp h
  cases this
  exact⟨rfl,z⟩
theorem dS.sub(S:dS X scope x cs)(ok:X.Ok){C:aaG}{y:Str}{c:aaG}(e:(ym X scope C).lookup y=some c):(c=C+1/\y=x/\(scope.names.filter λy=>y.2 == .cell)=[(x,.cell)])\/(X.env.cells.lookup y=some c/\scope.names.lookup y≠some .cell):=by
 have old:∀{y:Str}{c:aaG},(vD X.env scope.names []).lookup y=some c->X.env.cells.lookup y=some c:=λe=>vE (S.has ok) (λ_ _ z=>by cases z) e
 unfold ym at e
 rcases S.own with z | z
 ·rw[(oH _ _ X.base z).1] at e
  refine .inr ⟨old e,λq=>?_⟩
  rw[(S.E3 q).2] at z
  cases z
 ·rw[(ko _ _ X.base z).1,i_] at e
  cases q:(y == x) with
  | true=>
   rw[q] at e
   cases e
   exact .inl ⟨rfl,eq_of_beq q,z⟩
  | false=>
   rw[q] at e
   exact .inr ⟨old e,λw=>by rw[(S.E3 w).1] at q;simp at q⟩
theorem dS.to(S:dS X scope x cs){C:aaG}{y:Str}{c:aaG}(e:(vD X.env scope.names []).lookup y=some c)(n:scope.names.lookup y≠some .cell):(ym X scope C).lookup y=some c:=by
 unfold ym
 rcases S.own with z | z
 ·rw[(oH _ _ X.base z).1];exact e
 ·rw[(ko _ _ X.base z).1,i_]
  have hx:scope.names.lookup x=some .cell:=by
   have hm:(x,fJ)∈scope.names.filter λy=>y.2 == .cell:=by rw[z];exact aB
   exact S.look _ (List.mem_filter.mp hm).1
  cases q:(y == x) with
  | true=>exact absurd (by rw[eq_of_beq q];exact hx) n
  | false=>exact e
theorem dS.Nx(S:dS X scope x cs){C:aaG}{y:Str}(h:(compEnvC scope (ym X scope C) C X.env).kindOf y=some .cell\/(compEnvC scope (ym X scope C) C X.env).kindOf y=some .free):scope.names.lookup y=some .free\/scope.names.lookup y=some .cell:=by
 have q:(compEnvC scope (ym X scope C) C X.env).kindOf y=(scope.names.lookup y).map λk=>if(k == fI&&X.env.scope.kind == .function&&X.env.kindOf y == some .cell)=true then fJ else k:=oG
 rw[q] at h
 cases e:scope.names.lookup y with
 | none=>rw[e] at h;simp at h
 | some k=>
  rw[e] at h
  simp only[om,Option.some.injEq] at h
  by_cases hk:k= .free
  ·rw[hk];exact .inl rfl
  ·have hb:(k == fI)=false:=by simpa using hk
   rw[hb] at h
   simp only[KW,AJ,if_false] at h
   rcases h with h | h
   ·rw[h];exact .inr rfl
   ·exact absurd h hk
theorem dS.E4(S:dS X scope x cs){C:aaG}{y:Str}(e:scope.names.lookup y=some .free):(compEnvC scope (ym X scope C) C X.env).kindOf y=some .cell\/(compEnvC scope (ym X scope C) C X.env).kindOf y=some .free:=by
 have q:(compEnvC scope (ym X scope C) C X.env).kindOf y=(scope.names.lookup y).map λk=>if(k == fI&&X.env.scope.kind == .function&&X.env.kindOf y == some .cell)=true then fJ else k:=oG
 rw[q,e]
 simp only[om]
 split
 ·exact .inl rfl
 ·exact .inr rfl
theorem E5{fp:List aaG}{tk:Nat}{E:aaM->aaL->Prop}(S:dS X scope x cs)(I:Inv X pins σ H s)(hf:∀b∈fp,iK X pins H b)(hl:∀b∈fp,b < s.heap.objs.size) :
  Inv (iG X scope x cs s.heap.objs.size s H fp (X.pn++pins) E) [] (none::vF cs σ) H { s with heap:=pushCells (s.heap.push { cls:=.type "dict",data:=.dict #[] }) scope.names,toks:=tk }:=by
 have keep:∀b o,s.heap.get? b=some o->(pushCells (s.heap.push { cls:=.type "dict",data:=.dict #[] }) scope.names).get? b=some o:=λb o e=>pushCells_keeps _ _ b o (bK _ e)
 have ns:(pushCells (s.heap.push { cls:=.type "dict",data:=.dict #[] }) scope.names).Ns s.heap.objs.size λ_=>none:=(Heap.Ns.new s.heap (.type "dict")).keeps (pushCells_keeps _ _)
 have own:(scope.names.filter λy=>y.2 == .cell)=[(x,.cell)]->(pushCells (s.heap.push { cls:=.type "dict",data:=.dict #[] }) scope.names).IsCell (s.heap.objs.size+1) none:=λz=>by
  rw[(ko 0 [] _ z).2]
  have:=cE (s.heap.push { cls:=.type "dict",data:=.dict #[] }) (o:={ cls:=.type "cell",data:=.cell none }) rfl
  rw[Heap.size_push] at this
  exact⟨_,this,rfl⟩
 generalize (pushCells (s.heap.push { cls:=.type "dict",data:=.dict #[] }) scope.names)=h2 at keep ns own ⊢
 have sub:=λ{y:Str}{c:aaG}(e:(ym X scope s.heap.objs.size).lookup y=some c)=>S.sub I.ok e
 have cellK:∀y c,X.env.cells.lookup y=some c->∀v,s.heap.IsCell c v->h2.IsCell c v:=λy c _ v ⟨o,ho,hd⟩=>⟨o,keep c o ho,hd⟩
 have lt:∀{y:Str}{c:aaG},X.env.cells.lookup y=some c->c < s.heap.objs.size:=λ{y c} e=>by
  obtain⟨v,z⟩:=I.cell y c e
  exact z.lt
 refine⟨⟨I.ok.mod,S.kind,I.ok.glob,I.ok.blt,au _,(λy z c e1 e2=>?_),λy h=>?_,(λy c e1 e2=>?_),I.ok.hd,I.ok.frames,.inl rfl,λb hb=>⟨bW (hl b hb),λy c e=>?_⟩,I.bs,aW I.ok.O8 I.sz,λb o e hb=>?_,λb hb=>xf I (hf b hb),I.stack,I.qD⟩,rfl,I.bare,Un.kept keep,⟨_,ns,λi y v e1 e2 e3=>?_⟩,(λy c e=>?_),I.fresh,(λy c e=>?_),λp hp=>?_,I.hok.kept keep,by unfold iG vF;simp⟩
 ·rcases sub e1 with ⟨q1,q2,_⟩ | ⟨q1,_⟩<;>rcases sub e2 with ⟨q3,q4,_⟩ | ⟨q3,_⟩
  ·rw[q2,q4]
  ·exact absurd (lt q3) (by rw[q1];exact Nat.not_lt.mpr (oI _))
  ·exact absurd (lt q1) (by rw[q3];exact Nat.not_lt.mpr (oI _))
  ·exact I.ok.inj y z c q1 q3
 ·rcases S.Nx h with k | k
  ·obtain⟨c,e⟩:=qN (env:=X.env) (y:=y) (names:=scope.names) (acc:=[]) (.inr (lookup_mem k))
   exact⟨c,S.to e (by rw[k];decide)⟩
  ·obtain⟨rfl,z⟩:=S.E3 k
   refine⟨s.heap.objs.size+1,?_⟩
   show(ym X scope s.heap.objs.size).lookup y=_
   unfold ym
   rw[(ko _ _ s.heap z).1,i_,beq_self_eq_true]
 ·rcases sub e2 with ⟨q1,_,_⟩ | ⟨_,q2⟩
  ·rw[q1];exact oI _
  ·exact absurd (eq_of_beq e1) q2
 ·rcases sub e with ⟨q1,_,_⟩ | ⟨q1,_⟩
  ·rw[q1];exact Ak (Nat.lt_succ_of_lt (hl b hb))
  ·exact(hf b hb).2.2.2.2.1 y c q1
 ·rcases(hf b hb).2.2.2.1 with z | z
  ·exact I.ok.L0 b o e z
  ·exact absurd (bP (aX e) (aW I.ok.O8 z)) (eK _)
 ·cases i with
  | zero=>cases e2
  | succ i=>
   have Ny:(cs.map (·.1))[i]? =some y:=e1
   have Lj:(vF cs σ)[i]? =some (some v):=e2
   unfold vF at Lj
   rw[fh] at Ny Lj
   cases q:cs[i]? with
   | none=>rw[q] at Ny;cases Ny
   | some p=>
    rw[q] at Ny Lj
    have y1:p.1=y:=by simpa using Ny
    have e4:(σ[p.2]?).getD none=some v:=by simpa using Lj
    have e5:σ[p.2]? =some (some v):=by
     cases q2:σ[p.2]? with
     | none=>rw[q2] at e4;cases e4
     | some o=>
      rw[q2] at e4
      have:o=some v:=e4
      rw[this]
    have hp:=S.at_ p (List.mem_iff_getElem?.mpr ⟨i,q⟩)
    rw[y1] at hp
    have kd:=S.cap (y,.free) (lookup_mem hp.2) rfl
    obtain⟨m,hn,hl'⟩:=I.loc
    obtain⟨u,r,l⟩:=hl' p.2 y v hp.1 e5 (.inr kd)
    refine⟨u,r,.inr ⟨S.E4 hp.2,?_⟩⟩
    rcases l with ⟨l,_⟩ | ⟨_,c,e,z⟩
    ·rcases kd with kd | kd
     ·have UE:X.env.kindOf y=some .cell:=kd
      rw[UE] at l;cases l
     ·have UE:X.env.kindOf y=some .free:=kd
      rw[UE] at l;cases l
    ·obtain⟨c',e'⟩:=qN (env:=X.env) (y:=y) (names:=scope.names) (acc:=[]) (.inr (lookup_mem hp.2))
     have e6:=S.to (C:=s.heap.objs.size) e' (by rw[hp.2];decide)
     rcases sub e6 with ⟨_,w1,w2⟩ | ⟨w1,_⟩
     ·have hm:(x,fJ)∈scope.names.filter λy=>y.2 == .cell:=by rw[w2];exact aB
      have:=S.look _ (List.mem_filter.mp hm).1
      rw[<-w1,hp.2] at this
      cases this
     ·rw[e] at w1
      cases w1
      exact⟨c,e6,cellK y c e _ z⟩
 ·rcases sub e with ⟨rfl,_,q2⟩ | ⟨q1,_⟩
  ·exact⟨none,own q2⟩
  ·obtain⟨v,z⟩:=I.cell y c q1
   exact⟨v,cellK y c q1 v z⟩
 ·rcases sub e with ⟨rfl,_,_⟩ | ⟨q1,_⟩
  ·exact I.hok.fresh (oI _)
  ·exact I.nz y c q1
 ·rw[iz] at hp
  obtain⟨e,n,ne,nf,d⟩:=I.pin p hp
  refine⟨keep _ _ e,n,bW (aX e),λz=>?_,d⟩
  rcases List.mem_cons.mp (I.pj p.1 z) with q | q
  ·exact ne q
  ·exact nf q
theorem E6{fp:List aaG}{E:aaM->aaL->Prop}{Hb He:Hp}{sb se:aaL}{C:aaG}{σ':St}{t8:List (aaG×Obj)}(I:Inv X pins σ Hb sb)(hf:∀b∈fp,iK X pins Hb b)(J:Inv (iG X scope x cs C sb Hb fp (X.pn++pins) E) t8 σ' He se):Inv X pins σ He se:=by
 have un:Un (frs X.stack) fp Hb He sb.heap se.heap:=J.base
 exact I.KS (ch:=fp) J.os un J.hok J.bare λb hb=>⟨(hf b hb).2.2.2.1,(hf b hb).2.1,(hf b hb).2.2.2.2.1,λp hp=>(hf b hb).2.2.2.2.2 p hp⟩
theorem uv{He:Hp}{se:aaL}{C:aaG}{h2:Heap}(I:Inv X pins σ He se)(f:iK X pins He C)(same:u0 C se.heap h2):Inv X pins σ He { se with heap:=h2 } :=
 I.turned (t':=se.toks) (it:=C) (λb o hb e=>(same.2 b hb).trans e) f.1 f.2.1 f.2.2.2.1 f.2.2.2.2.1 f.2.2.2.2.2
end
def E7(X:Cx):Prop:=∃(env:Env)(outer:List Env)(L:aaG),X.stack=env::outer/\env.frame=some L/\X.env.frame=some L
section
variable {X:Cx} {pins:List (aaG×Obj)} {σ:St} {scope:Scope} {x:Str} {cs:ip}
end
structure E8(Y:Cx->Prop)(P:aaK)(w:aaN)(K:PySem.W.Frag)(tg:Expr)(J:It)(fp:List aaG)(it:aaG)(tn:Nat->Heap->Prop):Prop where
 obj:∀i h,tn i h->∀b∈fp,∃o,h.get? b=some o/\∀v,o.data≠.cell v
 keep:∀i h h',tn i h->(∀b∈fp,∀o,h.get? b=some o->h'.get? b=some o)->tn i h'
 item:∀(X:Cx),X.prog=P->X.w=w->X.K=K->Y X->∀(i:Nat)(pins:List (aaG×Obj))(s:aaL)(σ:St)(H:Hp)(E:aaM->aaL->Prop),Inv X pins σ H s->(∀b∈fp,iK X pins H b)->tn i s.heap->J.go i H->aaZ (model P w) X.A (pyNext (.ref it)) (λr s1=>∃u,r=some u/\
  aaZ (model P w) X.A (letOwnedTupleGo tg (.ref it) u) (λ_ s2=>∃x H',Inv X pins σ H' s2/\RelV x u/\J.BP i H x H'/\tn (i+1) s2.heap/\∀b∈fp,H' b=none) E s1) E s
 done:∀(X:Cx),X.prog=P->X.w=w->X.K=K->Y X->∀(i:Nat)(pins:List (aaG×Obj))(s:aaL)(σ:St)(H:Hp)(E:aaM->aaL->Prop),Inv X pins σ H s->(∀b∈fp,iK X pins H b)->tn i s.heap->J.stop i H->aaZ (model P w) X.A (pyNext (.ref it)) (λr s1=>r=none/\Inv X pins σ H s1) E s
 self:∀(A:aaH)(i:Nat)(s:aaL)(Q:aaM->aaL->Prop)(E:aaM->aaL->Prop),tn i s.heap->Q (.ref it) s->aaZ (model P w) A (pyIter (.ref it)) Q E s
abbrev Calm(X:Cx):Prop:=X.calm=true
theorem _root_.L2.Turn.y{P:aaK}{w:aaN}{K:PySem.W.Frag}{tg:Expr}{J:It}{fp:List aaG}{it:aaG}{tn:Nat->Heap->Prop}(T:Turn P w K tg J fp it tn):E8 Calm P w K tg J fp it tn:=⟨T.obj,T.keep,T.item,T.done,T.self⟩
def Q0(Y:Cx->Prop)(X:Cx):Prop:=∀{pins:List (aaG×Obj)}{σ:St}{H:Hp}{s:aaL}(scope:Scope)(x:Str)(cs:ip)(C:aaG)(s0:aaL)(fp:List aaG)(pn:List (aaG×Obj))(E:aaM->aaL->Prop),Inv X pins σ H s->Y (iG X scope x cs C s0 H fp pn E)
theorem xg{X:Cx}(hc:X.calm=true):Q0 Calm X:=λ_ _ _ _ _ _ _ _ _=>hc
def Lk(X:Cx)(ifs:List Expr)(g:GT):Prop:=∀(ρ:bF)(st:Hs)(σ:St)(H:Hp)(m:Mp)(Q:Bool->Hp->Prop),bG X.K m st H->aD X.K m H ρ σ->kc X σ m H (g ρ st) Q->∀(pins:List (aaG×Obj))(s:aaL),Inv X pins σ H s->
 aaZ (model X.prog X.w) X.A (forIn ifs true λc r=>if r=true then do let ok <-isTrue c X.env (eval c X.env);pure (y_ ok) else pure (y_ r)) (TP X pins σ Q) X.xe s
section
variable {X:Cx}
theorem Jk:Lk X [] (λ_ st=> .ok true st):=λρ st σ H m Q S R p pins s I=>wpAny_tests_nil ⟨H,I,p m H Ext.refl S⟩
theorem Jl{c:Expr}{g:GT}(h:JT X c g):Lk X [c] g:=λρ st σ H m Q S R p pins s I=>wpAny_tests_one (h ρ st σ H m Q S R p pins s I)
theorem za{pins:List (aaG×Obj)}{σ:St}{ρ:bF}{scope:Scope}{x:Str}{cs:ip}{px pos:Pos}{elt iter:Expr}{ifs:List Expr}{gt:GT}{ge:GE}{ck:Hs->Prop}{ws:List Wv}{E:aaM->aaL->Prop}
  {use:Option (aaM->Sem Unit)}{Q:aaM->aaL->Prop}{res:Re Unit}
  {it:aaG}{fp:List aaG}{tn:Nat->Heap->Prop}{J':It}{H2:Hp}{s2:aaL}{m1:Mp}{st1:Hs}{Y:Cx->Prop}(fr:E7 X)(S:dS X scope x cs)(hY:Q0 Y X)(hH:Nv X)(I2:Inv X pins σ H2 s2)(T:E8 Y X.prog X.w X.K (.Name x px) J' fp it tn)(t0:tn 0 s2.heap)(f2:∀b∈fp,iK X pins H2 b)
  (S1:bG X.K m1 st1 H2)(R:aD X.K m1 H2 ρ σ)(hck:ck (st1++[.lst []]))(run:qm ck (λw=>gt (some w::eD cs ρ)) (λw=>ge (some w::eD cs ρ)) st1.length ws (st1++[.lst []])=res)(nb:res≠.bad)(hx:∀c Ys,res≠.err c Ys)
  (hE:∀C s0 H0 pn E,Cg X.A H0->JE (iG X scope x cs C s0 H0 fp pn E) elt ge)(hT:∀C s0 H0 pn E,Cg X.A H0->Lk (iG X scope x cs C s0 H0 fp pn E) ifs gt)
  (hgo:∀(k:Nat)(H:Hp)(m':Mp)(st:Hs),Ext X.K m1 H2 m' H->bG X.K m' st H->ck st->k < ws.length->J'.go k H)(hstop:∀(k:Nat)(H:Hp)(m':Mp)(st:Hs),Ext X.K m1 H2 m' H->bG X.K m' st H->ck st->k=ws.length->J'.stop k H)
  (hy:∀(k:Nat)(hk:k < ws.length)(H:Hp)(v:V)(H':Hp)(m':Mp)(st:Hs),Ext X.K m1 H2 m' H->bG X.K m' st H->ck st->J'.BP k H v H'->H'=H/\aj X.K m' H ws[k] v)
  (fin:∀(AK:Hs),res= .ok () AK->∀(D C:aaG)(mm:Str->Option aaM)(m':Mp)(H':Hp)(s':aaL),Ext X.K m1 H2 m' H'->bG X.K m' AK H'->m'[st1.length]? =some D->Inv X pins σ H' s'->iK X pins H' C->s'.heap.Ns C mm->(∀y c,X.env.cells.lookup y=some c->c≠C)->aaS (model X.prog X.w) X.A X.xe use Q (.ref D) C (.ok .next) s') :
  aaZ (model X.prog X.w) X.A (newList []) (λacc s3=>aaZ (model X.prog X.w) X.A (newFunctionEnv scope X.env.globals (vD X.env scope.names []) [] X.env.qual none .none (some X.env)) (λcenv s4=>
   aaR (model X.prog X.w) X.A (.compStart (.ListComp elt [⟨.Name x px,iter,ifs,0⟩] scope pos) 0 (.ref it) acc { cenv with scope:=relabel scope X.env }) (aaS (model X.prog X.w) X.A X.xe use Q acc cenv.locals) s4) E s3) E s2:=by
 refine aa4 ?_
 have I3:Inv X pins σ (upd H2 s2.heap.objs.size (.lst [])) { s2 with heap:=s2.heap.push { cls:=.type "list",data:=.seq ([]:List aaM).toArray } }:=I2.ML (ys:=[]) (its:=[]) (t':=s2.toks) .nil (dX _)
 have Yt:∀b∈fp,b < s2.heap.objs.size:=λb hb=>by
  obtain⟨o,e,_⟩:=T.obj _ _ t0 b hb
  exact aX e
 have hD:H2 s2.heap.objs.size=none:=I2.fresh
 have f3:∀b∈fp,iK X pins (upd H2 s2.heap.objs.size (.lst [])) b:=λb hb=>⟨by rw[aw (bW (Yt b hb))];exact(f2 b hb).1,(f2 b hb).2⟩
 have S3:=S1.alloc (ws:=[]) (xs:=[]) hD ai.nil
 have e3:Ext X.K m1 H2 (m1++[s2.heap.objs.size]) (upd H2 s2.heap.objs.size (.lst [])):=Ext.more.trans (Ext.upd (.inl hD))
 have Dx:(m1++[s2.heap.objs.size])[st1.length]? =some s2.heap.objs.size:=by
  rw[<-S1.len,pA (au _),qJ];rfl
 generalize Pd:({ s2 with heap:=s2.heap.push { cls:=.type "list",data:=.seq ([]:List aaM).toArray } }:aaL)=s3 at I3
 have WZ:∀b o,s2.heap.get? b=some o->s3.heap.get? b=some o:=λb o e=>by rw[<-Pd];exact bK _ e
 have UG:∀b∈fp,b < s3.heap.objs.size:=λb hb=>by
  obtain⟨o,e,_⟩:=T.obj _ _ t0 b hb
  exact aX (WZ b o e)
 generalize hDD:s2.heap.objs.size=D at *
 generalize hH3:upd H2 D (.lst [])=H3 at *
 generalize W0:m1++[D]=m3 at *
 have R3:aD X.K m3 H3 (eD cs ρ) (vF cs σ):=(Jj cs R).mono e3
 generalize hrr:eD cs ρ=ρc at *
 generalize hss:vF cs σ=σc at *
 refine rQ ?_
 have Ic:=λE=>E5 (E:=E) (tk:=s3.toks) S I3 f3 UG
 have W5:∀b o,s3.heap.get? b=some o->(pushCells (s3.heap.push { cls:=.type "dict",data:=.dict #[] }) scope.names).get? b=some o:=λb o e=>pushCells_keeps _ _ b o (bK _ e)
 generalize (pushCells (s3.heap.push { cls:=.type "dict",data:=.dict #[] }) scope.names)=h4 at Ic W5 ⊢
 have t4:tn 0 h4:=T.keep _ _ _ t0 λb _ o e=>W5 b o (WZ b o e)
 let EX:aaM->aaL->Prop:=notedBy (model X.prog X.w) X.A (compEnvC scope (ym X scope s3.heap.objs.size) s3.heap.objs.size X.env) λe s'=>aaS (model X.prog X.w) X.A X.xe use Q (.ref D) s3.heap.objs.size (.error e) s'
 let Xc:=iG X scope x cs s3.heap.objs.size s3 H3 fp (X.pn++pins) EX
 have noted:∀{σ':St}{m:Mp}{H:Hp}{c:Str}{st:Hs},Ext X.K m1 H2 m H->res= .err c st->Pb Xc σ' m H c st:=λ_ er=>(hx _ _ er).elim
 have vis:Loc Xc.env.scope x/\(Xc.fn x=true\/Xc.env.scope.names.lookup x=some .local):=by
  rcases S.var with v | v
  ·exact⟨.inl (lookup_relabel_local v),.inr (lookup_relabel_local v)⟩
  ·have q:Xc.env.scope.names.lookup x=some .cell:=by
    show(scope.names.map _).lookup x=_
    rw[oG,v]
    rfl
   exact⟨.inr q,.inl (by show(scope.names.lookup x == some .cell)=true;rw[v];rfl)⟩
 have UH:∀(H':Hp),(∀b∈fp,H' b=none)->∀b∈fp,iK Xc [] H' b:=λH' hn b hb=>⟨hn b hb,bW (UG b hb),xf I3 (f3 b hb),.inl hb,λy c e=>(by
  rcases S.sub I3.ok e with ⟨q1,_,_⟩ | ⟨q1,_⟩
  ·rw[q1];exact Ak (Nat.lt_succ_of_lt (UG b hb))
  ·exact(f3 b hb).2.2.2.2.1 y c q1),λp hp=>(f2 b hb).2.2.2.2.2 p (by have Pe:p∈(X.pn++pins)++[]:=hp;rw[iz] at Pe;exact Pe)⟩
 let Pv:Nat->aaL->Prop:=λk s'=>∃z H' st m',Inv Xc [] (z::σc) H' s'/\tn k s'.heap/\(∀b∈fp,H' b=none)/\Ext X.K m3 H3 m' H'/\bG X.K m' st H'/\ck st/\qm ck (λw=>gt (some w::ρc)) (λw=>ge (some w::ρc)) st1.length (ws.drop k) st=res
 have loop:∀s4:aaL,Pv 0 s4->aaR (model X.prog X.w) X.A (.compLoop (.ListComp elt [⟨.Name x px,iter,ifs,0⟩] scope pos) 0 (.ref it) (.ref D) (compEnvC scope (ym X scope s3.heap.objs.size) s3.heap.objs.size X.env)) (aaS (model X.prog X.w) X.A X.xe use Q (.ref D) s3.heap.objs.size) s4:=λs4 p0=>by
  refine codeAny_compLoop_tests (λn s'=>∃k,n=ws.length - k/\k<=ws.length/\Pv k s') ?_ ws.length ⟨0,by simp,dX _,p0⟩
  rintro n s5 ⟨k,rfl,hk,z5,H5,yv,m5,I5,W6,Ss,e5,S5,c5,fR⟩
  have Pf:=e3.trans e5
  by_cases hlt:k < ws.length
  ·refine a9 (T.item Xc rfl rfl rfl (hY _ _ _ _ _ _ _ _ I3) k [] s5 (z5::σc) H5 _ I5 (UH H5 Ss) W6 (hgo k H5 m5 yv Pf S5 c5 hlt)) λr s6 h6=>?_
   obtain⟨u,rfl,h6⟩:=h6
   show aaZ (model X.prog X.w) X.A (pure () >>= λ_=>assign (.Name x px) Xc.env u) _ _ s6
   refine aa0 (a9 h6 λ_ s7 h7=>?_)
   obtain⟨v,H7,I7,rv,yl,UI,Yu⟩:=h7
   obtain⟨rfl,Yv⟩:=hy k hlt H5 v H7 m5 yv Pf S5 c5 yl
   have Yw:=I7.pinned (UH H7 Yu) (T.obj _ _ UI)
   refine wpAny_assign_Name (oq (i:=0) Yw S.nd rfl vis.1 rv (λs8 I8=>?_) vis.2)
   have W7:Inv Xc ([]++i6 fp s7.heap) (some v::σc) H7 s8:=I8
   have R8:aD X.K m5 H7 (some ws[k]::ρc) (some v::σc):=by
    have R5:=R3.mono e5
    refine⟨by simp[R5.len],λi w e=>?_⟩
    cases i with
    | zero=>
     cases e
     exact⟨v,rfl,Yv⟩
    | succ i=>exact R5.get i w e
   have ed:ws.drop k=ws[k]::ws.drop (k+1):=y7 hlt
   rw[ed] at fR
   unfold qm at fR
   have back:∀{H':Hp}{s':aaL}{m':Mp}{st:Hs},Inv Xc ([]++i6 fp s7.heap) (some v::σc) H' s'->Ext X.K m3 H3 m' H'->bG X.K m' st H'->ck st->qm ck (λw=>gt (some w::ρc)) (λw=>ge (some w::ρc)) st1.length (ws.drop (k+1)) st=res->∃n',n' < ws.length - k/\∃k',n'=ws.length - k'/\k'<=ws.length/\Pv k' s' :=
    λ{H' s' m' st} I' e' S' c' r'=>⟨ws.length - (k+1),by omega,k+1,rfl,hlt,some v,H',st,m',I'.ou,T.keep _ _ _ UI λb hb o e=>(I'.pin (b,o) (fg _ (fg _ (kG hb e)))).1,λb hb=>by
     obtain⟨o,e,_⟩:=T.obj _ _ UI b hb
     exact(I'.pin (b,o) (fg _ (fg _ (kG hb e)))).2.1,e',S',c',r'⟩
   cases eg:gt (some ws[k]::ρc) yv with
   | err c HI=>
    rw[eg] at fR
    refine aa3 (hT s3.heap.objs.size s3 H3 (X.pn++pins) EX (hH.at I3) (some ws[k]::ρc) yv (some v::σc) H7 m5 (λ_ _=>False) S5 R8 (by rw[eg];exact noted Pf fR.symm) ([]++i6 fp s7.heap) s8 W7) (λ_ _ h9=>?_) λ_ _ z=>z
    obtain⟨_,_,z⟩:=h9
    exact z.elim
   | bad=>rw[eg] at fR;exact absurd fR.symm nb
   | ok b HI=>
    rw[eg] at fR
    have La:=hT s3.heap.objs.size s3 H3 (X.pn++pins) EX (hH.at I3) (some ws[k]::ρc) yv (some v::σc) H7 m5 (λb' H'=>b'=b/\∃m',Ext X.K m5 H7 m' H'/\bG X.K m' HI H') S5 R8 (by rw[eg];exact λm' H' e' S'=>⟨rfl,m',e',S'⟩) ([]++i6 fp s7.heap) s8 W7
    refine aa3 La (λok s9 h9=>?_) λ_ _ z=>z
    obtain⟨H9,I9,rfl,m9,e9,S9⟩:=h9
    cases ok with
    | false=>
     dsimp only at fR
     by_cases c6:ck HI
     ·rw[if_pos c6] at fR
      rw[if_neg bD]
      exact back I9 (e5.trans e9) S9 c6 fR
     ·rw[if_neg c6] at fR;exact absurd fR.symm nb
    | true=>
     dsimp only at fR
     rw[if_pos rfl]
     cases ee:ge (some ws[k]::ρc) HI with
     | err c SM=>
      rw[ee] at fR
      refine aa3 (hE s3.heap.objs.size s3 H3 (X.pn++pins) EX (hH.at I3) (some ws[k]::ρc) HI (some v::σc) H9 m9 (λ_ _=>False) S9 (R8.mono e9) (by rw[ee];exact noted (Pf.trans e9) fR.symm) ([]++i6 fp s7.heap) s9 I9) (λ_ _ UJ=>?_) λ_ _ z=>z
      obtain⟨_,_,_,_,z⟩:=UJ
      exact z.elim
     | bad=>rw[ee] at fR;exact absurd fR.symm nb
     | ok w SM=>
      rw[ee] at fR
      dsimp only at fR
      cases ea:lS (.ref st1.length) w SM with
      | err c UK=>rw[ea] at fR;exact absurd fR.symm nb
      | bad=>rw[ea] at fR;exact absurd fR.symm nb
      | ok w2 UK=>
       rw[ea] at fR
       dsimp only at fR
       by_cases c8:ck UK
       ·rw[if_pos c8] at fR
        have el:=hE s3.heap.objs.size s3 H3 (X.pn++pins) EX (hH.at I3) (some ws[k]::ρc) HI (some v::σc) H9 m9 (λv' H'=>∃m',Ext X.K m9 H9 m' H'/\bG X.K m' SM H'/\aj X.K m' H' w v') S9 (R8.mono e9) (by rw[ee];exact λv' m' H' e' S' r'=>⟨m',e',S',r'⟩) ([]++i6 fp s7.heap) s9 I9
        refine aa3 el (λu2 Yx UJ=>?_) λ_ _ z=>z
        obtain⟨v2,Pg,Yy,r2,UL,Yz,YA,UM⟩:=UJ
        obtain⟨r,h1,h2⟩:=y9 (X:=Xc)
        have eA:=(e5.trans e9).trans Yz
        have ro:aj X.K UL Pg (.ref st1.length) (.ref D):=by unfold aj;exact⟨D,rfl,eA.pre _ _ Dx⟩
        have rd:=h2 (.ref st1.length) w (.ref D) v2 SM Pg UL (λ_ H'=>∃m',Ext X.K UL Pg m' H'/\bG X.K m' UK H') YA ro UM (by rw[ea];exact λv' m' H' e' S' r'=>⟨m',e',S'⟩)
        refine aa3 (h1 ([]++i6 fp s7.heap) Yx (some v::σc) Pg (.ref D) [v2] (.ref D) [u2] _ Yy rfl (.cons r2 .nil) rd) (λ_ s11 h11=>?_) λ_ _ z=>z
        obtain⟨_,UN,YB,_,m11,YC,YD⟩:=h11
        exact back YB (eA.trans YC) YD c8 fR
       ·rw[if_neg c8] at fR;exact absurd fR.symm nb
  ·have ek:k=ws.length:=by omega
   subst ek
   refine a9 (T.done Xc rfl rfl rfl (hY _ _ _ _ _ _ _ _ I3) _ [] s5 (z5::σc) H5 _ I5 (UH H5 Ss) W6 (hstop _ H5 m5 yv Pf S5 c5 rfl)) λr s6 h6=>?_
   obtain⟨rfl,I6⟩:=h6
   rw[vA] at fR
   obtain⟨mm,YE,_⟩:=id I6.loc
   have fC:=I3.yq (H':=H5) (au _) I6.free
   exact fin yv fR.symm D _ mm m5 H5 _ Pf S5 (e5.pre _ _ Dx) (E6 I3 f3 I6) fC YE fC.2.2.2.2.1
 have p0:Pv 0 { s3 with heap:=h4,toks:=s3.toks }:=⟨none,H3,st1++[Ob.lst []],m3,hss ▸ Ic EX,t4,λb hb=>(f3 b hb).1,Ext.refl,S3,hck,by rw[List.drop_zero];exact run⟩
 exact codeAny_compStart_list (loop _ p0) (T.self X.A 0 _ _ _ t4 (loop _ p0))
end
abbrev Wk:=Option Nat×List Wv
def kO(w:Wk)(st:Hs):Prop:=match w.1 with
 | some l=>ao st l=some w.2
 | none=>True
structure uw(X:Cx)(w:Wk)(m1:Mp)(H1:Hp)(J':It):Prop where
 go:∀(k:Nat)(H:Hp)(m':Mp)(st:Hs),Ext X.K m1 H1 m' H->bG X.K m' st H->kO w st->k < w.2.length->J'.go k H
 stop:∀(k:Nat)(H:Hp)(m':Mp)(st:Hs),Ext X.K m1 H1 m' H->bG X.K m' st H->kO w st->k=w.2.length->J'.stop k H
 BP:∀(k:Nat)(hk:k < w.2.length)(H:Hp)(v:V)(H':Hp)(m':Mp)(st:Hs),Ext X.K m1 H1 m' H->bG X.K m' st H->kO w st->J'.BP k H v H'->H'=H/\aj X.K m' H w.2[k] v
abbrev GI:=bF->Hs->Re Wk
def UO(Y:Cx->Prop)(X:Cx)(pins:List (aaG×Obj))(σ:St)(tg:Expr)(R:It->Hp->Prop)(itv:aaM)(s2:aaL):Prop :=
 ∃(it:aaG)(fp:List aaG)(tn:Nat->Heap->Prop)(J:It)(H':Hp),itv= .ref it/\Inv X pins σ H' s2/\E8 Y X.prog X.w X.K tg J fp it tn/\tn 0 s2.heap/\(∀b∈fp,iK X pins H' b)/\R J H'
def W8(Y:Cx->Prop)(X:Cx)(tg iter:Expr)(wi:TI):Prop:=∀(pins:List (aaG×Obj))(s:aaL)(σ:St)(H:Hp)(R:It->Hp->Prop),Inv X pins σ H s->wi σ H R->
 aaZ (model X.prog X.w) X.A (eval iter X.env) (λv s1=>aaZ (model X.prog X.w) X.A (pyIter v) (UO Y X pins σ tg R) X.xe s1) X.xe s
theorem _root_.L2.PI.y{X:Cx}{tg iter:Expr}{wi:TI}(h:PI X tg iter wi):W8 Calm X tg iter wi:=λpins s σ H R I q=>a9 (h pins s σ H R I q) λ_ _ h1=>a9 h1 λ_ _ h2=>
 let ⟨it,fp,tn,J,H',e,I',T,r⟩:=h2;⟨it,fp,tn,J,H',e,I',T.y,r⟩
def SN(Y:Cx->Prop)(X:Cx)(tg iter:Expr)(gi:GI):Prop:=∃wi,W8 Y X tg iter wi/\∀(ρ:bF)(st:Hs)(σ:St)(H:Hp)(m:Mp)(R:It->Hp->Prop),bG X.K m st H->aD X.K m H ρ σ->
 ax X σ m H (gi ρ st) (λw st1=>∀(m1:Mp)(H1:Hp)(J':It),Ext X.K m H m1 H1->bG X.K m1 st1 H1->kO w st1->uw X w m1 H1 J'->R J' H1)->wi σ H R
def JI(X:Cx)(tg iter:Expr)(gi:GI):Prop:=∃wi,PI X tg iter wi/\∀(ρ:bF)(st:Hs)(σ:St)(H:Hp)(m:Mp)(R:It->Hp->Prop),bG X.K m st H->aD X.K m H ρ σ->
 ax X σ m H (gi ρ st) (λw st1=>∀(m1:Mp)(H1:Hp)(J':It),Ext X.K m H m1 H1->bG X.K m1 st1 H1->kO w st1->uw X w m1 H1 J'->R J' H1)->wi σ H R
theorem JI.y{X:Cx}{tg iter:Expr}{gi:GI}(h:JI X tg iter gi):SN Calm X tg iter gi:=let ⟨wi,h1,h2⟩:=h;⟨wi,h1.y,h2⟩
def Nz(w:Wv)(st:Hs):Re Wk:=match w with
 | .ref l=>(match ao st l with | some ws=> .ok (some l,ws) st | none=> .bad)
 | .tup ws=> .ok (none,ws) st
 | .rH ws=> .ok (none,ws) st
 | _=> .bad
def E9(g:GE):GI:=λρ st=>(g ρ st).bind Nz
section
variable {X:Cx}
theorem NA{tg iter:Expr}{g:GE}(h:JE X iter g):JI X tg iter (E9 g):=by
 refine⟨_,ES aE,λρ st σ H m Q S R p=>?_⟩
 refine h.go S R (ax.bind p) λw st1 v m1 H1 p1 e1 S1 rw'=>?_
 cases w with
 | ref l=>
  unfold aj at rw'
  obtain⟨a,rfl,hla⟩:=rw'
  unfold Nz at p1
  cases el:ao st1 l with
  | none=>simp only[el] at p1;exact ae p1
  | some ws=>
   simp only[el] at p1
   obtain⟨Nq,q0,_⟩:=S1.read hla el
   refine⟨a,rfl,.inl ⟨⟨Nq,q0⟩,p1 m1 H1 _ e1 S1 el ⟨λk H' m' st' e S' c hk=>?_,λk H' m' st' e S' c hk=>?_,λk hk H' v wD m' st' e S' c y=>?_⟩⟩⟩
   ·obtain⟨xs,hq,rws⟩:=S'.read (e.pre _ _ hla) c
    have hx':k < xs.length:=by rw[<-rws.length];exact hk
    exact⟨xs,xs[k],hq,by simp[hx']⟩
   ·obtain⟨xs,hq,rws⟩:=S'.read (e.pre _ _ hla) c
    exact⟨xs,hq,by rw[<-rws.length,hk];exact au _⟩
   ·obtain⟨xs,hq,rws⟩:=S'.read (e.pre _ _ hla) c
    obtain⟨ee,y⟩:=y
    refine⟨ee,?_⟩
    obtain⟨x',ex',tH⟩:=rws.get (i:=k) (w:=ws[k]) (dD hk)
    rw[y xs hq] at ex'
    cases ex'
    exact tH
 | tup ws=>
  unfold aj at rw'
  obtain⟨a,xs,rfl,hq,rws⟩:=rw'
  refine⟨a,rfl,.inr ⟨⟨xs,gN.of hq⟩,p1 m1 H1 _ e1 S1 trivial ⟨λk H' m' st' e S' c hk=>?_,λk H' m' st' e S' c hk=>?_,λk hk H' v wD m' st' e S' c y=>?_⟩⟩⟩
  ·have hx':k < xs.length:=by rw[<-rws.length];exact hk
   exact⟨xs,xs[k],gN.of (e.tup _ _ hq),by simp[hx']⟩
  ·exact⟨xs,gN.of (e.tup _ _ hq),by rw[<-rws.length,hk];exact au _⟩
  ·obtain⟨ee,y⟩:=y
   refine⟨ee,?_⟩
   obtain⟨x',ex',tH⟩:=(ai.mono e _ _ rws).get (i:=k) (w:=ws[k]) (dD hk)
   rw[y xs (gN.of (e.tup _ _ hq))] at ex'
   cases ex'
   exact tH
 | rH ws=>
  unfold aj at rw'
  obtain⟨a,xs,rfl,hq,rws⟩:=rw'
  refine⟨a,rfl,.inr ⟨⟨xs,.inr hq⟩,p1 m1 H1 _ e1 S1 trivial ⟨λk H' m' st' e S' c hk=>?_,λk H' m' st' e S' c hk=>?_,λk hk H' v wD m' st' e S' c y=>?_⟩⟩⟩
  ·have hx':k < xs.length:=by rw[<-rws.length];exact hk
   exact⟨xs,xs[k],.inr hq,by simp[hx']⟩
  ·exact⟨xs,.inr hq,by rw[<-rws.length,hk];exact au _⟩
  ·obtain⟨ee,y⟩:=y
   refine⟨ee,?_⟩
   obtain⟨x',ex',tH⟩:=(ai.mono e _ _ rws).get (i:=k) (w:=ws[k]) (dD hk)
   rw[y xs (.inr hq)] at ex'
   cases ex'
   exact tH
 | _=>exact ae p1
theorem E_{lo:Int}{n:Nat}{m1:Mp}{H1:Hp}:uw X (none,bZ lo n) m1 H1 (KY lo n) where
 go:=λk H m' st e S c hk=>by
  have:(bZ lo n).length=n:=bQ
  have hk':k < (bZ lo n).length:=hk
  rw[this] at hk';exact hk'
 stop:=λk H m' st e S c hk=>by
  have:(bZ lo n).length=n:=bQ
  have hk':k=(bZ lo n).length:=hk
  rw[this] at hk';exact qG hk'.symm
 BP:=λk hk H v H' m' st e S c y=>by
  obtain⟨y1,y2⟩:=y
  refine⟨y1,?_⟩
  have q:(bZ lo n)[k]'hk= .int (lo+k):=xa hk
  show aj X.K m' H ((bZ lo n)[k]'hk) v
  rw[q,y2]
  exact mkInt
def xh(ws:List Wv)(st:Hs):Re Wk:=match ws with
 | [.int j]=>if dE j then .ok (none,bZ 0 j.toNat) st else .bad
 | _=> .bad
def AL(ws:List Wv)(st:Hs):Re Wk:=match ws with
 | [.int a,.int j]=>if dE a/\dE j then .ok (none,bZ a (j - a).toNat) st else .bad
 | _=> .bad
def vG(g:GA):GI:=λρ st=>(g ρ st).bind xh
def Fc(g:GA):GI:=λρ st=>(g ρ st).bind AL
theorem Q1{tg a:Expr}{ga:GA}{p q:Pos}(hg:Gl X "range")(hm:X.mg "range"=none)(ha:JA X [a] ga)(hst:aaY [a] X.env=[(false,eval a X.env)]):JI X tg (.Call (.Name "range" p) [a] [] q) (vG ga):=by
 refine⟨_,t_ hg hm ke hst,λρ st σ H m Q S R p=>?_⟩
 refine ha.go S R (ax.bind p) λws st1 vs m1 H1 p1 e1 S1 rs=>?_
 match ws,rs,p1 with
 | [],rs,p1=>exact ae p1
 | x::y::t,rs,p1=>cases x<;>exact ae p1
 | [x],rs,p1=>
  obtain⟨v,rfl,r1⟩:=nk rs
  cases x with
  | int j=>
   cases aV r1
   unfold xh at p1
   by_cases c:dE j
   ·simp only[if_pos c] at p1
    exact⟨j,rfl,c.1,c.2,p1 m1 H1 _ e1 S1 trivial E_⟩
   ·simp only[if_neg c] at p1;exact ae p1
  | _=>exact ae p1
theorem Q2{tg a b:Expr}{ga:GA}{p q:Pos}(hg:Gl X "range")(hm:X.mg "range"=none)(ha:JA X [a,b] ga)(hst:aaY [a,b] X.env=[(false,eval a X.env),(false,eval b X.env)])(Nr:aaY [b] X.env=[(false,eval b X.env)]):JI X tg (.Call (.Name "range" p) [a,b] [] q) (Fc ga):=by
 refine⟨_,ua hg hm ke hst Nr,λρ st σ H m Q S R p=>?_⟩
 refine ha.go S R (ax.bind p) λws st1 vs m1 H1 p1 e1 S1 rs=>?_
 match ws,rs,p1 with
 | [],rs,p1=>exact ae p1
 | [x],rs,p1=>cases x<;>exact ae p1
 | x::y::z::t,rs,p1=>cases x<;>cases y<;>exact ae p1
 | [x,y],rs,p1=>
  obtain⟨v,v',rfl,r1,r2⟩:=Ca rs
  cases x with
  | int a=>
   cases y with
   | int j=>
    cases aV r1;cases aV r2
    unfold AL at p1
    by_cases c:dE a/\dE j
    ·simp only[if_pos c] at p1
     exact⟨a,j,rfl,⟨c.1.1,c.1.2,c.2.1,c.2.2⟩,p1 m1 H1 _ e1 S1 trivial E_⟩
    ·simp only[if_neg c] at p1;exact ae p1
   | _=>exact ae p1
  | _=>cases y<;>exact ae p1
def AM:GI:=λ_ _=> .bad
theorem Fd{tg iter:Expr}:PI X tg iter (λ_ _ _=>False):=λ_ _ _ _ _ _ h=>h.elim
theorem zb{tg iter:Expr}:JI X tg iter AM:=⟨_,Fd,λρ st σ H m Q S R p=>p⟩
def dZ(cs:ip)(gt:GT)(ge:GE)(ρ:bF)(w:Wk)(st:Hs):Re Wv:=match iF (kO w) (λv=>gt (some v::eD cs ρ)) (λv=>ge (some v::eD cs ρ)) st.length w.2 (st++[.lst []]) with
 | some AK=> .ok (.ref st.length) AK
 | none=> .bad
def bO(cs:ip)(gi:GI)(gt:GT)(ge:GE):GE:=λρ st=>(gi ρ st).bind λw st1=>dZ cs gt ge ρ w st1
theorem Ci{st:Hs}{l:Nat}{ws:List Wv}{more:Hs}(h:ao st l=some ws):ao (st++more) l=some ws:=by
 unfold ao at h ⊢
 cases e:st[l]? with
 | none=>rw[e] at h;cases h
 | some o=>
  have hl:=(List.getElem?_eq_some_iff.mp e).1
  rw[fQ hl,e]
  rw[e] at h
  exact h
theorem rR{w:Wk}{st more:Hs}(h:kO w st):kO w (st++more):=by
 obtain⟨o,ws⟩:=w
 cases o with
 | none=>trivial
 | some l=>exact Ci h
theorem AN{scope:Scope}{x:Str}{cs:ip}{px pos:Pos}{elt iter:Expr}{ifs:List Expr}{gi:GI}{gt:GT}{ge:GE}{use:Option (aaM->Sem Unit)}{Q:aaM->aaL->Prop}{P:Wv->Hs->Prop}
  {ρ:bF}{st:Hs}{σ:St}{H:Hp}{m:Mp}{pins:List (aaG×Obj)}{s:aaL}{ps:Pos}
  {Y:Cx->Prop}(fr:E7 X)(CS:dS X scope x cs)(hc:Q0 Y X)(hH:Nv X)(hi:SN Y X (.Name x px) iter gi)(hE:∀C s0 H0 fp pn E,Cg X.A H0->JE (iG X scope x cs C s0 H0 fp pn E) elt ge)(hT:∀C s0 H0 fp pn E,Cg X.A H0->Lk (iG X scope x cs C s0 H0 fp pn E) ifs gt)(hs:∀x,aaU iter X.env x=pure x)
  (S:bG X.K m st H)(R:aD X.K m H ρ σ)(I:Inv X pins σ H s)(p:ax X σ m H (bO cs gi gt ge ρ st) P)
  (fin:∀(w:Wv)(AK:Hs)(v:V)(D C:aaG)(mm:Str->Option aaM)(m':Mp)(H':Hp)(s':aaL),P w AK->Ext X.K m H m' H'->bG X.K m' AK H'->aj X.K m' H' w v->v= .ref D->Inv X pins σ H' s'->iK X pins H' C->s'.heap.Ns C mm->aaS (model X.prog X.w) X.A X.xe use Q (.ref D) C (.ok .next) s') :
  aaZ (model X.prog X.w) X.A (comprehension (.ListComp elt [⟨.Name x px,iter,ifs,0⟩] scope pos) scope X.env ps (newList []) false (eval iter X.env) use) Q X.xe s:=by
 obtain⟨wi,YF,hw⟩:=hi
 let R':It->Hp->Prop:=λJ' H1=>∃(w:Wk)(st1:Hs)(m1:Mp),ax X σ m H (dZ cs gt ge ρ w st1) P/\Ext X.K m H m1 H1/\bG X.K m1 st1 H1/\kO w st1/\uw X w m1 H1 J'
 have hr:=hw ρ st σ H m R' S R ((ax.bind p).imp Ext.refl λw st1 q m1 H1 J' e1 S1 c1 Q3=>⟨w,st1,m1,q,e1,S1,c1,Q3⟩)
 refine wpAny_comprehension_free (g:=⟨.Name x px,iter,ifs,0⟩) (gs:=[]) (cl:=vD X.env scope.names []) rfl hs (Ji (CS.has I.ok)) CS.kind (λy hy e=>by rw[CS.look y hy,e]) (a9 (YF pins s σ H R' I hr) λv s1 h1=>a9 h1 λitv s2 h2=>?_)
 obtain⟨it,fp,tn,J',H1,rfl,I2,T,t0,f2,w,st1,m1,q,e1,S1,c1,Q3⟩:=h2
 unfold dZ at q
 cases run:iF (kO w) (λv=>gt (some v::eD cs ρ)) (λv=>ge (some v::eD cs ρ)) st1.length w.2 (st1++[.lst []]) with
 | none=>
  rw[run] at q
  exact ae q
 | some AK=>
  rw[run] at q
  refine za (use:=use) (Q:=Q) fr CS hc hH I2 T t0 f2 S1 (R.mono e1) (rR c1) (rP _ _ run) (by intro z;cases z) (λc' YG z=>by cases z) (λC s0 H0 pn E=>hE C s0 H0 fp pn E) (λC s0 H0 pn E=>hT C s0 H0 fp pn E) Q3.go Q3.stop Q3.BP ?_
  intro YH z D C mm m' H' s' e' S' Dx I' fC ns _
  cases z
  exact fin _ AK (.ref D) D C mm m' H' s' q (e1.trans e') S' (by unfold aj;exact⟨D,rfl,Dx⟩) rfl I' fC ns
theorem AO{scope:Scope}{x:Str}{cs:ip}{px pos:Pos}{elt iter:Expr}{ifs:List Expr}{gi:GI}{gt:GT}{ge:GE}
  {Y:Cx->Prop}(fr:E7 X)(CS:dS X scope x cs)(hc:Q0 Y X)(hH:Nv X)(hi:SN Y X (.Name x px) iter gi)(hE:∀C s0 H0 fp pn E,Cg X.A H0->JE (iG X scope x cs C s0 H0 fp pn E) elt ge)(hT:∀C s0 H0 fp pn E,Cg X.A H0->Lk (iG X scope x cs C s0 H0 fp pn E) ifs gt)(hs:∀x,aaU iter X.env x=pure x) :
  JE X (.ListComp elt [⟨.Name x px,iter,ifs,0⟩] scope pos) (bO cs gi gt ge):=λρ st σ H m Q S R p pins s I=>by
 rw[eval_ListComp]
 refine AN (use:=none) fr CS hc hH hi hE hT hs S R I p ?_
 intro w AK v D C mm m' H' s' q e' S' rw' ev I' fC ns
 exact⟨mm,ns,λh' same=>⟨.ref D,H',uv I' fC same,rfl,ev ▸ q v m' H' e' S' rw'⟩⟩
theorem Jm(i:Nat){scope:Scope}{x y:Str}{cs:ip}{px pos spos py:Pos}{elt iter:Expr}{ifs:List Expr}{gi:GI}{gt:GT}{ge:GE}(hN:X.N.Nodup)
  {Y:Cx->Prop}(fr:E7 X)(CS:dS X scope x cs)(hc:Q0 Y X)(hH:Nv X)(hi:SN Y X (.Name x px) iter gi)(hE:∀C s0 H0 fp pn E,Cg X.A H0->JE (iG X scope x cs C s0 H0 fp pn E) elt ge)(hT:∀C s0 H0 fp pn E,Cg X.A H0->Lk (iG X scope x cs C s0 H0 fp pn E) ifs gt)(hs:∀x,aaU iter X.env x=pure x)
  (hx:X.N[i]? =some y)(hl:Loc X.env.scope y)(hf:X.fn y=true\/X.env.scope.names.lookup y=some .local) :
  JS X (.Assign [.Name y py] (.ListComp elt [⟨.Name x px,iter,ifs,0⟩] scope pos) spos) (aO i (bO cs gi gt ge)):=by
 have sw:∃b,swapsWith (.ListComp elt [⟨.Name x px,iter,ifs,0⟩] scope pos) (some (.Name y py)) spos.line X.env=pure b:=⟨_,rfl⟩
 obtain⟨b,sw⟩:=sw
 cases b with
 | false=>exact yY i hN (AO fr CS hc hH hi hE hT hs) hx hl sw hf
 | true=>
  intro ρ st σ H m D S R p pins s I
  rw[exec_Assign_Name_used _ _ _ _ sw]
  refine aa0 (wpAny_standAt (aa0 ?_))
  show aaZ _ X.A (do let _ <-comprehension (.ListComp elt [⟨.Name x px,iter,ifs,0⟩] scope pos) scope X.env _ (newList []) false (eval iter X.env) (some (assign (.Name y py) X.env))) _ _ s
  refine aa0 (aa3 (AN (use:=some (assign (.Name y py) X.env)) (Q:=λ_ s'=>SP X pins D .next s') fr CS hc hH hi hE hT hs S R I (aK.cO R p) ?_) (λ_ s' hq=>aa6 (aa6 hq)) λ_ _ e=>e)
  intro w AK v D' C mm m' H' s' q e' S' rw' ev I' fC ns
  refine wpAny_assign_Name (t9 (i:=i) I' hN hx hl (show RelV v (.ref D') by rw[ev];rfl) (λs2 I2 h2=>?_) hf)
  obtain⟨a,sb,ha⟩:=h2
  have hca:C≠a:=by
   rcases ha with z | z
   ·rw[z];exact fC.2.1
   ·exact aH (fC.2.2.2.2.1 y a z)
  exact⟨mm,ns.sameBut sb hca,λh' same=>⟨_,_,uv I2 fC same,q _ m' H' e' S' ((R.mono e').set i rw')⟩⟩
end
section
variable {X:Cx}
def NB(n:Nat)(k:Int):Prop:=-(2 ^ 62)<=k/\k < 2 ^ 62/\n * k.toNat<=lim
instance {n k}:Decidable (NB n k):=ET _
def rS:gO
 | .ref l,.int n,st=>match st[l]? with
  | some (.lst ws)=>if NB ws.length n then .ok (.ref st.length) (st++[.lst (aM n.toNat ws).flatten]) else .bad
  | _=> .bad
 | x,y,st=>Lh x y st
theorem ux{K:PySem.W.Frag}{m:Mp}{H:Hp}{ws:List Wv}{xs:List V}(r:ai K m H ws xs):∀n:Nat,ai K m H (aM n ws).flatten (aM n xs).flatten
 | 0=>ai.nil
 | n+1=>by
  rw[iL,rB,iL,rB]
  exact r.append (ux r n)
theorem Jn:jw X (aaP .Mult) rS:=by
 obtain⟨r,h1,h2⟩:=Jc (X:=X)
 refine⟨_,eM.or MN h1,λx y a b st H m Q S rx ry p=>?_⟩
 unfold rS at p
 split at p
 ·rename_i l n
  unfold aj at rx
  obtain⟨a1,rfl,hl⟩:=rx
  cases aV ry
  cases e:st[l]? with
  | none=>rw[e] at p;exact ae p
  | some o=>
   cases o with
   | dct kvs=>rw[e] at p;exact ae p
   | bq kvs=>rw[e] at p;exact ae p
   | fH kvs=>rw[e] at p;exact ae p
   | B7 kvs=>rw[e] at p;exact ae p
   | sX ns=>rw[e] at p;exact ae p
   | lst ws=>
    rw[e] at p
    dsimp only at p
    by_cases c:NB ws.length n
    ·rw[if_pos c] at p
     obtain⟨xs,q1,q2⟩:=S.rJ hl e
     refine .inl ⟨a1,n,xs,rfl,rfl,q1,by have:=c.1;omega,by have:=c.2.1;omega,by rw[<-q2.length];exact f' c.2.2,λq hq=>?_⟩
     exact kg p Ext.refl S (ux q2 n.toNat) q hq
    ·rw[if_neg c] at p;exact ae p
 ·exact .inr (h2 x y a b st H m Q S rx ry p)
def jB:List Wv->Option (List Bool)
 | []=>some []
 | .bl b::r=>(match jB r with | some l=>some (b::l) | none=>none)
 | _=>none
def Fe:List Wv->Hs->Re Wv
 | [.ref l],st=>match ao st l with
  | some ws=>(match jB ws with | some bs=> .ok (.bl (bs.all id)) st | none=> .bad)
  | none=> .bad
 | _,_=> .bad
theorem pL{K:PySem.W.Frag}{m:Mp}{H:Hp}:∀{ws:List Wv}{xs:List V}{bs:List Bool},ai K m H ws xs->jB ws=some bs->xs=bs.map V.bl
 | [],xs,bs,r,h=>by
  unfold ai at r
  cases h
  exact r
 | w::ws,xs,bs,r,h=>by
  unfold ai at r
  obtain⟨x,t,rfl,r1,r2⟩:=r
  cases w with
  | bl b=>
   unfold jB at h
   cases e:jB ws with
   | none=>rw[e] at h;cases h
   | some l=>
    rw[e] at h
    cases h
    unfold aj at r1
    rw[r1,pL r2 e]
    rfl
  | _=>cases h
theorem vH:∀{bs:List Bool}{its:List aaM},Vals (bs.map V.bl) its->its=bs.map jA
 | [],its,r=>by cases r;rfl
 | b::bs,its,r=>by
  cases r with
  | cons h t=>
   cases h
   rw[a6,vH t]
theorem all_range:∀(bs:List Bool),(eL bs.length).all (λi=>bs.getD i true)=bs.all id
 | []=>rfl
 | b::bs=>by
  rw[cG,Jo,i7,List.all_map,i7,<-all_range bs]
  rfl
theorem Cj(hc:X.calm=true):dW X (.builtin "all") (λxs H Q=>∃(p:aaG)(bs:List Bool),xs=[.ref p]/\lO X.K H p (bs.map V.bl)/\Q (.bl (bs.all id)) H):=by
 intro pins s σ H xs us Q I r h
 obtain⟨p,bs,rfl,hq,q⟩:=h
 obtain⟨u,rfl,rx⟩:=vals1 r
 cases rx
 obtain⟨its,r',pl,hz⟩:=I.list hq
 have hb:=vH r'
 subst hb
 have hl:=pl.isList
 have hlt:p < s.heap.objs.size:=by obtain⟨_,e,_⟩:=hl;exact aX e
 refine call_all_walk (wpAny_pyIter_list hl ?_)
 refine⟨_,_,_,_,_,_,λi=>bs.getD i true,rfl,Walks.list (A:=X.A.in1) (I.ok.hd hc) _ p (bW hlt) (bs.map jA).toArray,⟨⟨_,cE _ rfl,rfl,rfl⟩,hl.push _⟩,?_,λh' tk hk=>?_⟩
 ·intro i v s' Q' E' hP hQ
  have Ff:(bs.map jA).toArray[i]? =some v:=hP
  rw[Fg,fh] at Ff
  cases e:bs[i]? with
  | none=>rw[e] at Ff;cases Ff
  | some b=>
   rw[e] at Ff
   cases Ff
   have:(bs.getD i true)=b:=by rw[Fh,e];rfl
   dsimp only at hQ
   rw[this] at hQ
   exact aa7 hQ
 ·have hk':∀b o,s.heap.get? b=some o->h'.get? b=some o:=old_kept hk
  refine⟨.bl _,H,I.kept (t':=tk) hk',?_,q⟩
  rw[<-all_range bs]
  simp only[aT,bc]
  rfl
theorem NC(hc:X.calm=true):fV X (.builtin "all") Fe:=⟨_,Cj hc,λws vs st H m Q S rs p=>by
 match ws,rs,p with
 | [],rs,p=>exact ae p
 | x::y::t,rs,p=>cases x<;>exact ae p
 | [x],rs,p=>
  obtain⟨v,rfl,r1⟩:=nk rs
  cases x with
  | ref l=>
   unfold Fe at p
   unfold aj at r1
   obtain⟨a,rfl,hl⟩:=r1
   cases e:ao st l with
   | none=>simp only[e] at p;exact ae p
   | some ws=>
    simp only[e] at p
    cases e2:jB ws with
    | none=>simp only[e2] at p;exact ae p
    | some bs=>
     simp only[e2] at p
     obtain⟨xs,q1,q2⟩:=S.read hl e
     have q3:=pL q2 e2
     subst q3
     exact⟨a,bs,rfl,q1,p _ m H Ext.refl S iB⟩
  | _=>exact ae p⟩
def rT:List Wv->Hs->Re Wv
 | [.ref l],st=>match ao st l with
  | some ws=> .ok (.ref st.length) (st++[.lst ws])
  | none=> .bad
 | [.tup ws],st=> .ok (.ref st.length) (st++[.lst ws])
 | _,_=> .bad
theorem Jp:fV X (.type "list") rT:=⟨_,vg,λws vs st H m Q S rs p=>by
 match ws,rs,p with
 | [],rs,p=>exact ae p
 | x::y::t,rs,p=>cases x<;>exact ae p
 | [x],rs,p=>
  obtain⟨v,rfl,r1⟩:=nk rs
  cases x with
  | ref l=>
   unfold rT at p
   unfold aj at r1
   obtain⟨a,rfl,hl⟩:=r1
   cases e:ao st l with
   | none=>simp only[e] at p;exact ae p
   | some ws=>
    simp only[e] at p
    obtain⟨xs,q1,q2⟩:=S.read hl e
    exact⟨a,xs,rfl,.inl q1,λq hq=>kg p Ext.refl S q2 q hq⟩
  | tup ws=>
   unfold aj at r1
   obtain⟨a,xs,rfl,q1,q2⟩:=r1
   exact⟨a,xs,rfl,.inr (gN.of q1),λq hq=>kg p Ext.refl S q2 q hq⟩
  | _=>exact ae p⟩
def qo:List Wv->Hs->Re Wv
 | [.ref l],st=>match ao st l with
  | some ws=> .ok (.tup ws) st
  | none=> .bad
 | [.tup ws],st=> .ok (.tup ws) st
 | _,_=> .bad
theorem ND:fV X (.type "tuple") qo:=⟨_,tE,λws vs st H m Q S rs p=>by
 match ws,rs,p with
 | [],rs,p=>exact ae p
 | x::y::t,rs,p=>cases x<;>exact ae p
 | [x],rs,p=>
  obtain⟨v,rfl,r1⟩:=nk rs
  cases x with
  | ref l=>
   unfold qo at p
   unfold aj at r1
   obtain⟨a,rfl,hl⟩:=r1
   cases e:ao st l with
   | none=>simp only[e] at p;exact ae p
   | some ws=>
    simp only[e] at p
    obtain⟨xs,q1,q2⟩:=S.read hl e
    refine⟨a,xs,rfl,.inl ⟨q1,λq hq=>?_⟩⟩
    have e2:Ext X.K m H m (upd H q (.tup xs)):=Ext.upd (.inl hq)
    exact p (.ref q) m _ e2 (S.fresh hq) (by unfold aj;exact⟨q,xs,rfl,aZ,ai.mono e2 _ _ q2⟩)
  | tup ws=>
   have r1':=r1
   unfold aj at r1'
   obtain⟨a,xs,rfl,q1,q2⟩:=r1'
   exact⟨a,xs,rfl,.inr ⟨gN.of q1,p _ m H Ext.refl S r1⟩⟩
  | _=>exact ae p⟩
end
section
variable {X:Cx}
def intsOf:List Wv->Option (List Int)
  | []=>some []
  | .int b::r=>(match intsOf r with | some l=>some (b::l) | none=>none)
  | _=>none
theorem rV:∀ns:List Int,intsOf (ns.map Wv.int)=some ns
  | []=>rfl
  | n::r=>by rw[a6];unfold intsOf;rw[rV r]
theorem rW{K:PySem.W.Frag}{m:Mp}{H:Hp}:∀{ws:List Wv}{xs:List V}{bs:List Int},ai K m H ws xs->intsOf ws=some bs->xs=bs.map V.int
  | [],xs,bs,r,h=>by
    unfold ai at r
    cases h
    exact r
  | w::ws,xs,bs,r,h=>by
    unfold ai at r
    obtain⟨x,t,rfl,r1,r2⟩:=r
    cases w with
    | int b=>
      unfold intsOf at h
      cases e:intsOf ws with
      | none=>rw[e] at h;cases h
      | some l=>
        rw[e] at h
        cases h
        unfold aj at r1
        rw[r1,rW r2 e]
        rfl
    | _=>cases h
theorem xi:∀{ns:List Int}{its:List aaM},Vals (ns.map V.int) its->∃xs:List (Int×Tok),its=xs.map (λp=>og p.1 p.2)/\xs.map (·.1)=ns
  | [],its,r=>by cases r;exact⟨[],rfl,rfl⟩
  | n::ns,its,r=>by
    cases r with
    | cons h t=>
      obtain⟨tk,rfl⟩:=h
      obtain⟨xs,e1,e2⟩:=xi t
      exact⟨(n,tk)::xs,by rw[e1];rfl,by rw[<-e2];rfl⟩
theorem intsAre_of:∀xs:List (Int×Tok),IntsAre (xs.map λp=>og p.1 p.2) (xs.map (·.1))
  | []=> .nil
  | p::r=> .cons p.1 p.2 (intsAre_of r)
theorem Ck(xs:List (Int×Tok))(i:Nat):numAt xs.toArray i=(xs.map (·.1)).getD i 0:=by
  unfold numAt
  rw[Fg,Fh,fh]
theorem rX(xs:List (Int×Tok)):∀k,preSum (numAt xs.toArray) k=((xs.map (·.1)).take k).sum
  | 0=>by simp[preSum]
  | k+1=>by
    unfold preSum
    rw[rX xs k,Ck]
    rw[PySem.sum_take_succ]
theorem Cm(hc:X.calm=true):dW X (.builtin "sum") (λxs H Q=>∃(p:aaG)(ns:List Int),xs=[.ref p]/\lO X.K H p (ns.map V.int)/\Q (.int ns.sum) H):=by
  intro pins s σ H xs us Q I r h
  obtain⟨p,ns,rfl,hq,q⟩:=h
  obtain⟨u,rfl,rx⟩:=vals1 r
  cases rx
  obtain⟨its,r',pl,hz⟩:=I.list hq
  obtain⟨xs,rfl,rfl⟩:=xi r'
  have hl:=pl.isList
  have e:(xs.map λp=>og p.1 p.2).toArray=intItems xs.toArray:=by unfold intItems;simp
  rw[e] at hl
  refine sum_intListG (I.ok.hd hc) hl λh' tk t' hk=>⟨.int _,H,I.kept hk,⟨t',?_⟩,q⟩
  rw[rX,List.take_of_length_le (by simp)]
def xj:List Wv->Hs->Re Wv
  | [.ref l],st=>match ao st l with
    | some ws=>(match intsOf ws with | some ns=> .ok (.int ns.sum) st | none=> .bad)
    | none=> .bad
  | _,_=> .bad
theorem NF(hc:X.calm=true):fV X (.builtin "sum") xj:=⟨_,Cm hc,λws vs st H m Q S rs p=>by
  match ws,rs,p with
  | [],rs,p=>exact ae p
  | x::y::t,rs,p=>cases x<;>exact ae p
  | [x],rs,p=>
    obtain⟨v,rfl,r1⟩:=nk rs
    cases x with
    | ref l=>
      unfold xj at p
      unfold aj at r1
      obtain⟨a,rfl,hl⟩:=r1
      cases e:ao st l with
      | none=>simp only[e] at p;exact ae p
      | some ws=>
        simp only[e] at p
        cases e2:intsOf ws with
        | none=>simp only[e2] at p;exact ae p
        | some bs=>
          simp only[e2] at p
          obtain⟨xs,q1,q2⟩:=S.read hl e
          have q3:=rW q2 e2
          subst q3
          exact⟨a,bs,rfl,q1,p _ m H Ext.refl S mkInt⟩
    | _=>exact ae p⟩
def YI(n:Int)(r:List Int):Int:=r.foldl (λa b=>if b > a then b else a) n
def Q4:List Wv->Hs->Re Wv
  | [.ref l],st=>match ao st l with
    | some ws=>(match intsOf ws with | some (n::r)=> .ok (.int (YI n r)) st | _=> .bad)
    | none=> .bad
  | ws,st=>UC ws st
def Q5:List Wv->Hs->Re Wv:=λws st=>UD ws st
theorem fV.or{f:aaM}{op op':List Wv->Hs->Re Wv}(g:List Wv->Hs->Re Wv)(h:fV X f op)(h':fV X f op')(k:∀ws st,g ws st=op ws st\/g ws st=op' ws st):fV X f g:=by
  obtain⟨r,h1,h2⟩:=h
  obtain⟨r',Dt,h2'⟩:=h'
  refine⟨_,h1.or Dt,λws vs st H m Q S rs p=>?_⟩
  rcases k ws st with e | e
  · rw[e] at p;exact .inl (h2 ws vs st H m Q S rs p)
  · rw[e] at p;exact .inr (h2' ws vs st H m Q S rs p)
end
section
variable {X:Cx}
theorem uy{z:PySem.Str}:br z=true↔∀c∈z.cps.toList,c < 1114112:=by
 unfold br
 rw[QP]
 constructor
 ·intro h c hc
  simpa using h c (Array.mem_toList_iff.mp hc)
 ·intro h c hc
  simpa using h c (Array.mem_toList_iff.mpr hc)
end
section
variable {X:Cx}
theorem NG:HG X (λx lo hi H Q=>∃z,x= .str z/\z.length<=aaX/\Q (.str (mH z lo hi)) H):=by
 intro pins s σ H x v vl vu lo hi sl Q I rx hs pl pu h
 obtain⟨z,rfl,hz,q⟩:=h
 obtain⟨t,rfl⟩:=rx
 have fin:∀t' k,EP X pins σ Q (.str (mH z lo hi) t') { s with toks:=k }:=λt' k=>⟨.str _,H,I.tok k,⟨t',rfl⟩,q⟩
 refine⟨"str",_,PySem.F.slot_str_getitem.lookup,typeIs_str _ _ _,?_⟩
 have hl:=aW (Txt.slice_le z lo hi) hz
 cases pl with
 | none=>
  cases pu with
  | none=>exact wpAny_getItem_str_slice (l:=none) (u:=none) (st:=none) hs rfl (post_val_or_str ⟨hl,fin⟩)
  | int j tj=>exact wpAny_getItem_str_slice (l:=none) (u:=some (j,tj)) (st:=none) hs rfl (post_val_or_str ⟨hl,fin⟩)
 | int i ti=>
  cases pu with
  | none=>exact wpAny_getItem_str_slice (l:=some (i,ti)) (u:=none) (st:=none) hs rfl (post_val_or_str ⟨hl,fin⟩)
  | int j tj=>exact wpAny_getItem_str_slice (l:=some (i,ti)) (u:=some (j,tj)) (st:=none) hs rfl (post_val_or_str ⟨hl,fin⟩)
theorem Co{z:PySem.Str}{lo hi:Option Int}{c:Nat}(h:c∈(mH z lo hi).cps.toList):c∈z.cps.toList:=by
 unfold mH at h
 split at h
 ·exact h
 ·simp only[List.mem_filterMap] at h
  obtain⟨i,_,e⟩:=h
  rw[Array.getElem?_eq_some_iff] at e
  obtain⟨hi,rfl⟩:=e
  exact Array.mem_toList_iff.mpr (Array.getElem_mem hi)
theorem xk{z:PySem.Str}{lo hi:Option Int}(h:br z=true):br (mH z lo hi)=true:=by
 rw[uy] at h ⊢
 exact λc hc=>h c (Co hc)
end
section
open HT
theorem tJ{prog:aaK}{w:aaN}{A:aaH}{E:aaM->aaL->Prop}{s:aaL}{t sl:aaG}{us:Array aaM}{vl vu:aaM}{lo hi:Option Int}{Q:aaM->aaL->Prop}(ht:IsTup s.heap t us)(hs:s.heap.IsSliceOf sl vl vu .none)(pl:IsPart vl lo)(pu:IsPart vu hi)
  (hw:fe us.size 0 lo=0/\fe us.size us.size hi=us.size)(h:Q (.ref t) s):aaZ (model prog w) A (getItem (.ref t) (.ref sl)) Q E s:=by
 obtain⟨os,o1,o2,o3⟩:=id hs
 have tys:s.TypeIs (.ref sl) "slice":=⟨os,o1,o2⟩
 unfold getItem;try with_reducible refine aa2 ?_
 first | refine aa0 (aa6 ?_) | skip
 refine aa0 (wpAny_sequenceKey ht.typeIs (by decide) ?_);refine aa0 (wpAny_callSpecial?_slot (name:=oA "__getitem__") ht.typeIs u9 (wpAny_call_entry u9 ht.typeIs entry_tuple_getitem ?_ (args_tuple_getitem _ _)))
 show aaZ _ _ (ME (.ref t) >>= _) _ _ _;refine aa0 (tupleItemsOf_ ht ?_);refine aa0 (wpAny_typeOf tys ?_)
 rw[if_pos (by decide)];refine aa0 (j_ hs pl pu ?_)
 rw[hw.1,hw.2]
 have yes:((((0:Nat):Int)) == 0&&(1:Int) == 1&&(us.size - 0) == us.size)=true:=by simp
 show aaZ _ _ (if((((0:Nat):Int)) == 0&&(1:Int) == 1&&(us.size - 0) == us.size)=true then _ else _) _ _ s
 rw[if_pos yes]
 refine aa0 (m:=NH _) ?_
 unfold NH
 refine aa0 (wpAny_typeOf ht.typeIs (aa6 ?_))
 rw[if_pos (by decide)]
 exact aa0 (wpAny_rule (aa6 ⟨_,rfl,aa6 h⟩))
end
section
variable {X:Cx}
def UP(K:PySem.W.Frag):V->Option Int->Option Int->Hp->VK->Prop:=λx lo hi H Q=>∃a xs,x= .ref a/\gN K H a xs/\(HT.fe xs.length 0 lo=0/\HT.fe xs.length xs.length hi=xs.length)/\Q (.ref a) H
theorem Fi:HG X (UP X.K):=by
 intro pins s σ H x v vl vu lo hi sl Q I rx hs pl pu h
 obtain⟨a,xs,rfl,hx,hw,q⟩:=h
 cases rx
 obtain⟨its,r,ht,hz⟩:=I.tuple hx
 have n:its.toArray.size=xs.length:=by rw[aT];exact r.length.symm
 exact⟨"tuple",_,PyProof.Rows.slot_tuple_getitem.lookup,ht.typeIs,tJ ht hs pl pu (by rw[n];exact hw) ⟨.ref a,H,I,rfl,q⟩⟩
def pM(n:Nat)(lo hi:Option Int):Prop:=HT.fe n 0 lo=0/\HT.fe n n hi=n
instance {n:Nat}{lo hi:Option Int}:Decidable (pM n lo hi):=inferInstanceAs (Decidable (HT.fe n 0 lo=0/\HT.fe n n hi=n))
def xl(x:Wv)(lo hi:Option Int)(st:Hs):Re Wv:=match x with
 | .str z=>if z.length<=lim then .ok (.str (mH z lo hi)) st else .bad
 | .tup ws=>if pM ws.length lo hi then .ok (.tup ws) st else Pc (.tup ws) lo hi st
 | x=>Pc x lo hi st
def jC(ga:GE)(gl gh:GO):GE:=λρ st=>(ga ρ st).bind λx st1=>(gl ρ st1).bind λlo st2=>(gh ρ st2).bind λhi st3=>xl x lo hi st3
theorem Cp{a:Expr}{lo hi:Option Expr}{ga:GE}{gl gh:GO}{pos p2:Pos}(ha:JE X a ga)(hl:JO X lo gl)(hh:JO X hi gh):JE X (.Subscript a (.Slice lo hi none p2) pos) (jC ga gl gh):=by
 have hS:JE X (.Subscript a (.Slice lo hi none p2) pos) (λρ st=>(ga ρ st).bind λx st1=>(gl ρ st1).bind λlo st2=>(gh ρ st2).bind λhi st3=>match x with | .str z=>if z.length<=lim then .ok (.str (mH z lo hi)) st3 else .bad | _=> .bad):=by
  refine JE.of (rj NG aE uo uo) λρ st σ H m Q S R p=>?_
  refine ha.go S R (ax.bind p) λx st1 v m1 H1 p1 e1 S1 rx=>?_
  refine hl.go S1 (R.mono e1) ((ax.bind p1).imp e1 λ_ _ q=>q) λl st2 m2 H2 p2 e2 S2=>?_
  refine hh.go S2 (R.mono (e1.trans e2)) ((ax.bind p2).imp (e1.trans e2) λ_ _ q=>q) λh st3 m3 H3 p3 e3 S3=>?_
  have B9:=e1.trans (e2.trans e3)
  cases x with
  | str z=>
   dsimp only at p3
   by_cases c:z.length<=lim
   ·rw[if_pos c] at p3
    unfold aj at rx
    obtain⟨rfl,hz⟩:=rx
    exact⟨z,rfl,f' c,p3 _ m3 H3 B9 S3 (mkStr (xk hz))⟩
   ·rw[if_neg c] at p3;exact ae p3
  | _=>exact ae p3
 have hW:JE X (.Subscript a (.Slice lo hi none p2) pos) (λρ st=>(ga ρ st).bind λx st1=>(gl ρ st1).bind λlo st2=>(gh ρ st2).bind λhi st3=>match x with | .tup ws=>if pM ws.length lo hi then .ok (.tup ws) st3 else Pc (.tup ws) lo hi st3 | _=> .bad):=by
  refine JE.of (rj (HG.or Fi DY) aE uo uo) λρ st σ H m Q S R p=>?_
  refine ha.go S R (ax.bind p) λx st1 v m1 H1 p1 e1 S1 rx=>?_
  refine hl.go S1 (R.mono e1) ((ax.bind p1).imp e1 λ_ _ q=>q) λl st2 m2 H2 p2 e2 S2=>?_
  refine hh.go S2 (R.mono (e1.trans e2)) ((ax.bind p2).imp (e1.trans e2) λ_ _ q=>q) λh st3 m3 H3 p3 e3 S3=>?_
  have B9:=e1.trans (e2.trans e3)
  cases x with
  | tup ws=>
   dsimp only at p3
   have tH:=aj.mono (e2.trans e3) _ _ rx
   unfold aj at tH
   obtain⟨a',xs,rfl,f1,f2⟩:=tH
   by_cases c:pM ws.length l h
   ·rw[if_pos c] at p3
    unfold pM at c
    rw[f2.length] at c
    exact .inl ⟨a',xs,rfl,gN.of f1,c,p3 _ m3 H3 B9 S3 (by unfold aj;exact⟨a',xs,rfl,f1,f2⟩)⟩
   ·rw[if_neg c] at p3
    unfold Pc at p3
    dsimp only at p3
    unfold pM at c
    rw[if_neg c] at p3
    rw[f2.length] at c
    refine .inr ⟨a',xs,rfl,gN.of f1,c,λq hq=>?_⟩
    have eU:Ext X.K m3 H3 m3 (L2.upd H3 q (.tup (tw xs l h))):=Ext.lL (.inl hq)
    exact p3 (.ref q) m3 _ (B9.trans eU) (S3.fresh hq) (by unfold aj;exact⟨q,_,rfl,L2.aZ,ai.mono eU _ _ (vz f2)⟩)
  | _=>exact ae p3
 intro ρ st σ H m Q S R p
 unfold jC at p
 cases e1:ga ρ st with
 | bad=>rw[e1] at p;exact ae p
 | err c st1=>rw[e1] at p;exact w5 ha hl hh ρ st σ H m Q S R (by unfold yW;rw[e1];exact p)
 | ok x st1=>
  rw[e1] at p
  cases x with
  | str z=>exact hS ρ st σ H m Q S R (by dsimp only;rw[e1];exact p)
  | tup ws=>exact hW ρ st σ H m Q S R (by dsimp only;rw[e1];exact p)
  | _=>exact w5 ha hl hh ρ st σ H m Q S R (by unfold yW;rw[e1];exact p)
def NI:gO
 | .str i,.str j,st=> .ok (.bl (!(yw j i 0 j.length 1).isEmpty)) st
 | x,y,st=>Uv x y st
def vI:gO
 | .str i,.str j,st=> .ok (.bl (!(!(yw j i 0 j.length 1).isEmpty))) st
 | x,y,st=>yV x y st
theorem NJ:jw X (aaT .In) NI:=by
 obtain⟨r,h1,h2⟩:=QO (X:=X)
 refine⟨_,eM.or BU h1,λx y a b st H m Q S rx ry p=>?_⟩
 unfold NI at p
 split at p
 ·rename_i i j
  unfold aj at rx ry
  obtain⟨rfl,_⟩:=rx
  obtain⟨rfl,_⟩:=ry
  exact .inl ⟨i,j,rfl,rfl,p _ m H Ext.refl S iB⟩
 ·exact .inr (h2 x y a b st H m Q S rx ry p)
theorem Cq:jw X (aaT .NotIn) vI:=by
 obtain⟨r,h1,h2⟩:=Ex (X:=X)
 refine⟨_,eM.or vc h1,λx y a b st H m Q S rx ry p=>?_⟩
 unfold vI at p
 split at p
 ·rename_i i j
  unfold aj at rx ry
  obtain⟨rfl,_⟩:=rx
  obtain⟨rfl,_⟩:=ry
  exact .inl ⟨i,j,rfl,rfl,p _ m H Ext.refl S iB⟩
 ·exact .inr (h2 x y a b st H m Q S rx ry p)
end
open PySem PySem.Spec PyProof.Rows L2 PySem.W
section
variable {X:Cx}
end
section
variable {X:Cx}
end
section
variable {X:Cx}
end
def Q6(x:Str):It:=⟨λi _=>i < x.cps.size,λi H v H'=>H'=H/\∃c,x.cps[i]? =some c/\v= .str ⟨#[c]⟩,λi _=>x.cps.size<=i⟩
theorem zc{P:aaK}{w:aaN}{K:PySem.W.Frag}{tg:Expr}(x:Str)(t:Tok)(it:aaG):Turn P w K tg (Q6 x) [it] it (λi h=>h.IsStrIter it "str_ascii_iterator" x t i) where
 mem:=List.mem_singleton.mpr rfl
 obj:=λi h st b hb=>by
  cases List.mem_singleton.mp hb
  obtain⟨o,e,c,d⟩:=st
  exact⟨o,e,λv z=>by rw[d] at z;cases z⟩
 keep:=λi h h' st k=>let ⟨o,e,r⟩:=st;⟨o,k it (List.mem_singleton.mpr rfl) o e,r⟩
 item:=by
  intro X hP hw hK hc i pins s σ H E I hf st hg
  subst hP;subst hw;subst hK
  obtain⟨f0,f1,f2,f3,f4,f5⟩:=hf it (List.mem_singleton.mpr rfl)
  have hi:i < x.cps.size:=hg
  refine wpAny_pyNext_ascii_item st (c:=x.cps[i]) (by simp[hi]) λh' st' sb=>?_
  have I1:L2.Inv X pins σ H { s with heap:=h',toks:=s.toks+1 }:=I.turned (t':=s.toks+1) (λb o hb e=>sb.extBut b o hb e) f0 f1 f3 f4 f5
  obtain⟨o,e,c,d⟩:=id st'
  exact⟨_,rfl,qg (s:={ s with heap:=h',toks:=s.toks+1 }) e c d (by decide) ⟨.str ⟨#[x.cps[i]]⟩,H,I1,⟨_,rfl⟩,⟨rfl,_,by simp[hi],rfl⟩,st',λb hb=>(hf b hb).1⟩⟩
 done:=by
  intro X hP hw hK hc i pins s σ H E I hf st hg
  subst hP;subst hw;subst hK
  obtain⟨f0,f1,f2,f3,f4,f5⟩:=hf it (List.mem_singleton.mpr rfl)
  have hi:x.cps.size<=i:=hg
  exact wpAny_pyNext_ascii_end (I.ok.hd hc) st (by simp[hi]) λh' eb=>⟨rfl,I.turned (t':=s.toks) (λb o hb e=>eb b o hb e) f0 f1 f3 f4 f5⟩
 self:=λ_ _ _ _ _ st h=>wpAny_pyIter_striter_ascii st h
theorem Cr{P:aaK}{w:aaN}{K:PySem.W.Frag}{tg:Expr}(x:Str)(t:Tok)(it:aaG):Turn P w K tg (Q6 x) [it] it (λi h=>h.IsStrIter it "str_iterator" x t i) where
 mem:=List.mem_singleton.mpr rfl
 obj:=λi h st b hb=>by
  cases List.mem_singleton.mp hb
  obtain⟨o,e,c,d⟩:=st
  exact⟨o,e,λv z=>by rw[d] at z;cases z⟩
 keep:=λi h h' st k=>let ⟨o,e,r⟩:=st;⟨o,k it (List.mem_singleton.mpr rfl) o e,r⟩
 item:=by
  intro X hP hw hK hc i pins s σ H E I hf st hg
  subst hP;subst hw;subst hK
  obtain⟨f0,f1,f2,f3,f4,f5⟩:=hf it (List.mem_singleton.mpr rfl)
  have hi:i < x.cps.size:=hg
  refine wpAny_pyNext_wide_item st (c:=x.cps[i]) (by simp[hi]) λh' st' sb=>?_
  have I1:L2.Inv X pins σ H { s with heap:=h',toks:=s.toks+1 }:=I.turned (t':=s.toks+1) (λb o hb e=>sb.extBut b o hb e) f0 f1 f3 f4 f5
  obtain⟨o,e,c,d⟩:=id st'
  exact⟨_,rfl,qg (s:={ s with heap:=h',toks:=s.toks+1 }) e c d (by decide) ⟨.str ⟨#[x.cps[i]]⟩,H,I1,⟨_,rfl⟩,⟨rfl,_,by simp[hi],rfl⟩,st',λb hb=>(hf b hb).1⟩⟩
 done:=by
  intro X hP hw hK hc i pins s σ H E I hf st hg
  subst hP;subst hw;subst hK
  obtain⟨f0,f1,f2,f3,f4,f5⟩:=hf it (List.mem_singleton.mpr rfl)
  have hi:x.cps.size<=i:=hg
  exact wpAny_pyNext_wide_end (I.ok.hd hc) st (by simp[hi]) λh' eb=>⟨rfl,I.turned (t':=s.toks) (λb o hb e=>eb b o hb e) f0 f1 f3 f4 f5⟩
 self:=λ_ _ _ _ _ st h=>wpAny_pyIter_striter_wide st h
section
variable {X:Cx}
theorem NK{tg l:Expr}{tl:TE}(hl:PE X l tl):PI X tg l (λσ H R=>tl σ H λv H1=>∃z,v= .str z/\R (Q6 z) H1):=by
 intro pins s σ H R I h
 refine a9 (hl pins s σ H _ I h) λv s1 ⟨x,H1,I1,r1,z,e,q⟩=>?_
 subst e
 obtain⟨t,rfl⟩:=r1
 have frs:∀b∈[s1.heap.objs.size],iK X pins H1 b:=λb hb=>by
  cases List.mem_singleton.mp hb
  exact I1.yq (au _) (I1.hok.fresh (au _))
 cases ha:z.cps.all (· < 128)
 ·exact wpAny_pyIter_wide ha ⟨s1.heap.objs.size,[s1.heap.objs.size],_,_,H1,rfl,I1.kept (t':=s1.toks) λb o e=>bK _ e,Cr z t _,⟨_,cE _ rfl,rfl,rfl⟩,frs,q⟩
 ·exact wpAny_pyIter_ascii ha ⟨s1.heap.objs.size,[s1.heap.objs.size],_,_,H1,rfl,I1.kept (t':=s1.toks) λb o e=>bK _ e,zc z t _,⟨_,cE _ rfl,rfl,rfl⟩,frs,q⟩
def jM(z:PySem.Str):List Wv:=z.cps.toList.map λc=>Wv.str ⟨#[c]⟩
def xm(w:Wv)(st:Hs):Re Wk:=match w with
 | .str z=> .ok (none,jM z) st
 | w=>Nz w st
def cP(g:GE):GI:=λρ st=>(g ρ st).bind xm
theorem NL{z:PySem.Str}{m1:Mp}{H1:Hp}(hz:br z=true):uw X (none,jM z) m1 H1 (Q6 z) where
 go:=λk H m' st _ _ _ hk=>by
  have:k < z.cps.size:=by simpa [jM] using hk
  exact this
 stop:=λk H m' st _ _ _ hk=>by
  have:k=z.cps.size:=by simpa [jM] using hk
  exact qG this.symm
 BP:=λk hk H v H' m' st _ _ _ y=>by
  obtain⟨rfl,c,hc,rfl⟩:=y
  refine⟨rfl,?_⟩
  have hk':k < z.cps.size:=by simpa [jM] using hk
  have e:∀h:k < (jM z).length,(jM z)[k]'h= .str ⟨#[z.cps[k]]⟩:=by intro h;simp[jM]
  have hc':z.cps[k]=c:=by simpa [hk'] using hc
  show aj X.K m' H' ((jM z)[k]'hk) _
  rw[e hk,hc']
  refine mkStr ?_
  rw[uy] at hz ⊢
  intro d hd
  simp at hd
  rw[hd,<-hc']
  exact hz _ (by simp)
theorem vJ{tg iter:Expr}{g:GE}(h:JE X iter g):JI X tg iter (cP g):=by
 obtain⟨w1,h1,k1⟩:=NA (tg:=tg) h
 refine⟨λσ H R=>w1 σ H R\/(SE X iter σ H λv H1=>∃z,v= .str z/\R (Q6 z) H1),λpins s σ H R I q=>?_,λρ st σ H m R S RR p=>?_⟩
 ·rcases q with q | q
  ·exact h1 pins s σ H R I q
  ·exact NK aE pins s σ H R I q
 ·unfold cP at p
  cases e:g ρ st with
  | bad=>rw[e] at p;exact ae p
  | err c st'=>rw[e] at p;exact .inl (k1 ρ st σ H m R S RR (by unfold E9;rw[e];exact p))
  | ok w st'=>
   rw[e] at p
   cases w with
   | str z=>
    refine .inr ?_
    refine h.go (ok:=λw st1=>w= .str z/\st1=st') S RR (by rw[e];exact⟨rfl,rfl⟩) λw st1 v m1 H1 q e1 S1 r1=>?_
    obtain⟨rfl,rfl⟩:=q
    unfold aj at r1
    obtain⟨rfl,hz⟩:=r1
    exact⟨z,rfl,p m1 H1 _ e1 S1 trivial (NL hz)⟩
   | _=>exact .inl (k1 ρ st σ H m R S RR (by unfold E9;rw[e];exact p))
end
section
variable {X:Cx}
end
def keyOf:Wv->Option L2.Key
 | .int i=>some (.inl i)
 | .str x=>some (.inr x)
 | .bg=>some .bg
 | _=>none
theorem mI{K:PySem.W.Frag}{m:Mp}{H:Hp}{w:Wv}{v:V}{k:L2.Key}(r:aj K m H w v)(e:keyOf w=some k):v=kV k:=by
 cases w with
 | int i=>cases e;unfold aj at r;rw[r];rfl
 | str x=>cases e;unfold aj at r;rw[r.1];rfl
 | bg=>cases e;unfold aj at r;rw[r];rfl
 | _=>cases e
def en{κ:Type}[DecidableEq κ](kvs:List (κ×Wv))(k:κ):Option Wv:=match kvs with
 | []=>none
 | p::r=>if p.1=k then some p.2 else en r k
def lU{κ:Type}[DecidableEq κ](kvs:List (κ×Wv))(k:κ)(v:Wv):List (κ×Wv):=if(kvs.any λkv=>decide (kv.1=k))=true then kvs.map (λkv=>if kv.1=k then(kv.1,v) else kv) else kvs++[(k,v)]
section
variable {K:PySem.W.Frag} {m:Mp} {H:Hp} {κ:Type}
theorem RelK.nil:RelK (κ:=κ) K m H [] []:=⟨rfl,ai.nil⟩
theorem RelK.cons{k:κ}{w:Wv}{v:V}{kvs:List (κ×Wv)}{xs:List (κ×V)}(h:aj K m H w v)(t:RelK K m H kvs xs):RelK K m H ((k,w)::kvs) ((k,v)::xs) :=
 ⟨by simp[t.1],by simpa using ai.cons h t.2⟩
theorem RelK.nil_inv{xs:List (κ×V)}(h:RelK K m H [] xs):xs=[]:=by
 have:=h.1
 cases xs with
 | nil=>rfl
 | cons a b=>simp at this
theorem RelK.cons_inv{p:κ×Wv}{kvs:List (κ×Wv)}{xs:List (κ×V)}(h:RelK K m H (p::kvs) xs):∃v t,xs=(p.1,v)::t/\aj K m H p.2 v/\RelK K m H kvs t:=by
 obtain⟨h1,h2⟩:=h
 cases xs with
 | nil=>simp at h1
 | cons q t=>
  simp at h1 h2
  unfold ai at h2
  obtain⟨x,r,e1,e2,e3⟩:=h2
  cases e1
  exact⟨q.2,t,by rw[h1.1],e2,h1.2,e3⟩
theorem RelK.length{kvs:List (κ×Wv)}{xs:List (κ×V)}(h:RelK K m H kvs xs):kvs.length=xs.length:=by
 have:=congrArg f9 h.1
 simpa using this
variable [DecidableEq κ]
theorem RelK.val:∀{kvs:List (κ×Wv)}{xs:List (κ×V)}(k:κ),RelK K m H kvs xs->(en kvs k=none->kH xs k=none)/\∀w,en kvs k=some w->∃v,kH xs k=some v/\aj K m H w v
 | [],xs,k,h=>by
  rw[h.nil_inv]
  exact⟨λ_=>rfl,(λw e=>by cases e)⟩
 | p::r,xs,k,h=>by
  obtain⟨v,t,rfl,h1,h2⟩:=h.cons_inv
  obtain⟨i1,i2⟩:=RelK.val k h2
  unfold en
  by_cases e:p.1=k
  ·rw[if_pos e,oC (by exact e)]
   exact⟨(λz=>by cases z),λw z=>⟨v,rfl,by cases z;exact h1⟩⟩
  ·rw[if_neg e,oD (by exact e)]
   exact⟨i1,i2⟩
theorem RelK.any:∀{kvs:List (κ×Wv)}{xs:List (κ×V)}(k:κ),RelK K m H kvs xs->(kvs.any λkv=>decide (kv.1=k))=xs.any λkv=>decide (kv.1=k)
 | [],xs,k,h=>by rw[h.nil_inv];rfl
 | p::r,xs,k,h=>by
  obtain⟨v,t,rfl,h1,h2⟩:=h.cons_inv
  rw[i8,i8,RelK.any k h2]
theorem RelK.repl:∀{kvs:List (κ×Wv)}{xs:List (κ×V)}(k:κ){w:Wv}{v:V},RelK K m H kvs xs->aj K m H w v->RelK K m H (kvs.map λkv=>if kv.1=k then(kv.1,w) else kv) (xs.map λkv=>if kv.1=k then(kv.1,v) else kv)
 | [],xs,k,w,v,h,r=>by rw[h.nil_inv];exact RelK.nil
 | p::kvs,xs,k,w,v,h,r=>by
  obtain⟨u,t,rfl,h1,h2⟩:=h.cons_inv
  rw[a6,a6]
  by_cases e:p.1=k
  ·rw[if_pos e,if_pos (by exact e)]
   exact RelK.cons r (RelK.repl k h2 r)
  ·rw[if_neg e,if_neg (by exact e)]
   exact RelK.cons h1 (RelK.repl k h2 r)
theorem RelK.snoc:∀{kvs:List (κ×Wv)}{xs:List (κ×V)}(k:κ){w:Wv}{v:V},RelK K m H kvs xs->aj K m H w v->RelK K m H (kvs++[(k,w)]) (xs++[(k,v)])
 | [],xs,k,w,v,h,r=>by rw[h.nil_inv];exact RelK.cons r RelK.nil
 | p::kvs,xs,k,w,v,h,r=>by
  obtain⟨u,t,rfl,h1,h2⟩:=h.cons_inv
  exact RelK.cons h1 (RelK.snoc k h2 r)
theorem RelK.put{kvs:List (κ×Wv)}{xs:List (κ×V)}(k:κ){w:Wv}{v:V}(h:RelK K m H kvs xs)(r:aj K m H w v):RelK K m H (lU kvs k w) (putK xs k v):=by
 unfold lU putK
 rw[h.any k]
 split
 ·exact h.repl k r
 ·exact h.snoc k r
end
section
variable {K:PySem.W.Frag} {m:Mp} {H:Hp}
end
section
variable {X:Cx}
def AQ(st:Hs)(l:Nat):Bool:=match st[l]? with
 | some (.dct _)=>true
 | _=>false
def Fj(gd gk gx:GE):GE:=λρ st=>(gd ρ st).bind λd st1=>match d with
 | .ref l=>if AQ st1 l=true then(gk ρ st1).bind λk st2=>(gx ρ st2).bind λx st3=>(match keyOf k,st3[l]? with
  | some kk,some (.dct kvs)=> .ok ((en kvs kk).getD x) st3
  | _,_=> .bad) else .bad
 | _=> .bad
theorem Fl{m:Mp}{st:Hs}{H:Hp}{l:Nat}{a:aaG}(S:bG X.K m st H)(ha:m[l]? =some a)(h:AQ st l=true):SD H a:=by
 unfold AQ at h
 cases e:st[l]? with
 | none=>rw[e] at h;cases h
 | some o=>
  rw[e] at h
  cases o with
  | dct kvs=>
   obtain⟨xs,e1,_⟩:=(show ∃ys,H a=some (.dK ys)/\RelK X.K m H kvs ys from S.obj _ _ _ ha e)
   exact .inl ⟨xs,.inl e1⟩
  | _=>cases h
theorem Fn{o e f:Expr}{gd gk gx:GE}{apos cpos:Pos}(hu:X.A.units+1 < cLine)(ho:JE X o gd)(he:JE X e gk)(hf:JE X f gx)(M:M2 X o "get" apos e f cpos):JE X (.Call (.Attribute o "get" apos) [e,f] [] cpos) (Fj gd gk gx) :=
 JE.of (Ee hu aE aE aE M) λρ st σ H m Q S R p=>by
  refine ho.go S R (ax.bind p) λd st1 v m1 H1 p1 e1 S1 r1=>?_
  cases d with
  | ref l=>
   dsimp only at p1
   by_cases hd:AQ st1 l=true
   ·rw[if_pos hd] at p1
    unfold aj at r1
    obtain⟨a,rfl,ha⟩:=r1
    refine⟨a,rfl,Fl S1 ha hd,?_⟩
    refine he.go S1 (R.mono e1) ((ax.bind p1).imp e1 λ_ _ q=>q) λk st2 y m2 H2 p2 e2 S2 r2=>?_
    refine hf.go S2 (R.mono (e1.trans e2)) ((ax.bind p2).imp (e1.trans e2) λ_ _ q=>q) λx st3 z m3 H3 p3 e3 S3 r3=>?_
    cases q1:keyOf k with
    | none=>rw[q1] at p3;exact ae p3
    | some kk=>
     cases q2:st3[l]? with
     | none=>rw[q1,q2] at p3;exact ae p3
     | some ob=>
      rw[q1,q2] at p3
      cases ob with
      | dct kvs=>
       have YJ:m3[l]? =some a:=(e2.trans e3).pre _ _ ha
       obtain⟨xs,y1,y2⟩:=(show ∃ys,H3 a=some (.dK ys)/\RelK X.K m3 H3 kvs ys from S3.obj _ _ _ YJ q2)
       dsimp only at p3
       refine⟨_,by rw[mI r2 q1];exact nj.k y1,?_⟩
       obtain⟨i1,i2⟩:=y2.val kk
       cases q3:en kvs kk with
       | none=>
        rw[i1 q3]
        rw[q3] at p3
        exact p3 z m3 H3 (e1.trans (e2.trans e3)) S3 r3
       | some w=>
        obtain⟨u,j1,j2⟩:=i2 w q3
        rw[j1]
        rw[q3] at p3
        exact p3 u m3 H3 (e1.trans (e2.trans e3)) S3 j2
      | _=>exact ae p3
   ·rw[if_neg hd] at p1;exact ae p1
  | _=>exact ae p1
end
def AR:Wv->aaM->Prop
 | .int i,u=>∃t,u= .int i t
 | .str x,u=>(∃t,u= .str x t)/\br x=true
 | _,_=>False
abbrev Dc:=List (PySem.Str×Wv)
def vK(w:aaN):Dc->List DictEntry->Prop
 | [],[]=>True
 | (k,v)::r,e::t=>(e.hash=hashStr w k/\(∃tk,e.key= .str k tk)/\AR v e.val)/\vK w r t
 | _,_=>False
def oJ(K:PySem.W.Frag)(w:aaN)(mg:Str->Option aaM)(x:Str)(kvs:Dc):Prop :=
 ∃(a:aaG)(es:Array DictEntry)(ep:Nat),mg x=some (.ref a)/\K.lookup a=some ⟨.type "dict",none,.dict es ep,#[]⟩/\(a == sysModules)=false/\vK w kvs es.toList/\(kvs.map (·.1)).Nodup
theorem oK{P:aaK}{w:aaN}:∀{kvs:Dc}{l:List DictEntry},vK w kvs l->∃vs:List (PySem.Str×aaM),vs.map (·.1)=kvs.map (·.1)/\Pairs (PySem.strKind P w) l vs/\(∀e∈l,∃k,(PySem.strKind P w).is k e.key=true/\e.hash=(PySem.strKind P w).hash k)/\
  ∀k,(kvs.lookup k=none->valueAt vs k=none)/\∀v,kvs.lookup k=some v->∃u,valueAt vs k=some u/\AR v u
 | [],[],_=>⟨[],rfl,.nil,(λ_ z=>by cases z),λk=>⟨λ_=>rfl,(λv z=>by cases z)⟩⟩
 | (k,v)::r,e::t,h=>by
  obtain⟨⟨h1,⟨tk,h2⟩,h3⟩,h4⟩:=h
  obtain⟨vs,i1,i2,i3,i4⟩:=oK (P:=P) h4
  have his:(PySem.strKind P w).is k e.key=true:=by rw[h2];exact strKind_is P w k tk
  refine⟨(k,e.val)::vs,by simp[i1],.cons his rfl i2,λe' he=>?_,λk'=>?_⟩
  ·rcases List.mem_cons.mp he with z | z
   ·subst z;exact⟨k,his,h1⟩
   ·exact i3 e' z
  ·rw[i_]
   unfold valueAt
   rw[pC]
   by_cases ek:k=k'
   ·subst ek
    have b1:(k == k)=true:=by simp
    rw[b1]
    simp only[decide_true,om]
    exact⟨(λz=>by cases z),λv' z=>⟨e.val,rfl,by cases z;exact h3⟩⟩
   ·have b1:(k' == k)=false:=beq_eq_false_iff_ne.mpr λz=>ek z.symm
    rw[b1]
    simp only[ek,decide_false]
    exact i4 k'
 | [],_::_,h=>ae h
 | _::_,[],h=>ae h
theorem qO{P:aaK}{w:aaN}{K:PySem.W.Frag}{h:Heap}{a:aaG}{es:Array DictEntry}{ep:Nat}{kvs:Dc}(KX:K.In h)(hl:K.lookup a=some ⟨.type "dict",none,.dict es ep,#[]⟩)(he:vK w kvs es.toList)(nd:(kvs.map (·.1)).Nodup) :
  ∃vs:List (PySem.Str×aaM),h.DictOf (PySem.strKind P w) a vs/\∀k,(kvs.lookup k=none->valueAt vs k=none)/\∀v,kvs.lookup k=some v->∃u,valueAt vs k=some u/\AR v u:=by
 obtain⟨vs,i1,i2,i3,i4⟩:=oK (P:=P) he
 exact⟨vs,⟨_,es,ep,KX a _ hl,⟨rfl,rfl,rfl⟩,rfl,λe hm=>i3 e (by simpa using hm),i2,by rw[i1];exact nd⟩,i4⟩
section
variable {X:Cx}
def oM(neg:Bool)(kvs:Dc)(ga:GE):GE:=λρ st=>(ga ρ st).bind λa st1=>match a with
 | .str k=> .ok (.bl ((kvs.lookup k).isSome != neg)) st1
 | _=> .bad
def Ll(kvs:Dc)(ga:GE):GE:=λρ st=>(ga ρ st).bind λa st1=>match a with
 | .str k=>(match kvs.lookup k with | some w=> .ok w st1 | none=> .bad)
 | _=> .bad
def Fo(neg:Bool)(kvs:Dc)(ty:TE):TE:=λσ H Q=>ty σ H λy H1=>∃z,y= .str z/\Q (.bl ((kvs.lookup z).isSome != neg)) H1
theorem Fp{i:Expr}{ty:TE}{x:Str}{p:Pos}{kvs:Dc}(hi:PE X i ty)(hg:Gl X x)(hd:(x == ("__debug__":Str))=false)(D:oJ X.K X.w X.mg x kvs):PC X .In i (.Name x p) (Fo false kvs ty):=by
 intro pins s σ H Q I h
 obtain⟨a,es,ep,g1,g2,g3,g4,g5⟩:=D
 refine a9 (hi pins s σ H _ I h) λiv s1 ⟨y,H1,I1,ry,z,ey,q1⟩=>a9 (iJ (v:=.ref a) hg g1 rfl hd pins s1 σ H1 (λv H2=>v= .ref a/\H2=H1) I1 ⟨rfl,rfl⟩) λu s2 ⟨v,H2,I2,rv,ev,eH⟩=>?_
 subst ey ev eH
 obtain rfl:u=aR a:=rv
 obtain⟨t,rfl⟩:=(show ∃t,iv=mz z t from ry)
 obtain⟨vs,dd,look⟩:=qO (P:=X.prog) (w:=X.w) I2.Ag g2 g4 g5
 refine wpAny_in_of (strKind_is X.prog X.w z t) g3 dd.mapOf ⟨.bl (kvs.lookup z).isSome,_,I2.tok _,?_,by simpa using q1⟩
 obtain⟨l1,l2⟩:=look z
 cases e:kvs.lookup z with
 | none=>rw[l1 e];rfl
 | some w=>obtain⟨u,e1,_⟩:=l2 w e;rw[e1];rfl
theorem uz{i:Expr}{ty:TE}{x:Str}{p:Pos}{kvs:Dc}(hi:PE X i ty)(hg:Gl X x)(hd:(x == ("__debug__":Str))=false)(D:oJ X.K X.w X.mg x kvs):PC X .NotIn i (.Name x p) (Fo true kvs ty):=by
 intro pins s σ H Q I h
 obtain⟨a,es,ep,g1,g2,g3,g4,g5⟩:=D
 refine a9 (hi pins s σ H _ I h) λiv s1 ⟨y,H1,I1,ry,z,ey,q1⟩=>a9 (iJ (v:=.ref a) hg g1 rfl hd pins s1 σ H1 (λv H2=>v= .ref a/\H2=H1) I1 ⟨rfl,rfl⟩) λu s2 ⟨v,H2,I2,rv,ev,eH⟩=>?_
 subst ey ev eH
 obtain rfl:u=aR a:=rv
 obtain⟨t,rfl⟩:=(show ∃t,iv=mz z t from ry)
 obtain⟨vs,dd,look⟩:=qO (P:=X.prog) (w:=X.w) I2.Ag g2 g4 g5
 refine wpAny_notIn_of (strKind_is X.prog X.w z t) g3 dd.mapOf ⟨.bl (!(kvs.lookup z).isSome),_,I2.tok _,?_,by simpa using q1⟩
 obtain⟨l1,l2⟩:=look z
 cases e:kvs.lookup z with
 | none=>rw[l1 e];rfl
 | some w=>obtain⟨u,e1,_⟩:=l2 w e;rw[e1];rfl
theorem mJ{a:Expr}{ga:GE}{neg:Bool}{kvs:Dc}(ha:JE X a ga){ρ:bF}{st:Hs}{σ:St}{H:Hp}{m:Mp}{Q:VK}(S:bG X.K m st H)(R:aD X.K m H ρ σ)(p:fT X σ m H (oM neg kvs ga ρ st) Q):Fo neg kvs (SE X a) σ H Q:=by
 refine ha.go S R (ax.bind p) λw st1 v m1 H1 p1 e1 S1 r1=>?_
 cases w with
 | str k=>
  unfold aj at r1
  exact⟨k,r1.1,p1 _ m1 H1 e1 S1 (by unfold aj;rfl)⟩
 | _=>exact ae p1
theorem Jq{a:Expr}{ga:GE}{x:Str}{p pos:Pos}{kvs:Dc}(ha:JE X a ga)(hg:Gl X x)(hd:(x == ("__debug__":Str))=false)(D:oJ X.K X.w X.mg x kvs):JE X (.Compare a [.In] [.Name x p] pos) (oM false kvs ga) :=
 JE.of (DG (Fp aE hg hd D) rfl) λρ st σ H m Q S R p=>mJ ha S R p
theorem zd{a:Expr}{ga:GE}{x:Str}{p pos:Pos}{kvs:Dc}(ha:JE X a ga)(hg:Gl X x)(hd:(x == ("__debug__":Str))=false)(D:oJ X.K X.w X.mg x kvs):JE X (.Compare a [.NotIn] [.Name x p] pos) (oM true kvs ga) :=
 JE.of (DG (uz aE hg hd D) rfl) λρ st σ H m Q S R p=>mJ ha S R p
theorem Jr{a:Expr}{ga:GE}{x:Str}{p pos:Pos}{kvs:Dc}(ha:JE X a ga)(hg:Gl X x)(hd:(x == ("__debug__":Str))=false)(D:oJ X.K X.w X.mg x kvs):JT X (.Compare a [.In] [.Name x p] pos) (aQ (oM false kvs ga)) :=
 JT.of (DI (Fp aE hg hd D) rfl) λρ st σ H m Q S R p=>mJ ha S R (lQ p)
theorem ze{a:Expr}{ga:GE}{x:Str}{p pos:Pos}{kvs:Dc}(ha:JE X a ga)(hg:Gl X x)(hd:(x == ("__debug__":Str))=false)(D:oJ X.K X.w X.mg x kvs):JT X (.Compare a [.NotIn] [.Name x p] pos) (aQ (oM true kvs ga)) :=
 JT.of (DI (uz aE hg hd D) rfl) λρ st σ H m Q S R p=>mJ ha S R (lQ p)
def Q7(kvs:Dc)(ty:TE):TE:=λσ H Q=>ty σ H λy H1=>∃z w v,y= .str z/\kvs.lookup z=some w/\(∀u,AR w u->RelV v u)/\Q v H1
theorem Js{b:Expr}{ty:TE}{x:Str}{p pos:Pos}{kvs:Dc}(hb:PE X b ty)(hs:D8 b)(hg:Gl X x)(hd:(x == ("__debug__":Str))=false)(D:oJ X.K X.w X.mg x kvs):PE X (.Subscript (.Name x p) b pos) (Q7 kvs ty):=by
 intro pins s σ H Q I h
 obtain⟨a,es,ep,g1,g2,g3,g4,g5⟩:=D
 refine Ax PySem.F.slot_dict_getitem.lookup hs (a9 (iJ (v:=.ref a) hg g1 rfl hd pins s σ H (λv H2=>v= .ref a/\H2=H) I ⟨rfl,rfl⟩) λu s1 ⟨v,H1,I1,rv,ev,eH⟩=>?_)
 subst ev eH
 obtain rfl:u=aR a:=rv
 refine a9 (hb pins s1 σ H1 _ I1 h) λiv s2 ⟨y,H2,I2,ry,z,w,v,ey,ew,ev,q⟩=>?_
 subst ey
 obtain⟨t,rfl⟩:=(show ∃t,iv=mz z t from ry)
 obtain⟨vs,dd,look⟩:=qO (P:=X.prog) (w:=X.w) I2.Ag g2 g4 g5
 obtain⟨u,e1,e2⟩:=(look z).2 w ew
 exact⟨dd.typeIs,wpAny_getItem_of (strKind_is X.prog X.w z t) dd.mapOf e1 ⟨v,H2,I2.tok _,ev u e2,q⟩⟩
theorem Jt{b:Expr}{gb:GE}{x:Str}{p pos:Pos}{kvs:Dc}(hb:JE X b gb)(hs:D8 b)(hg:Gl X x)(hd:(x == ("__debug__":Str))=false)(D:oJ X.K X.w X.mg x kvs):JE X (.Subscript (.Name x p) b pos) (Ll kvs gb) :=
 JE.of (Js aE hs hg hd D) λρ st σ H m Q S R p=>by
  refine hb.go S R (ax.bind p) λw st1 v m1 H1 p1 e1 S1 r1=>?_
  cases w with
  | str k=>
   dsimp only at p1
   cases e:kvs.lookup k with
   | none=>rw[e] at p1;exact ae p1
   | some u=>
    rw[e] at p1
    unfold aj at r1
    cases u with
    | int i=>exact⟨k,.int i,.int i,r1.1,e,λu h=>h,p1 _ m1 H1 e1 S1 (by unfold aj;rfl)⟩
    | str y=>
     by_cases hy:br y=true
     ·exact⟨k,.str y,.str y,r1.1,e,λu h=>h.1,p1 _ m1 H1 e1 S1 (by unfold aj;exact⟨rfl,hy⟩)⟩
     ·obtain⟨a,es,ep,_,_,_,g4,_⟩:=D
      obtain⟨vs,_,_,_,i4⟩:=oK (P:=X.prog) g4
      obtain⟨u,_,e2⟩:=(i4 k).2 _ e
      exact absurd e2.2 hy
    | _=>
     obtain⟨a,es,ep,_,_,_,g4,_⟩:=D
     obtain⟨vs,_,_,_,i4⟩:=oK (P:=X.prog) g4
     obtain⟨u,_,e2⟩:=(i4 k).2 _ e
     exact ae e2
  | _=>exact ae p1
end
open PySem PySem.Spec PyProof.Rows PySem.W L2
section
variable (lt:Nat->Nat->Bool) (N:Nat)
def Kg{α:Type}:KasT α->(α->Prop)->Prop
 | .ret a,Q=>Q a
 | .ask i j k,Q=>(i < N/\j < N)/\Kg (k (lt i j)) Q
end
section
variable {lt:Nat->Nat->Bool} {N:Nat}
theorem Kg.bind{α β:Type}{f:α->KasT β}{Q:β->Prop}:∀{t:KasT α},Kg lt N t (λa=>Kg lt N (f a) Q)->Kg lt N (t.bind f) Q
 | .ret a,h=>h
 | .ask i j k,h=>⟨h.1,Kg.bind (t:=k (lt i j)) h.2⟩
theorem Kg.imp{α:Type}{Q R:α->Prop}(hq:∀a,Q a->R a):∀{t:KasT α},Kg lt N t Q->Kg lt N t R
 | .ret a,h=>hq a h
 | .ask i j k,h=>⟨h.1,Kg.imp hq (t:=k (lt i j)) h.2⟩
theorem Kg.wp{α:Type}{cmp:Nat->Nat->(Bool->aaL->Prop)->aaL->Prop}{P:aaL->Prop}(hc:∀i j C s,i < N->j < N->P s->(∀s',P s'->C (lt i j) s')->cmp i j C s){G:α->aaL->Prop} :
  ∀{t:KasT α}{s:aaL},P s->Kg lt N t (λa=>∀s',P s'->G a s')->t.kasWp cmp G s
 | .ret a,s,hs,h=>h s hs
 | .ask i j k,s,hs,h=>hc i j _ s h.1.1 h.1.2 hs λs' hs'=>Kg.wp hc (t:=k (lt i j)) hs' h.2
structure Ord(lt:Nat->Nat->Bool):Prop where
 as:∀a b,lt a b=true->lt b a=false
 tr:∀a b c,lt a b=false->lt b c=false->lt a c=false
theorem Ord.Ju(o:Ord lt)(a:Nat):lt a a=false:=by
 cases h:lt a a with
 | false=>rfl
 | true=>have:=o.as a a h;rw[h] at this;cases this
theorem Ord.Ln(o:Ord lt){a b c:Nat}(h1:lt a b=true)(h2:lt c b=false):lt a c=true:=by
 cases h:lt a c with
 | true=>rfl
 | false=>have:=o.tr a c b h h2;rw[h1] at this;cases this
abbrev at_(p:Array Nat)(i:Nat):Nat:=p.getD i 0
structure Pm(N:Nat)(p:Array Nat):Prop where
 sz:p.size=N
 pm:p.toList.Perm (eL N)
theorem Pm.bd{p:Array Nat}(h:Pm N p){i:Nat}(hi:i < N):at_ p i < N:=by
 have e:at_ p i=p[i]'(by rw[h.sz];exact hi):=by simp[at_,AS,h.sz,hi]
 rw[e]
 have:p[i]'(by rw[h.sz];exact hi)∈p.toList:=by simp
 exact List.mem_range.mp (h.pm.mem_iff.mp this)
theorem oN{p q:Array Nat}{i j:Nat}(h:p[i]? =q[j]?):at_ p i=at_ q j:=by
 unfold at_
 rw[Q8,Q8,h]
theorem Pm.rev{p:Array Nat}(h:Pm N p)(i j:Nat):Pm N (kas_rev p i j):=⟨by unfold kas_rev;rw[mirror_size];exact h.sz,((Array.perm_iff_toList_perm.mp (mirror_perm _ _ _ _)).trans h.pm)⟩
theorem Pm.YK{p:Array Nat}(h:Pm N p)(k d:Nat):Pm N (bubble p k d):=⟨by rw[bubble_size];exact h.sz,((Array.perm_iff_toList_perm.mp (bubble_perm _ _ _)).trans h.pm)⟩
theorem fj{p:Array Nat}(h:Pm N p){i j:Nat}(hj:j<=N)(k:Nat):at_ (kas_rev p i j) k=if i<=k/\k < j then at_ p (i+j - 1 - k) else at_ p k:=by
 have q:=getElem?_mirror_all (xs:=p) (i:=i) (j:=j) (by rw[h.sz];exact hj) k
 unfold kas_rev
 split
 ·rename_i c;rw[if_pos c] at q;exact oN q
 ·rename_i c;rw[if_neg c] at q;exact oN q
theorem Fq{p:Array Nat}(h:Pm N p){k l:Nat}(hk:k < N)(hl:l<=k)(i:Nat):at_ (bubble p k (k - l)) i=if i=l then at_ p k else if l < i/\i<=k then at_ p (i - 1) else at_ p i:=by
 have q:=getElem?_bubble (xs:=p) (src:=k) (by rw[h.sz];exact hk) (k - l) (by omega) i
 have e:k - (k - l)=l:=by omega
 rw[e] at q
 split
 ·rename_i c;rw[if_pos c] at q;exact oN q
 ·rename_i c
  rw[if_neg c] at q
  split
  ·rename_i d;rw[if_pos d] at q;exact oN q
  ·rename_i d;rw[if_neg d] at q;exact oN q
def Up(lt:Nat->Nat->Bool)(p:Array Nat)(k:Nat):Prop:=∀i j,i<=j->j < k->lt (at_ p j) (at_ p i)=false
def Dn(lt:Nat->Nat->Bool)(p:Array Nat)(k:Nat):Prop:=∀i j,i<=j->j < k->lt (at_ p i) (at_ p j)=false
theorem Up.succ(o:Ord lt){p:Array Nat}{k:Nat}(h:Up lt p k)(hk:1<=k)(e:lt (at_ p k) (at_ p (k - 1))=false):Up lt p (k+1):=by
 intro i j hij hj
 by_cases c:j < k
 ·exact h i j hij c
 ·have:j=k:=by omega
  subst this
  by_cases c2:i=j
  ·subst c2;exact o.Ju _
  ·exact o.tr _ _ _ e (h i (j - 1) (by omega) (by omega))
theorem Dn.succ(o:Ord lt){p:Array Nat}{k:Nat}(h:Dn lt p k)(hk:1<=k)(e:lt (at_ p (k - 1)) (at_ p k)=false):Dn lt p (k+1):=by
 intro i j hij hj
 by_cases c:j < k
 ·exact h i j hij c
 ·have:j=k:=by omega
  subst this
  by_cases c2:i=j
  ·subst c2;exact o.Ju _
  ·exact o.tr _ _ _ (h i (j - 1) (by omega) (by omega)) e
theorem zf(o:Ord lt){p:Array Nat}(hp:Pm N p):∀(f n:Nat),1<=n->n+f<=N->Up lt p n->Kg lt N (kas_asc p f n) (λm=>n<=m/\m<=n+f/\Up lt p m/\(m < n+f->lt (at_ p m) (at_ p (m - 1))=true))
 | 0,n,h1,h2,h3=>⟨au _,au _,h3,λz=>absurd z (eK _)⟩
 | f+1,n,h1,h2,h3=>by
  refine⟨⟨hp.bd (by omega),hp.bd (by omega)⟩,?_⟩
  cases e:lt (p.getD n 0) (p.getD (n - 1) 0) with
  | true=>
   dsimp only
   rw[if_pos rfl]
   exact⟨au _,by omega,h3,λ_=>e⟩
  | false=>
   dsimp only
   rw[if_neg (by simp)]
   refine(zf o hp f (n+1) (by omega) (by omega) (h3.succ o h1 e)).imp λm ⟨q1,q2,q3,q4⟩=>⟨by omega,by omega,q3,λz=>q4 (by omega)⟩
def Lv(lt:Nat->Nat->Bool)(p:Array Nat)(a n:Nat):Prop:=∀i j,a<=i->i < n->a<=j->j < n->lt (at_ p i) (at_ p j)=false
theorem Dn.rev(o:Ord lt){p:Array Nat}(hp:Pm N p){a n:Nat}(hn:n<=N)(ha:a<=n)(h:Dn lt p n)(hl:Lv lt p a n):Dn lt (kas_rev p a n) n:=by
 intro i j hij hj
 rw[fj hp hn,fj hp hn]
 by_cases ci:a<=i
 ·rw[if_pos ⟨ci,by omega⟩,if_pos ⟨by omega,hj⟩]
  exact hl _ _ (by omega) (by omega) (by omega) (by omega)
 ·rw[if_neg (by omega)]
  by_cases cj:a<=j
  ·rw[if_pos ⟨cj,hj⟩]
   exact h _ _ (by omega) (by omega)
  ·rw[if_neg (by omega)]
   exact h _ _ hij hj
theorem Dn.up{p:Array Nat}(hp:Pm N p){n:Nat}(hn:n<=N)(h:Dn lt p n):Up lt (kas_rev p 0 n) n:=by
 intro i j hij hj
 rw[fj hp hn,fj hp hn,if_pos ⟨by omega,hj⟩,if_pos ⟨by omega,by omega⟩]
 exact h _ _ (by omega) (by omega)
theorem qP(o:Ord lt):∀(f:Nat)(p:Array Nat)(n q:Nat),Pm N p->q+1<=n->n+f<=N->Dn lt p n->Lv lt p (n - 1 - q) n->
  Kg lt N (kas_desc f p n q) (λr=>Pm N r.1/\r.2.2+1<=r.2.1/\r.2.1<=N/\Dn lt r.1 r.2.1/\Lv lt r.1 (r.2.1 - 1 - r.2.2) r.2.1)
 | 0,p,n,q,hp,hq,hn,hd,hl=>⟨hp,hq,by omega,hd,hl⟩
 | f+1,p,n,q,hp,hq,hn,hd,hl=>by
  refine⟨⟨hp.bd (by omega),hp.bd (by omega)⟩,?_⟩
  cases e:lt (p.getD n 0) (p.getD (n - 1) 0) with
  | true=>
   dsimp only
   rw[if_pos rfl]
   have one:∀p':Array Nat,Lv lt p' (n+1 - 1 - 0) (n+1):=λp' i j h1 h2 h3 h4=>by
    have:i=j:=by omega
    subst this
    exact o.Ju _
   by_cases W9:q > 0
   ·rw[if_pos W9]
    have z:n - (q+1)=n - 1 - q:=by omega
    have hl2:Lv lt p (n - (q+1)) n:=by rw[z];exact hl
    refine qP o f _ (n+1) 0 (hp.rev _ _) (by omega) (by omega) (Dn.succ o (Dn.rev o hp (by omega) (by omega) hd hl2) (by omega) ?_) (one _)
    rw[fj hp (by omega),fj hp (by omega),if_pos ⟨by omega,by omega⟩,if_neg (by omega)]
    -- the last of the row stands level with the one Uo was last
    have lv:=hl (n - (q+1)+n - 1 - (n - 1)) (n - 1) (by omega) (by omega) (by omega) (by omega)
    cases z:lt (at_ p (n - (q+1)+n - 1 - (n - 1))) (at_ p n) with
    | false=>rfl
    | true=>
     have a1:=o.as _ _ e
     have:=o.tr _ _ _ lv a1
     rw[z] at this
     cases this
   ·rw[if_neg W9]
    exact qP o f p (n+1) 0 hp (by omega) (by omega) (hd.succ o (by omega) (o.as _ _ e)) (one _)
  | false=>
   dsimp only
   rw[if_neg (by simp)]
   refine⟨⟨hp.bd (by omega),hp.bd (by omega)⟩,?_⟩
   cases e2:lt (p.getD (n - 1) 0) (p.getD n 0) with
   | true=>
    dsimp only
    rw[if_pos rfl]
    exact⟨hp,hq,by show n<=N;omega,hd,hl⟩
   | false=>
    dsimp only
    rw[if_neg (by simp)]
    refine qP o f p (n+1) (q+1) hp (by omega) (by omega) (hd.succ o (by omega) e2) ?_
    intro i j h1 h2 h3 h4
    have key:∀i,n - 1 - q<=i->i < n->lt (at_ p i) (at_ p n)=false/\lt (at_ p n) (at_ p i)=false:=λi a b=>
     ⟨o.tr _ _ _ (hl i (n - 1) a b (by omega) (by omega)) e2,o.tr _ _ _ e (hl (n - 1) i (by omega) (by omega) a b)⟩
    by_cases ci:i < n
    ·by_cases cj:j < n
     ·exact hl i j (by omega) ci (by omega) cj
     ·have:j=n:=by omega
      subst this
      exact(key i (by omega) ci).1
    ·have:i=n:=by omega
     subst this
     by_cases cj:j < i
     ·exact(key j (by omega) cj).2
     ·have:j=i:=by omega
      subst this
      exact o.Ju _
abbrev Run(lt:Nat->Nat->Bool)(N:Nat)(r:Nat×Array Nat):Prop:=Pm N r.2/\1<=r.1/\r.1<=N/\Up lt r.2 r.1
theorem AU(o:Ord lt){p:Array Nat}{n:Nat}(hp:Pm N p)(h1:1<=n)(hn:n<=N)(hd:Dn lt p n):Kg lt N (kas_tail3 n N p) (Run lt N):=by
 unfold kas_tail3
 refine Kg.bind ((zf o (hp.rev 0 n) (N - n) n h1 (by omega) (hd.up hp hn)).imp λm ⟨q1,q2,q3,_⟩=>?_)
 exact⟨hp.rev 0 n,by show 1<=m;omega,by show m<=N;omega,q3⟩
theorem qp(o:Ord lt){p:Array Nat}{n:Nat}(hp:Pm N p)(hn:n+1<=N)(h1:1<=n)(hd:Dn lt p (n+1)):Kg lt N (kas_descPart n N p) (Run lt N):=by
 unfold kas_descPart
 have one:Lv lt p (n+1 - 1 - 0) (n+1):=λi j h1 h2 h3 h4=>by
  have:i=j:=by omega
  subst this
  exact o.Ju _
 refine Kg.bind ((qP o (N - (n+1)) p (n+1) 0 hp (by omega) (by omega) hd one).imp λr ⟨q1,q2,q3,q4,q5⟩=>?_)
 by_cases c:r.2.2 > 0
 ·rw[if_pos c]
  refine AU o (q1.rev _ _) (by omega) q3 (Dn.rev o q1 q3 (by omega) q4 ?_)
  have z:r.2.1 - (r.2.2+1)=r.2.1 - 1 - r.2.2:=by omega
  rw[z];exact q5
 ·rw[if_neg c]
  exact AU o q1 (by omega) q3 q4
theorem Fs(o:Ord lt){p:Array Nat}(hp:Pm N p)(h1:1<=N):Kg lt N (kas_count N p) (Run lt N):=by
 unfold kas_count
 have u1:Up lt p 1:=λi j a b=>by
  have:i=j:=by omega
  subst this
  exact o.Ju _
 refine Kg.bind ((zf o hp (N - 1) 1 (au _) (by omega) u1).imp λn ⟨q1,q2,q3,q4⟩=>?_)
 by_cases c:n=N
 ·rw[if_pos (by simp[c])]
  exact⟨hp,by show 1<=n;omega,by show n<=N;omega,q3⟩
 ·rw[if_neg (by simp[c])]
  have hs:=q4 (by omega)
  by_cases c2:n > 1
  ·rw[if_pos c2]
   refine⟨⟨hp.bd (by omega),hp.bd (by omega)⟩,?_⟩
   cases e:lt (p.getD 0 0) (p.getD (n - 1) 0) with
   | true=>
    dsimp only
    rw[if_pos rfl]
    exact⟨hp,by show 1<=n;omega,by show n<=N;omega,q3⟩
   | false=>
    dsimp only
    rw[if_neg (by simp)]
    -- all level
    have lv:∀i j,i < n->j < n->lt (at_ p i) (at_ p j)=false:=λi j hi hj=>by
     have a1:=q3 0 i (by omega) hi
     have a2:=q3 j (n - 1) (by omega) (by omega)
     exact o.tr _ _ _ (o.tr _ _ _ a1 e) a2
    refine qp o (hp.rev 0 n) (by omega) (by omega) (Dn.succ o ?_ (by omega) ?_)
    ·intro i j hij hj
     rw[fj hp (by omega),fj hp (by omega),if_pos ⟨by omega,by omega⟩,if_pos ⟨by omega,by omega⟩]
     exact lv _ _ (by omega) (by omega)
    ·rw[fj hp (by omega),fj hp (by omega),if_pos ⟨by omega,by omega⟩,if_neg (by omega)]
     have a1:=o.as _ _ hs
     exact o.tr _ _ _ (lv _ (n - 1) (by omega) (by omega)) a1
  ·rw[if_neg c2]
   have hn:n=1:=by omega
   subst hn
   refine qp o hp (by omega) (by omega) ?_
   refine Dn.succ o (λi j a b=>by
    have:i=j:=by omega
    subst this
    exact o.Ju _) (by omega) (o.as _ _ hs)
theorem rY(o:Ord lt){p:Array Nat}(hp:Pm N p){k:Nat}(hk:k < N):∀(f l r:Nat),l<=r->r<=k->r - l<=f->Up lt p k->(∀i,i < l->lt (at_ p k) (at_ p i)=false)->(∀i,r<=i->i < k->lt (at_ p k) (at_ p i)=true)->
  Kg lt N (kas_place p k f l r) (λm=>m<=k/\(∀i,i < m->lt (at_ p k) (at_ p i)=false)/\∀i,m<=i->i < k->lt (at_ p k) (at_ p i)=true)
 | 0,l,r,h1,h2,h3,u,a,b=>⟨by omega,a,λi h=>b i (by omega)⟩
 | f+1,l,r,h1,h2,h3,u,a,b=>by
  unfold kas_place
  by_cases c:l >= r
  ·rw[if_pos c]
   exact⟨by omega,a,λi h=>b i (by omega)⟩
  ·rw[if_neg c]
   refine⟨⟨hp.bd hk,hp.bd (by omega)⟩,?_⟩
   cases e:lt (p.getD k 0) (p.getD ((l+r) / 2) 0) with
   | true=>
    dsimp only
    rw[if_pos rfl]
    refine rY o hp hk f l ((l+r) / 2) (by omega) (by omega) (by omega) u a λi hi hk'=>?_
    exact o.Ln e (u _ _ hi hk')
   | false=>
    dsimp only
    rw[if_neg (by simp)]
    refine rY o hp hk f ((l+r) / 2+1) r (by omega) h2 (by omega) u (λi hi=>?_) b
    exact o.tr _ _ _ e (u i ((l+r) / 2) (by omega) (by omega))
theorem Ft(o:Ord lt):∀(f:Nat)(p:Array Nat)(k:Nat),Pm N p->k+f=N->Up lt p k->Kg lt N (kas_bin f p k) (λp'=>Pm N p'/\Up lt p' N)
 | 0,p,k,hp,hk,u=>by
  have:k=N:=by omega
  subst this
  exact⟨hp,u⟩
 | f+1,p,k,hp,hk,u=>by
  unfold kas_bin
  refine Kg.bind ((rY o hp (by omega) k 0 k (by omega) (au _) (by omega) u (λi h=>absurd h (by omega)) (λi h1 h2=>absurd h2 (by omega))).imp λl ⟨q1,q2,q3⟩=>?_)
  refine Ft o f _ (k+1) (hp.YK _ _) (by omega) ?_
  intro i j hij hj
  have bi:=Fq hp (k:=k) (l:=l) (by omega) q1 i
  have bj:=Fq hp (k:=k) (l:=l) (by omega) q1 j
  rw[bi,bj]
  by_cases e:j=l
  ·rw[if_pos e]
   by_cases e':i=l
   ·rw[if_pos e'];exact o.Ju _
   ·rw[if_neg e',if_neg (by omega)]
    exact q2 i (by omega)
  ·rw[if_neg e]
   by_cases d:l < j/\j<=k
   ·rw[if_pos d]
    by_cases e':i=l
    ·rw[if_pos e']
     exact o.as _ _ (q3 (j - 1) (by omega) (by omega))
    ·rw[if_neg e']
     by_cases d':l < i/\i<=k
     ·rw[if_pos d']
      exact u _ _ (by omega) (by omega)
     ·rw[if_neg d']
      exact u _ _ (by omega) (by omega)
   ·rw[if_neg d,if_neg (by omega),if_neg (by omega)]
    exact u _ _ hij (by omega)
theorem AV(o:Ord lt)(h1:1<=N):Kg lt N (kas_sort N) (λp=>Pm N p/\Up lt p N):=by
 have h0:Pm N (List.toArray (eL N)):=⟨by simp,by simp⟩
 unfold kas_sort
 refine Kg.bind ((Fs o h0 h1).imp λr ⟨q1,q2,q3,q4⟩=>?_)
 by_cases c:r.1 < N
 ·rw[if_pos c]
  have z:max r.1 1=r.1:=by omega
  rw[z]
  exact Ft o _ _ _ q1 (by omega) q4
 ·rw[if_neg c]
  have z:r.1=N:=by omega
  rw[z] at q4
  exact⟨q1,q4⟩
end
def sY(a b:Int×Int):Bool:=decide (a.1 < b.1)||(decide (a.1=b.1)&&decide (a.2 < b.2))
theorem zg{a b:Int×Int}(h:sY a b=true):sY b a=false:=by
 unfold sY at h ⊢
 simp at h ⊢
 omega
theorem zh{a b c:Int×Int}(h:sY a b=false)(k:sY b c=false):sY a c=false:=by
 unfold sY at h k ⊢
 simp at h k ⊢
 omega
theorem NM{a b:Int×Int}(h:sY a b=false)(k:sY b a=false):a=b:=by
 unfold sY at h k
 simp at h k
 exact u7 (by omega) (by omega)
def zi(n:Int×Int):List (Int×Int)->List (Int×Int)
 | []=>[n]
 | a::r=>if sY a n=true then a::zi n r else n::a::r
def di:List (Int×Int)->List (Int×Int)
 | []=>[]
 | a::r=>zi a (di r)
theorem pN(n:Int×Int):∀l,(zi n l).Perm (n::l)
 | []=> .refl _
 | a::r=>by
  unfold zi
  split
  ·exact((pN n r).cons a).trans (.swap n a r)
  ·exact .refl _
theorem fW:∀l,(di l).Perm l
 | []=> .nil
 | a::r=>(pN a (di r)).trans ((fW r).cons a)
abbrev HJ(l:List (Int×Int)):Prop:=l.Pairwise λa b=>sY b a=false
theorem AX(n:Int×Int):∀l,HJ l->HJ (zi n l)
 | [],_=>by simp[zi]
 | a::r,h=>by
  unfold zi
  rw[HJ,vL] at h
  split
  ·rename_i c
   rw[HJ,vL]
   refine⟨λb hb=>?_,AX n r h.2⟩
   rcases List.mem_cons.mp ((pN n r).mem_iff.mp hb) with z | z
   ·rw[z];exact zg c
   ·exact h.1 b z
  ·rename_i c
   have c':sY a n=false:=by simpa using c
   rw[HJ,vL,vL]
   refine⟨λb hb=>?_,h⟩
   rcases List.mem_cons.mp hb with z | z
   ·rw[z];exact c'
   ·exact zh (h.1 b z) c'
theorem oO:∀l,HJ (di l)
 | []=> .nil
 | a::r=>AX a _ (oO r)
theorem rZ{a b:List (Int×Int)}(h:a.Perm b)(ha:HJ a)(hb:HJ b):a=b :=
 List.Perm.eq_of_pairwise (λ_ _ _ _ h1 h2=>NM h2 h1) ha hb h
section
variable {prog:aaK} {w:aaN} {A:aaH} {E:aaM->aaL->Prop} {s:aaL}
theorem AY{x y:aaG}{ox oy:Obj}{a1 a2 b1 b2:Int}{t1 t2 u1 u2:Tok}{n k:Nat}{Q:Bool->aaL->Prop}(hx:s.heap.get? x=some ox)(dx:ox.data= .seq #[.int a1 t1,.int a2 t2] n)(hy:s.heap.get? y=some oy)(dy:oy.data= .seq #[.int b1 u1,.int b2 u2] k)
  (h:Q (sY (a1,a2) (b1,b2)) s):aaZ (model prog w) A (keyLt' (tuples' true) (.ref x) (.ref y)) Q E s:=by
 have hq:∀b,b=sY (a1,a2) (b1,b2)->Q b s:=λb e=>by rw[e];exact h
 refine kat_lt hx dx hy dy ?_
 refine kat_cons (wpAny_eqBool_int (kat_go (λe=>kat_yes ?_) (λe=>kat_no ?_)))
 ·refine kat_cons (wpAny_eqBool_int (kat_go (λe2=>kat_yes ?_) (λe2=>kat_no ?_)))
  ·refine kat_nil (hq _ ?_)
   have z1:a1=b1:=by simpa using e
   have z2:a2=b2:=by simpa using e2
   subst z1 z2
   simp[sY]
  ·refine kat_one _ _ (Ik ?_)
   show Q (decide (a2 < b2)) s
   refine hq _ ?_
   have z1:a1=b1:=by simpa using e
   subst z1
   simp[sY]
 ·refine oneLt_int (hq _ ?_)
  have z1:¬a1=b1:=by simpa using e
  simp[sY,z1]
end
theorem cT{α β:Type}{F:α->β->Prop}{a:α}{b:β}:∀{l:List α}{k:List β}{i:Nat},Paired F l k->i < k.length->F (l.getD i a) (k.getD i b)
 | _,_,0,.cons h _,_=>by simpa using h
 | _,_,i+1,.cons _ t,hi=>by simpa using cT (i:=i) t (by simpa using hi)
theorem jc{α β:Type}{F:α->β->Prop}{f:Nat->α}{g:Nat->β}:∀{l:List Nat},(∀i∈l,F (f i) (g i))->Paired F (l.map f) (l.map g)
 | [],_=> .nil
 | i::l,h=> .cons (h i (by simp)) (jc λj hj=>h j (by simp[hj]))
def TupAt(h:Heap)(v:aaM)(q:Int×Int):Prop:=∃(a:aaG)(o:Obj)(t u:Tok)(n:Nat),v= .ref a/\h.get? a=some o/\o.cls= .type "tuple"/\o.data= .seq #[.int q.1 t,.int q.2 u] n
abbrev Fv(H:Hp):List V->List (Int×Int)->Prop:=Paired λv q=>∃a,v= .ref a/\H a=some (.tup [.int q.1,.int q.2])
theorem Cs{x y:Int}{its:List aaM}(h:Vals [.int x,.int y] its):∃t u,its=[.int x t,.int y u]:=by
 cases h with
 | cons h1 h2=>
  cases h2 with
  | cons h3 h4=>
   cases h4
   obtain⟨t,rfl⟩:=h1
   obtain⟨u,rfl⟩:=h3
   exact⟨t,u,rfl⟩
section
variable {X:Cx} {pins:List (aaG×Obj)} {σ:St} {H:Hp} {s:aaL}
theorem zj(I:Inv X pins σ H s):∀{vs:List V}{ps:List (Int×Int)}{its:List aaM},Fv H vs ps->Vals vs its->Paired (TupAt s.heap) its ps
 | _,_,_,.nil,.nil=> .nil
 | _,_,_,.cons h t,.cons r rs=>by
  obtain⟨a,rfl,hT⟩:=h
  cases r
  obtain⟨its,rv,⟨o,g1,g2,n,g3⟩,_⟩:=I.tuple (gN.of hT)
  obtain⟨t1,u1,rfl⟩:=Cs rv
  exact .cons ⟨a,o,t1,u1,n,rfl,g1,g2,g3⟩ (zj I t rs)
end
theorem r8{h:Heap}:∀{its:List aaM}{ps:List (Int×Int)},Paired (TupAt h) its ps->∃fs:List aaM,KatTups h its fs/\fs.length=ps.length/\∀v∈fs,∃i t,v= .int i t
 | _,_,.nil=>⟨[],.nil,rfl,(λ_ z=>by cases z)⟩
 | _,_,.cons (b:=q) hd tl=>by
  obtain⟨fs,k1,k2,k3⟩:=r8 tl
  obtain⟨a,o,t,u,n,rfl,g1,g2,g3⟩:=hd
  refine⟨.int q.1 t::fs,.cons g1 g2 g3 rfl k1,by simp[k2],λv hv=>?_⟩
  rcases List.mem_cons.mp hv with z | z
  ·exact⟨_,_,z⟩
  ·exact k3 v z
theorem pO{h h':Heap}(k:∀a o its n,h.get? a=some o->o.data= .seq its n->h'.get? a=some o):∀{its:List aaM}{ps:List (Int×Int)},Paired (TupAt h) its ps->Paired (TupAt h') its ps
 | _,_,.nil=> .nil
 | _,_,.cons hd tl=>by
  obtain⟨a,o,t,u,n,e,g1,g2,g3⟩:=hd
  exact .cons ⟨a,o,t,u,n,e,k a o _ _ g1 g3,g2,g3⟩ (pO k tl)
theorem zk{h h':Heap}{L:aaG}{m m':Str->Option aaM}(a:h.Ns L m)(b:h.Ns L m')(c:h'.Ns L m):h'.Ns L m':=by
 obtain⟨o,es,ep,e1,e2,_,e4⟩:=a
 obtain⟨o',es',O9,f1,f2,_,f4⟩:=b
 rw[e1] at f1
 cases f1
 rw[e2] at f2
 cases f2
 have:m=m':=funext λx=>(e4 x).symm.trans (f4 x)
 rw[<-this]
 exact c
theorem range_getD{α:Type}{d:α}(l:List α):(eL l.length).map (λi=>l.getD i d)=l:=by
 refine List.ext_getElem (by simp) λi h1 h2=>?_
 simp[h2]
section
variable {X:Cx}
theorem Cu:dW X (.builtin "sorted") (λxs H Q=>∃(p:aaG)(vs:List V)(ps:List (Int×Int)),xs=[.ref p]/\lO X.K H p vs/\Fv H vs ps/\2<=ps.length/\ps.length < 64/\∀l vs',H l=none->Fv H vs' (di ps)->Q (.ref l) (upd H l (.lst vs'))):=by
 intro pins s σ H xs us Q I r h
 obtain⟨p,vs,ps,rfl,hq,hp,h2,h64,q⟩:=h
 obtain⟨u,rfl,rx⟩:=vals1 r
 cases rx
 obtain⟨its,r',pl,hz⟩:=I.list hq
 have tu:=zj I hp r'
 have l1:vs.length=its.length:=r'.length
 have l2:its.length=ps.length:=tu.length
 obtain⟨m,hn,hl⟩:=id I.loc
 obtain⟨oL,YL,YM,gL,dL,_⟩:=id hn
 refine kat_sorted (Att.vn hn) (oo (g:=Att.nN s.heap) (h:=s.heap) (L:=X.env.locals)) pl.isList (by omega) (by omega) λD e1 h' F' N' hD=>?_
 have keep:∀b o,b≠X.env.locals->s.heap.get? b=some o->h'.get? b=some o:=λb o n e=>(N' (b,o) (aF _ (cq n (Att.cH _ _) e))).1
 have NN:Paired (TupAt h') its ps:=pO (λa o its n e d=>keep a o (λz=>by
  subst z
  rw[gL] at e
  cases e
  rw[dL] at d
  cases d) e) tu
 obtain⟨fs,k1,k2,k3⟩:=r8 NN
 refine kat_kind (T:=.type "int") (s:={ s with heap:=h' }) k1 (by omega) (λv hv=>by obtain⟨i,t,rfl⟩:=k3 v hv;exact Looks.of_pure rfl) (by decide) ?_
 have et:(mB "int" != mB "tuple")=true:=by decide
 rw[et,l2]
 have od:Ord λi j=>sY (ps.getD i (0,0)) (ps.getD j (0,0)):=⟨λa b h=>zg h,λa b c h k=>zh h k⟩
 refine Kg.wp (lt:=λi j=>sY (ps.getD i (0,0)) (ps.getD j (0,0))) (N:=ps.length) (P:=λs''=>s''={ s with heap:=h' }) (λi j C s'' hi hj hs hC=>?_) rfl ((AV od (by omega)).imp λpm ⟨P1,P2⟩ s'' hs=>?_)
 ·subst hs
  obtain⟨a,o,t,u,n,e,g1,g2,g3⟩:=cT (a:=bC) (b:=(0,0)) NN hi
  obtain⟨a',o',t',u',n',e',Du,Qs,UQ⟩:=cT (a:=bC) (b:=(0,0)) NN hj
  unfold kas_ask
  rw[e,e']
  exact AY (s:={ s with heap:=h' }) g1 g3 Du UQ (hC _ rfl)
 ·subst hs
  refine KasFin.intro (s:={ s with heap:=h' }) F' N' (.head λq hq=>bW (hD q hq)) λh'' c NO Jv=>?_
  have hDL:D≠X.env.locals:=(N' (D,_) aB).2.1
  have iH:∀b o,b≠X.env.locals->s.heap.get? b=some o->h''.get? b=some o:=λb o n e=>(Jv (b,o) (aF _ (cq n (Att.cH _ _) e))).1
  have Cv:s.heap.get? D=none:=by
   cases e:s.heap.get? D with
   | none=>rfl
   | some o=>exact absurd (hD (D,o) (cq hDL (Att.cH _ _) e)) (eK _)
  have Dy:H D=none:=by
   cases e:H D with
   | none=>rfl
   | some ob=>
    obtain⟨z,e'⟩:=pJ (I.hok D ob e)
    rw[Cv] at e'
    cases e'
  have mem:∀i∈pm.toList,i < ps.length:=λi hi=>List.mem_range.mp (P1.pm.mem_iff.mp hi)
  have hv:Vals (pm.toList.map λi=>vs.getD i .bg) (pm.toList.map λi=>its.getD i bC):=jc λi hi=>cT r' (by have:=mem i hi;omega)
  have UR:(pm.toList.map λi=>ps.getD i (0,0))=di ps:=by
   refine rZ ((P1.pm.map _).trans (by rw[range_getD];exact(fW ps).symm)) ?_ (oO _)
   rw[HJ,AZ,Jw]
   intro i j hi hj hij
   have z:=P2 i j (by omega) (by have:=P1.sz;simpa [this] using hj)
   have ei:at_ pm i=pm.toList[i]:=by
    have:i < pm.size:=by simpa using hi
    simp[at_,AS,this]
   have ej:at_ pm j=pm.toList[j]:=by
    have:j < pm.size:=by simpa using hj
    simp[at_,AS,this]
   rw[ei,ej] at z
   exact z
  have US:Fv H (pm.toList.map λi=>vs.getD i .bg) (di ps):=by
   rw[<-UR]
   exact jc λi hi=>cT hp (mem i hi)
  have hlen:pm.toList.length=ps.length:=by have:=P1.sz;simpa using this
  have qQ:∀b u,H b=some u->b≠D:=λb u e=>bI e Dy
  have DF:∀b u,H b=some u->b≠X.env.locals:=λb u e=>bI e I.free
  have I':Inv X pins σ (upd H D (.lst (pm.toList.map λi=>vs.getD i .bg))) { s with heap:=h'' }:=by
   refine I.step (g':=s.gens) (d':=s.drawn) (t':=s.toks) (ch:=[]) (λ_ z=>nomatch z) (λb o n _ _ e _=>iH b o n e) (λb o n _ _ e _=>⟨o.slots,iH b o n e⟩) (λb o _ e n=>?_) (λb o _ e=>?_) (λb xs e=>?_) (λb o u e=>?_) (λb ps e=>?_) (λm' hm=>zk hn hm NO.ns) (λb ob e=>?_) I.bare
   ·rw[aw (λz=>by subst z;rw[Cv] at e;cases e)];exact n
   ·by_cases z:b=X.env.locals
    ·subst z
     obtain⟨o',_,_,e',_⟩:=NO.ns
     exact⟨o',e'⟩
    ·exact⟨o,iH b o z e⟩
   ·rw[aw (qQ _ _ e)];exact e
   ·rw[aw (qQ _ _ e)];exact e
   ·exact⟨#[],by rw[aw (qQ _ _ e),e];simp⟩
   ·by_cases z:b=D
    ·subst z
     rw[aZ] at e
     cases e
     exact⟨by rw[bc,hlen,<-l2,<-l1];exact hz,_,c,hv,(Jv (b,_) aB).1⟩
    ·rw[aw z] at e
     refine(I.hok b ob e).stay (λc v hc q=>iH c v ?_ q) (λc q=>by rw[aw (qQ _ _ q)];exact q) λc xs q=>by rw[aw (qQ _ _ q)];exact q
     rcases hc with y | y
     ·rw[y];exact DF b ob e
     ·exact DF c _ y
  exact⟨.ref D,_,I',rfl,q D _ Dy US⟩
end
section
variable {prog:aaK} {w:aaN} {A:aaH} {E:aaM->aaL->Prop} {s:aaL}
theorem uA{a:aaG}{its:List aaM}{n:Nat}{P:PySem.Fin->aaL->Prop}(h2:its.length < 2)(ho:s.heap.get? a=some (seqObj "list" its.toArray n))(k:P (.done (.ret .none)) { s with heap:=sortedHeap s.heap a its its.toArray }):aaZ (model prog w) A (Builtin.«list.sort» ⟨[.ref a],[]⟩) P E s:=by
 obtain⟨c,hc⟩:∃c,(s.heap.update a (dB λ_=>(#[]:Array aaM))).get? a=some (seqObj "list" #[] c):=⟨_,get?_update_seq ho λ_=>#[]⟩
 have big:(((s.heap.update a (dB λ_=>(#[]:Array aaM))).push (seqObj "tuple" its.toArray 0)).push (seqObj "list" #[] 0)).get? a=some (seqObj "list" #[] c):=bK _ (bK _ hc)
 rw[list_sort_plain]
 refine aa0 (listItems_at ho rfl (aa0 (listUpdate_at ho rfl (aa0 (seqEpoch_at hc rfl (aa0 (wpAny_newTuple (aa0 (aa4 (aa2 ?_))))))))))
 show aaZ (model prog w) A _ P E { s with heap:=((s.heap.update a (dB λ_=>(#[]:Array aaM))).push (seqObj "tuple" its.toArray 0)).push (seqObj "list" #[] 0) }
 have few:its.toArray.size < 2:=by simpa using h2
 dsimp only
 rw[if_pos few,if_pos few]
 refine aa0 (aa6 (aa0 ?_))
 rw[StateT.run_pure]
 refine aa6 ?_
 have mp:Array.map (λx:Keyed=>x.2) (arrOf (SortSt.mk' general' (its.toArray.zip its.toArray) #[] 7 none))=its.toArray:=by
  show Array.map (λx:Keyed=>x.2) (its.toArray.zip its.toArray)=its.toArray
  match its,h2 with
  | [],_=>simp
  | [v],_=>simp
 dsimp only
 simp only[mp]
 refine aa0 (seqEpoch_at big rfl (aa0 (listUpdate_at big rfl ?_)))
 simp only[bne_self_eq_false,AJ,if_false]
 exact aa6 k
theorem zl{l:aaG}{its:List aaM}{Q:aaM->aaL->Prop}(h2:its.length < 2)(hl:s.heap.IsList l its.toArray)(k:Q (.ref (s.heap.objs.size+1)) { s with heap:=sortedAll s.heap its its.toArray }):aaZ (model prog w) A (call (.builtin "sorted") [.ref l]) Q E s:=by
 have zz:((s.heap.push (seqObj "list" #[] 0)).update s.heap.objs.size (dB (· ++its.toArray))).objs.size=s.heap.objs.size+1:=(Heap.size_update ..).trans (size_push' ..)
 have hh:(((s.heap.push (seqObj "list" #[] 0)).update s.heap.objs.size (dB (· ++its.toArray))).push (seqObj "list" its.toArray 0)).get? (s.heap.objs.size+1)=some (seqObj "list" its.toArray 0):=zz ▸ cE _ rfl
 refine NP kind_sorted plain_sorted entry_sorted (args_sorted1 _) ?_
 unfold Builtin.«sorted»
 refine aa0 (m:=checkCount "sorted" 1 1 _) (aa6 (aa0 (collect_list hl (aa0 (aa4 ?_)))))
 show aaZ _ _ _ _ _ { s with heap:=((s.heap.push (seqObj "list" #[] 0)).update s.heap.objs.size (dB (· ++its.toArray))).push (seqObj "list" its.toArray 0) }
 rw[zz]
 exact aa0 (aa2 (wpAny_call_entry slot_list_sort ⟨_,hh,rfl⟩ entry_list_sort (uA h2 hh ⟨_,rfl,aa6 ⟨_,rfl,k⟩⟩) (args_list_sort _)))
end
section
variable {X:Cx}
theorem Cw:dW X (.builtin "sorted") (λxs H Q=>∃(p:aaG)(vs:List V),xs=[.ref p]/\lO X.K H p vs/\vs.length < 2/\∀l,H l=none->Q (.ref l) (upd H l (.lst vs))):=by
 intro pins s σ H xs us Q I r h
 obtain⟨p,v,rfl,hq,h2,q⟩:=h
 obtain⟨u,rfl,rx⟩:=vals1 r
 cases rx
 obtain⟨its,r',pl,hz⟩:=I.list hq
 obtain⟨n,hat⟩:=sortedAll_at s.heap its its.toArray
 refine zl (by rw[<-r'.length];exact h2) pl.isList ⟨.ref (s.heap.objs.size+1),_,I.laid (t':=s.toks) (λ_ _=>sortedAll_old) (oI _) (show dv X.prog X.w _ _ _ (.lst _) from⟨hz,its,n,r',?_⟩),rfl,q _ (I.hok.fresh (oI _))⟩
 rw[hat]
def kQ:List Wv->Option (List (Int×Int))
 | []=>some []
 | .tup [.int a,.int b]::r=>(match kQ r with | some l=>some ((a,b)::l) | none=>none)
 | _=>none
abbrev pw(p:Int×Int):Wv:=.tup [.int p.1,.int p.2]
theorem r9:∀ps:List (Int×Int),kQ (ps.map pw)=some ps
 | []=>rfl
 | p::r=>by rw[a6];unfold kQ;rw[r9 r]
theorem r_{K:PySem.W.Frag}{m:Mp}{H:Hp}:∀{ws:List Wv}{vs:List V}{ps:List (Int×Int)},ai K m H ws vs->kQ ws=some ps->Fv H vs ps
 | [],vs,ps,r,e=>by
  unfold ai at r
  subst r
  cases e
  exact .nil
 | w::ws,vs,ps,r,e=>by
  unfold ai at r
  obtain⟨x,t,rfl,r1,r2⟩:=r
  unfold kQ at e
  split at e
  ·cases ‹_::_=[]›
  ·rename_i a b r' he
   cases he
   cases q:kQ ws with
   | none=>rw[q] at e;cases e
   | some l=>
    rw[q] at e
    cases e
    unfold aj at r1
    obtain⟨ad,xs,rfl,hT,rx⟩:=r1
    unfold ai at rx
    obtain⟨y1,z1,rfl,W_,rx⟩:=rx
    unfold ai at rx
    obtain⟨y2,z2,rfl,Sz,rx⟩:=rx
    unfold ai at rx
    subst rx
    unfold aj at W_ Sz
    subst W_ Sz
    exact .cons ⟨ad,rfl,hT⟩ (r_ r2 q)
  ·cases e
theorem nR{K:PySem.W.Frag}{m:Mp}{H:Hp}:∀{vs:List V}{ps:List (Int×Int)},Fv H vs ps->ai K m H (ps.map pw) vs
 | _,_,.nil=>ai.nil
 | _,_,.cons h t=>by
  obtain⟨a,rfl,hT⟩:=h
  refine ai.cons ?_ (nR t)
  unfold aj
  exact⟨a,_,rfl,hT,ai.cons (by unfold aj;rfl) (ai.cons (by unfold aj;rfl) ai.nil)⟩
def lV:List Wv->Hs->Re Wv
 | [.ref l],st=>match ao st l with
  | some ws=>if ws.length < 2 then .ok (.ref st.length) (st++[.lst ws]) else(match kQ ws with | some ps=>if 2<=ps.length/\ps.length < 64 then .ok (.ref st.length) (st++[.lst ((di ps).map pw)]) else .bad | none=> .bad)
  | none=> .bad
 | _,_=> .bad
theorem Jx:fV X (.builtin "sorted") lV:=by
 refine⟨_,Cw.or Cu,λws vs st H m Q S rs p=>?_⟩
 match ws,rs,p with
 | [],rs,p=>exact ae p
 | x::y::t,rs,p=>cases x<;>exact ae p
 | [x],rs,p=>
  cases x with
  | ref l=>
   obtain⟨v,rfl,r1⟩:=nk rs
   unfold lV at p
   unfold aj at r1
   obtain⟨a,rfl,hl⟩:=r1
   cases e:ao st l with
   | none=>simp only[e] at p;exact ae p
   | some ws=>
    simp only[e] at p
    obtain⟨xs,q1,q2⟩:=S.read hl e
    by_cases c0:ws.length < 2
    ·rw[if_pos c0] at p
     exact .inl ⟨a,xs,rfl,q1,q2.length ▸ c0,λk hk=>p (.ref k) (m++[k]) _ (Ext.more.trans (Ext.upd (.inl hk))) (S.alloc hk q2) (S.newest k _)⟩
    ·rw[if_neg c0] at p
     cases e2:kQ ws with
     | none=>rw[e2] at p;exact ae p
     | some ps=>
      rw[e2] at p
      dsimp only at p
      by_cases c:2<=ps.length/\ps.length < 64
      ·rw[if_pos c] at p
       refine .inr ⟨a,xs,ps,rfl,q1,r_ q2 e2,c.1,c.2,λk vs' hk hp=>?_⟩
       exact p (.ref k) (m++[k]) _ (Ext.more.trans (Ext.upd (.inl hk))) (S.alloc hk (nR hp)) (S.newest k _)
      ·rw[if_neg c] at p
       exact ae p
  | _=>exact ae p
end
def keysOf:List Wv->Option (List L2.Key)
 | []=>some []
 | w::r=>(match keyOf w,keysOf r with | some k,some l=>some (k::l) | _,_=>none)
def lW:Wv->Option (List L2.Key)
 | .tup ws=>keysOf ws
 | _=>none
theorem sa{K:PySem.W.Frag}{m:Mp}{H:Hp}:∀{ws:List Wv}{xs:List V}{ks:List L2.Key},ai K m H ws xs->keysOf ws=some ks->xs=ks.map kV
 | [],xs,ks,r,e=>by unfold ai at r;subst r;cases e;rfl
 | w::ws,xs,ks,r,e=>by
  unfold ai at r
  obtain⟨x,t,rfl,r1,r2⟩:=r
  unfold keysOf at e
  cases e1:keyOf w with
  | none=>rw[e1] at e;cases e
  | some k=>
   cases e2:keysOf ws with
   | none=>rw[e1,e2] at e;cases e
   | some l=>
    rw[e1,e2] at e
    cases e
    rw[mI r1 e1,sa r2 e2]
    rfl
theorem lX{K:PySem.W.Frag}{m:Mp}{H:Hp}{w:Wv}{v:V}{ks:List L2.Key}(r:aj K m H w v)(e:lW w=some ks):∃b,v= .ref b/\H b=some (.tup (ks.map kV)):=by
 cases w with
 | tup ws=>
  unfold aj at r
  obtain⟨a,xs,rfl,h1,h2⟩:=r
  rw[sa h2 e] at h1
  exact⟨a,rfl,h1⟩
 | _=>cases e
def gQ:GE:=λ_ st=> .ok (.ref st.length) (st++[.bq []])
def Lo:GE:=λ_ st=> .ok (.ref st.length) (st++[.dct []])
section
variable {X:Cx}
theorem Jy{pos:Pos}:JE X (.Dict [] [] pos) gQ:=JE.of Eb λρ st σ H m Q S R p=>λq hq=>
 p (.ref q) (m++[q]) _ (Ext.more.trans (Ext.lL (.inl hq))) (S.yO hq ⟨[],aZ,RelK.nil⟩) (S.newest q _)
theorem Jz{pos:Pos}:JE X (.Dict [] [] pos) Lo:=JE.of Ea λρ st σ H m Q S R p=>λq hq=>
 p (.ref q) (m++[q]) _ (Ext.more.trans (Ext.lL (.inl hq))) (S.yO hq ⟨[],aZ,RelK.nil⟩) (S.newest q _)
def putD(d k v:Wv)(st:Hs):Option Hs:=match d with
 | .ref l=>(match st[l]? with
  | some (.dct kvs)=>(match keyOf k with | some kk=>if kvs.length < lim then some (st.set l (.dct (lU kvs kk v))) else none | none=>none)
  | some (.bq kvs)=>(match lW k with | some kk=>if kvs.length < lim then some (st.set l (.bq (lU kvs kk v))) else none | none=>none)
  | _=>none)
 | _=>none
def dg(gv gd gk:GE):GS:=λρ st=>(gv ρ st).a9 ρ λv st1=>(gd ρ st1).a9 ρ λd st2=>(gk ρ st2).a9 ρ λk st3=>match putD d k v st3 with
 | some rL=> .nx ρ rL
 | none=> .bad
theorem A0{m:Mp}{st st':Hs}{H:Hp}{d k v:Wv}{x y z:V}(S:bG X.K m st H)(rd:aj X.K m H d x)(rk:aj X.K m H k y)(rv:aj X.K m H v z)(e:putD d k v st=some st'):∃a H',x= .ref a/\tF H a y z H'/\Ext X.K m H m H'/\bG X.K m st' H':=by
 unfold putD at e
 cases d with
 | ref l=>
  dsimp only at e
  unfold aj at rd
  obtain⟨a,rfl,ha⟩:=rd
  cases e1:st[l]? with
  | none=>rw[e1] at e;cases e
  | some o=>
   rw[e1] at e
   cases o with
   | dct kvs=>
    dsimp only at e
    cases e2:keyOf k with
    | none=>rw[e2] at e;cases e
    | some kk=>
     rw[e2] at e
     dsimp only at e
     by_cases c:kvs.length < lim
     ·rw[if_pos c] at e
      cases e
      obtain⟨xs,h1,h2⟩:=(show ∃ys,H a=some (.dK ys)/\RelK X.K m H kvs ys from S.obj _ _ _ ha e1)
      have ex:Ext X.K m H m (upd H a (.dK (putK xs kk z))):=Ext.lL (.inr (.inr (.inl ⟨_,h1⟩)))
      refine⟨a,_,rfl,by rw[mI rk e2];exact tF.k h1 (by rw[<-h2.length];exact yQ c),ex,?_⟩
      exact S.pD ha e1 rfl ⟨_,aZ,(h2.put kk rv).mono ex⟩
     ·rw[if_neg c] at e;cases e
   | bq kvs=>
    dsimp only at e
    cases e2:lW k with
    | none=>rw[e2] at e;cases e
    | some kk=>
     rw[e2] at e
     dsimp only at e
     by_cases c:kvs.length < lim
     ·rw[if_pos c] at e
      cases e
      obtain⟨xs,h1,h2⟩:=(show ∃ys,H a=some (.dT ys)/\RelK X.K m H kvs ys from S.obj _ _ _ ha e1)
      obtain⟨b,rfl,hb⟩:=lX rk e2
      have ex:Ext X.K m H m (upd H a (.dT (putK xs kk z))):=Ext.lL (.inr (.inr (.inr ⟨_,h1⟩)))
      refine⟨a,_,rfl,tF.t h1 hb (by rw[<-h2.length];exact yQ c),ex,?_⟩
      exact S.pD ha e1 rfl ⟨_,aZ,(h2.put kk rv).mono ex⟩
     ·rw[if_neg c] at e;cases e
   | _=>cases e
 | _=>cases e
theorem JB{o i e:Expr}{go gi ge:GE}{pos pos':Pos}(hu:X.A.units+1 < cLine)(he:JE X e ge)(ho:JE X o go)(hi:JE X i gi)(hs:swapsWith e (some (.Subscript o i pos')) pos.line X.env=pure false):JS X (.Assign [.Subscript o i pos'] e pos) (dg ge go gi) :=
 JS.of (IF hu aE aE aE hs) λρ st σ H m D S R p=>by
  refine he.go S R (aK.cO R p) λv st1 vv m1 H1 p1 e1 S1 rv=>?_
  refine ho.go S1 (R.mono e1) ((aK.cO (m:=m) (H:=H) R p1).imp e1 λ_ _ q=>q) λd st2 vd m2 H2 p2 e2 S2 rd=>?_
  refine hi.go S2 (R.mono (e1.trans e2)) ((aK.cO (m:=m) (H:=H) R p2).imp (e1.trans e2) λ_ _ q=>q) λk st3 vk m3 H3 p3 e3 S3 rk=>?_
  have B9:=e1.trans (e2.trans e3)
  cases e4:putD d k v st3 with
  | none=>rw[e4] at p3;exact ae p3
  | some rL=>
   rw[e4] at p3
   obtain⟨a,H4,f1,f2,f3,f4⟩:=A0 (X:=X) S3 (aj.mono e3 _ _ rd) rk (aj.mono (e2.trans e3) _ _ rv) e4
   exact⟨a,H4,f1,f2,p3 σ m3 H4 (B9.trans f3) f4 (R.mono (B9.trans f3))⟩
end
def sd(h:Heap)(d:aaG)(es:Array DictEntry)(ep:Nat):Prop:=∃o,h.get? d=some o/\o.cls= .type "dict"/\o.data= .dict es ep
section
variable {prog:aaK} {w:aaN} {A:aaH} {E:aaM->aaL->Prop} {s:aaL} {d it:aaG} {es:Array DictEntry} {ep i:Nat}
theorem sd.ty(x:sd s.heap d es ep):s.TypeIs (.ref d) "dict":=let ⟨o,h1,h2,_⟩:=x;⟨o,h1,h2⟩
theorem xn{Q:aaM->aaL->Prop}(lo:(d == sysModules)=false)(x:sd s.heap d es ep)
  (k:Q (.ref s.heap.objs.size) { s with heap:=s.heap.push { cls:=.type "dict_keyiterator",data:=.fields #[.ref d,.int 0 0,.int es.size 0,.int ep 0] } }):aaZ (model prog w) A (pyIter (.ref d)) Q E s:=by
 have ty:=x.ty
 obtain⟨o,g1,g2,g3⟩:=x
 refine wpAny_pyIter_slot ty PySem.F.slot_dict_iter (wpAny_call_entry PySem.F.slot_dict_iter ty PySem.F.entry_dict_iter ?_ (PySem.F.args_dict_iter_1 _))
 unfold Builtin.«dict.__iter__» Builtin.Dict.dictSlotNone
 refine aa0 (aa0 (wpAny_notOrdered_dict ty (aa6 ?_)))
 unfold Builtin.Dict.showsAll
 have nlo:¬(d == sysModules)=true:=by rw[lo];exact bD
 refine aa0 (show aaZ _ _ (pure d) _ _ s from aa6 (aa0 ?_))
 rw[if_neg nlo]
 exact aa6 (aa0 (aa1 g1 g3 (aa0 (wpAny_dictEpoch g1 g3 (aa0 (aa5 (aa6 ⟨_,rfl,"dict_keyiterator",_,⟨_,cE _ rfl,rfl⟩,PySem.F.slot_dict_keyiterator_next.lookup,by simpa [rawInt] using k⟩)))))))
theorem xo{Q:Option aaM->aaL->Prop}(ki:s.heap.IsKeyIter it d i es.size ep)(x:sd s.heap d es ep)(hi:i < es.size)
  (k:∀h',h'.IsKeyIter it d (i+1) es.size ep->u0 it s.heap h'->Q (some es[i].key) { s with heap:=h' }):aaZ (model prog w) A (pyNext (.ref it)) Q E s:=by
 have ty:=ki.typeIs
 obtain⟨oi,f1,f2,f3⟩:=id ki
 obtain⟨o,g1,g2,g3⟩:=x
 have own:NQ "dict_keyiterator"=false:=by decide
 have nn:¬((aR d == bC)=true):=bD
 unfold pyNext
 refine aa0 (wpAny_attempt (wpAny_callSpecial?_slot (name:=oA "__next__") ty PySem.F.slot_dict_keyiterator_next (wpAny_call_entry PySem.F.slot_dict_keyiterator_next ty PySem.F.entry_dict_keyiterator_next ?_ (PySem.F.args_dict_keyiterator_next_1 _))))
 refine aa0 (aa6 (aa0 (aa0 ?_)))
 first | refine aa0 (wpAny_typeNameOfWhole_keyiter ty (aa6 (aa0 (wpAny_fieldsOf f1 f3 ?_)))) | refine aa0 (wpAny_typeNameOf_keyiter ty (aa6 (aa0 (wpAny_fieldsOf f1 f3 ?_))))
 simp only[own,AJ,if_false]
 refine(show aaZ _ _ (if(aR d == bC)=true then _ else _) _ _ s from ?_);rw[if_neg nn]
 refine aa0 (aa6 (aa0 (aa1 g1 g3 ?_)))
 rw[if_neg (by simp)]
 refine aa0 (aa6 (aa0 (wpAny_dictEpoch g1 g3 ?_)))
 rw[if_neg (by simp)]
 refine aa6 ?_
 have n0:¬((i:Int) < 0):=by omega
 simp only[n0,if_false,Fw,Array.getElem?_eq_getElem hi]
 refine aa0 ?_
 first | refine aa0 (wpAny_typeNameOfWhole_keyiter ty (aa6 (aa0 (wpAny_isOneOf_keyiter ty ?_)))) | refine aa0 (wpAny_typeNameOf_keyiter ty (aa6 (aa0 (wpAny_isOneOf_keyiter ty ?_))))
 refine(show aaZ _ _ (setField (.ref it) 1 (rawInt ((i:Int)+1)) >>= _) _ _ s from ?_)
 have Q9:(s.heap.update it (kI (·.setIfInBounds 1 (rawInt ((i:Int)+1))))).IsKeyIter it d (i+1) es.size ep:=⟨_,yJ _ f1 (Az (qI f3 _)),(Obj.cls_mapFields ..).trans f2,by rw[qI f3];simp[rawInt]⟩
 refine aa0 (wpAny_setField f1 f3 (by simp) (aa0 (aa2 (aa0 (wpAny_isOneOf_keyiter (s:={ s with heap:=s.heap.update it (kI (·.setIfInBounds 1 (rawInt ((i:Int)+1)))) }) Q9.typeIs ?_)))))
 exact(show aaZ _ _ (pure es[i].key) _ _ _ from aa6 (aa6 ⟨_,rfl,aa6 (k _ Q9 (vM ..))⟩))
theorem A1{Q:Option aaM->aaL->Prop}(hh:A.handled=none)(ki:s.heap.IsKeyIter it d i es.size ep)(x:sd s.heap d es ep)(hi:es.size<=i)(k:∀h',Heap.ExtBut it s.heap h'->Q none { s with heap:=h' }):aaZ (model prog w) A (pyNext (.ref it)) Q E s:=by
 have ty:=ki.typeIs
 obtain⟨oi,f1,f2,f3⟩:=id ki
 obtain⟨o,g1,g2,g3⟩:=x
 have own:NQ "dict_keyiterator"=false:=by decide
 have nn:¬((aR d == bC)=true):=bD
 unfold pyNext
 refine aa0 (wpAny_attempt (wpAny_callSpecial?_slot (name:=oA "__next__") ty PySem.F.slot_dict_keyiterator_next (wpAny_call_entry PySem.F.slot_dict_keyiterator_next ty PySem.F.entry_dict_keyiterator_next ?_ (PySem.F.args_dict_keyiterator_next_1 _))))
 refine aa0 (aa6 (aa0 (aa0 ?_)))
 first | refine aa0 (wpAny_typeNameOfWhole_keyiter ty (aa6 (aa0 (wpAny_fieldsOf f1 f3 ?_)))) | refine aa0 (wpAny_typeNameOf_keyiter ty (aa6 (aa0 (wpAny_fieldsOf f1 f3 ?_))))
 simp only[own,AJ,if_false]
 refine(show aaZ _ _ (if(aR d == bC)=true then _ else _) _ _ s from ?_);rw[if_neg nn]
 refine aa0 (aa6 (aa0 (aa1 g1 g3 ?_)))
 rw[if_neg (by simp)]
 refine aa0 (aa6 (aa0 (wpAny_dictEpoch g1 g3 ?_)))
 rw[if_neg (by simp)]
 refine aa6 ?_
 have n0:¬((i:Int) < 0):=by omega
 simp only[n0,if_false,Fw,Array.getElem?_eq_none hi]
 refine aa0 ?_
 first | refine aa0 (wpAny_typeNameOfWhole_keyiter ty (aa6 ?_)) | refine aa0 (wpAny_typeNameOf_keyiter ty (aa6 ?_))
 refine(show aaZ _ _ (setField (.ref it) 0 .none >>= _) _ _ s from aa0 (wpAny_setField f1 f3 (by simp) ?_))
 refine(show aaZ _ _ (newExc (.type "StopIteration") [] >>= _) _ _ _ from ?_)
 simp only[newExc,newTuple,raiseNew]
 refine aa0 (aa0 (aa5 (aa0 (m:=firstArgMember _ _) (wpAny_of_eq (a:=bC) (by first | rfl | (simp only[firstArgMember];rfl)) (aa5 ?_ (by size_fits)))) (by size_fits)))
 refine(aa0 (wpAny_handled ?_))
 rw[show A.in1.handled=none by exact hh]
 refine(aa0 (aa6 (wpAny_throw ?_)))
 refine aa0 (wpAny_isInstance (b:=true) (T:="StopIteration") ⟨_,cE _ rfl,rfl⟩ isSubtype_stop (aa6 ?_))
 refine k _ ?_;exact((vM ..).extBut.push _).push _
theorem Cy(hh:A.handled=none)(I:aaG)(hne:d≠I):Walks prog w A I [I,d] [I] es.size (λi v=>∃h:i < es.size,v=es[i].key) (λi h=>h.IsKeyIter I d i es.size ep/\sd h d es ep) where
 sub:=λb hb=>List.mem_cons.mpr (.inl (List.mem_singleton.mp hb))
 frame:=λ_ _ _ st hk=>⟨st.1.at λo e=>hk I (by simp) o e,let ⟨o,e1,e2⟩:=st.2;⟨o,hk d (by simp) o e1,e2⟩⟩
 item:=λi s Q E hi st hQ=>xo st.1 st.2 hi λh' ki sb=>hQ _ h' s.toks ⟨hi,rfl⟩ ⟨ki,let ⟨o,e1,e2⟩:=st.2;⟨o,sb.extBut d o hne e1,e2⟩⟩ λb o hb e=>sb.extBut b o (λz=>hb (by simp[z])) e
 done:=λs Q E st hQ=>A1 hh st.1 st.2 (au _) λh' eb=>hQ h' s.toks λb o hb e=>eb b o (λz=>hb (by simp[z])) e
 self:=λ_ _ _ _ st k=>wpAny_pyIter_keyiter st.1 k
theorem vN(lo:(d == sysModules)=false):KdlSrc prog w "dict" d d es.size (λi v=>∃h:i < es.size,v=es[i].key) (λh=>sd h d es ep) where
 type:=λ_ x=>x.ty
 there:=λ_ x=>let ⟨o,e,_⟩:=x;⟨aX e,aX e⟩
 keep:=λ_ _ x hk=>let ⟨o,e,r⟩:=x;⟨o,hk d (.inl rfl) o e,r⟩
 notList:=by decide
 notTuple:=by decide
 hint:=λ_ _ _ _ x hq=>kdl_hint_dict x.ty hq
 iter:=λ_ s hh x=>⟨_,_,(λ_ _ hq=>xn lo x hq),Cy hh _ (by obtain⟨o,e,_⟩:=x;exact bW (aX e)),⟨⟨_,cE _ rfl,rfl,rfl⟩,let ⟨o,e,r⟩:=x;⟨o,bK _ e,r⟩⟩⟩
end
abbrev Q_(H:Hp):List V->List (List L2.Key)->Prop:=Paired λv k=>∃b,v= .ref b/\H b=some (.tup (k.map kV))
theorem qR{H:Hp}:∀{kvs:List (List L2.Key×V)}{xs:List (List L2.Key×aaG×aaM)},KT H kvs xs->Q_ H (xs.map λx=>V.ref x.2.1) (kvs.map (·.1))
 | _,_,.nil=> .nil
 | _,_,.cons h t=> .cons ⟨_,rfl,h.2.1⟩ (qR t)
theorem mK{α:Type}(f:α->aaG):∀xs:List α,Vals (xs.map λx=>V.ref (f x)) (xs.map λx=>aR (f x))
 | []=> .nil
 | x::r=> .cons rfl (mK f r)
section
variable {X:Cx}
theorem zm:dW X (.type "list") (λxs H Q=>∃(p:aaG)(kvs:List (List L2.Key×V)),xs=[.ref p]/\H p=some (.dT kvs)/\X.A.handled=none/\∀l vs',H l=none->Q_ H vs' (kvs.map (·.1))->Q (.ref l) (upd H l (.lst vs'))):=by
 intro pins s σ H xs us Q I r h
 obtain⟨p,kvs,rfl,hp,hh,q⟩:=h
 obtain⟨u,rfl,rx⟩:=vals1 r
 cases rx
 obtain⟨z,lo,ys,kt,o,es,ep,g1,g2,g3,g4,g5,g6⟩:=K6 I.hok hp
 have len:es.size=ys.length:=by have:=congrArg f9 g4;simpa using this
 have NR:kvs.length=ys.length:=kt.length
 obtain⟨m,hn,hl⟩:=id I.loc
 have raw:sd s.heap p es ep:=⟨o,g1,g2.1,g3⟩
 refine kdl_N (vN lo) hh (Att.vn hn) (oo (g:=Att.nN s.heap) (h:=s.heap) (L:=X.env.locals)) raw (by rw[len,<-NR];exact z) λD c h'' tk vs NO Jv hD hlen hv=>?_
 have Ra:vs=ys.map λx=>aR x.2.1:=by
  refine zo λj=>?_
  cases e:vs[j]? with
  | none=>
   have hj:vs.length<=j:=by simpa using e
   rw[vO]
   simp
   omega
  | some v=>
   obtain⟨hj,ev⟩:=hv j v e
   have hj':j < ys.length:=by omega
   have q1:es.toList[j]'(by simpa using hj)=entryOfKey (tupleKind (bp X.prog X.w)) ys[j]:=by
    have:es.toList[j]? =(ys.map (entryOfKey (tupleKind (bp X.prog X.w))))[j]?:=by rw[g4]
    rw[dD (by simpa using hj),fh,dD hj'] at this
    simpa using this
   rw[fh,dD hj',ev]
   have q2:es[j]=es.toList[j]'(by simpa using hj):=by simp
   rw[q2,q1]
   rfl
 subst Ra
 have hDL:D≠X.env.locals:=(Jv (D,_) aB).2.1
 have iH:∀b o,b≠X.env.locals->s.heap.get? b=some o->h''.get? b=some o:=λb o n e=>(Jv (b,o) (aF _ (cq n (Att.cH _ _) e))).1
 have Cv:s.heap.get? D=none:=by
  cases e:s.heap.get? D with
  | none=>rfl
  | some o=>exact absurd (hD (D,o) (cq hDL (Att.cH _ _) e)) (eK _)
 have Dy:H D=none:=by
  cases e:H D with
  | none=>rfl
  | some ob=>
   obtain⟨z,e'⟩:=pJ (I.hok D ob e)
   rw[Cv] at e'
   cases e'
 have qQ:∀b u,H b=some u->b≠D:=λb u e=>bI e Dy
 have DF:∀b u,H b=some u->b≠X.env.locals:=λb u e=>bI e I.free
 have I':Inv X pins σ (upd H D (.lst (ys.map λx=>V.ref x.2.1))) { s with heap:=h'',toks:=tk }:=by
  refine I.step (g':=s.gens) (d':=s.drawn) (t':=tk) (ch:=[]) (λ_ z=>nomatch z) (λb o n _ _ e _=>iH b o n e) (λb o n _ _ e _=>⟨o.slots,iH b o n e⟩) (λb o _ e n=>?_) (λb o _ e=>?_) (λb xs e=>?_) (λb o u e=>?_) (λb ps e=>?_) (λm' hm=>zk hn hm NO.ns) (λb ob e=>?_) I.bare
  ·rw[aw (λz=>by subst z;rw[Cv] at e;cases e)];exact n
  ·by_cases z:b=X.env.locals
   ·subst z
    obtain⟨o',_,_,e',_⟩:=NO.ns
    exact⟨o',e'⟩
   ·exact⟨o,iH b o z e⟩
  ·rw[aw (qQ _ _ e)];exact e
  ·rw[aw (qQ _ _ e)];exact e
  ·exact⟨#[],by rw[aw (qQ _ _ e),e];simp⟩
  ·by_cases z':b=D
   ·subst z'
    rw[aZ] at e
    cases e
    exact⟨by rw[bc,<-NR];exact z,_,c,mK (λx=>x.2.1) ys,(Jv (b,_) aB).1⟩
   ·rw[aw z'] at e
    refine(I.hok b ob e).stay (λc v hc q=>iH c v ?_ q) (λc q=>by rw[aw (qQ _ _ q)];exact q) λc xs q=>by rw[aw (qQ _ _ q)];exact q
    rcases hc with y | y
    ·rw[y];exact DF b ob e
    ·exact DF c _ y
 exact⟨.ref D,_,I',rfl,q D _ Dy (qR kt)⟩
end
def xp:List L2.Key->Option (List Int)
 | []=>some []
 | .inl i::r=>(match xp r with | some l=>some (i::l) | none=>none)
 | _=>none
theorem vP:∀{ks:List L2.Key}{ns:List Int},xp ks=some ns->ks.map kV=ns.map V.int
 | [],ns,e=>by cases e;rfl
 | .inl i::r,ns,e=>by
  unfold xp at e
  cases q:xp r with
  | none=>rw[q] at e;cases e
  | some l=>rw[q] at e;cases e;rw[a6,a6,vP q];rfl
 | .inr x::r,ns,e=>by cases e
 | .bg::r,ns,e=>by cases e
def eE:List (List L2.Key)->Option (List Wv)
 | []=>some []
 | k::r=>(match xp k,eE r with | some ns,some l=>some (.tup (ns.map Wv.int)::l) | _,_=>none)
theorem uB{K:PySem.W.Frag}{m:Mp}{H:Hp}:∀{vs:List V}{ks:List (List L2.Key)}{ws:List Wv},Q_ H vs ks->eE ks=some ws->ai K m H ws vs
 | _,_,ws,.nil,e=>by cases e;exact ai.nil
 | _,_,ws,.cons (b:=k) (l₂:=ks) h t,e=>by
  obtain⟨b,rfl,hb⟩:=h
  unfold eE at e
  cases q1:xp k with
  | none=>rw[q1] at e;cases e
  | some ns=>
   cases q2:eE ks with
   | none=>rw[q1,q2] at e;cases e
   | some l=>
    rw[q1,q2] at e
    cases e
    refine ai.cons ?_ (uB t q2)
    rw[vP q1] at hb
    unfold aj
    exact⟨b,_,rfl,hb,ai.ints ns⟩
def lY:List Wv->Hs->Re Wv
 | [.ref l],st=>match st[l]? with
  | some (.bq kvs)=>(match eE (kvs.map (·.1)) with | some ws=> .ok (.ref st.length) (st++[.lst ws]) | none=> .bad)
  | _=>rT [.ref l] st
 | ws,st=>rT ws st
section
variable {X:Cx}
theorem xq(hc:X.calm=true):dW X (.type "list") (λxs H Q=>∃(p:aaG)(kvs:List (List L2.Key×V)),xs=[.ref p]/\H p=some (.dT kvs)/\∀l vs',H l=none->Q_ H vs' (kvs.map (·.1))->Q (.ref l) (upd H l (.lst vs'))):=by
 intro pins s σ H xs us Q I r h
 obtain⟨p,kvs,e,hp,q⟩:=h
 exact zm pins s σ H xs us Q I r ⟨p,kvs,e,hp,I.ok.hd hc,q⟩
theorem Fx(hc:X.calm=true):fV X (.type "list") lY:=by
 obtain⟨rr,h1,h2⟩:=Jp (X:=X)
 refine⟨_,(xq hc).or h1,λws vs st H m Q S rs p=>?_⟩
 have other:cS X.K m H (rT ws st) Q->rr vs H Q:=λp=>h2 ws vs st H m Q S rs p
 match ws,rs,p,other with
 | [],rs,p,other=>exact .inr (other p)
 | x::y::t,rs,p,other=>exact .inr (other (by cases x<;>exact p))
 | [x],rs,p,other=>
  cases x with
  | ref l=>
   unfold lY at p
   cases e:st[l]? with
   | none=>simp only[e] at p;exact .inr (other p)
   | some o=>
    simp only[e] at p
    cases o with
    | bq kvs=>
     dsimp only at p
     cases e2:eE (kvs.map (·.1)) with
     | none=>rw[e2] at p;exact ae p
     | some us=>
      rw[e2] at p
      obtain⟨v,rfl,r1⟩:=nk rs
      unfold aj at r1
      obtain⟨a,rfl,ha⟩:=r1
      obtain⟨xs,g1,g2⟩:=(show ∃ys,H a=some (.dT ys)/\RelK X.K m H kvs ys from S.obj _ _ _ ha e)
      refine .inl ⟨a,xs,rfl,g1,λk vs' hk hy=>?_⟩
      rw[<-g2.1] at hy
      exact p (.ref k) (m++[k]) _ (Ext.more.trans (Ext.upd (.inl hk))) (S.alloc hk (uB hy e2)) (S.newest k _)
    | _=>exact .inr (other p)
  | _=>exact .inr (other p)
end
open PySem L2 PyProof.Rows
def lexLe:List Int->List Int->Bool
 | [],_=>true
 | _::_,[]=>false
 | a::as,b::bs=>if a=b then lexLe as bs else decide (a<=b)
theorem Fy(A:aaH)(s:aaL)(a:Int)(t:Tok)(c:Int)(u:Tok)(prog:aaK)(w:aaN)(E:aaM->aaL->Prop)(Q:aaM->aaL->Prop)(h:Q (.bool (decide (a<=c))) s) :
  aaZ (model prog w) A (richCompare .LtE (.int a t) (.int c u)) Q E s :=
 (PyProof.Rows.le_int h:aaZ (model prog w) A (aaT .LtE (.int a t) (.int c u)) Q E s)
section
open PySem.SeqAt PySem.MeetsSeq PySem.MeetsSeq2 PySem.MeetsSeq3
theorem NT(p q:aaG)(us vs:Array aaM)(k k2:Nat)(d1 d2:Option aaG)(z1 z2:Array (Option aaM))(is js:List Int)(ui:IntsAre us.toList is)(vi:IntsAre vs.toList js) :
  Meets (Builtin.«tuple.__le__» ⟨[.ref p,.ref q],[]⟩)
   (λ_ R s=>s.heap.get? p=some { cls:=.type "tuple",dict:=d1,data:=.seq us k,slots:=z1 }/\s.heap.get? q=some { cls:=.type "tuple",dict:=d2,data:=.seq vs k2,slots:=z2 }/\
    R (.ok (.ret (.bool (lexLe is js)))) s) :=
 .of_wp λprog w A R s hh=>by
  obtain⟨hp,g,d,tk,os⟩:=s
  obtain⟨gp,gq,hr⟩:=hh
  have sb:=K0
  have n1:us.size=is.length:=by rw[<-ui.length];simp
  have n2:vs.size=js.length:=by rw[<-vi.length];simp
  wp_walk using PySem.AutoSeq1.wpAny_loadPart' gp,PySem.AutoSeq1.wpAny_loadPart' gq,wpAny_forIn_list _ (λtodo b s'=>b.1=none/\s'=⟨hp,g,d,tk,os⟩/\∃(as bs:List aaM)(is' Ph:List Int),todo=as.zip bs/\
   IntsAre as is'/\IntsAre bs Ph/\is'.length+vs.size=Ph.length+us.size/\R (.ok (.ret (.bool (lexLe is' Ph)))) ⟨hp,g,d,tk,os⟩) _
  case turn=>
   rintro⟨y,x⟩ todo b s' ⟨e0,rfl,as,bs,is',Ph,ez,hi1,hi2,hn,hR⟩
   cases hi1 with
   | nil=>simp at ez
   | cons a t UT=>
    cases hi2 with
    | nil=>simp at ez
    | cons c u UU=>
     rw[Am] at ez
     injection ez with e1 e2
     injection e1 with e3 e4
     subst e3 e4
     unfold lexLe at hR
     simp only[cG] at hn
     obtain⟨e,he,ei⟩:=HT.wL A.in1 ⟨hp,g,d,tk,os⟩ a t c u
     refine aa0 (he prog w _ _ ?_)
     cases e with
     | true=>
      rw[if_pos (ei.mp rfl)] at hR
      wp_walk
      exact⟨rfl,rfl,_,_,_,_,e2,UT,UU,by omega,hR⟩
     | false=>
      rw[if_neg (λx=>absurd (ei.mpr x) bD)] at hR
      have rc:=Fy A.in1 ⟨hp,g,d,tk,os⟩ a t c u prog w
      wp_walk using rc
      exact⟨_,rfl,by simpa using hR⟩
  case fin=>
   rintro⟨b1,b2⟩ s' ⟨e0,rfl,as,bs,is',Ph,ez,hi1,hi2,hn,hR⟩
   simp only at e0
   subst e0
   have fz:lexLe is' Ph=decide (us.size<=vs.size):=by
    cases hi1 with
    | nil=>
     simp only[jK] at hn
     unfold lexLe
     exact(decide_eq_true (by omega)).symm
    | cons a t hv=>
     cases hi2 with
     | nil=>
      simp only[jK,cG] at hn
      unfold lexLe
      exact(decide_eq_false (by omega)).symm
     | cons c u hw=>simp at ez
   rw[fz] at hR
   wp_walk
   exact⟨_,rfl,by simpa [MB] using hR⟩
  case h=>exact⟨rfl,rfl,us.toList,vs.toList,is,js,rfl,ui,vi,by omega,hr⟩
end
theorem JC{prog:aaK}{w:aaN}{A:aaH}{E:aaM->aaL->Prop}{s:aaL}{p q:aaG}{us vs:Array aaM}{is js:List Int}{Q:aaM->aaL->Prop}(hp:IsTup s.heap p us)(hq:IsTup s.heap q vs)(ui:IntsAre us.toList is)(vi:IntsAre vs.toList js)
  (hu:A.units < cLine)(k:Q (.bool (lexLe is js)) s):aaZ (model prog w) A (aaT .LtE (.ref p) (.ref q)) Q E s:=by
 obtain⟨⟨c1,d1,dt1,YN⟩,o1,e1,n1,f1⟩:=id hp
 obtain⟨⟨c2,d2,dt2,sl2⟩,o2,e2,n2,f2⟩:=id hq
 dsimp only at e1 f1 e2 f2
 subst e1 f1 e2 f2
 exact richCompare_meets_room (op:=.LtE) ⟨_,o1,rfl⟩ ⟨_,o2,rfl⟩ PySem.F.slot_tuple_le PySem.F.entry_tuple_le (PySem.F.args_tuple_le_2 _ _) (NT p q us vs n1 n2 d1 d2 YN sl2 is js ui vi)
  ⟨o1,o2,show jA (lexLe is js)≠Il/\Q (.bool (lexLe is js)) s from⟨(λx=>nomatch x),k⟩⟩ hu
variable {X:Cx}
def UW(K:PySem.W.Frag):R2:=λx y H Q=>∃a b is js,x= .ref a/\y= .ref b/\gN K H a (is.map V.int)/\gN K H b (js.map V.int)/\Q (.bl (lexLe is js)) H
theorem NU(hu:X.A.units < cLine):eM X (aaT .LtE) (UW X.K):=by
 intro pins s σ H x y v u Q I rx ry h
 obtain⟨a,b,is,js,rfl,rfl,ha,hb,q⟩:=h
 cases rx
 cases ry
 obtain⟨us,r1,p1,_⟩:=I.tuple ha
 obtain⟨vs,r2,p2,_⟩:=I.tuple hb
 exact JC p1 p2 (L2.intsAre_of r1) (L2.intsAre_of r2) hu ⟨.bl (lexLe is js),H,I,rfl,q⟩
def iq:List Wv->Option (List Int)
 | []=>some []
 | .int i::r=>(iq r).map (i::·)
 | _=>none
theorem kq{K:PySem.W.Frag}{m:Mp}{H:Hp}:∀{ws:List Wv}{xs:List V}{is:List Int},ai K m H ws xs->iq ws=some is->xs=is.map V.int
 | [],xs,is,r,e=>by
  unfold ai at r
  cases e
  exact r
 | w::ws,xs,is,r,e=>by
  unfold ai at r
  obtain⟨x,rr,rfl,h1,h2⟩:=r
  cases w with
  | int i=>
   unfold iq at e
   cases e1:iq ws with
   | none=>rw[e1] at e;cases e
   | some js=>
    rw[e1] at e
    cases e
    have hi:x= .int i:=by unfold aj at h1;exact h1
    rw[hi,kq h2 e1]
    rfl
  | _=>unfold iq at e;cases e
def oLe:gO:=λx y st=>match x,y with
 | .tup xs,.tup ys=>(match iq xs,iq ys with | some is,some js=> .ok (.bl (lexLe is js)) st | _,_=> .bad)
 | x,y=>QD x y st
theorem NV(hu:X.A.units+64 < cLine):jw X (aaT .LtE) oLe:=by
 obtain⟨r,h1,h2⟩:=QF (X:=X)
 refine⟨_,eM.or h1 (NU (by omega)),λx y a b st H m Q S rx ry p=>?_⟩
 cases x with
 | tup xs=>
  cases y with
  | tup ys=>
   have p':cS X.K m H (match iq xs,iq ys with | some is,some js=> .ok (.bl (lexLe is js)) st | _,_=> .bad) Q:=p
   unfold aj at rx ry
   obtain⟨c,us,rfl,f1,f2⟩:=rx
   obtain⟨d,vs,rfl,g1,g2⟩:=ry
   cases e1:iq xs with
   | none=>rw[e1] at p';exact ae p'
   | some is=>
    cases e2:iq ys with
    | none=>rw[e1,e2] at p';exact ae p'
    | some js=>
     rw[e1,e2] at p'
     have:=kq f2 e1
     subst this
     have:=kq g2 e2
     subst this
     exact .inr ⟨c,d,is,js,rfl,rfl,gN.of f1,gN.of g1,p' _ m H Ext.refl S iB⟩
  | _=>exact .inl (h2 _ _ _ _ st H m Q S rx ry p)
 | _=>exact .inl (h2 _ _ _ _ st H m Q S rx ry p)
def Rb:gO:=λx y st=>match x,y with
 | .tup xs,.tup ys=>(match iq xs,iq ys with | some is,some js=> .ok (.bl (HT.lexLt is js)) st | _,_=> .bad)
 | x,y=>QC x y st
theorem NW(hu:X.A.units+64 < cLine):jw X (aaT .Lt) Rb:=by
 obtain⟨r,h1,h2⟩:=QE (X:=X)
 refine⟨_,eM.or h1 (MF (by omega)),λx y a b st H m Q S rx ry p=>?_⟩
 cases x with
 | tup xs=>
  cases y with
  | tup ys=>
   have p':cS X.K m H (match iq xs,iq ys with | some is,some js=> .ok (.bl (HT.lexLt is js)) st | _,_=> .bad) Q:=p
   unfold aj at rx ry
   obtain⟨c,us,rfl,f1,f2⟩:=rx
   obtain⟨d,vs,rfl,g1,g2⟩:=ry
   cases e1:iq xs with
   | none=>rw[e1] at p';exact ae p'
   | some is=>
    cases e2:iq ys with
    | none=>rw[e1,e2] at p';exact ae p'
    | some js=>
     rw[e1,e2] at p'
     have:=kq f2 e1
     subst this
     have:=kq g2 e2
     subst this
     exact .inr ⟨c,d,is,js,rfl,rfl,gN.of f1,gN.of g1,p' _ m H Ext.refl S iB⟩
  | _=>exact .inl (h2 _ _ _ _ st H m Q S rx ry p)
 | _=>exact .inl (h2 _ _ _ _ st H m Q S rx ry p)
structure uC(k:Nat)(A:aaH):Prop where
 d:A.depth+3 * k+5 < recursionLimit
 u:A.units+16 * k+200 < cLine
theorem uC.of{k:Nat}{A:aaH}(r:lK k A):uC k A:=⟨r.dp,r.un⟩
structure Rc(P:aaK)(w:aaN)(K:PySem.W.Frag)(mg:Str->Option aaM)(base:Heap)(k:Nat)(f:aaG)(fd:aaI)(ps:List Str)(sp:Sp):Prop where
 n:∀vs H Q E,sp vs H Q E->vs.length=ps.length
 go:∀(A:aaH)(outer:List Env)(s:aaL)(H:Hp)(args:Args)(us:List aaM)(vs:List V)(Q:VK)(E:XK),uC k A->Cg A H->yB P w K mg base A outer s H->
  BindsTo s fd args (ps.zip us)->Vals vs us->sp vs H Q E->aaR (model P w) A (.call (.ref f) args) (CR (CXJ P w) outer P w H s Q E) s
section
variable {P:aaK} {w:aaN} {K:PySem.W.Frag} {mg:Str->Option aaM} {base:Heap}
end
section
variable {X:Cx}
end
def JD(P:aaK)(w:aaN)(K:PySem.W.Frag)(mg:Str->Option aaM)(base:Heap)(k:Nat)(x:Str)(n:Nat)(F:List Wv->Hs->Re Wv):Prop :=
 ∃f fd ps,Rc P w K mg base k f fd ps (spW K n F)/\mg x=some (.ref f)/\PySem.W.keepIn K (.ref f)=true/\Binds K fd ps []
section
variable {X:Cx}
end
section
variable {X:Cx}
end
section
variable {X:Cx}
end
open Classical in
section
variable {X:Cx}
end
open Classical in
section
variable {X:Cx} {pins:List (aaG×Obj)} {σ:St} {H:Hp} {s:aaL} {scope:Scope} {x:Str} {xr:List Str} {cs:ip}
end
section
variable {prog:aaK} {w:aaN} {A:aaH} {R:Result->aaL->Prop} {s:aaL}
end
section
variable {X:Cx}
end
section
variable {X:Cx}
theorem Fz{ob:Expr}{name:Str}{id:String}{e:Expr}{go ga:GE}{apos cpos:Pos}{mt:Wv->Wv->Hs->Re Wv}(hm:QX X id mt)(slot:Slot "list" name id)(hty:typeOf (.builtin id)=pure (.type "method_descriptor"))(hbase:attributeBase ob name X.env (eval ob X.env)=eval ob X.env)(ho:JE X ob go)(ha:JE X e ga)
  (hst:aaY [e] X.env=[(false,eval e X.env)])(hline:(apos.endLine == cpos.line)=true):JE X (.Call (.Attribute ob name apos) [e] [] cpos) (gP mt go ga):=by
 obtain⟨r,h1,h2⟩:=hm
 have hfew:((backTo cpos (aaY [e] X.env)).all (λx=> !x.1)&&(backToKw cpos (keywordEach [] X.env)).all (λx=>x.1.isSome)&&decide ([e].length+([]:List Keyword).length+(if([]:List Keyword).isEmpty then 0 else 1) < 30))=true:=by
  rw[hst];rfl
 refine JE.of (K4 PySem.F.plainAttrs_list slot hty h1 aE ke hbase hfew hline hst rfl) λρ st σ H m Q S R p=>?_
 refine ho.go S R (ax.bind p) λo st1 v m1 H1 p1 e1 S1 ro=>?_
 cases o with
 | ref l=>
  dsimp only at p1
  cases el:ao st1 l with
  | none=>rw[el] at p1;exact ae p1
  | some Yq=>
   rw[el] at p1
   dsimp only at p1
   have QY:=ro
   unfold aj at QY
   obtain⟨a,rfl,hla⟩:=QY
   obtain⟨xs,hq,_⟩:=S1.read hla el
   refine⟨.inl ⟨rfl,xs,hq⟩,?_⟩
   refine(vq ha yU hst).go S1 (R.mono e1) (ok:=λws st2=>ax X σ m H (match ws with | [w]=>(mt (.ref l) w st2).lJ | _=> .bad) (II X.K m H Q)) ?_ λws st2 vs m2 H2 p2 e2 S2 rs=>?_
   ·have p3:=(ax.bind p1).imp e1 (λ_ _ q=>q)
    show ax X σ m1 H1 ((ga ρ st1).bind λx st1=>(aq ρ st1).bind λxs st2=> .ok (x::xs) st2) _
    cases eg:ga ρ st1 with
    | ok w st2=>rw[eg] at p3;exact p3
    | err c st2=>rw[eg] at p3;exact p3
    | bad=>rw[eg] at p3;exact p3
   ·match ws,rs,p2 with
    | [],rs,p2=>exact ae p2
    | [w],rs,p2=>
     obtain⟨v2,rfl,UB⟩:=nk rs
     exact h2 (.ref l) w (.ref a) v2 st2 H2 m2 Q S2 (aj.mono e2 _ _ ro) UB (cS.shift (ax.lJ p2) (e1.trans e2))
    | _::_::_,rs,p2=>exact ae p2
 | _=>exact ae p1
end
section
open PySem.SeqAt PySem.MeetsSeq PySem.MeetsSeq2 PySem.MeetsSeq3
end
section
variable {X:Cx}
end
section
variable {X:Cx}
end
section
variable {X:Cx}
def FA(kvs:Dc)(gk gx:GE):GE:=λρ st=>(gk ρ st).bind λk st1=>(gx ρ st1).bind λx st2=>match k with
 | .str z=> .ok ((kvs.lookup z).getD x) st2
 | _=> .bad
theorem FC{e f:Expr}{gk gx:GE}{x:Str}{p apos cpos:Pos}{kvs:Dc}(he:JE X e gk)(hf:JE X f gx)(M:M2 X (.Name x p) "get" apos e f cpos)(hg:Gl X x)(hd:(x == ("__debug__":Str))=false)(D:oJ X.K X.w X.mg x kvs):JE X (.Call (.Attribute (.Name x p) "get" apos) [e,f] [] cpos) (FA kvs gk gx):=by
 intro ρ st σ H m Q S R pp pins s I
 obtain⟨a,es,ep,g1,g2,g3,g4,g5⟩:=D
 have k1:=he.go (T:=λy H2=>∃k st1 m1,fT X σ m H ((gx ρ st1).bind λx st2=>match k with | .str z=> .ok ((kvs.lookup z).getD x) st2 | _=> .bad) Q/\Ext X.K m H m1 H2/\bG X.K m1 st1 H2/\aj X.K m1 H2 k y) S R (ax.bind pp) λw st1 v m1 H1 p1 e1 S1 rw'=>⟨w,st1,m1,p1,e1,S1,rw'⟩
 refine wpAny_Call_method M.base M.few M.line PySem.F.plainAttrs_dict PySem.F.slot_dict_get PySem.F.type_dict_get (a9 (iJ (v:=.ref a) hg g1 rfl hd pins s σ H (λv H2=>v= .ref a/\H2=H) I ⟨rfl,rfl⟩) λu s1 ⟨v,H1,I1,rv,ev,eH⟩=>?_)
 subst ev
 cases eH
 obtain rfl:u=aR a:=rv
 refine⟨⟨_,I1.Ag _ _ g2,rfl⟩,λa' e=>by cases e;exact⟨_,I1.Ag _ _ g2,rfl⟩,?_⟩
 rw[M.trees]
 refine vh rfl (yL (q8 (a9 (k1 pins s1 I1) λiv s2 ⟨y,H2,I2,ry,k,st1,m1,p1,e1,S1,rk⟩=>?_)))
 have k2:=hf.go (T:=λz H3=>∃x' st2 m2,fT X σ m H (match k with | .str z=> .ok ((kvs.lookup z).getD x') st2 | _=> .bad) Q/\Ext X.K m H m2 H3/\bG X.K m2 st2 H3/\aj X.K m2 H3 x' z) S1 (R.mono e1) ((ax.bind p1).imp e1 λ_ _ q=>q) λw st2 v m2 H3 p2 e2 S2 rw'=>⟨w,st2,m2,p2,e1.trans e2,S2,rw'⟩
 refine q8 (a9 (k2 pins s2 I2) λfv s3 ⟨z,H3,I3,rz,x',st2,m2,p2,e2,S2,rx⟩=>yA ?_)
 cases k with
 | str zs=>
  obtain⟨rfl,_⟩:=gj rk
  obtain⟨t,rfl⟩:=(show ∃t,iv=mz zs t from ry)
  obtain⟨vs,dd,look⟩:=qO (P:=X.prog) (w:=X.w) I3.Ag g2 g4 g5
  refine call_meetsIn PySem.F.slot_dict_get dd.typeIs PySem.F.entry_dict_get (PySem.F.args_dict_get_3 _ _ _) (meets_dict_get_default (PySem.strKind X.prog X.w) a (strKind_is X.prog X.w zs t) g3 fv) ⟨_,dd.mapOf,?_⟩
  have p2':II X.K m H Q ((kvs.lookup zs).getD x') st2:=p2
  cases e:kvs.lookup zs with
  | none=>
   rw[e] at p2'
   have q:=(look zs).1 e
   show EP X pins σ Q ((valueAt vs zs).getD fv) _
   rw[q]
   exact⟨z,H3,I3.tok _,rz,p2' z m2 H3 e2 S2 rx⟩
  | some u=>
   rw[e] at p2'
   obtain⟨u',q1,q2⟩:=(look zs).2 u e
   show EP X pins σ Q ((valueAt vs zs).getD fv) _
   rw[q1]
   cases u with
   | int i=>exact⟨.int i,H3,I3.tok _,q2,p2' _ m2 H3 e2 S2 (by unfold aj;rfl)⟩
   | str y=>exact⟨.str y,H3,I3.tok _,q2.1,p2' _ m2 H3 e2 S2 (by unfold aj;exact⟨rfl,q2.2⟩)⟩
   | _=>exact ae q2
 | _=>exact ae p2
end
def Rf:List Wv->Hs->Re Wv:=λ_ _=> .bad
theorem JF{P:aaK}{w:aaN}{K:PySem.W.Frag}{mg:Str->Option aaM}{base:Heap}{h:Heap}{k:Nat}{x:Str}{st:Stmt}{ps:List Str}(KX:K.In h)(NS:h.Ns aaW mg)(D:bh K x st)
  (hb:∀(kV doc pm:aaM)(an:Option aaG)(cdv ct:aaM)(us:List aaM),us.length=ps.length->bindArgs (PySem.W.fnOf x x (defArgs st) (defBody st) (defScope st) .none kV doc pm an cdv ct) ⟨us,[]⟩=pure (ps.zip us)) :
  f7 P w K mg base k x ps.length Rf:=by
 obtain⟨f,fd,a,F⟩:=D
 exact⟨f,fd,ps,⟨λvs H Q E ⟨_,_,_,_,_,_,p⟩=>ae p,λA outer s H args us vs Q E hr e0 hb r ⟨_,_,_,_,_,_,p⟩=>ae p⟩,PySem.W.mg_of KX NS a,F.kp,F.binds hb⟩
section
variable {X:Cx}
theorem FD:eM X (aaP .Mult) (λx y H Q=>∃z n,x= .str z/\y= .int n/\(n=0\/n=1)/\Q (.str (if n=0 then PySem.Str.empty else z)) H):=by
 intro pins s σ H x y v u Q I rx ry h
 obtain⟨z,n,rfl,rfl,hn,q⟩:=h
 obtain⟨t,rfl⟩:=rx
 obtain⟨t',rfl⟩:=ry
 rcases hn with rfl | rfl
 ·exact PySem.P.mul_str_none (by omega) (by omega) ⟨.str PySem.Str.empty,H,I.tok _,⟨_,rfl⟩,q⟩
 ·refine PySem.P.mul_str (by decide) (λ_ h=>by cases h) (λ_ h=>by cases h) ?_
  rw[if_neg (by omega),if_pos (by rfl)]
  exact⟨.str z,H,I,⟨t,rfl⟩,q⟩
def b8:gO:=λx y st=>match x,y with
 | .str z,.int n=>if n=0\/n=1 then .ok (.str (if n=0 then PySem.Str.empty else z)) st else rS (.str z) (.int n) st
 | x,y=>rS x y st
theorem FE:jw X (aaP .Mult) b8:=by
 obtain⟨r,h1,h2⟩:=Jn (X:=X)
 refine⟨_,eM.or FD h1,λx y a b st H m Q S rx ry p=>?_⟩
 cases x with
 | str z=>
  cases y with
  | int n=>
   have p':cS X.K m H (if n=0\/n=1 then .ok (.str (if n=0 then PySem.Str.empty else z)) st else rS (.str z) (.int n) st) Q:=p
   by_cases c:n=0\/n=1
   ·rw[if_pos c] at p'
    obtain⟨rfl,ok⟩:=gj rx
    refine .inl ⟨z,n,rfl,aV ry,c,p' _ m H Ext.refl S (mkStr ?_)⟩
    by_cases c0:n=0
    ·rw[if_pos c0];decide+kernel
    ·rw[if_neg c0];exact ok
   ·rw[if_neg c] at p'
    exact .inr (h2 _ _ _ _ st H m Q S rx ry p')
  | _=>exact .inr (h2 _ _ _ _ st H m Q S rx ry p)
 | _=>exact .inr (h2 _ _ _ _ st H m Q S rx ry p)
end
abbrev LF:=List Wv->List Wv->Hs->Re Wv
section
variable {X:Cx} {pins:List (aaG×Obj)} {σ:St} {H:Hp} {s:aaL}
theorem A2{h B B':Heap}:∀{l:List Env},(∀env∈l,∀L,env.frame=some L->B'.get? L=none)->h.FunFrames B l->h.FunFrames B' l
 | [],_,_=>trivial
 | env::r,hn,⟨hk,⟨L,o,hf,_,ho,hd⟩,hr⟩=>⟨hk,⟨L,o,hf,hn env (.head _) L hf,ho,hd⟩,A2 (λe he=>hn e (.tail _ he)) hr⟩
end
def W'(K:PySem.W.Frag)(n:Nat)(p:Lm)(L:LF):Sp:=λvs H Q E=>∃m st ws caps,bG K m st H/\ai K m H ws vs/\ai K m H caps p.xs/\H p.c=some (.ext (AA p.c p.q))/\ws.length=n/\Lf K m H (L caps ws st) Q E
def FF(P:aaK)(w:aaN)(K:PySem.W.Frag)(mg:Str->Option aaM)(base:Heap)(k:Nat)(p:Lm)(n:Nat)(L:LF):Prop :=
 ∃fd ps ob,FnOk P w K mg base (CXJ P w) k p.a fd ps (W' K n p L)/\base.get? p.a=some ob/\ob.data= .func fd/\Binds K fd ps []
open Classical in
section
variable {X:Cx}
end
section
variable {P:aaK} {w:aaN} {K:PySem.W.Frag} {mg:Str->Option aaM} {base:Heap} {p:Lm} {scope:Scope} {x1 x2 x3 y:Str} {cy:aaG}
theorem UX{m:Mp}{H:Hp}{ws:List Wv}{vs:List V}(r:ai K m H ws vs)(h:ws.length=3):∃w1 w2 w3 v1 v2 v3,ws=[w1,w2,w3]/\vs=[v1,v2,v3]/\aj K m H w1 v1/\aj K m H w2 v2/\aj K m H w3 v3:=by
 match ws,h with
 | [w1,w2,w3],_=>
  unfold ai at r
  obtain⟨v1,t1,rfl,r1,r⟩:=r
  unfold ai at r
  obtain⟨v2,t2,rfl,r2,r⟩:=r
  unfold ai at r
  obtain⟨v3,t3,rfl,r3,r⟩:=r
  unfold ai at r
  subst r
  exact⟨w1,w2,w3,v1,v2,v3,rfl,rfl,r1,r2,r3⟩
end
structure Lp(X:Cx)(q:Str)(P:aaG):Prop where
 code:∃c,X.env.code= .ref c/\PySem.W.CodeHd X.base c P
 qual:X.env.qual=q++".<locals>."
 tab:kJ X.K q=some P
 mem:q∈dY
 uniq:∀q',q'∈dY->kJ X.K q'=some P->q'=q
 bm:∃bm ob,X.mg "__builtins__"=some (.ref bm)/\bm≠builtinsNs/\bm≠aaW/\X.base.get? bm=some ob/\ob.cls= .type "module"/\ob.dict=some builtinsNs/\ob.data= .plain
section
variable {X:Cx} {pins:List (aaG×Obj)} {σ:St} {H:Hp} {s:aaL} {q:Str} {P:aaG}
end
abbrev Xa:=Lm->LF->List Wv->Hs->Re Wv
def UY(mg:Str->Option aaM)(base:Heap):Prop:=∃bm ob,mg "__builtins__"=some (.ref bm)/\bm≠builtinsNs/\bm≠aaW/\base.get? bm=some ob/\ob.cls= .type "module"/\ob.dict=some builtinsNs/\ob.data= .plain
def Cz(K:PySem.W.Frag)(mg:Str->Option aaM)(base:Heap):Prop:=Mod K mg base/\UY mg base
def Xb(P:aaK)(w:aaN)(K:PySem.W.Frag)(mg:Str->Option aaM)(k j:Nat)(x:Str)(FL:Xa):Prop :=
 (∃f,mg x=some (.ref f)/\PySem.W.keepIn K (.ref f)=true)/\∀(base:Heap)(p:Lm)(L:LF),Cz K mg base->FF P w K mg base (j+1) p 3 L->f7 P w K mg base k x 2 (FL p L)
section
variable {X:Cx}
end
section
variable {P:aaK} {w:aaN} {A:aaH} {E:aaM->aaL->Prop} {s:aaL}
end
theorem UZ(a b c d:aaM):argsOk "object.__init__" ⟨[a,b,c,d],[]⟩:=by
 unfold argsOk;rw[signature?_of (id:="object.__init__") (n:=['_','_','t','i','n','i','_','_']) (o:=['t','c','e','j','b','o']) (by kernel_rfl) F.owner_object];kernel_rfl
section
variable {P:aaK} {w:aaN} {A:aaH} {E:aaM->aaL->Prop} {s:aaL}
end
section
variable {P:aaK} {w:aaN} {A:aaH} {E:aaM->aaL->Prop} {s:aaL}
end
section
variable {X:Cx}
end
def U0(lo c:Int)(n:Nat):It:=⟨λi _=>i < n,λi H v H'=>H'=H/\v= .int (lo+i * c),λi _=>n<=i⟩
theorem xt{P:aaK}{w:aaN}{K:PySem.W.Frag}{tg:Expr}(it:aaG)(lo c:Int)(n:Nat):Turn P w K tg (U0 lo c n) [it] it (λi h=>IsRangeIter h it (lo+(i:Nat) * c) ((n:Int) - (i:Nat)) c) where
 mem:=by simp
 obj:=λi h st b hb=>by
  have e:b=it:=by simpa using hb
  subst e
  exact⟨_,st,λv z=>by cases z⟩
 keep:=λi h h' st k=>k it (by simp) _ st
 item:=by
  intro X hP hw hK hc i pins s σ H E I hf st hg
  subst hP hw hK
  obtain⟨f0,f1,f2,f3,f4,f5⟩:=hf it (by simp)
  have W:=Walks.range (prog:=X.prog) (w:=X.w) (I.ok.hd hc) it lo c n
  refine W.item i s _ _ hg st λv h' tk hv st' kk=>?_
  obtain⟨t,rfl⟩:=hv
  have I1:Inv X pins σ H { s with heap:=h',toks:=tk }:=I.turned (λb o hb e=>kk b o (by simpa using hb) e) f0 f1 f3 f4 f5
  exact⟨_,rfl,qg (s:={ s with heap:=h',toks:=tk }) (n:="range_iterator") st' rfl rfl (by decide) ⟨.int (lo+i * c),H,I1,⟨t,rfl⟩,⟨rfl,rfl⟩,st',λb hb=>(hf b hb).1⟩⟩
 done:=by
  intro X hP hw hK hc i pins s σ H E I hf st hg
  subst hP hw hK
  obtain⟨f0,f1,f2,f3,f4,f5⟩:=hf it (by simp)
  exact wpAny_pyNext_range_end (I.ok.hd hc) st (by have:n<=i:=hg;omega) λh' eb=>⟨rfl,I.turned (t':=s.toks) (λb o hb e=>eb b o hb e) f0 f1 f3 f4 f5⟩
 self:=λ_ _ _ _ _ st h=>wpAny_pyIter_rangeiter st h
theorem CA(a b c:aaM):checkTypeCall "range" ⟨[a,b,c],[]⟩=pure ():=by kernel_rfl
theorem CB(a b c:aaM):checkBuiltinCall "range.__new__" ⟨[.type "range",a,b,c],[]⟩=pure ():=by kernel_rfl
def Dz(a b c:Int):Prop:=0<=a/\a < 2 ^ 30/\0<=b/\b < 2 ^ 30/\1<=c/\c < 2 ^ 30
instance {a b c}:Decidable (Dz a b c):=ET _
def jd(a b c:Int):Nat:=(if a < b then(b - a - 1) / c+1 else 0).toNat
theorem CC{a b c:Int}(h:Dz a b c):u5 a b c=jd a b c:=by
 obtain⟨h1,h2,h3,h4,h5,h6⟩:=h
 unfold u5 jd
 rw[if_pos (by omega)]
 by_cases e:a < b
 ·rw[if_pos e]
  have:0<=(b - a - 1) / c:=Int.ediv_nonneg (by omega) (by omega)
  omega
 ·rw[if_neg e];rfl
theorem zp{a b c:Int}(h:Dz a b c):NX a b c=true:=by
 obtain⟨h1,h2,h3,h4,h5,h6⟩:=h
 unfold NX u5
 have d1:0<=(b - a - 1) / c\/¬a < b:=by
  by_cases e:a < b
  ·exact .inl (Int.ediv_nonneg (by omega) (by omega))
  ·exact .inr e
 have d2:a < b->(b - a - 1) / c<=b - a - 1:=λe=>Int.ediv_le_self _ (by omega)
 simp only[Builtin.Range.rangeFitsLong,ff,yX,decide_eq_true_eq,beq_iff_eq,show c > 0 by omega,if_true]
 split<;>omega
theorem Rg{a b c:Int}(h:Dz a b c):NY (b - a) c=false:=by
 obtain⟨h1,h2,h3,h4,h5,h6⟩:=h
 have e0:(c == 0)=false:=by rw[beq_eq_false_iff_ne];omega
 have e1:c.natAbs.log2 < 30:=(Nat.log2_lt (by omega)).mpr (by omega)
 have e2:c.natAbs.log2 / 30=0:=Nat.div_eq_of_lt e1
 simp[NY,e0,e2]
theorem xu{P:aaK}{w:aaN}{A:aaH}{E:aaM->aaL->Prop}{s:aaL}{a b c:Int}{t u v:Tok}{Q:aaM->aaL->Prop}(h:Dz a b c)
  (k:Q (.ref s.heap.objs.size) { s with heap:=s.heap.push { cls:=.type "range",data:=.fields #[.int a t,.int b u,.int c v] } }):aaZ (model P w) A (call (.type "range") [.int a t,.int b u,.int c v]) Q E s:=by
 refine callType_new F.called_range (by decide) (CA _ _ _) (CB _ _ _) (λobj=>UZ obj _ _ _) F.entry_range_new (AutoRange.range___new___type_int_int_int_1 a b c t u v F.called_range.sub ?_) ⟨Rg h,⟨_,cE _ rfl,rfl⟩,k⟩
 have:c≠0:=by have:=h.2.2.2.2.1;omega
 simpa using this
section
variable {X:Cx} {tg:Expr}
def Rh(ta:TA):TI:=λσ H R=>ta σ H λvs H1=>∃a b c:Int,vs=[.int a,.int b,.int c]/\Dz a b c/\R (U0 a c (jd a b c)) H1
theorem ints3{a b c:Int}{us:List aaM}(r:Vals [.int a,.int b,.int c] us):∃t u v,us=[.int a t,.int b u,.int c v]:=by
 cases r with
 | cons r1 r=>
  cases r with
  | cons r2 r=>
   cases r with
   | cons r3 r=>
    cases r
    obtain⟨t,rfl⟩:=r1
    obtain⟨u,rfl⟩:=r2
    obtain⟨v,rfl⟩:=r3
    exact⟨t,u,v,rfl⟩
theorem CD{l:Expr}{ls:List Expr}{ta:TA}{p pos:Pos}(hg:Gl X "range")(hm:X.mg "range"=none)(ha:PA X (l::ls) ta)(hst:aaY (l::ls) X.env=(false,eval l X.env)::aaY ls X.env)(hpl:(backTo pos (aaY ls X.env)).any (·.1)=false) :
  PI X tg (.Call (.Name "range" p) (l::ls) [] pos) (Rh ta):=by
 intro pins s σ H R I h
 refine wpAny_Call_Name_kw (nL I hg hm boot_range ?_)
 refine qE (a9 (ha pos pins s σ H _ I h) λus s1 ⟨vs,H1,I1,r1,q1⟩=>?_) hst hpl
 obtain⟨a,b,c,rfl,hc,q⟩:=q1
 obtain⟨t,u,v,rfl⟩:=ints3 r1
 refine xu hc ?_
 refine wpAny_pyIter_range (IsRange.new ..) (zp hc) ?_
 have I2:Inv X pins σ H1 { s1 with heap:=s1.heap.push { cls:=.type "range",data:=.fields #[.int a t,.int b u,.int c v] } }:=I1.kept (t':=s1.toks) λb o e=>bK _ e
 refine⟨(s1.heap.push { cls:=.type "range",data:=.fields #[.int a t,.int b u,.int c v] }).objs.size,[(s1.heap.push { cls:=.type "range",data:=.fields #[.int a t,.int b u,.int c v] }).objs.size],_,_,H1,rfl,I2.kept (t':=s1.toks) λb o e=>bK _ e,xt _ a c (jd a b c),?_,λy hy=>?_,q⟩
 ·have e1:a+((0:Nat):Int) * c=a:=by simp
  have e2:((jd a b c:Nat):Int) - ((0:Nat):Int)=u5 a b c:=by rw[CC hc];simp
  show IsRangeIter _ _ (a+((0:Nat):Int) * c) (((jd a b c:Nat):Int) - ((0:Nat):Int)) c
  rw[e1,e2]
  exact cE _ rfl
 ·have e:y=(s1.heap.push { cls:=.type "range",data:=.fields #[.int a t,.int b u,.int c v] }).objs.size:=by simpa using hy
  subst e
  exact I2.yq (au _) (I2.hok.fresh (au _))
def qx(lo c:Int)(n:Nat):List Wv:=(eL n).map λk:Nat=>Wv.int (lo+k * c)
theorem oP{lo c:Int}{n:Nat}:(qx lo c n).length=n:=by unfold qx;simp
theorem uD{lo c:Int}{n k:Nat}(h:k < n):(qx lo c n)[k]? =some (.int (lo+k * c)):=by
 unfold qx
 rw[fh,List.getElem?_range h]
 rfl
theorem FH{lo c:Int}{n k:Nat}(h:k < (qx lo c n).length):(qx lo c n)[k]= .int (lo+k * c):=by
 have q:=uD (lo:=lo) (c:=c) (n:=n) (k:=k) (by rw[oP] at h;exact h)
 rw[dD h] at q
 exact Option.some.inj q
def sf(i:Nat)(ga:GA)(gb:GS):GS:=λρ st=>(ga ρ st).a9 ρ λws st1=>match ws with
 | [.int a,.int b,.int c]=>if Dz a b c then du i gb (qx a c (jd a b c)) ρ st1 else .bad
 | _=> .bad
theorem FI(i:Nat){x:Str}{l:Expr}{ls:List Expr}{body:List Stmt}{ga:GA}{gb:GS}{pos pos' p q:Pos}(hN:X.N.Nodup)(hp:PassesOwn (model X.prog X.w) X.A X.env X.xe)(hc:X.calm=true)(hg:Gl X "range")(hm:X.mg "range"=none)(ha:JA X (l::ls) ga)(hb:ph X body gb)
  (hx:X.N[i]? =some x)(hlo:Loc X.env.scope x)(Jd:X.fn x=true\/X.env.scope.names.lookup x=some .local)(hst:aaY (l::ls) X.env=(false,eval l X.env)::aaY ls X.env)(hpl:(backTo q (aaY ls X.env)).any (·.1)=false) :
  JS X (.For (.Name x pos') (.Call (.Name "range" p) (l::ls) [] q) body [] pos) (sf i ga gb):=by
 refine JS.of (pz hp hc (CD hg hm ke hst hpl) (mC hN hx hlo Jd) f_ (λ_=>rfl)) λρ st σ H m D S R p=>?_
 refine ha.go S R (aK.cO R p) λws st1 vs m1 H1 p1 e1 S1 rs=>?_
 split at p1
 ·rename_i a b c
  by_cases cc:Dz a b c
  ·rw[if_pos cc] at p1
   obtain⟨w1,w2,w3,v1,v2,v3,e,rfl,r1,r2,r3⟩:=UX rs rfl
   cases e
   cases aV r1
   cases aV r2
   cases aV r3
   refine⟨a,b,c,rfl,cc,kj (J':=U0 a c (jd a b c)) i hb S1 (R.mono e1) (aK.shift p1 e1) (λk H m' e hk=>by rw[oP] at hk;exact hk) (λk H m' e hk=>by rw[oP] at hk;exact qG hk.symm) λk hk H x H' m' e y=>?_⟩
   obtain⟨y1,y2⟩:=y
   refine⟨y1,?_⟩
   rw[FH,y2]
   exact mkInt
  ·rw[if_neg cc] at p1;exact ae p1
 ·exact ae p1
end
section
variable {X:Cx}
end
def uE(gt:GT)(gb:GS):Nat->bF->Hs->Rs
 | 0,_,_=> .bad
 | n+1,ρ,st=>(gt ρ st).a9 ρ λb st1=>if b=true then(match gb ρ st1 with
   | .nx ρ' st'=>uE gt gb n ρ' st'
   | .ct ρ' st'=>uE gt gb n ρ' st'
   | .bk ρ' st'=> .nx ρ' st'
   | .rt w st'=> .rt w st'
   | .err c ρ' st'=> .err c ρ' st'
   | .bad=> .bad) else .nx ρ st1
def jN(n:Nat)(gt:GT)(gb:GS):GS:=λρ st=>uE gt gb n ρ st
section
variable {X:Cx}
theorem FJ(n:Nat){c:Expr}{body:List Stmt}{gt:GT}{gb:GS}{pos:Pos}(hp:PassesOwn (model X.prog X.w) X.A X.env X.xe)(hc:JT X c gt)(hb:ph X body gb):JS X (.While c body [] pos) (jN n gt gb):=by
 refine JS.of (DP hp ql f_) λρ st σ H m D S R p=>?_
 refine⟨λk σ' H'=>∃ρ' st' m',Ext X.K m H m' H'/\bG X.K m' st' H'/\aD X.K m' H' ρ' σ'/\aK X m' H' (uE gt gb k ρ' st') D,⟨n,ρ,st,m,Ext.refl,S,R,p⟩,?_⟩
 rintro k σ1 H1 ⟨ρ1,st1,m1,e1,S1,R1,p1⟩
 cases k with
 | zero=>exact ae p1
 | succ k=>
  refine hc.go S1 R1 (aK.cO R1 p1) λb st2 m2 H2 p2 e2 S2=>?_
  cases b with
  | false=>
   rw[if_neg bD] at p2 ⊢
   exact p2 σ1 m2 H2 e2 S2 (R1.mono e2)
  | true=>
   rw[if_pos rfl] at p2 ⊢
   refine⟨λσ' H'=>∃ρ' st' m',Ext X.K m H m' H'/\bG X.K m' st' H'/\aD X.K m' H' ρ' σ'/\aK X m' H' (uE gt gb k ρ' st') D,λσ' H' q=>⟨k,Nat.lt_succ_self k,q⟩,?_⟩
   refine hb ρ1 st2 σ1 H2 m2 _ S2 (R1.mono e2) ?_
   have Xd:=e1.trans e2
   cases eg:gb ρ1 st2 with
   | nx ρ3 st3=>rw[eg] at p2;exact λσ3 m3 H3 e3 S3 R3=>⟨ρ3,st3,m3,Xd.trans e3,S3,R3,aK.shift p2 (e2.trans e3)⟩
   | ct ρ3 st3=>rw[eg] at p2;exact λσ3 m3 H3 e3 S3 R3=>⟨ρ3,st3,m3,Xd.trans e3,S3,R3,aK.shift p2 (e2.trans e3)⟩
   | bk ρ3 st3=>rw[eg] at p2;exact λσ3 m3 H3 e3 S3 R3=>p2 σ3 m3 H3 (e2.trans e3) S3 R3
   | rt w3 st3=>rw[eg] at p2;exact aK.shift (r:=.rt w3 st3) p2 e2
   | err c3 ρ3 st3=>rw[eg] at p2;exact λσ' m' H' x s' e'=>p2 σ' m' H' x s' (e2.trans e')
   | bad=>rw[eg] at p2;exact p2
def CF:Operator->Option (Int->Int->Int)
 | .Add=>some λi j=>i+j
 | .Sub=>some λi j=>i - j
 | _=>none
def U1(f:Int->Int->Int)(i:Nat)(x y:Wv)(ρ:bF)(st:Hs):Rs:=match x,y with
 | .int a,.int b=> .nx (ρ.set i (some (.int (f a b)))) st
 | _,_=> .bad
def JG(f:Int->Int->Int)(i:Nat)(g:GE):GS:=λρ st=>match ρ[i]? with
 | some (some x)=>(g ρ st).a9 ρ λy st'=>U1 f i x y ρ st'
 | _=> .bad
theorem NZ{op:Operator}{f:Int->Int->Int}(i:Nat){x:Str}{e:Expr}{g:GE}{pos pos':Pos}(ho:CF op=some f)(hN:X.N.Nodup)(h:JE X e g)(hi:X.N[i]? =some x)(hx:Loc X.env.scope x)
  (hf:X.fn x=true\/X.env.scope.names.lookup x=some .local):JS X (.AugAssign (.Name x pos') op e pos) (JG f i g):=by
 have U2:Sq X op (Sr f):=by
  cases op<;>first | (cases ho;exact DN) | (cases ho;exact DO) | cases ho
 refine JS.of (Mj hN hi hx aE U2 hf) λρ st σ H m D S R p=>?_
 unfold JG at p
 cases q:ρ[i]? with
 | none=>rw[q] at p;exact ae p
 | some o=>
  cases o with
  | none=>rw[q] at p;exact ae p
  | some w=>
   rw[q] at p
   obtain⟨v,h1,h2⟩:=R.get _ _ q
   refine⟨v,h1,?_⟩
   refine h.go S R (aK.cO R p) λy st1 u m1 H1 p1 e1 S1 r1=>?_
   have h2':=aj.mono e1 _ _ h2
   cases w with
   | int a=>
    cases y with
    | int b=>
     cases aV h2'
     cases aV r1
     exact⟨a,b,rfl,rfl,p1 _ m1 H1 e1 S1 ((R.mono e1).set i mkInt)⟩
    | _=>exact ae p1
   | _=>exact ae p1
end
theorem JH(l:aaG)(items:Array aaM)(n:Nat)(b:aaG)(items2:Array aaM)(n2:Nat)(dd:Option aaG)(sl:Array (Option aaM))(hs0:¬(!items.isEmpty&&rE (items.size+items2.size))=true)(hs1:items.size<=aaX)(hs2:items.size+items2.size<=aaX+1) :
  Meets (Builtin.«list.extend» ⟨[.ref l,.ref b],[]⟩) (λ_ R s=>s.heap.get? l=some { cls:=.type "list",dict:=none,data:=.seq items n,slots:=#[] }/\s.heap.get? b=some ⟨.type "tuple",dd,.seq items2 n2,sl⟩/\R (.ok (.ret bC)) { s with heap:=s.heap.update l (dB λx=>x++items2),toks:=s.toks }) :=
 .of_wp λprog w A R s h=>by
  obtain⟨hp,g,d,tk,os⟩:=s;obtain⟨hl,hb,h⟩:=h;have f1:=AutoSeq1.idx_int;have f2:=K0;have f3:=AutoSeq1.sub_list_list;have f4:=AutoSeq1.sub_tuple_list;have f5:=AutoSeq1.sub_list_tuple;
  have hz':(items++items2).size<=aaX+1:=by rw[Array.size_append];exact hs2
  wp_walk using (wpAny_updateSeq hl rfl (hz:=hs1) (_hz':=hz')),wpAny_loadPart' hl,wpAny_loadPart' hb;exact⟨_,rfl,h⟩
def xv(K:PySem.W.Frag):V->List V->Hp->VK->Prop:=λx vs H Q=>∃l b xs zs,x= .ref l/\vs=[.ref b]/\H l=some (.lst xs)/\gN K H b zs/\xs.length+zs.length<=aaX/\Q .bg (upd H l (.lst (xs++zs)))
section
variable {X:Cx}
theorem zq:Sw X "list.extend" (xv X.K):=by
 intro pins s σ H x vs v us Q I rx rv h
 obtain⟨l,b,xs,zs,rfl,rfl,hH,hB,hz,q⟩:=h
 cases rx
 obtain⟨u,rfl,ru⟩:=rv.one
 cases ru
 obtain⟨z,its,n,r,hl,e⟩:=I.BY hH
 obtain⟨its2,r2,⟨o,e2,oc,n2,od⟩,z2⟩:=I.tuple hB
 obtain⟨oc',dd,od',sl⟩:=o
 dsimp only at oc od
 subst oc od
 have l1:xs.length=its.length:=r.length
 have l2:zs.length=its2.length:=r2.length
 have hsz:its.toArray.size+its2.toArray.size<=aaX:=by rw[aT,aT];omega
 have wM:¬(!its.toArray.isEmpty&&rE (its.toArray.size+its2.toArray.size))=true:=by
  rw[rD hsz,D5]
  exact bD
 refine call_meets F.slot_list_extend ⟨_,e,rfl⟩ F.entry_list_extend (F.args_list_extend_2 _ _)
  (JH l its.toArray n b its2.toArray n2 dd sl wM (by rw[aT];omega) (by omega)) ⟨e,e2,?_⟩
 refine⟨.bg,_,I.Iz (its':=its++its2) hH e (by simp) (r.append r2) ?_,rfl,q⟩
 rw[cF]
 omega
def qq(o v:Wv)(st:Hs):Re Wv:=match v with
 | .tup zs=>(match o with
  | .ref l=>(match st[l]? with
   | some (.lst ws)=>if ws.length+zs.length<=lim then .ok .bg (st.set l (.lst (ws++zs))) else .bad
   | _=> .bad)
  | _=> .bad)
 | v=>E2 o v st
theorem JJ:QX X "list.extend" qq:=by
 obtain⟨r0,m0,h0⟩:=Nw (X:=X)
 refine⟨λx vs H Q=>r0 x vs H Q\/xv X.K x vs H Q,?_,λo w x v st H m Q S ro rw' p=>?_⟩
 ·intro pins s σ H x vs v us Q I rx rv h
  rcases h with h | h
  ·exact m0 pins s σ H x vs v us Q I rx rv h
  ·exact zq pins s σ H x vs v us Q I rx rv h
 ·cases w with
  | tup zs=>
   refine .inr ?_
   cases o with
   | ref l=>
    unfold aj at ro rw'
    obtain⟨a,rfl,ha⟩:=ro
    obtain⟨b,ys,rfl,hb,g2⟩:=rw'
    have p':cS X.K m H (match st[l]? with | some (.lst ws)=>if ws.length+zs.length<=lim then .ok .bg (st.set l (.lst (ws++zs))) else .bad | _=> .bad) Q:=p
    cases e:st[l]? with
    | none=>rw[e] at p';exact ae p'
    | some ob=>
     cases ob with
     | dct kvs=>rw[e] at p';exact ae p'
     | bq kvs=>rw[e] at p';exact ae p'
     | fH kvs=>rw[e] at p';exact ae p'
     | B7 kvs=>rw[e] at p';exact ae p'
     | sX ns=>rw[e] at p';exact ae p'
     | lst ws=>
      rw[e] at p'
      dsimp only at p'
      by_cases c:ws.length+zs.length<=lim
      ·rw[if_pos c] at p'
       obtain⟨xs,h1,h2⟩:=S.rJ ha e
       have e4:Ext X.K m H m (upd H a (.lst (xs++ys))):=Ext.upd (.inr ⟨xs,h1⟩)
       exact⟨a,b,xs,ys,rfl,rfl,h1,gN.of hb,by rw[<-h2.length,<-g2.length];exact f' c,p' _ m _ e4 (S.write ha e (h2.append g2)) AE⟩
      ·rw[if_neg c] at p';exact ae p'
   | _=>exact ae p
  | _=>exact .inl (h0 o _ x v st H m Q S ro rw' p)
end
def nu(neg:Bool):gO:=λx y st=>match bJ st 20 y,bJ st 20 x with
 | some (.list ds),some d=> .ok (.bl ((ds.any λz=>b_ z d) != neg)) st
 | some (.tuple ds),some d=> .ok (.bl ((ds.any λz=>b_ z d) != neg)) st
 | _,_=> .bad
section
variable {X:Cx}
def N0(K:PySem.W.Frag)(neg:Bool):R2:=λa b H Q=>∃m st x y d ds c,bG K m st H/\aj K m H x a/\aj K m H y b/\bJ st 20 y=some c/\(c= .list ds\/c= .tuple ds)/\bJ st 20 x=some d/\Q (.bl ((ds.any λz=>b_ z d) != neg)) H
theorem A3{ds:List PyData}{c:PyData}(h:c= .list ds\/c= .tuple ds)(k:c.canLay0=true):AF ds=true:=by
 rcases h with rfl | rfl<;>exact k
theorem FK(hu:X.A.units+64 < cLine):eM X (aaT .In) (N0 X.K false):=by
 intro pins s σ H a b v u Q I rx ry h
 obtain⟨m,st,x,y,d,ds,c,S,h1,h2,e1,hc,e2,q⟩:=h
 obtain⟨as,q1,q2,q3⟩:=ik I S 20 x a v d h1 rx e2
 obtain⟨bs,p1,p2,p3⟩:=ik I S 20 y b u c h2 ry e1
 have hd:X.A.units+1+min (oF ds) d.depth < cLine:=by
  have:=An (oF ds) d.depth
  omega
 have e:∀t:Bool,(t != false)=t:=by decide
 rw[e] at q
 have ca:=A3 hc p2
 rcases hc with rfl | rfl
 ·exact SeqAt.in_list_reads p1 q1 ca q2 hd ⟨.bl _,H,I,rfl,q⟩
 ·exact SeqAt.in_tuple_reads p1 q1 ca q2 hd ⟨.bl _,H,I,rfl,q⟩
theorem uF(hu:X.A.units+64 < cLine):eM X (aaT .NotIn) (N0 X.K true):=by
 intro pins s σ H a b v u Q I rx ry h
 obtain⟨m,st,x,y,d,ds,c,S,h1,h2,e1,hc,e2,q⟩:=h
 obtain⟨as,q1,q2,q3⟩:=ik I S 20 x a v d h1 rx e2
 obtain⟨bs,p1,p2,p3⟩:=ik I S 20 y b u c h2 ry e1
 have hd:X.A.units+1+min (oF ds) d.depth < cLine:=by
  have:=An (oF ds) d.depth
  omega
 have e:∀t:Bool,(t != true)= !t:=by decide
 rw[e] at q
 have ca:=A3 hc p2
 rcases hc with rfl | rfl
 ·exact SeqAt.notIn_list_reads p1 q1 ca q2 hd ⟨.bl _,H,I,rfl,q⟩
 ·exact SeqAt.notIn_tuple_reads p1 q1 ca q2 hd ⟨.bl _,H,I,rfl,q⟩
theorem vQ{neg:Bool}{x y:Wv}{a b:V}{st:Hs}{H:Hp}{m:Mp}{Q:VK}(S:bG X.K m st H)(rx:aj X.K m H x a)(ry:aj X.K m H y b)(p:cS X.K m H (nu neg x y st) Q):N0 X.K neg a b H Q:=by
 unfold nu at p
 split at p
 ·rename_i ds d e1 e2
  exact⟨m,st,x,y,d,ds,_,S,rx,ry,e1,.inl rfl,e2,p _ m H Ext.refl S iB⟩
 ·rename_i ds d e1 e2
  exact⟨m,st,x,y,d,ds,_,S,rx,ry,e1,.inr rfl,e2,p _ m H Ext.refl S iB⟩
 ·exact ae p
theorem N2(hu:X.A.units+64 < cLine):jw X (aaT .In) (nu false):=⟨_,FK hu,λx y a b st H m Q S rx ry p=>vQ S rx ry p⟩
theorem CG(hu:X.A.units+64 < cLine):jw X (aaT .NotIn) (nu true):=⟨_,uF hu,λx y a b st H m Q S rx ry p=>vQ S rx ry p⟩
end
section
variable {prog:aaK} {w:aaN} {A:aaH} {E:aaM->aaL->Prop} {s:aaL}
end
section
variable {X:Cx} {tg:Expr}
end
section
variable {X:Cx} {a b c d:Expr} {pos:Pos}
def vR(r r' r'':R2)(ta tb tc td:TE):TE:=λσ H Q=>ta σ H λx H1=>tb σ H1 λy H2=>r x y H2 λz H3=>∃k,z= .bl k/\(if k=true then tc σ H3 λu H4=>r' y u H4 λz' H5=>∃k',z'= .bl k'/\(if k'=true then td σ H5 λq H6=>r'' u q H6 Q else Q (.bl false) H5) else Q (.bl false) H3)
theorem CH{o o' pP:CmpOp}{r r' r'':R2}{ta tb tc td:TE}(ho:eM X (aaT o) r)(ho':eM X (aaT o') r')(zr:eM X (aaT pP) r'')(ha:PE X a ta)(hb:PE X b tb)(hc:PE X c tc)(hd:PE X d td)(hm:lastMarks [o,o',pP] [b,c,d]=false):PE X (.Compare a [o,o',pP] [b,c,d] pos) (vR r r' r'' ta tb tc td):=by
 intro pins s σ H Q I h
 refine Compare_chain (a9 (ha pins s σ H _ I h) λv s1 ⟨x,H1,I1,r1,q1⟩=>chain_link (a9 (hb pins s1 σ H1 _ I1 q1) λu s2 ⟨y,H2,I2,r2,q2⟩=>a9 (ho pins s2 σ H2 x y v u _ I2 r1 r2 q2) λ_ s3 ⟨z,H3,I3,r3,k,e,q3⟩=>?_)) hm
 subst e
 cases r3
 refine aa7 ?_
 cases k with
 | false=>exact ite_ff ⟨.bl false,H3,I3,rfl,q3⟩
 | true=>
  refine ite_tt (chain_link (a9 (hc pins s3 σ H3 _ I3 q3) λu' s4 ⟨y',H4,I4,r4,q4⟩=>a9 (ho' pins s4 σ H4 y y' u u' _ I4 r2 r4 q4) λ_ s5 ⟨z',H5,I5,r5,k',e',q5⟩=>?_))
  subst e'
  cases r5
  refine aa7 ?_
  cases k' with
  | false=>exact ite_ff ⟨.bl false,H5,I5,rfl,q5⟩
  | true=>exact ite_tt (chain_last (a9 (hd pins s5 σ H5 _ I5 q5) λU3 s6 ⟨U4,H6,I6,r6,q6⟩=>zr pins s6 σ H6 y' U4 u' U3 Q I6 r4 r6 q6))
theorem CI{o o' pP:CmpOp}{r r' r'':R2}{ta tb tc td:TE}(ho:eM X (aaT o) r)(ho':eM X (aaT o') r')(zr:eM X (aaT pP) r'')(ha:PE X a ta)(hb:PE X b tb)(hc:PE X c tc)(hd:PE X d td)(hm:lastMarks [o,o',pP] [b,c,d]=false):PT X (.Compare a [o,o',pP] [b,c,d] pos) (DQ (vR r r' r'' ta tb tc td)):=by
 intro pins s σ H Q I h
 refine isTrue_chain (a9 (ha pins s σ H _ I h) λv s1 ⟨x,H1,I1,r1,q1⟩=>test_link (a9 (hb pins s1 σ H1 _ I1 q1) λu s2 ⟨y,H2,I2,r2,q2⟩=>a9 (ho pins s2 σ H2 x y v u _ I2 r1 r2 q2) λ_ s3 ⟨z,H3,I3,r3,k,e,q3⟩=>?_)) hm
 subst e
 cases r3
 refine aa7 ?_
 cases k with
 | false=>
  obtain⟨_,e',q'⟩:=q3
  cases e'
  exact ite_ff ⟨H3,I3,q'⟩
 | true=>
  refine ite_tt (test_link (a9 (hc pins s3 σ H3 _ I3 q3) λu' s4 ⟨y',H4,I4,r4,q4⟩=>a9 (ho' pins s4 σ H4 y y' u u' _ I4 r2 r4 q4) λ_ s5 ⟨z',H5,I5,r5,k',e',q5⟩=>?_))
  subst e'
  cases r5
  refine aa7 ?_
  cases k' with
  | false=>
   obtain⟨_,e',q'⟩:=q5
   cases e'
   exact ite_ff ⟨H5,I5,q'⟩
  | true=>
   refine ite_tt (test_last (a9 (hd pins s5 σ H5 _ I5 q5) λU3 s6 ⟨U4,H6,I6,r6,q6⟩=>a9 (zr pins s6 σ H6 y' U4 u' U3 _ I6 r4 r6 q6) λ_ s7 ⟨z'',H7,I7,r7,k'',e'',q7⟩=>?_))
   subst e''
   cases r7
   exact aa7 ⟨H7,I7,q7⟩
def cU(op op' kr:gO)(ga gb gc gd:GE):GE:=λρ st=>(ga ρ st).bind λx st1=>(gb ρ st1).bind λy st2=>(op x y st2).lJ.bind λz st3=>match z with
 | .bl true=>(gc ρ st3).bind λu rL=>(op' y u rL).lJ.bind λz' yv=>(match z' with
  | .bl true=>(gd ρ yv).bind λq HI=>(kr u q HI).lJ
  | .bl false=> .ok (.bl false) yv
  | _=> .bad)
 | .bl false=> .ok (.bl false) st3
 | _=> .bad
theorem FO{ga gb gc gd:GE}{op op' kr:gO}{r r' r'':R2}(h2:rK X op r)(h2':rK X op' r')(FP:rK X kr r'')(ha:JE X a ga)(hb:JE X b gb)(hc:JE X c gc)(hd:JE X d gd){ρ:bF}{st:Hs}{σ:St}{H:Hp}{m:Mp}{Q:VK}
  (S:bG X.K m st H)(R:aD X.K m H ρ σ)(p:fT X σ m H (cU op op' kr ga gb gc gd ρ st) Q):vR r r' r'' (SE X a) (SE X b) (SE X c) (SE X d) σ H Q:=by
 refine ha.go S R (ax.bind p) λx st1 v m1 H1 p1 e1 S1 rx=>?_
 refine hb.go S1 (R.mono e1) ((ax.bind p1).imp e1 λ_ _ q=>q) λy st2 u m2 H2 p2 e2 S2 ry=>?_
 refine h2 x y v u st2 H2 m2 _ S2 (aj.mono e2 _ _ rx) ry (oE.imp (ax.lJ (ax.bind p2)) λz st3 p3=>?_)
 intro z' m3 H3 e3 S3 rz
 have SQ:=e1.trans (e2.trans e3)
 cases z with
 | bl k=>
  unfold aj at rz
  refine⟨k,rz,?_⟩
  cases k with
  | true=>
   rw[if_pos rfl]
   refine hc.go S3 (R.mono SQ) ((ax.bind p3).imp SQ λ_ _ q=>q) λq rL u' m4 H4 p4 e4 S4 rq=>?_
   refine h2' y q u u' rL H4 m4 _ S4 (aj.mono (e3.trans e4) _ _ ry) rq (oE.imp (ax.lJ (ax.bind p4)) λz2 yv p5=>?_)
   intro z2' m5 H5 e5 S5 Xe
   have SR:=SQ.trans (e4.trans e5)
   cases z2 with
   | bl k2=>
    unfold aj at Xe
    refine⟨k2,Xe,?_⟩
    cases k2 with
    | true=>
     rw[if_pos rfl]
     refine hd.go S5 (R.mono SR) ((ax.bind p5).imp SR λ_ _ q=>q) λq2 HI u2 m6 H6 p6 e6 S6 YO=>?_
     exact FP q q2 u' u2 HI H6 m6 Q S6 (aj.mono (e5.trans e6) _ _ rq) YO (cS.shift (ax.lJ p6) (SR.trans e6))
    | false=>
     rw[if_neg bD]
     exact p5 (.bl false) m5 H5 SR S5 (by unfold aj;rfl)
   | _=>exact ae p5
  | false=>
   rw[if_neg bD]
   exact p3 (.bl false) m3 H3 SQ S3 (by unfold aj;rfl)
 | _=>exact ae p3
theorem CJ{ga gb gc gd:GE}{o o' pP:CmpOp}{op op' kr:gO}(ho:jw X (aaT o) op)(ho':jw X (aaT o') op')(zr:jw X (aaT pP) kr)(ha:JE X a ga)(hb:JE X b gb)(hc:JE X c gc)(hd:JE X d gd)(hm:lastMarks [o,o',pP] [b,c,d]=false):JE X (.Compare a [o,o',pP] [b,c,d] pos) (cU op op' kr ga gb gc gd):=by
 obtain⟨r,h1,h2⟩:=ho
 obtain⟨r',Dt,h2'⟩:=ho'
 obtain⟨r'',N3,FP⟩:=zr
 exact JE.of (CH h1 Dt N3 aE aE aE aE hm) λρ st σ H m Q S R p=>FO h2 h2' FP ha hb hc hd S R p
theorem CK{ga gb gc gd:GE}{o o' pP:CmpOp}{op op' kr:gO}(ho:jw X (aaT o) op)(ho':jw X (aaT o') op')(zr:jw X (aaT pP) kr)(ha:JE X a ga)(hb:JE X b gb)(hc:JE X c gc)(hd:JE X d gd)(hm:lastMarks [o,o',pP] [b,c,d]=false):JT X (.Compare a [o,o',pP] [b,c,d] pos) (aQ (cU op op' kr ga gb gc gd)):=by
 obtain⟨r,h1,h2⟩:=ho
 obtain⟨r',Dt,h2'⟩:=ho'
 obtain⟨r'',N3,FP⟩:=zr
 exact JT.of (CI h1 Dt N3 aE aE aE aE hm) λρ st σ H m Q S R p=>FO h2 h2' FP ha hb hc hd S R (lQ p)
end
section
variable {X:Cx} {pins:List (aaG×Obj)} {σ:St} {E:aaM->aaL->Prop} {p:aaG}
end
section
variable {X:Cx} {pos:Pos}
abbrev A4(K:PySem.W.Frag)(m:Mp)(H:Hp):List (Wv×Wv)->List (V×V)->Prop:=Paired λp q=>aj K m H p.1 q.1/\aj K m H p.2 q.2
theorem A4.mono{K:PySem.W.Frag}{m m1:Mp}{H H1:Hp}(e:Ext K m H m1 H1):∀{a:List (Wv×Wv)}{b:List (V×V)},A4 K m H a b->A4 K m1 H1 a b
 | _,_,.nil=> .nil
 | _,_,.cons h t=> .cons ⟨aj.mono e _ _ h.1,aj.mono e _ _ h.2⟩ (A4.mono e t)
end
def getD(d k:Wv)(st:Hs):Option Wv:=match d with
 | .ref l=>(match st[l]? with
  | some (.dct kvs)=>(match keyOf k with | some kk=>en kvs kk | none=>none)
  | some (.bq kvs)=>(match lW k with | some kk=>en kvs kk | none=>none)
  | some (.fH kvs)=>(match lW k with | some kk=>en kvs kk | none=>none)
  | _=>none)
 | _=>none
def N4(d k:Wv)(st:Hs):Re Wv:=match getD d k st with
 | some w=> .ok w st
 | none=> .bad
def bX(gd gk:GE):GE:=λρ st=>(gd ρ st).bind λd st1=>(gk ρ st1).bind λk st2=>N4 d k st2
section
variable {X:Cx}
theorem A5{m:Mp}{st:Hs}{H:Hp}{d k w:Wv}{x y:V}(S:bG X.K m st H)(rd:aj X.K m H d x)(rk:aj X.K m H k y)(e:getD d k st=some w):∃a v,x= .ref a/\nj H a y (some v)/\aj X.K m H w v:=by
 unfold getD at e
 cases d with
 | ref l=>
  dsimp only at e
  unfold aj at rd
  obtain⟨a,rfl,ha⟩:=rd
  cases e1:st[l]? with
  | none=>rw[e1] at e;cases e
  | some o=>
   rw[e1] at e
   cases o with
   | dct kvs=>
    dsimp only at e
    cases e2:keyOf k with
    | none=>rw[e2] at e;cases e
    | some kk=>
     rw[e2] at e
     obtain⟨xs,h1,h2⟩:=(show ∃ys,H a=some (.dK ys)/\RelK X.K m H kvs ys from S.obj _ _ _ ha e1)
     obtain⟨u,j1,j2⟩:=(h2.val kk).2 w e
     exact⟨a,u,rfl,by rw[mI rk e2,<-j1];exact nj.k h1,j2⟩
   | bq kvs=>
    dsimp only at e
    cases e2:lW k with
    | none=>rw[e2] at e;cases e
    | some kk=>
     rw[e2] at e
     obtain⟨xs,h1,h2⟩:=(show ∃ys,H a=some (.dT ys)/\RelK X.K m H kvs ys from S.obj _ _ _ ha e1)
     obtain⟨b,rfl,hb⟩:=lX rk e2
     obtain⟨u,j1,j2⟩:=(h2.val kk).2 w e
     exact⟨a,u,rfl,by rw[<-j1];exact nj.t h1 hb,j2⟩
   | fH kvs=>
    dsimp only at e
    cases e2:lW k with
    | none=>rw[e2] at e;cases e
    | some kk=>
     rw[e2] at e
     obtain⟨o,xs,h1,h2⟩:=(show ∃o ys,H a=some (.iy o (.dT ys))/\RelK X.K m H kvs ys from S.obj _ _ _ ha e1)
     obtain⟨b,rfl,hb⟩:=lX rk e2
     obtain⟨u,j1,j2⟩:=(h2.val kk).2 w e
     exact⟨a,u,rfl,by rw[<-j1];exact .inr ⟨xs,kk,b,.inr ⟨o,h1⟩,rfl,hb,rfl⟩,j2⟩
   | _=>cases e
 | _=>cases e
theorem JK{o i:Expr}{go gi:GE}{pos:Pos}(hu:X.A.units+1 < cLine)(ho:JE X o go)(hi:JE X i gi)(hs:D8 i):JE X (.Subscript o i pos) (bX go gi) :=
 JE.of (IE hu aE aE hs) λρ st σ H m Q S R p=>by
  refine ho.go S R (ax.bind p) λd st1 v m1 H1 p1 e1 S1 rd=>?_
  refine hi.go S1 (R.mono e1) ((ax.bind p1).imp e1 λ_ _ q=>q) λk st2 u m2 H2 p2 e2 S2 rk=>?_
  unfold N4 at p2
  cases e:getD d k st2 with
  | none=>rw[e] at p2;exact ae p2
  | some w=>
   rw[e] at p2
   obtain⟨a,v',ex,g,rw'⟩:=A5 (X:=X) S2 (aj.mono e2 _ _ rd) rk e
   exact⟨a,v',ex,g,p2 v' m2 H2 (e1.trans e2) S2 rw'⟩
end
section
variable {X:Cx} {pins:List (aaG×Obj)} {σ:St} {H:Hp} {s:aaL} {a:aaG} {xs:List (List L2.Key×V)}
theorem N5(I:Inv X pins σ H s)(e:H a=some (.dT xs)):∃o,s.heap.get? a=some o/\Inv X pins σ (upd H a (.iy o (.dT xs))) s:=by
 obtain⟨z,lo,ys,kt,o,es,ep,g1,g2,g3,g4,g5⟩:=id (I.hok a _ e)
 refine⟨o,g1,vo (t':=s.toks) (h':=s.heap) I (by rw[e];exact qH) (Heap.SameBut.refl _ _) ⟨o,g1⟩ ⟨g1,z,lo,ys,KT.keeps kt λc zs ec=>?_,o,es,ep,g1,g2,g3,g4,g5⟩⟩
 rw[aw (KR ec e (λz=>nomatch z))]
 exact ec
theorem JL{o:Obj}(I:Inv X pins σ H s)(e:H a=some (.iy o (.dT xs)))(n:∀o u,X.H₀ a≠some (.iy o u)):Inv X pins σ (upd H a (.dT xs)) s:=by
 have ne:∀{b:aaG},H b=none->b≠a:=λh z=>by rw[z,e] at h;cases h
 have g:=I.base
 have ow:∀c b,H c=some (.own b)->upd H a (.dT xs) c=some (.own b):=λc b q=>by
  rw[aw (λz=>by rw[z,e] at q;cases q)];exact q
 have tu:∀c ys,H c=some (.tup ys)->upd H a (.dT xs) c=some (.tup ys):=λc ys q=>by
  rw[aw (λz=>by rw[z,e] at q;cases q)];exact q
 refine⟨I.ok,I.os,I.bare,⟨g.keep,g.slot,λb ob q h hx=>?_,g.there,λb ys q=>tu b ys (g.tups b ys q),λb ob u q=>?_,λb ps q=>?_⟩,I.loc,I.cell,?_,λy c q=>?_,λp hp=>?_,λb u q=>?_,I.len⟩
 ·have h1:=g.free b ob q h hx
  rw[aw (ne h1)];exact h1
 ·rw[aw (λz=>n ob u (by rw[<-z];exact q))];exact g.oj b ob u q
 ·obtain⟨m,h1⟩:=g.qX b ps q
  exact⟨m,by rw[aw (λz=>by rw[z,e] at h1;cases h1)];exact h1⟩
 ·rw[aw (ne I.free)];exact I.free
 ·rw[aw (ne (I.nz y c q))];exact I.nz y c q
 ·obtain⟨p1,p2,p3⟩:=I.pin p hp
  exact⟨p1,by rw[aw (ne p2)];exact p2,p3⟩
 ·by_cases hb:b=a
  ·subst hb
   rw[aZ] at q
   cases q
   exact dv.stay (I.hok b _ e).2 (λc v _ q=>q) (λc q=>ow c _ q) tu
  ·rw[aw hb] at q
   exact(I.hok b u q).stay (λc v _ q=>q) (λc q=>ow c _ q) tu
end
section
variable {K:PySem.W.Frag} {m:Mp} {st:Hs} {H:Hp}
theorem RelK.fS{κ:Type}{m1:Mp}{H1:Hp}{kvs:List (κ×Wv)}{xs:List (κ×V)}(e:wV K m H m1 H1)(h:RelK K m H kvs xs):RelK K m1 H1 kvs xs:=⟨h.1,ai.fS e _ _ h.2⟩
theorem uG{a:aaG}{o:Obj}{xs:List (List L2.Key×V)}(e:H a=some (.iy o (.dT xs))):wV K m H m (upd H a (.dT xs)) :=
 ⟨λ_ _ h=>h,λb ys q=>by rw[aw (λz=>by rw[z,e] at q;cases q)];exact q,λb φ q=>by rw[aw (λz=>by rw[z,e] at q;cases q)];exact q,λb ob φ q=>by rw[aw (λz=>by rw[z,e] at q;cases q)];exact q⟩
theorem bG.N6{l:Nat}{a:aaG}{o:Obj}{kvs:List (List L2.Key×Wv)}{xs:List (List L2.Key×V)}(S:bG K m st H)(h1:m[l]? =some a)(h2:st[l]? =some (.fH kvs))(e:H a=some (.iy o (.dT xs))):bG K m (st.set l (.bq kvs)) (upd H a (.dT xs)):=by
 have ez:=uG (K:=K) (m:=m) e
 have hl:l < st.length:=(List.getElem?_eq_some_iff.mp h2).1
 have at':∀(k:Nat)(ob:Ob),(st.set l (.bq kvs))[k]? =some ob->(k=l/\ob= .bq kvs)\/(k≠l/\st[k]? =some ob):=λk ob h=>by
  by_cases z:l=k
  ·subst z
   rw[pv hl] at h
   exact .inl ⟨rfl,(Option.some.inj h).symm⟩
  ·rw[aC z] at h
   exact .inr ⟨λz'=>z z'.symm,h⟩
 refine⟨by simp[S.len],λk b ob g1 g2=>?_,λk k' b us us' g1 Du g2 Qs q q'=>?_,S.tab.keep (λc ps q=>?_) ez.ext⟩
 ·rcases at' k ob g2 with ⟨rfl,rfl⟩ | ⟨hk,g2⟩
  ·rw[h1] at g1
   cases g1
   obtain⟨o',xs',r1,r2⟩:=(show ∃o' xs',H a=some (.iy o' (.dT xs'))/\RelK K m H kvs xs' from S.obj _ _ _ h1 h2)
   rw[e] at r1
   cases r1
   exact⟨xs,aZ,r2.fS ez⟩
  ·have q:=S.obj k b ob g1 g2
   have nb:ob.mu=true->b≠a:=λhm z=>hk (S.inj k l b ob _ g1 (z ▸ h1) g2 h2 hm rfl)
   cases ob with
   | lst ws=>obtain⟨ys,e1,e2⟩:=q;exact⟨ys,by rw[aw (nb rfl)];exact e1,ai.fS ez _ _ e2⟩
   | dct ws=>obtain⟨ys,e1,e2⟩:=q;exact⟨ys,by rw[aw (nb rfl)];exact e1,e2.fS ez⟩
   | bq ws=>obtain⟨ys,e1,e2⟩:=q;exact⟨ys,by rw[aw (nb rfl)];exact e1,e2.fS ez⟩
   | fH ws=>obtain⟨o',ys,e1,e2⟩:=q;exact⟨o',ys,by rw[aw (nb rfl)];exact e1,e2.fS ez⟩
   | B7 ws=>obtain⟨o',ys,e1,e2⟩:=q;exact⟨o',ys,by rw[aw (nb rfl)];exact e1,e2.fS ez⟩
   | sX ns=>
    rcases q with ⟨o',q⟩ | q
    ·exact .inl ⟨o',by rw[aw (λz=>by rw[z,e] at q;cases q)];exact q⟩
    ·exact .inr q
 ·have back:∀(k:Nat)(ob:Ob),(st.set l (.bq kvs))[k]? =some ob->ob.mu=true->∃o',st[k]? =some o'/\o'.mu=true:=λk ob h ho=>by
   rcases at' k _ h with ⟨rfl,_⟩ | ⟨_,h⟩
   ·exact⟨_,h2,rfl⟩
   ·exact⟨ob,h,ho⟩
  obtain⟨u1,f1,f2⟩:=back k us g2 q
  obtain⟨u2,f3,f4⟩:=back k' us' Qs q'
  exact S.inj k k' b u1 u2 g1 Du f1 f3 f2 f4
 ·rw[aw (λz=>by rw[z,e] at q;cases q)];exact q
theorem aD.fS{m1:Mp}{H1:Hp}{ρ:bF}{σ:St}(R:aD K m H ρ σ)(e:wV K m H m1 H1):aD K m1 H1 ρ σ:=⟨R.len,λi w h=>let ⟨v,h1,h2⟩:=R.get i w h;⟨v,h1,aj.fS e _ _ h2⟩⟩
theorem Ext.N6{m1:Mp}{H1:Hp}{a:aaG}{xs ys:List (List L2.Key×V)}(e:Ext K m H m1 H1)(h:H a=some (.dT xs)):Ext K m H m1 (L2.upd H1 a (.dT ys)) :=
 ⟨e.pre,λb zs q=>by rw[aw (λz=>by rw[z,h] at q;cases q)];exact e.tup b zs q,λb φ q=>by rw[aw (λz=>by rw[z,h] at q;cases q)];exact e.ext b φ q,λb o u q=>by rw[aw (λz=>by rw[z,h] at q;cases q)];exact e.iy b o u q⟩
end
def nB(l:Nat)(st:Hs):Hs:=match st[l]? with
 | some (.fH kvs)=>st.set l (.bq kvs)
 | _=>st
def oQ(w:Option (Option Wv))(st:Hs):Option Nat:=match w with
 | some (some (.ref l))=>(match st[l]? with | some (.bq _)=>some l | _=>none)
 | _=>none
def gR(i:Nat)(g:GS):GS:=λρ st=>match oQ ρ[i]? st with
 | some l=>(match g ρ st with | .nx ρ' st'=> .nx ρ' (nB l st') | r=>r)
 | none=>g ρ st
def gU(i:Nat)(g:GE):GE:=λρ st=>match oQ ρ[i]? st with
 | some l=>(match g ρ st with | .ok w st'=> .ok w (nB l st') | r=>r)
 | none=>g ρ st
section
variable {X:Cx}
theorem xw{ρ:bF}{st:Hs}{σ:St}{H:Hp}{m:Mp}{i l:Nat}(S:bG X.K m st H)(R:aD X.K m H ρ σ)(h:oQ ρ[i]? st=some l):∃a xs,m[l]? =some a/\H a=some (.dT xs):=by
 unfold oQ at h
 split at h
 ·rename_i k e
  obtain⟨v,_,r⟩:=R.get i _ e
  unfold aj at r
  obtain⟨a,rfl,ha⟩:=r
  split at h
  ·rename_i kvs e1
   cases h
   obtain⟨xs,h1,_⟩:=(show ∃ys,H a=some (.dT ys)/\RelK X.K m H kvs ys from S.obj _ _ _ ha e1)
   exact⟨a,xs,ha,h1⟩
  ·cases h
 ·cases h
theorem xx{pins:List (aaG×Obj)}{s0 s':aaL}{σ σ':St}{H H':Hp}{m m':Mp}{l:Nat}{a:aaG}{xs:List (List L2.Key×V)}{st':Hs}(I:Inv X pins σ H s0)(h0:H a=some (.dT xs))(ha:m[l]? =some a)(e:Ext X.K m H m' H')(S:bG X.K m' st' H')(I':Inv X pins σ' H' s') :
  ∃wD,Inv X pins σ' wD s'/\Ext X.K m H m' wD/\bG X.K m' (nB l st') wD/\wV X.K m' H' m' wD:=by
 unfold nB
 have same:∃wD,Inv X pins σ' wD s'/\Ext X.K m H m' wD/\bG X.K m' st' wD/\wV X.K m' H' m' wD:=⟨H',I',e,S,Ext.refl.z⟩
 split
 ·rename_i kvs e1
  obtain⟨o,ys,h1,_⟩:=(show ∃o ys,H' a=some (.iy o (.dT ys))/\RelK X.K m' H' kvs ys from S.obj _ _ _ (e.pre _ _ ha) e1)
  exact⟨_,JL I' h1 λo u q=>(by have z:=I.base.oj _ _ _ q;rw[h0] at z;cases z),e.N6 h0,S.N6 (e.pre _ _ ha) e1 h1,uG h1⟩
 ·exact same
theorem A6(i:Nat){Xf:Stmt}{g:GS}(h:JS X Xf g):JS X Xf (gR i g):=by
 intro ρ st σ H m D S R p
 unfold gR at p
 cases eo:oQ ρ[i]? st with
 | none=>rw[eo] at p;exact h ρ st σ H m D S R p
 | some l=>
  rw[eo] at p
  dsimp only at p
  cases eg:g ρ st with
  | nx ρ' st'=>
   rw[eg] at p
   intro pins s I
   obtain⟨a,xs,ha,h0⟩:=xw S R eo
   have go:=h ρ st σ H m { D with nx:=λσ' H'=>∃m',Ext X.K m H m' H'/\bG X.K m' st' H'/\aD X.K m' H' ρ' σ' } S R (by rw[eg];exact λσ' m' H' e' S' R'=>⟨m',e',S',R'⟩) pins s I
   refine aa3 go (λf s' q=>?_) λ_ _ z=>z
   cases f with
   | next=>
    obtain⟨σ',H',I',m',e',S',R'⟩:=q
    obtain⟨wD,I2,e2,S2,z2⟩:=xx I h0 ha e' S' I'
    exact⟨σ',wD,I2,p σ' m' wD e2 S2 (R'.fS z2)⟩
   | brk=>exact q
   | cont=>exact q
   | ret u=>exact q
  | rt w st'=>rw[eg] at p;exact h ρ st σ H m D S R (by rw[eg];exact p)
  | bk ρ' st'=>rw[eg] at p;exact h ρ st σ H m D S R (by rw[eg];exact p)
  | ct ρ' st'=>rw[eg] at p;exact h ρ st σ H m D S R (by rw[eg];exact p)
  | err c ρ' st'=>rw[eg] at p;exact h ρ st σ H m D S R (by rw[eg];exact p)
  | bad=>rw[eg] at p;exact ae p
theorem JM(i:Nat){e:Expr}{g:GE}(h:JE X e g):JE X e (gU i g):=by
 intro ρ st σ H m Q S R p
 unfold gU at p
 cases eo:oQ ρ[i]? st with
 | none=>rw[eo] at p;exact h ρ st σ H m Q S R p
 | some l=>
  rw[eo] at p
  dsimp only at p
  cases eg:g ρ st with
  | ok w st'=>
   rw[eg] at p
   intro pins s I
   obtain⟨a,xs,ha,h0⟩:=xw S R eo
   have go:=h ρ st σ H m (λv H'=>∃m',Ext X.K m H m' H'/\bG X.K m' st' H'/\aj X.K m' H' w v) S R (by rw[eg];exact λv m' H' e' S' r'=>⟨m',e',S',r'⟩) pins s I
   refine aa3 go (λu s' q=>?_) λ_ _ z=>z
   obtain⟨v,H',I',rv,m',e',S',r'⟩:=q
   obtain⟨wD,I2,e2,S2,z2⟩:=xx I h0 ha e' S' I'
   exact⟨v,wD,I2,rv,p v m' wD e2 S2 (aj.fS z2 _ _ r')⟩
  | err c st'=>rw[eg] at p;exact h ρ st σ H m Q S R (by rw[eg];exact p)
  | bad=>rw[eg] at p;exact ae p
end
def FQ(a:aaG)(o:Obj)(xs:List (List L2.Key×V)):It :=
 ⟨λi H=>H a=some (.iy o (.dT xs))/\i < xs.length,λi H v H'=>H'=H/\∃k b,(xs[i]?).map (·.1)=some k/\v= .ref b/\H b=some (.tup (k.map kV)),λi H=>H a=some (.iy o (.dT xs))/\xs.length<=i⟩
theorem FR{H:Hp}:∀{xs:List (List L2.Key×V)}{ys:List (List L2.Key×aaG×aaM)},KT H xs ys->∀{i:Nat}{y:List L2.Key×aaG×aaM},ys[i]? =some y->∃x,xs[i]? =some x/\x.1=y.1/\H y.2.1=some (.tup (x.1.map kV))/\RelV x.2 y.2.2
 | _,_,.nil,i,y,h=>by cases h
 | _,_,.cons h t,0,y,e=>by cases e;exact⟨_,rfl,h⟩
 | _,_,.cons h t,i+1,y,e=>FR t (i:=i) e
theorem vS{P:aaK}{w:aaN}{H:Hp}{h:Heap}{a:aaG}{o:Obj}{xs:List (List L2.Key×V)}(ok:lI P w H h)(e:H a=some (.iy o (.dT xs))) :
  ∃es ep,(a == sysModules)=false/\o.data= .dict es ep/\sd h a es ep/\es.size=xs.length/\∀(i:Nat)(hi:i < es.size),∃x b,xs[i]? =some x/\es[i].key= .ref b/\H b=some (.tup (x.1.map kV))/\RelV x.2 es[i].val:=by
 obtain⟨ho,z,lo,ys,kt,o',es,ep,g1,g2,g3,g4,g5⟩:=ok a _ e
 rw[ho] at g1
 cases g1
 have len:es.size=ys.length:=by have:=congrArg f9 g4;simpa using this
 have NR:xs.length=ys.length:=Paired.length kt
 refine⟨es,ep,lo,g3,⟨o,ho,g2.1,g3⟩,by omega,λi hi=>?_⟩
 have hi':i < ys.length:=by omega
 have q1:es[i]=entryOfKey (tupleKind (bp P w)) ys[i]:=by
  have:es.toList[i]? =(ys.map (entryOfKey (tupleKind (bp P w))))[i]?:=by rw[g4]
  rw[dD (by simpa using hi),fh,dD hi'] at this
  simpa using this
 obtain⟨x,e1,e2,e3,e4⟩:=FR kt (dD hi')
 exact⟨x,ys[i].2.1,e1,by rw[q1];rfl,e3,by rw[q1];exact e4⟩
theorem CL{P:aaK}{w:aaN}{K:PySem.W.Frag}{tg:Expr}(a it:aaG)(o:Obj)(xs:List (List L2.Key×V)):Turn P w K tg (FQ a o xs) [it] it (λi h=>∃es ep,o.data= .dict es ep/\h.IsKeyIter it a i es.size ep) where
 mem:=by simp
 obj:=λi h st b hb=>by
  obtain⟨es,ep,_,oi,q1,q2,q3⟩:=st
  have e:b=it:=by simpa using hb
  subst e
  exact⟨oi,q1,λv z=>by rw[q3] at z;cases z⟩
 keep:=λi h h' st k=>let ⟨es,ep,hd,ki⟩:=st;⟨es,ep,hd,ki.at λob q=>k it (by simp) ob q⟩
 self:=λ_ _ _ _ _ st h=>let ⟨_,_,_,ki⟩:=st;wpAny_pyIter_keyiter ki h
 item:=by
  intro X hP hw hK hc i pins s σ H E I hf st hg
  subst hP hw hK
  obtain⟨es,ep,hd,ki⟩:=st
  obtain⟨he,hi⟩:=hg
  obtain⟨es',O9,lo,hd',raw,sz,keys⟩:=vS I.hok he
  rw[hd] at hd'
  cases hd'
  obtain⟨f0,f1,f2,f3,f4,f5⟩:=hf it (by simp)
  have hi':i < es.size:=by omega
  refine xo ki raw hi' λh' Q9 sb=>?_
  obtain⟨x,b,e1,e2,e3,_⟩:=keys i hi'
  have I1:Inv X pins σ H { s with heap:=h' }:=I.turned (t':=s.toks) (λc ob hc e=>sb.extBut c ob hc e) f0 f1 f3 f4 f5
  obtain⟨oi,q1,q2,q3⟩:=id Q9
  exact⟨es[i].key,rfl,qg (s:={ s with heap:=h' }) q1 q2 q3 (by decide) ⟨.ref b,H,I1,e2,⟨rfl,x.1,b,by rw[e1];rfl,rfl,e3⟩,⟨es,ep,hd,Q9⟩,λc hb=>(hf c hb).1⟩⟩
 done:=by
  intro X hP hw hK hc i pins s σ H E I hf st hg
  subst hP hw hK
  obtain⟨es,ep,hd,ki⟩:=st
  obtain⟨he,hi⟩:=hg
  obtain⟨es',O9,lo,hd',raw,sz,keys⟩:=vS I.hok he
  rw[hd] at hd'
  cases hd'
  obtain⟨f0,f1,f2,f3,f4,f5⟩:=hf it (by simp)
  exact A1 (I.ok.hd hc) ki raw (by omega) λh' eb=>⟨rfl,I.turned (t':=s.toks) (λb ob hb e=>eb b ob hb e) f0 f1 f3 f4 f5⟩
section
variable {X:Cx} {tg:Expr}
def Ri(te:TE):TI:=λσ H R=>te σ H λx H1=>∃a xs,x= .ref a/\((H1 a=some (.dT xs)/\∀o,R (FQ a o xs) (upd H1 a (.iy o (.dT xs))))\/∃o,H1 a=some (.iy o (.dT xs))/\R (FQ a o xs) H1)
theorem A7{pins:List (aaG×Obj)}{σ:St}{H:Hp}{s:aaL}{R:It->Hp->Prop}{E:aaM->aaL->Prop}{a:aaG}{o:Obj}{xs:List (List L2.Key×V)}(I:Inv X pins σ H s)(e:H a=some (.iy o (.dT xs)))(r:R (FQ a o xs) H):aaZ (model X.prog X.w) X.A (pyIter (.ref a)) (T4 X pins σ tg R) E s:=by
 obtain⟨es,ep,lo,hd,raw,sz,keys⟩:=vS I.hok e
 refine xn lo raw ⟨s.heap.objs.size,[s.heap.objs.size],_,FQ a o xs,H,rfl,I.kept (t':=s.toks) λb ob q=>bK _ q,CL a _ o xs,⟨es,ep,hd,_,cE _ rfl,rfl,rfl⟩,λb hb=>?_,r⟩
 rw[List.mem_singleton.mp hb]
 exact I.yq (au _) (I.hok.fresh (au _))
theorem A8{e:Expr}{te:TE}(he:PE X e te):PI X tg e (Ri te):=by
 intro pins s σ H R I h
 refine a9 (he pins s σ H _ I h) λv s1 ⟨x,H1,I1,r1,a,xs,ex,q⟩=>?_
 subst ex
 cases r1
 rcases q with ⟨e1,k⟩ | ⟨o,e1,k⟩
 ·obtain⟨o,_,I2⟩:=N5 I1 e1
  exact A7 I2 aZ (k o)
 ·exact A7 I1 e1 k
def xy(w:Wv)(st:Hs):Re Wk:=match w with
 | .ref l=>(match st[l]? with
  | some (.bq kvs)=>(match eE (kvs.map (·.1)) with | some ws=> .ok (none,ws) (st.set l (.fH kvs)) | none=> .bad)
  | some (.fH kvs)=>(match eE (kvs.map (·.1)) with | some ws=> .ok (none,ws) st | none=> .bad)
  | _=> .bad)
 | _=> .bad
def gn(g:GE):GI:=λρ st=>(g ρ st).bind xy
theorem uH:∀{ks:List (List L2.Key)}{ws:List Wv},eE ks=some ws->ws.length=ks.length/\∀(i:Nat)(h:i < ws.length),∃k ns,ks[i]? =some k/\xp k=some ns/\ws[i]= .tup (ns.map Wv.int)
 | [],ws,e=>by cases e;exact⟨rfl,λi h=>by cases h⟩
 | k::ks,ws,e=>by
  unfold eE at e
  cases q1:xp k with
  | none=>rw[q1] at e;cases e
  | some ns=>
   cases q2:eE ks with
   | none=>rw[q1,q2] at e;cases e
   | some l=>
    rw[q1,q2] at e
    cases e
    obtain⟨h1,h2⟩:=uH q2
    refine⟨by simp[h1],λi h=>?_⟩
    cases i with
    | zero=>exact⟨k,ns,rfl,q1,rfl⟩
    | succ i=>exact h2 i (by simpa using h)
theorem sg{m1:Mp}{H1:Hp}{a:aaG}{o:Obj}{kvs:List (List L2.Key×Wv)}{xs:List (List L2.Key×V)}{ws:List Wv}(e:H1 a=some (.iy o (.dT xs)))(r:RelK X.K m1 H1 kvs xs)(hk:eE (kvs.map (·.1))=some ws) :
  (∀(k:Nat)(H:Hp)(m':Mp),Ext X.K m1 H1 m' H->k < ws.length->(FQ a o xs).go k H)/\(∀(k:Nat)(H:Hp)(m':Mp),Ext X.K m1 H1 m' H->k=ws.length->(FQ a o xs).stop k H)/\
  ∀(k:Nat)(hk:k < ws.length)(H:Hp)(x:V)(H':Hp)(m':Mp),Ext X.K m1 H1 m' H->(FQ a o xs).BP k H x H'->H'=H/\aj X.K m' H ws[k] x:=by
 obtain⟨l1,g1⟩:=uH hk
 have l2:ws.length=xs.length:=by rw[l1,bc,r.length]
 refine⟨λk H m' e' h=>⟨e'.iy _ _ _ e,by omega⟩,λk H m' e' h=>⟨e'.iy _ _ _ e,by omega⟩,λk h H v H' m' e' y=>?_⟩
 obtain⟨rfl,kk,b,y1,rfl,y2⟩:=y
 refine⟨rfl,?_⟩
 obtain⟨k',ns,f1,f2,f3⟩:=g1 k h
 have e3:(xs[k]?).map (·.1)=some k':=by rw[<-fh,<-r.1];exact f1
 rw[y1] at e3
 cases e3
 rw[f3]
 rw[vP f2] at y2
 unfold aj
 exact⟨b,_,rfl,y2,ai.ints ns⟩
theorem A9{m1:Mp}{H1:Hp}{a:aaG}{o:Obj}{kvs:List (List L2.Key×Wv)}{xs:List (List L2.Key×V)}{ws:List Wv}(e:H1 a=some (.iy o (.dT xs)))(r:RelK X.K m1 H1 kvs xs)(hk:eE (kvs.map (·.1))=some ws):uw X (none,ws) m1 H1 (FQ a o xs) :=
 let ⟨g1,g2,g3⟩:=sg e r hk
 ⟨λk H m' _ e' _ _ h=>g1 k H m' e' h,λk H m' _ e' _ _ h=>g2 k H m' e' h,λk h H v H' m' _ e' _ _ y=>g3 k h H v H' m' e' y⟩
theorem JN{e:Expr}{g:GE}(h:JE X e g):JI X tg e (gn g):=by
 refine⟨_,A8 aE,λρ st σ H m Q S R p=>?_⟩
 refine h.go S R (ax.bind p) λw st1 v m1 H1 p1 e1 S1 rw'=>?_
 unfold xy at p1
 cases w with
 | ref l=>
  unfold aj at rw'
  obtain⟨a,rfl,ha⟩:=rw'
  dsimp only at p1
  cases el:st1[l]? with
  | none=>rw[el] at p1;exact ae p1
  | some ob=>
   rw[el] at p1
   cases ob with
   | bq kvs=>
    dsimp only at p1
    cases ek:eE (kvs.map (·.1)) with
    | none=>rw[ek] at p1;exact ae p1
    | some ws=>
     rw[ek] at p1
     obtain⟨xs,h1,h2⟩:=(show ∃ys,H1 a=some (.dT ys)/\RelK X.K m1 H1 kvs ys from S1.obj _ _ _ ha el)
     refine⟨a,xs,rfl,.inl ⟨h1,λo=>?_⟩⟩
     have ex:Ext X.K m1 H1 m1 (upd H1 a (.iy o (.dT xs))):=Ext.lL (.inr (.inr (.inr ⟨_,h1⟩)))
     have S2:bG X.K m1 (st1.set l (.fH kvs)) (upd H1 a (.iy o (.dT xs))):=S1.pD ha el rfl ⟨o,xs,aZ,h2.mono ex⟩
     exact p1 m1 _ _ (e1.trans ex) S2 trivial (A9 aZ (h2.mono ex) ek)
   | fH kvs=>
    dsimp only at p1
    cases ek:eE (kvs.map (·.1)) with
    | none=>rw[ek] at p1;exact ae p1
    | some ws=>
     rw[ek] at p1
     obtain⟨o,xs,h1,h2⟩:=(show ∃o ys,H1 a=some (.iy o (.dT ys))/\RelK X.K m1 H1 kvs ys from S1.obj _ _ _ ha el)
     exact⟨a,xs,rfl,.inr ⟨o,h1,p1 m1 _ _ e1 S1 trivial (A9 h1 h2 ek)⟩⟩
   | _=>exact ae p1
 | _=>exact ae p1
def gS(i:Nat)(g:GE)(gb:GS):GS:=λρ st=>(gn g ρ st).a9 ρ λw st1=>du i gb w.2 ρ st1
theorem JP(i:Nat){x:Str}{iter:Expr}{body:List Stmt}{g:GE}{gb:GS}{pos pos':Pos}(hN:X.N.Nodup)(hp:PassesOwn (model X.prog X.w) X.A X.env X.xe)(hc:X.calm=true)(h:JE X iter g)(hb:ph X body gb)
  (hx:X.N[i]? =some x)(hlo:Loc X.env.scope x)(Jd:X.fn x=true\/X.env.scope.names.lookup x=some .local)(hs:∀x,aaU iter X.env x=pure x):JS X (.For (.Name x pos') iter body [] pos) (gS i g gb):=by
 refine JS.of (pz hp hc (A8 aE) (mC hN hx hlo Jd) f_ hs) λρ st σ H m D S R p=>?_
 refine h.go S R (ax.bind (aK.cO R p)) λw st1 v m1 H1 p1 e1 S1 rw'=>?_
 unfold xy at p1
 cases w with
 | ref l=>
  unfold aj at rw'
  obtain⟨a,rfl,ha⟩:=rw'
  dsimp only at p1
  cases el:st1[l]? with
  | none=>rw[el] at p1;exact ae p1
  | some ob=>
   rw[el] at p1
   cases ob with
   | bq kvs=>
    dsimp only at p1
    cases ek:eE (kvs.map (·.1)) with
    | none=>rw[ek] at p1;exact ae p1
    | some ws=>
     rw[ek] at p1
     obtain⟨xs,h1,h2⟩:=(show ∃ys,H1 a=some (.dT ys)/\RelK X.K m1 H1 kvs ys from S1.obj _ _ _ ha el)
     refine⟨a,xs,rfl,.inl ⟨h1,λo=>?_⟩⟩
     have ex:Ext X.K m1 H1 m1 (upd H1 a (.iy o (.dT xs))):=Ext.lL (.inr (.inr (.inr ⟨_,h1⟩)))
     have S2:bG X.K m1 (st1.set l (.fH kvs)) (upd H1 a (.iy o (.dT xs))):=S1.pD ha el rfl ⟨o,xs,aZ,h2.mono ex⟩
     obtain⟨g1,g2,g3⟩:=sg (X:=X) (o:=o) aZ (h2.mono ex) ek
     exact kj (J':=FQ a o xs) i hb S2 (R.mono (e1.trans ex)) (aK.shift p1 (e1.trans ex)) g1 g2 g3
   | fH kvs=>
    dsimp only at p1
    cases ek:eE (kvs.map (·.1)) with
    | none=>rw[ek] at p1;exact ae p1
    | some ws=>
     rw[ek] at p1
     obtain⟨o,xs,h1,h2⟩:=(show ∃o ys,H1 a=some (.iy o (.dT ys))/\RelK X.K m1 H1 kvs ys from S1.obj _ _ _ ha el)
     obtain⟨g1,g2,g3⟩:=sg (X:=X) h1 h2 ek
     exact⟨a,xs,rfl,.inr ⟨o,h1,kj (J':=FQ a o xs) i hb S1 (R.mono e1) (aK.shift p1 e1) g1 g2 g3⟩⟩
   | _=>exact ae p1
 | _=>exact ae p1
end
section
variable {prog:aaK} {w:aaN} {A:aaH} {E:aaM->aaL->Prop} {s:aaL} {d:aaG} {es:Array DictEntry} {ep:Nat}
theorem JQ{Q:aaM->aaL->Prop}(lo:(d == sysModules)=false)(x:sd s.heap d es ep)(hz:es.size<=aaX)(h:Q (.int es.size (s.toks+1)) { s with toks:=s.toks+1+1 }):aaZ (model prog w) A (call (.builtin "len") [.ref d]) Q E s:=by
 have ty:=x.ty
 obtain⟨o,g1,g2,g3⟩:=x
 refine NP kind_len plain_len entry_len (args_len1 _) ?_
 have n0:¬((es.size:Int) < 0):=by omega
 have n1:¬((es.size:Int) >= 2 ^ 63):=by rw[sizeLine_eq] at hz;omega
 have M:MeetsIn prog w (Builtin.«dict.__len__» ⟨[.ref d],[]⟩) (λ_ R s'=>s'=s/\R (.ok (.ret (.int es.size s.toks))) { s with toks:=s.toks+1 }):=.of_wp λA R s' ⟨e,h⟩=>by
  subst e
  refine(show aaZ _ _ (dictSize d >>= _) _ _ s' from ?_)
  unfold dictSize
  refine aa0 (aa0 (aa1 g1 g3 (aa6 ?_)))
  exact(show aaZ _ _ (Builtin.Dict.pendingCount d >>= _) _ _ s' from aa0 (wpAny_pendingCount_other lo (wpAny_ret_mkInt (by rw[Nat.add_zero];exact h))))
 unfold Builtin.«len»
 refine aa0 (m:=oneArg "len" _) (aa6 (aa0 (m:=callSpecial? (.ref d) (oA "__len__")) (wpAny_callSpecial?_slot (name:=oA "__len__") ty PySem.F.slot_dict_len
  (call_meetsIn PySem.F.slot_dict_len ty PySem.F.entry_dict_len (PySem.F.args_dict_len_1 _) M ⟨rfl,?_⟩))))
 refine(show aaZ _ _ _ _ _ { s with toks:=s.toks+1 } from aa0 (aa2 (aa6 (aa0 (wpAny_letGo ?_)))))
 refine(show aaZ _ _ (if((es.size:Nat):Int) < 0 then _ else _) _ _ _ from ?_);rw[if_neg n0]
 refine(show aaZ _ _ (if((es.size:Nat):Int) >= 2 ^ 63 then _ else _) _ _ _ from ?_);rw[if_neg n1]
 exact aa0 (wpAny_mkInt (aa6 ⟨_,rfl,h⟩))
end
section
variable {prog:aaK} {w:aaN} {K:Type} [DecidableEq K] {knd:HeapKind prog w K} {A:aaH} {E:aaM->aaL->Prop} {s:aaL} {d a:aaG} {xs:List (K×aaG×aaM)} {k:K}
end
section
variable {prog:aaK} {w:aaN} {A:aaH} {E:aaM->aaL->Prop} {s:aaL}
end
section
variable {prog:aaK} {w:aaN} {A:aaH} {E:aaM->aaL->Prop} {s:aaL} {d it:aaG} {i:Nat} {es:Array DictEntry} {ep:Nat} {ok ov:aaM}
end
section
variable {X:Cx}
theorem zt{P:aaK}{w:aaN}{H:Hp}{h:Heap}{a:aaG}{xs:List (List L2.Key×V)}(ok:lI P w H h)(e:Rd H a (.dT xs)) :
  ∃es ep ys,xs.length<=aaX/\(a == sysModules)=false/\sd h a es ep/\es.size=xs.length/\KT H xs ys/\es.toList=ys.map (entryOfKey (tupleKind (bp P w)))/\(ys.map (·.1)).Nodup:=by
 obtain⟨z,lo,ys,kt,o,es,ep,g1,g2,g3,g4,g5⟩:=(show dv P w H h a (.dT xs) from D7 ok e)
 have len:es.size=ys.length:=by have:=congrArg f9 g4;simpa using this
 exact⟨es,ep,ys,z,lo,⟨o,g1,g2.1,g3⟩,by rw[len];exact(Paired.length kt).symm,kt,g4,g5⟩
theorem CM:dW X (.builtin "len") (λxs H Q=>∃a kvs,xs=[.ref a]/\Rd H a (.dT kvs)/\Q (.int kvs.length) H):=by
 intro pins s σ H xs us Q I rs q
 obtain⟨a,kvs,rfl,e,q⟩:=q
 cases rs with
 | cons r rr=>
  cases rr
  cases r
  obtain⟨es,ep,ys,z,lo,raw,sz,_⟩:=zt I.hok e
  refine JQ lo raw (by rw[sz];exact z) ⟨.int kvs.length,H,I.tok _,⟨_,by rw[sz]⟩,q⟩
def bV:Option Ob->Option (List (List L2.Key×Wv))
 | some (.bq kvs)=>some kvs
 | some (.fH kvs)=>some kvs
 | _=>none
theorem oR{m:Mp}{st:Hs}{H:Hp}{l:Nat}{a:aaG}{kvs:List (List L2.Key×Wv)}(S:bG X.K m st H)(ha:m[l]? =some a)(h:bV st[l]? =some kvs):∃xs,Rd H a (.dT xs)/\RelK X.K m H kvs xs:=by
 unfold bV at h
 split at h
 ·rename_i k' e
  cases h
  obtain⟨xs,h1,h2⟩:=(show ∃ys,H a=some (.dT ys)/\RelK X.K m H kvs ys from S.obj _ _ _ ha e)
  exact⟨xs,.inl h1,h2⟩
 ·rename_i k' e
  cases h
  obtain⟨o,xs,h1,h2⟩:=(show ∃o ys,H a=some (.iy o (.dT ys))/\RelK X.K m H kvs ys from S.obj _ _ _ ha e)
  exact⟨xs,.inr ⟨o,h1⟩,h2⟩
 ·cases h
def lE:List Wv->Hs->Re Wv
 | [.ref l],st=>(match bV st[l]? with | some kvs=> .ok (.int kvs.length) st | none=>nq [.ref l] st)
 | ws,st=>nq ws st
theorem JR:fV X (.builtin "len") lE:=by
 obtain⟨r0,c0,k0⟩:=Ez (X:=X)
 refine⟨_,CM.or c0,λws vs st H m Q S r p=>?_⟩
 have old:cS X.K m H (nq ws st) Q->r0 vs H Q:=λp=>k0 ws vs st H m Q S r p
 unfold lE at p
 split at p
 ·rename_i l
  cases e:bV st[l]? with
  | none=>rw[e] at p;exact .inr (old p)
  | some kvs=>
   rw[e] at p
   obtain⟨v,rfl,rx⟩:=nk r
   unfold aj at rx
   obtain⟨a,rfl,ha⟩:=rx
   obtain⟨xs,h1,h2⟩:=oR (X:=X) S ha e
   refine .inl ⟨a,xs,rfl,h1,?_⟩
   rw[<-h2.length]
   exact p _ m H Ext.refl S mkInt
 ·exact .inr (old p)
def Rj(ns:List Int):Int:=reduceHash (Builtin.Tuple.tupleHashOf (ns.map hashInt))
end
theorem CN{o:Option V}(r:oh o none):o=none:=by
 cases o with
 | none=>rfl
 | some u=>exact(show False from r).elim
theorem CO{o:Option V}{u:aaM}(r:oh o (some u)):∃v,o=some v/\RelV v u:=by
 cases o with
 | none=>exact(show False from r).elim
 | some v=>exact⟨v,rfl,r⟩
section
variable {X:Cx} {o e f:Expr} {apos cpos:Pos} {td ty tx:TE}
def FT{κ:Type}[DecidableEq κ](kvs:List (κ×Wv))(k:κ):List (κ×Wv):=kvs.filter λkv=>decide (kv.1≠k)
theorem RelK.drop{κ:Type}[DecidableEq κ]{K:PySem.W.Frag}{m:Mp}{H:Hp}(k:κ):∀{kvs:List (κ×Wv)}{xs:List (κ×V)},RelK K m H kvs xs->RelK K m H (FT kvs k) (rF xs k)
 | [],xs,h=>by rw[h.nil_inv];exact RelK.nil
 | p::r,xs,h=>by
  obtain⟨v,t,rfl,h1,h2⟩:=h.cons_inv
  by_cases e:p.1=k
  ·rw[B5 e]
   unfold FT
   rw[rG,if_neg (by simp[e])]
   exact h2.drop k
  ·rw[B6 e]
   unfold FT
   rw[rG,if_pos (by simp[e])]
   exact RelK.cons h1 (h2.drop k)
end
structure M0(X:Cx)(o:Expr)(m:Str)(apos cpos:Pos):Prop where
 base:attributeBase o m X.env (eval o X.env)=eval o X.env
 line:(apos.endLine == cpos.line)=true
section
variable {X:Cx} {es':List Expr} {kt:Nat} {pt:Pos}
end
def Xg(K:PySem.W.Frag)(a:aaG)(n:Nat):It :=
 ⟨λi H=>∃xs,lO K H a xs/\xs.length=n/\i < n,λi H x H'=>H'=H/\∀xs,lO K H a xs->xs[n - 1 - i]? =some x,λi _=>n=i⟩
theorem FU{P:aaK}{w:aaN}{K:PySem.W.Frag}{tg:Expr}(a it:aaG)(n:Nat):Turn P w K tg (Xg K a n) [it] it (λi h=>h.IsRevIter it a ((n:Int) - 1 - i)) where
 mem:=by simp
 obj:=λi h st b hb=>by
  have e:b=it:=by simpa using hb
  subst e
  obtain⟨o,e,c,d⟩:=st
  exact⟨o,e,λv z=>by rw[d] at z;cases z⟩
 keep:=λi h h' st k=>st.at λo e=>k it (by simp) o e
 item:=by
  intro X hP hw hK hc i pins s σ H E I hf st hg
  subst hP hw hK
  obtain⟨xs,hq,hn,hi⟩:=hg
  obtain⟨its,rv,p,hz⟩:=I.list hq
  have hx:xs[n - 1 - i]? =some (xs[n - 1 - i]'(by omega)):=dD (by omega)
  obtain⟨u,hu,ru⟩:=rv.get hx
  obtain⟨f0,f1,f2,f3,f4,f5⟩:=hf it (by simp)
  have ei:(n:Int) - 1 - i=((n - 1 - i:Nat):Int):=by omega
  have st2:s.heap.IsRevIter it a ((n - 1 - i:Nat):Int):=by rw[<-ei];exact st
  refine wpAny_pyNext_rev_item st2 p.isList (x:=u) (by simpa using hu) λh' st' sb=>?_
  have st3:h'.IsRevIter it a ((n:Int) - 1 - ((i+1:Nat):Int)):=by
   have e:(n:Int) - 1 - ((i+1:Nat):Int)=((n - 1 - i:Nat):Int) - 1:=by omega
   rw[e];exact st'
  have I1:Inv X pins σ H { s with heap:=h' }:=I.turned (t':=s.toks) (λb o hb e=>(sb.2 b hb).trans e) f0 f1 f3 f4 f5
  obtain⟨o,e,c,d⟩:=id st'
  exact⟨u,rfl,qg (s:={ s with heap:=h' }) e c d (by decide) ⟨_,H,I1,ru,⟨rfl,λys hy=>by rw[I.wI hy hq];exact hx⟩,st3,λb hb=>(hf b hb).1⟩⟩
 done:=by
  intro X hP hw hK hc i pins s σ H E I hf st hg
  subst hP hw hK
  have hg:n=i:=hg
  obtain⟨f0,f1,f2,f3,f4,f5⟩:=hf it (by simp)
  have st2:s.heap.IsRevIter it a (-1):=by
   have e:(n:Int) - 1 - i= -1:=by omega
   rw[<-e];exact st
  exact wpAny_pyNext_rev_end (I.ok.hd hc) st2 λh' eb=>⟨rfl,I.turned (t':=s.toks) (λb o hb e=>eb b o hb e) f0 f1 f3 f4 f5⟩
 self:=λ_ _ _ _ _ st h=>wpAny_pyIter_revIter st h
section
variable {X:Cx}
def U5(K:PySem.W.Frag)(ta:TA):TI:=λσ H R=>ta σ H λvs H1=>∃a xs,vs=[.ref a]/\lO K H1 a xs/\R (Xg K a xs.length) H1
theorem boot_reversed:aaQ "reversed"=some (.type "reversed"):=by decide+kernel
theorem N7{tg:Expr}{p q:Pos}{l:Expr}{ta:TA}(hg:Gl X "reversed")(hm:X.mg "reversed"=none)(ha:PA X [l] ta)(hst:aaY [l] X.env=[(false,eval l X.env)]) :
  PI X tg (.Call (.Name "reversed" p) [l] [] q) (U5 X.K ta):=by
 intro pins s σ H R I h
 refine Call_ (nL I hg hm boot_reversed (qE (a9 (ha q pins s σ H _ I h) λus s1 ⟨vs,H1,I1,r1,q1⟩=>?_) hst rfl))
 obtain⟨a,xs,e,hq,k⟩:=q1
 subst e
 cases r1 with
 | cons r rr=>
  cases rr
  cases r
  obtain⟨its,rv,pl,hz⟩:=I1.list hq
  have hl:=rv.length
  refine call_reversed_list pl.isList (wpAny_pyIter_revIter (l:=a) (i:=(xs.length:Int) - 1) ⟨_,cE _ rfl,rfl,by simp[revObj,hl]⟩ ?_)
  refine⟨s1.heap.objs.size,[s1.heap.objs.size],_,_,H1,rfl,I1.kept (t':=s1.toks) λb o q=>bK _ q,FU a _ xs.length,⟨_,cE _ rfl,rfl,by simp[revObj,hl]⟩,λb hb=>?_,k⟩
  rw[List.mem_singleton.mp hb]
  exact I1.yq (au _) (I1.hok.fresh (au _))
def Lq(i:Nat)(ga:GA)(gb:GS):GS:=λρ st=>(ga ρ st).a9 ρ λws st1=>match ws with
 | [.ref l]=>(match ao st1 l with | some all=>forL i gb l all all.reverse ρ st1 | none=> .bad)
 | _=> .bad
theorem JU(i:Nat){x:Str}{l:Expr}{body:List Stmt}{ga:GA}{gb:GS}{pos pos' p q:Pos}(hN:X.N.Nodup)(hp:PassesOwn (model X.prog X.w) X.A X.env X.xe)(hc:X.calm=true)(hg:Gl X "reversed")(hm:X.mg "reversed"=none)(ha:JA X [l] ga)(hst:aaY [l] X.env=[(false,eval l X.env)])(hb:ph X body gb)
  (hx:X.N[i]? =some x)(hlo:Loc X.env.scope x)(hf:X.fn x=true\/X.env.scope.names.lookup x=some .local):JS X (.For (.Name x pos') (.Call (.Name "reversed" p) [l] [] q) body [] pos) (Lq i ga gb):=by
 refine JS.of (pz hp hc (N7 hg hm ke hst) (mC hN hx hlo hf) f_ (λ_=>rfl)) λρ st σ H m D S R p=>?_
 refine ha.go S R (aK.cO R p) λws st1 vs m1 H1 p1 e1 S1 rs=>?_
 match ws,rs,p1 with
 | [],rs,p1=>exact ae p1
 | x::y::t,rs,p1=>cases x<;>exact ae p1
 | [w],rs,p1=>
  obtain⟨v,rfl,rw'⟩:=nk rs
  cases w with
  | ref l=>
   have p1':aK X m H (match ao st1 l with | some all=>forL i gb l all all.reverse ρ st1 | none=> .bad) D:=p1
   unfold aj at rw'
   obtain⟨a,rfl,hla⟩:=rw'
   cases el:ao st1 l with
   | none=>rw[el] at p1';exact ae p1'
   | some ws=>
    rw[el] at p1'
    obtain⟨Nq,q0,r0⟩:=S1.read hla el
    refine⟨a,Nq,rfl,q0,?_⟩
    have len0:ws.length=Nq.length:=r0.length
    have lr:ws.reverse.length=ws.length:=List.length_reverse
    let Pv:Nat->St->Hp->Prop:=λk σ H=>∃ρ st m',Ext X.K m1 H1 m' H/\bG X.K m' st H/\aD X.K m' H ρ σ/\ao st l=some ws/\aK X m' H (forL i gb l ws (ws.reverse.drop k) ρ st) D
    refine⟨λk n σ H=>n=ws.length - k/\k<=ws.length/\Pv k σ H,⟨ws.length,by simp,dX _,ρ,st1,m1,Ext.refl,S1,R.mono e1,el,aK.shift p1' e1⟩,?_⟩
    rintro k n σ2 H2 ⟨rfl,hk,ρ2,st2,m2,e2,S2,R2,l2,p2⟩
    obtain⟨xs,hq,rws⟩:=S2.read (e2.pre _ _ hla) l2
    have hlen:=rws.length
    by_cases hlt:k < ws.length
    ·have hlt':k < ws.reverse.length:=by omega
     refine .inr ⟨⟨xs,hq,by omega,by omega⟩,Pv (k+1),λσ' H' p'=>⟨ws.length - (k+1),by omega,rfl,hlt,p'⟩,λx H' y=>?_⟩
     obtain⟨ee,y⟩:=y
     subst ee
     have ey:=y xs hq
     have ed:ws.reverse.drop k=ws.reverse[k]::ws.reverse.drop (k+1):=y7 hlt'
     have YQ:ws.reverse[k]=ws[ws.length - 1 - k]'(by omega):=by rw[List.getElem_reverse]
     obtain⟨x',ex',tH⟩:=rws.get (i:=ws.length - 1 - k) (w:=ws[ws.length - 1 - k]'(by omega)) (dD (by omega))
     rw[<-len0,ex'] at ey
     cases ey
     rw[ed,YQ] at p2
     refine hb _ st2 _ _ m2 _ S2 (R2.set i tH) ?_
     unfold forL at p2
     cases eg:gb (ρ2.set i (some (ws[ws.length - 1 - k]'(by omega)))) st2 with
     | nx ρ3 st3=>
      rw[eg] at p2
      by_cases c:ao st3 l=some ws
      ·simp only[if_pos c] at p2
       exact λσ3 m3 H3 e3 S3 R3=>⟨ρ3,st3,m3,e2.trans e3,S3,R3,c,aK.shift p2 e3⟩
      ·simp only[if_neg c] at p2;exact ae p2
     | ct ρ3 st3=>
      rw[eg] at p2
      by_cases c:ao st3 l=some ws
      ·simp only[if_pos c] at p2
       exact λσ3 m3 H3 e3 S3 R3=>⟨ρ3,st3,m3,e2.trans e3,S3,R3,c,aK.shift p2 e3⟩
      ·simp only[if_neg c] at p2;exact ae p2
     | bk ρ3 st3=>rw[eg] at p2;exact p2
     | rt w3 st3=>rw[eg] at p2;exact p2
     | err c3 ρ3 st3=>rw[eg] at p2;exact p2
     | bad=>rw[eg] at p2;exact p2
    ·have e:k=ws.length:=by omega
     subst e
     rw[<-lr,vA] at p2
     exact .inl ⟨by show Nq.length=ws.length;omega,p2 σ2 m2 H2 Ext.refl S2 R2⟩
  | _=>exact ae p1
end
section
variable {prog:aaK} {w:aaN} {K:Type} [DecidableEq K] {knd:HeapKind prog w K} {A:aaH} {E:aaM->aaL->Prop} {s:aaL} {a b:aaG} {xs ys:List (K×aaG×aaM)}
end
section
variable {prog:aaK} {w:aaN} {K:Type} [DecidableEq K] {knd:HeapKind prog w K} {A:aaH} {E:aaM->aaL->Prop} {s:aaL} {a b:aaG} {xs ys:List (K×aaG×aaM)}
end
theorem xA{κ:Type}[DecidableEq κ]{k:κ}{w:Wv}:∀{kvs:List (κ×Wv)},en kvs k=some w->(k,w)∈kvs
 | [],e=>by cases e
 | p::r,e=>by
  unfold en at e
  by_cases h:p.1=k
  ·rw[if_pos h] at e
   cases e
   rw[<-h]
   exact aB
  ·rw[if_neg h] at e
   exact aF _ (xA e)
section
variable {X:Cx}
end
section
variable {X:Cx}
end
section
variable {prog:aaK} {w:aaN} {K:Type} [DecidableEq K] {knd:HeapKind prog w K} {A:aaH} {E:aaM->aaL->Prop} {s:aaL} {d:aaG} {xs:List (K×aaG×aaM)}
end
section
variable {X:Cx}
end
def si(gd gk:GE):GE:=λρ st=>(gd ρ st).bind λd st1=>match d with
 | .ref l=>if(bV st1[l]?).isSome=true then(gk ρ st1).bind λk st2=>(match lW k,bV st2[l]? with
  | some kk,some kvs=> .ok ((en kvs kk).getD .bg) st2
  | _,_=> .bad) else .bad
 | _=> .bad
section
variable {X:Cx}
theorem FV{o e:Expr}{gd gk:GE}{apos cpos:Pos}(hu:X.A.units+1 < cLine)(ho:JE X o gd)(he:JE X e gk)(M:M1 X o "get" apos e cpos):JE X (.Call (.Attribute o "get" apos) [e] [] cpos) (si gd gk) :=
 JE.of (Ed hu aE aE M) λρ st σ H m Q S R p=>by
  refine ho.go S R (ax.bind p) λd st1 v m1 H1 p1 e1 S1 r1=>?_
  cases d with
  | ref l=>
   dsimp only at p1
   by_cases hd:(bV st1[l]?).isSome=true
   ·rw[if_pos hd] at p1
    unfold aj at r1
    obtain⟨a,rfl,ha⟩:=r1
    obtain⟨kv1,hk1⟩:=Option.isSome_iff_exists.mp hd
    obtain⟨YR,YS,_⟩:=oR S1 ha hk1
    refine⟨a,rfl,.inr ⟨YR,YS⟩,?_⟩
    refine he.go S1 (R.mono e1) ((ax.bind p1).imp e1 λ_ _ q=>q) λk st2 y m2 H2 p2 e2 S2 r2=>?_
    cases q1:lW k with
    | none=>rw[q1] at p2;exact ae p2
    | some kk=>
     cases q2:bV st2[l]? with
     | none=>rw[q1,q2] at p2;exact ae p2
     | some kvs=>
      rw[q1,q2] at p2
      have ha2:m2[l]? =some a:=e2.pre _ _ ha
      obtain⟨xs,y1,y2⟩:=oR S2 ha2 q2
      obtain⟨b,rfl,hb⟩:=lX r2 q1
      dsimp only at p2
      refine⟨_,.inr ⟨xs,kk,b,y1,rfl,hb,rfl⟩,?_⟩
      obtain⟨i1,i2⟩:=y2.val kk
      cases q3:en kvs kk with
      | none=>
       rw[i1 q3]
       rw[q3] at p2
       exact p2 .bg m2 H2 (e1.trans e2) S2 (by unfold aj;rfl)
      | some w=>
       obtain⟨u,j1,j2⟩:=i2 w q3
       rw[j1]
       rw[q3] at p2
       exact p2 u m2 H2 (e1.trans e2) S2 j2
   ·rw[if_neg hd] at p1;exact ae p1
  | _=>exact ae p1
end
section
variable {X:Cx}
open Classical in
end
section
variable {X:Cx}
def N8(neg:Bool):R2:=λa b H Q=>∃p c kvs k,a= .ref c/\H c=some (.tup (k.map kV))/\b= .ref p/\Rd H p (.dT kvs)/\Q (.bl ((kH kvs k).isSome != neg)) H
theorem A_{H:Hp}{kvs:List (List L2.Key×V)}{xs:List (List L2.Key×aaG×aaM)}(r:KT H kvs xs)(k:List L2.Key):(atKey xs k).isSome=(kH kvs k).isSome:=by
 have v:=r.val k
 cases e:atKey xs k with
 | none=>rw[e] at v;rw[CN v];rfl
 | some p=>rw[e] at v;obtain⟨w,ew,_⟩:=CO v;rw[ew];rfl
theorem N9(hu:X.A.units+1 < cLine):eM X (aaT .In) (N8 false):=by
 intro pins s σ H a b v u Q I rx ry h
 obtain⟨p,c,kvs,k,rfl,hk,rfl,hd,q⟩:=h
 cases rx
 cases ry
 obtain⟨z,lo,xs,kt,dd⟩:=qk I.hok hd
 refine wpAny_in_heap (tupleKind_room_in1 hu) (nO I.hok hk) lo dd ⟨.bl (kH kvs k).isSome,H,I.tok _,?_,by simpa using q⟩
 rw[A_ kt]
 rfl
theorem CP(hu:X.A.units+1 < cLine):eM X (aaT .NotIn) (N8 true):=by
 intro pins s σ H a b v u Q I rx ry h
 obtain⟨p,c,kvs,k,rfl,hk,rfl,hd,q⟩:=h
 cases rx
 cases ry
 obtain⟨z,lo,xs,kt,dd⟩:=qk I.hok hd
 refine wpAny_notIn_heap (tupleKind_room_in1 hu) (nO I.hok hk) lo dd ⟨.bl (!(kH kvs k).isSome),H,I.tok _,?_,?_⟩
 ·rw[A_ kt]
  rfl
 ·have e:∀t:Bool,(t != true)= !t:=by decide
  rw[e] at q
  exact q
def iM(neg:Bool):gO:=λx y st=>match y with
 | .ref l=>(match bV st[l]?,lW x with | some kvs,some k=> .ok (.bl ((en kvs k).isSome != neg)) st | _,_=>nu neg x y st)
 | _=>nu neg x y st
theorem FW{neg:Bool}{x y:Wv}{a b:V}{st:Hs}{H:Hp}{m:Mp}{Q:VK}(S:bG X.K m st H)(rx:aj X.K m H x a)(ry:aj X.K m H y b)(p:cS X.K m H (iM neg x y st) Q):N8 neg a b H Q\/cS X.K m H (nu neg x y st) Q:=by
 unfold iM at p
 split at p
 ·rename_i l
  split at p
  ·rename_i kvs k e1 e2
   have Xh:=ry
   unfold aj at Xh
   obtain⟨a',rfl,ha⟩:=Xh
   obtain⟨xs,h1,h2⟩:=oR (X:=X) S ha e1
   obtain⟨c,rfl,hc⟩:=lX rx e2
   obtain⟨i1,i2⟩:=h2.val k
   have ev:(kH xs k).isSome=(en kvs k).isSome:=by
    cases q3:en kvs k with
    | none=>rw[i1 q3];rfl
    | some w=>obtain⟨u,j1,_⟩:=i2 w q3;rw[j1];rfl
   exact .inl ⟨a',c,xs,k,rfl,hc,rfl,h1,by rw[ev];exact p _ m H Ext.refl S iB⟩
  ·exact .inr p
 ·exact .inr p
theorem N_(hu:X.A.units+64 < cLine):jw X (aaT .In) (iM false):=⟨_,eM.or (N9 (by omega)) (FK hu),λx y a b st H m Q S rx ry p=>(FW S rx ry p).imp (λz=>z) λz=>vQ S rx ry z⟩
theorem CQ(hu:X.A.units+64 < cLine):jw X (aaT .NotIn) (iM true):=⟨_,eM.or (CP (by omega)) (uF hu),λx y a b st H m Q S rx ry p=>(FW S rx ry p).imp (λz=>z) λz=>vQ S rx ry z⟩
end
section
variable {prog:aaK} {w:aaN} {K:Type} [DecidableEq K] {knd:HeapKind prog w K} {A:aaH} {E:aaM->aaL->Prop} {s:aaL} {d a:aaG} {k:K} {xs:List (K×aaG×aaM)}
end
section
variable {X:Cx} {o e:Expr} {apos cpos:Pos} {td ty:TE}
end
section
variable {X:Cx} {o e f:Expr} {apos cpos:Pos} {to te tf:TE}
end
section
variable {X:Cx}
abbrev kP(p:Int×Int):List L2.Key:=[L2.Key.inl p.1,L2.Key.inl p.2]
theorem vT{H:Hp}:∀{ps:List (Int×Int)}{vs:List V},Q_ H vs (ps.map kP)->Fv H vs ps
 | [],_,h=>by cases h;exact .nil
 | p::r,_,h=>by
  cases h with
  | cons h t=>exact .cons h (vT t)
theorem xB{prog:aaK}{w:aaN}{es:Array DictEntry}{ys:List (List L2.Key×aaG×aaM)}{vs:List aaM}(g4:es.toList=ys.map (entryOfKey (tupleKind (bp prog w))))(hlen:vs.length=es.size)(hv:∀(j:Nat)(v:aaM),vs[j]? =some v->∃h:j < es.size,v=es[j].key):vs=ys.map λx=>aR x.2.1:=by
 have len:es.size=ys.length:=by have:=congrArg f9 g4;simpa using this
 refine zo λj=>?_
 cases e:vs[j]? with
 | none=>
  have hj:vs.length<=j:=by simpa using e
  rw[vO]
  simp
  omega
 | some v=>
  obtain⟨hj,ev⟩:=hv j v e
  have hj':j < ys.length:=by omega
  have q1:es.toList[j]'(by simpa using hj)=entryOfKey (tupleKind (bp prog w)) ys[j]:=by
   have:es.toList[j]? =(ys.map (entryOfKey (tupleKind (bp prog w))))[j]?:=by rw[g4]
   rw[dD (by simpa using hj),fh,dD hj'] at this
   simpa using this
  rw[fh,dD hj',ev]
  have q2:es[j]=es.toList[j]'(by simpa using hj):=by simp
  rw[q2,q1]
  rfl
theorem xC{pins:List (aaG×Obj)}{σ:L2.St}{H:Hp}{s:aaL}{m:Str->Option aaM}{h'':Heap}{D:aaG}{its:List aaM}{vs:List V}{c tk:Nat}(I:Inv X pins σ H s)(hn:s.heap.Ns X.env.locals m)(iH:∀b o,b≠X.env.locals->s.heap.get? b=some o->h''.get? b=some o)(Cv:s.heap.get? D=none)
  (ns:h''.Ns X.env.locals m)(hv:Vals vs its)(hz:vs.length<=aaX)(hg:h''.get? D=some (seqObj "list" its.toArray c)):H D=none/\Inv X pins σ (upd H D (.lst vs)) { s with heap:=h'',toks:=tk }:=by
 have Dy:H D=none:=by
  cases e:H D with
  | none=>rfl
  | some ob=>
   obtain⟨z,e'⟩:=pJ (I.hok D ob e)
   rw[Cv] at e'
   cases e'
 refine⟨Dy,?_⟩
 have qQ:∀b u,H b=some u->b≠D:=λb u e=>bI e Dy
 have DF:∀b u,H b=some u->b≠X.env.locals:=λb u e=>bI e I.free
 refine I.step (g':=s.gens) (d':=s.drawn) (t':=tk) (ch:=[]) (λ_ z=>nomatch z) (λb o n _ _ e _=>iH b o n e) (λb o n _ _ e _=>⟨o.slots,iH b o n e⟩) (λb o _ e n=>?_) (λb o _ e=>?_) (λb xs e=>?_) (λb o u e=>?_) (λb ps e=>?_) (λm' hm=>zk hn hm ns) (λb ob e=>?_) I.bare
 ·rw[aw (λz=>by subst z;rw[Cv] at e;cases e)];exact n
 ·by_cases z:b=X.env.locals
  ·subst z
   obtain⟨o',_,_,e',_⟩:=ns
   exact⟨o',e'⟩
  ·exact⟨o,iH b o z e⟩
 ·rw[aw (qQ _ _ e)];exact e
 ·rw[aw (qQ _ _ e)];exact e
 ·exact⟨#[],by rw[aw (qQ _ _ e),e];simp⟩
 ·by_cases z:b=D
  ·subst z
   rw[aZ] at e
   cases e
   exact⟨hz,its,c,hv,hg⟩
  ·rw[aw z] at e
   refine(I.hok b ob e).stay (λc v hc q=>iH c v ?_ q) (λc q=>by rw[aw (qQ _ _ q)];exact q) λc xs q=>by rw[aw (qQ _ _ q)];exact q
   rcases hc with y | y
   ·rw[y];exact DF b ob e
   ·exact DF c _ y
theorem CT(hc:X.calm=true):dW X (.builtin "sorted") (λxs H Q=>∃(p:aaG)(kvs:List (List L2.Key×V))(ps:List (Int×Int)),xs=[.ref p]/\Rd H p (.dT kvs)/\kvs.map (·.1)=ps.map kP/\2<=ps.length/\ps.length < 64/\∀l vs',H l=none->Fv H vs' (di ps)->Q (.ref l) (upd H l (.lst vs'))):=by
 intro pins s σ H xs us Q I r h
 obtain⟨p,kvs,ps,rfl,hd,hk,h2,h64,q⟩:=h
 obtain⟨u,rfl,rx⟩:=vals1 r
 cases rx
 obtain⟨es,ep,ys,z,lo,raw,sz,kt,g4,g5⟩:=zt I.hok hd
 have ky:=qR kt
 rw[hk] at ky
 have hp:=vT ky
 have r':=mK (λx:List L2.Key×aaG×aaM=>x.2.1) ys
 have tu:=zj I hp r'
 have lk:kvs.length=ps.length:=by have:=congrArg f9 hk;simpa using this
 obtain⟨m,hn,hl⟩:=id I.loc
 obtain⟨oL,YL,YM,gL,dL,_⟩:=id hn
 refine kdu_sorted (vN lo) (I.ok.hd hc) (Att.vn hn) (oo (g:=Att.nN s.heap) (h:=s.heap) (L:=X.env.locals)) raw (by rw[sz];exact z) λD h1 tk vs F1 N1 hD hlen hv=>?_
 have Ra:=xB g4 hlen hv
 subst Ra
 have l2:(ys.map λx=>aR x.2.1).length=ps.length:=tu.length
 have l1:(ys.map λx=>V.ref x.2.1).length=(ys.map λx=>aR x.2.1).length:=r'.length
 have hz:(ys.map λx=>V.ref x.2.1).length<=aaX:=by rw[l1,l2,<-lk];exact z
 generalize (ys.map λx:List L2.Key×aaG×aaM=>aR x.2.1)=its at r' tu F1 N1 hlen hv l1 l2
 generalize (ys.map λx:List L2.Key×aaG×aaM=>V.ref x.2.1)=vs at ky hp r' l1 hz
 obtain⟨Pj,hDL,JV⟩:=N1 (D,listOf its.toArray 0) aB
 refine wpAny_call_entry slot_list_sort ⟨_,Pj,rfl⟩ entry_list_sort ?_ (args_list_sort _)
 refine kat_list_sort (s:={ s with heap:=h1,toks:=tk }) F1 (λp hp=>N1 p (aF _ hp)) Pj hDL JV (λp hp=>bW (hD p hp)) (by omega) (by omega) λe1 h' F' N'=>?_
 have keep:∀b o,b≠X.env.locals->s.heap.get? b=some o->h'.get? b=some o:=λb o n e=>(N' (b,o) (aF _ (cq n (Att.cH _ _) e))).1
 have NN:Paired (TupAt h') its ps:=pO (λa o its n e d=>keep a o (λz=>by
  subst z
  rw[gL] at e
  cases e
  rw[dL] at d
  cases d) e) tu
 obtain⟨fs,k1,k2,k3⟩:=r8 NN
 refine kat_kind (T:=.type "int") (s:={ s with heap:=h',toks:=tk }) k1 (by omega) (λv hv=>by obtain⟨i,t,rfl⟩:=k3 v hv;exact Looks.of_pure rfl) (by decide) ?_
 have et:(mB "int" != mB "tuple")=true:=by decide
 rw[et,l2]
 have od:Ord λi j=>sY (ps.getD i (0,0)) (ps.getD j (0,0)):=⟨λa b h=>zg h,λa b c h k=>zh h k⟩
 refine Kg.wp (lt:=λi j=>sY (ps.getD i (0,0)) (ps.getD j (0,0))) (N:=ps.length) (P:=λs''=>s''={ s with heap:=h',toks:=tk }) (λi j C s'' hi hj hs hC=>?_) rfl ((AV od (by omega)).imp λpm ⟨P1,P2⟩ s'' hs=>?_)
 ·subst hs
  obtain⟨a,o,t,u,n,e,g1,g2,g3⟩:=cT (a:=bC) (b:=(0,0)) NN hi
  obtain⟨a',o',t',u',n',e',Du,Qs,UQ⟩:=cT (a:=bC) (b:=(0,0)) NN hj
  unfold kas_ask
  rw[e,e']
  exact AY (s:={ s with heap:=h',toks:=tk }) g1 g3 Du UQ (hC _ rfl)
 ·subst hs
  refine KasFin.intro (s:={ s with heap:=h',toks:=tk }) F' N' (.head λq hq=>bW (hD q hq)) λh'' c NO Jv=>?_
  have iH:∀b o,b≠X.env.locals->s.heap.get? b=some o->h''.get? b=some o:=λb o n e=>(Jv (b,o) (aF _ (cq n (Att.cH _ _) e))).1
  have Cv:s.heap.get? D=none:=by
   cases e:s.heap.get? D with
   | none=>rfl
   | some o=>exact absurd (hD (D,o) (cq hDL (Att.cH _ _) e)) (eK _)
  have mem:∀i∈pm.toList,i < ps.length:=λi hi=>List.mem_range.mp (P1.pm.mem_iff.mp hi)
  have hv:Vals (pm.toList.map λi=>vs.getD i .bg) (pm.toList.map λi=>its.getD i bC):=jc λi hi=>cT r' (by have:=mem i hi;omega)
  have UR:(pm.toList.map λi=>ps.getD i (0,0))=di ps:=by
   refine rZ ((P1.pm.map _).trans (by rw[range_getD];exact(fW ps).symm)) ?_ (oO _)
   rw[HJ,AZ,Jw]
   intro i j hi hj hij
   have z:=P2 i j (by omega) (by have:=P1.sz;simpa [this] using hj)
   have ei:at_ pm i=pm.toList[i]:=by
    have:i < pm.size:=by simpa using hi
    simp[at_,AS,this]
   have ej:at_ pm j=pm.toList[j]:=by
    have:j < pm.size:=by simpa using hj
    simp[at_,AS,this]
   rw[ei,ej] at z
   exact z
  have US:Fv H (pm.toList.map λi=>vs.getD i .bg) (di ps):=by
   rw[<-UR]
   exact jc λi hi=>cT hp (mem i hi)
  have hlen:pm.toList.length=ps.length:=by have:=P1.sz;simpa using this
  obtain⟨Dy,I'⟩:=xC (tk:=tk) I hn iH Cv NO.ns hv (by rw[bc,hlen,<-l2,<-l1];exact hz) (Jv (D,_) aB).1
  exact⟨_,rfl,.ref D,_,I',rfl,q D _ Dy US⟩
theorem CU(hc:X.calm=true):dW X (.builtin "sorted") (λxs H Q=>∃(p:aaG)(kvs:List (List L2.Key×V))(ps:List (Int×Int)),xs=[.ref p]/\Rd H p (.dT kvs)/\kvs.map (·.1)=ps.map kP/\ps.length < 2/\∀l vs',H l=none->Fv H vs' ps->Q (.ref l) (upd H l (.lst vs'))):=by
 intro pins s σ H xs us Q I r h
 obtain⟨p,kvs,ps,rfl,hd,hk,h2,q⟩:=h
 obtain⟨u,rfl,rx⟩:=vals1 r
 cases rx
 obtain⟨es,ep,ys,z,lo,raw,sz,kt,g4,g5⟩:=zt I.hok hd
 have ky:=qR kt
 rw[hk] at ky
 have hp:=vT ky
 have r':=mK (λx:List L2.Key×aaG×aaM=>x.2.1) ys
 have lk:kvs.length=ps.length:=by have:=congrArg f9 hk;simpa using this
 have ly:kvs.length=ys.length:=kt.length
 obtain⟨m,hn,hl⟩:=id I.loc
 refine kdu_sorted (vN lo) (I.ok.hd hc) (Att.vn hn) (oo (g:=Att.nN s.heap) (h:=s.heap) (L:=X.env.locals)) raw (by rw[sz];exact z) λD h1 tk vs F1 N1 hD hlen hv=>?_
 have Ra:=xB g4 hlen hv
 subst Ra
 obtain⟨Pj,hDL,JV⟩:=N1 (D,listOf _ 0) aB
 refine wpAny_call_entry slot_list_sort ⟨_,Pj,rfl⟩ entry_list_sort ?_ (args_list_sort _)
 refine uA (s:={ s with heap:=h1,toks:=tk }) (by simp;omega) Pj ?_
 obtain⟨c,hc'⟩:=sortedHeap_at (vs:=ys.map λx=>aR x.2.1) (out:=(ys.map λx=>aR x.2.1).toArray) Pj
 have old:∀b o,b≠D->h1.get? b=some o->(sortedHeap h1 D (ys.map λx=>aR x.2.1) (ys.map λx=>aR x.2.1).toArray).get? b=some o:=λb o n e=>(sortedHeap_old n (aX e)).trans e
 have Rk:∀b o,b≠X.env.locals->s.heap.get? b=some o->h1.get? b=some o:=λb o n e=>(N1 (b,o) (aF _ (cq n (Att.cH _ _) e))).1
 have Cv:s.heap.get? D=none:=by
  cases e:s.heap.get? D with
  | none=>rfl
  | some o=>exact absurd (hD (D,o) (cq hDL (Att.cH _ _) e)) (eK _)
 obtain⟨Dy,I'⟩:=xC (tk:=tk) I hn (λb o n e=>old b o (λz=>by subst z;rw[Cv] at e;cases e) (Rk b o n e)) Cv (ksk_fr (((ksk_fr F1 (vM h1 D (dB λ_=>#[])) hDL JV).push (seqObj "tuple" _ 0)).push (seqObj "list" #[] 0)) (vM _ D (dB λ_=>_)) hDL JV).ns r' (by simp;rw[<-ly];exact z) hc'
 exact⟨_,rfl,.ref D,_,I',rfl,q D _ Dy hp⟩
def nC:List (List L2.Key)->Option (List (Int×Int))
 | []=>some []
 | [.inl a,.inl b]::r=>(match nC r with | some l=>some ((a,b)::l) | none=>none)
 | _=>none
theorem xD:∀{ks:List (List L2.Key)}{ps:List (Int×Int)},nC ks=some ps->ks=ps.map kP
 | [],ps,e=>by cases e;rfl
 | k::r,ps,e=>by
  unfold nC at e
  split at e
  ·cases ‹_::_=[]›
  ·rename_i a b r' he
   cases he
   cases q:nC r with
   | none=>rw[q] at e;cases e
   | some l=>rw[q] at e;cases e;rw[a6,<-xD q]
  ·cases e
def qr:List Wv->Hs->Re Wv
 | [.ref l],st=>(match bV st[l]? with
  | some kvs=>(match nC (kvs.map (·.1)) with | some ps=>if ps.length < 64 then .ok (.ref st.length) (st++[.lst ((di ps).map pw)]) else .bad | none=> .bad)
  | none=>lV [.ref l] st)
 | ws,st=>lV ws st
theorem JX(hc:X.calm=true):fV X (.builtin "sorted") qr:=by
 obtain⟨rr,h1,h2⟩:=Jx (X:=X)
 refine⟨_,(CU hc).or ((CT hc).or h1),λws vs st H m Q S rs p=>?_⟩
 have other:cS X.K m H (lV ws st) Q->rr vs H Q:=λp=>h2 ws vs st H m Q S rs p
 match ws,rs,p,other with
 | [],rs,p,other=>exact .inr (.inr (other p))
 | x::y::t,rs,p,other=>exact .inr (.inr (other (by cases x<;>exact p)))
 | [x],rs,p,other=>
  cases x with
  | ref l=>
   unfold qr at p
   dsimp only at p
   cases e:bV st[l]? with
   | none=>rw[e] at p;exact .inr (.inr (other p))
   | some kvs=>
    rw[e] at p
    dsimp only at p
    cases e2:nC (kvs.map (·.1)) with
    | none=>rw[e2] at p;exact ae p
    | some ps=>
     rw[e2] at p
     dsimp only at p
     by_cases c:ps.length < 64
     ·rw[if_pos c] at p
      obtain⟨v,rfl,r1⟩:=nk rs
      unfold aj at r1
      obtain⟨a,rfl,ha⟩:=r1
      obtain⟨xs,g1,g2⟩:=oR (X:=X) S ha e
      have ek:xs.map (·.1)=ps.map kP:=by rw[<-g2.1];exact xD e2
      have fin:∀k vs',H k=none->Fv H vs' (di ps)->Q (.ref k) (upd H k (.lst vs')):=λk vs' hk hp=>p (.ref k) (m++[k]) _ (Ext.more.trans (Ext.upd (.inl hk))) (S.alloc hk (nR hp)) (S.newest k _)
      by_cases c2:ps.length < 2
      ·refine .inl ⟨a,xs,ps,rfl,g1,ek,c2,λk vs' hk hp=>fin k vs' hk ?_⟩
       have:di ps=ps:=by
        match ps,c2 with
        | [],_=>rfl
        | [p],_=>rfl
       rw[this]
       exact hp
      ·exact .inr (.inl ⟨a,xs,ps,rfl,g1,ek,by omega,c,fin⟩)
     ·rw[if_neg c] at p;exact ae p
  | _=>exact .inr (.inr (other p))
end
section
variable {prog:aaK} {w:aaN} {A:aaH} {E:aaM->aaL->Prop} {s:aaL}
end
section
variable {X:Cx}
end
section
variable {X:Cx}
def zu:List Wv->Hs->Re Wv
 | [.ref l],st=>match ao st l with
  | some ws=>(match jB ws with | some bs=> .ok (.bl (bs.any id)) st | none=> .bad)
  | none=> .bad
 | _,_=> .bad
theorem any_range:∀(bs:List Bool),(eL bs.length).any (λi=>bs.getD i false)=bs.any id
 | []=>rfl
 | b::bs=>by
  rw[cG,Jo,i8,List.any_map,i8,<-any_range bs]
  rfl
theorem CV(hc:X.calm=true):dW X (.builtin "any") (λxs H Q=>∃(p:aaG)(bs:List Bool),xs=[.ref p]/\lO X.K H p (bs.map V.bl)/\Q (.bl (bs.any id)) H):=by
 intro pins s σ H xs us Q I r h
 obtain⟨p,bs,rfl,hq,q⟩:=h
 obtain⟨u,rfl,rx⟩:=vals1 r
 cases rx
 obtain⟨its,r',pl,hz⟩:=I.list hq
 have hb:=vH r'
 subst hb
 have hl:=pl.isList
 have hlt:p < s.heap.objs.size:=by obtain⟨_,e,_⟩:=hl;exact aX e
 refine call_any_walk (wpAny_pyIter_list hl ?_)
 refine⟨_,_,_,_,_,_,λi=>bs.getD i false,rfl,Walks.list (A:=X.A.in1) (I.ok.hd hc) _ p (bW hlt) (bs.map jA).toArray,⟨⟨_,cE _ rfl,rfl,rfl⟩,hl.push _⟩,?_,λh' tk hk=>?_⟩
 ·intro i v s' Q' E' hP hQ
  have Ff:(bs.map jA).toArray[i]? =some v:=hP
  rw[Fg,fh] at Ff
  cases e:bs[i]? with
  | none=>rw[e] at Ff;cases Ff
  | some b=>
   rw[e] at Ff
   cases Ff
   have:(bs.getD i false)=b:=by rw[Fh,e];rfl
   dsimp only at hQ
   rw[this] at hQ
   exact aa7 hQ
 ·have hk':∀b o,s.heap.get? b=some o->h'.get? b=some o:=old_kept hk
  refine⟨.bl _,H,I.kept (t':=tk) hk',?_,q⟩
  rw[<-any_range bs]
  simp only[aT,bc]
  rfl
theorem Oa(hc:X.calm=true):fV X (.builtin "any") zu:=⟨_,CV hc,λws vs st H m Q S rs p=>by
 match ws,rs,p with
 | [],rs,p=>exact ae p
 | x::y::t,rs,p=>cases x<;>exact ae p
 | [x],rs,p=>
  obtain⟨v,rfl,r1⟩:=nk rs
  cases x with
  | ref l=>
   unfold zu at p
   unfold aj at r1
   obtain⟨a,rfl,hl⟩:=r1
   cases e:ao st l with
   | none=>simp only[e] at p;exact ae p
   | some ws=>
    simp only[e] at p
    cases e2:jB ws with
    | none=>simp only[e2] at p;exact ae p
    | some bs=>
     simp only[e2] at p
     obtain⟨xs,q1,q2⟩:=S.read hl e
     have q3:=pL q2 e2
     subst q3
     exact⟨a,bs,rfl,q1,p _ m H Ext.refl S iB⟩
  | _=>exact ae p⟩
theorem CW:aaQ "any"=some (.builtin "any"):=by decide+kernel
def Lr(ws:List Wv)(st:Hs):Re Wk:=match ws with
 | [.int a,.int b,.int c]=>if Dz a b c then .ok (none,qx a c (jd a b c)) st else .bad
 | _=> .bad
def U6(g:GA):GI:=λρ st=>(g ρ st).bind Lr
end
def U7:List Str->Nat
 | []=>0
 | x::r=>if x∈r then U7 r else U7 r+1
section
variable {prog:aaK} {w:aaN} {A:aaH} {R:Result->aaL->Prop} {I:aaG} {fp wr:List aaG} {n:Nat} {P:Nat->aaM->Prop} {St:Nat->Heap->Prop}
abbrev Oc(prog:aaK)(w:aaN)(h:Heap)(S:aaG)(l:List Str):Prop:=h.SetOf (PySem.strKind prog w) S (λq=>decide (q∈l)) (U7 l)
theorem Oc.keep{h h':Heap}{S:aaG}{l:List Str}(z:Oc prog w h S l)(k:∀o,h.get? S=some o->h'.get? S=some o):Oc prog w h' S l:=by
 obtain⟨o,es,ep,t,ho,rest⟩:=z
 exact⟨o,es,ep,t,k o ho,rest⟩
end
section
variable {prog:aaK} {w:aaN} {A:aaH} {E:aaM->aaL->Prop} {s:aaL}
end
section
variable {X:Cx}
end
section
variable {lt:Nat->Nat->Bool} {N:Nat}
def Ls(lt:Nat->Nat->Bool)(a b:Nat):Prop:=lt b a=false/\(lt a b=false->a < b)
theorem Ls.trans(o:Ord lt){a b c:Nat}(h:Ls lt a b)(k:Ls lt b c):Ls lt a c:=by
 refine⟨o.tr _ _ _ k.1 h.1,λe=>?_⟩
 have h1:lt a b=false:=by
  cases z:lt a b with
  | false=>rfl
  | true=>have:=o.Ln z k.1;rw[e] at this;cases this
 have h2:lt b c=false:=o.tr _ _ _ h.1 e
 exact Aw (h.2 h1) (k.2 h2)
def Pk(lt:Nat->Nat->Bool)(p:Array Nat)(k:Nat):Prop:=∀i j,i < j->j < k->Ls lt (at_ p i) (at_ p j)
def SU(lt:Nat->Nat->Bool)(p:Array Nat)(k:Nat):Prop:=∀i j,i < j->j < k->Ls lt (at_ p j) (at_ p i)
structure Frs(N:Nat)(p:Array Nat)(n:Nat):Prop where
 pm:Pm N p
 hi:∀i,n<=i->i < N->at_ p i=i
 lo:∀i,i < n->at_ p i < n
theorem Pk.up(o:Ord lt){p:Array Nat}{k:Nat}(h:Pk lt p k):Up lt p k:=λi j hij hj=>by
 by_cases c:i=j
 ·subst c;exact o.Ju _
 ·exact(h i j (by omega) hj).1
theorem Frs.succ{p:Array Nat}{n:Nat}(h:Frs N p n)(hn:n < N):Frs N p (n+1):=⟨h.pm,λi a b=>h.hi i (by omega) b,λi a=>by
 by_cases c:i < n
 ·have:=h.lo i c;omega
 ·have e:i=n:=by omega
  rw[e,h.hi n (au _) hn];omega⟩
theorem Frs.rev{p:Array Nat}{n i j:Nat}(h:Frs N p n)(hj:j<=n)(hn:n<=N):Frs N (kas_rev p i j) n:=by
 refine⟨h.pm.rev i j,λk a b=>?_,λk a=>?_⟩
 ·rw[fj h.pm (by omega),if_neg (by omega)];exact h.hi k a b
 ·rw[fj h.pm (by omega)]
  split
  ·exact h.lo _ (by omega)
  ·exact h.lo _ a
theorem Pk.succ(o:Ord lt){p:Array Nat}{n:Nat}(h:Pk lt p n)(f:Frs N p n)(h1:1<=n)(hn:n < N)(e:lt (at_ p n) (at_ p (n - 1))=false):Pk lt p (n+1):=by
 intro i j hij hj
 by_cases c:j < n
 ·exact h i j hij c
 ·have ej:j=n:=by omega
  subst ej
  refine⟨?_,λ_=>by rw[f.hi j (au _) hn];exact f.lo i hij⟩
  by_cases c2:i=j - 1
  ·rw[c2];exact e
  ·exact o.tr _ _ _ e (h i (j - 1) (by omega) (by omega)).1
structure SV(lt:Nat->Nat->Bool)(p:Array Nat)(a n:Nat):Prop where
 d:∀i j,i < j->j < a->Ls lt (at_ p j) (at_ p i)
 s:∀i j,i < a->a<=j->j < n->lt (at_ p j) (at_ p i)=true
 l:∀i j,a<=i->i < j->j < n->lt (at_ p i) (at_ p j)=false/\lt (at_ p j) (at_ p i)=false/\at_ p i < at_ p j
theorem FX(o:Ord lt){a b:Nat}(h:lt a b=true):Ls lt a b:=⟨o.as _ _ h,λe=>by rw[h] at e;cases e⟩
theorem SV.rev(o:Ord lt){p:Array Nat}(hp:Pm N p){a n:Nat}(hn:n<=N)(ha:a<=n)(h:SV lt p a n):SU lt (kas_rev p a n) n:=by
 intro i j hij hj
 rw[fj hp hn i,fj hp hn j]
 by_cases ci:a<=i
 ·rw[if_pos ⟨by omega,hj⟩,if_pos ⟨ci,by omega⟩]
  obtain⟨h1,h2,h3⟩:=h.l (a+n - 1 - j) (a+n - 1 - i) (by omega) (by omega) (by omega)
  exact⟨h2,λ_=>h3⟩
 ·rw[if_neg (c:=a<=i/\i < n) (by omega)]
  by_cases cj:a<=j
  ·rw[if_pos ⟨cj,hj⟩]
   exact FX o (h.s i _ (by omega) (by omega) (by omega))
  ·rw[if_neg (by omega)]
   exact h.d i j hij (by omega)
theorem SU.up{p:Array Nat}(hp:Pm N p){n:Nat}(hn:n<=N)(h:SU lt p n):Pk lt (kas_rev p 0 n) n:=by
 intro i j hij hj
 rw[fj hp hn,fj hp hn,if_pos ⟨by omega,by omega⟩,if_pos ⟨by omega,hj⟩]
 exact h _ _ (by omega) (by omega)
theorem SV.dn{p:Array Nat}{n:Nat}(h:SV lt p (n - 1) n)(o:Ord lt):SU lt p n:=λi j hij hj=>by
 by_cases c:j < n - 1
 ·exact h.d i j hij c
 ·exact FX o (h.s i j (by omega) (by omega) hj)
end
section
variable {P:aaK} {w:aaN} {K:PySem.W.Frag} {mg:Str->Option aaM} {base:Heap} {p:Lm} {scope:Scope} {x y:Str} {cy:aaG}
end
def Xi(P:aaK)(w:aaN)(K:PySem.W.Frag)(mg:Str->Option aaM)(base:Heap)(k:Nat)(f:aaG)(sp:V->Hp->VK->Prop):Prop :=
 ∀(A:aaH)(outer:List Env)(s:aaL)(H:Hp)(u:aaM)(v:V)(Q:VK),lK k A->yB P w K mg base A outer s H->RelV v u->sp v H Q->aaZ (model P w) A (call (.ref f) [u]) (CE outer P w H s Q) (λ_ _=>False) s
def YT(K:PySem.W.Frag)(p:Lm)(L:LF)(v:V)(H:Hp)(Q:VK):Prop:=∃m st w caps kw,bG K m st H/\aj K m H w v/\ai K m H caps p.xs/\H p.c=some (.ext (AA p.c p.q))/\L caps [w] st= .ok kw st/\II K m H Q kw st
theorem FF.Rl{P:aaK}{w:aaN}{K:PySem.W.Frag}{mg:Str->Option aaM}{base:Heap}{k:Nat}{p:Lm}{L:LF}(G:FF P w K mg base k p 1 L):Xi P w K mg base k p.a (YT K p L):=by
 intro A outer s H u v Q hr e0 rv sp
 obtain⟨m,st,w',caps,kw,S,rw',rc,hx,el,ok⟩:=sp
 obtain⟨fd,ps,ob,F,ho,hod,hb⟩:=G
 have Rm:W' K 1 p L [v] H Q (λ_ _ _=>False):=⟨m,st,[w'],caps,S,ai.cons rw' ai.nil,rc,hx,rfl,by rw[el];exact ok⟩
 have rs:Vals [v] [u]:=.cons rv .nil
 have hl:[u].length=ps.length:=by rw[<-rs.length];exact F.len _ _ _ _ Rm
 have HF:K.In s.heap:=e0.mod.HF.keeps λb o e=>(e0.bs b o e).1
 have bd:=hb s [u] HF (by rw[iz];exact hl)
 rw[iz] at bd
 refine wpAny_call (codeAny_mono (F.run A outer s H ⟨[u],[]⟩ [u] [v] Q _ hr e0 bd rs Rm) λrr s2 hq=>?_)
 cases rr with
 | error x=>obtain⟨H2,C,fl,z⟩:=hq;exact z
 | ok fw=>
  cases fw with
  | ret u=>exact hq
  | next=>exact hq
  | brk=>exact hq
  | cont=>exact hq
abbrev Kw:=Int×(Int ⊕ Str)
section
variable {prog:aaK} {w:aaN} {A:aaH} {E:aaM->aaL->Prop} {s:aaL}
end
section
variable {X:Cx} {pins:List (aaG×Obj)} {σ:L2.St} {H:Hp} {s:aaL} {m:Mp}
end
def kd:Kw:=(0,.inl 0)
structure Rn(X:Cx)(pins:List (aaG×Obj))(base:Heap)(D kS:aaG):Prop where
 ne:kS≠D
 D1:∀H:Hp,H D=none->iK X pins H D
 K1:∀H:Hp,H kS=none->iK X pins H kS
 bz:base.objs.size<=D
 bk:base.get? kS=none
 bL:base.get? X.env.locals=none
 bf:∀b∈frs X.stack,base.get? b=none
 mod:Mod X.K X.mg base
structure Od(X:Cx)(pins:List (aaG×Obj))(σ:L2.St)(base:Heap)(m0:Mp)(H0:Hp)(st:Hs)(D kS:aaG)(e1:Nat)(s:aaL)(H:Hp)(m:Mp):Prop where
 I:Inv X pins σ H s
 bs:∀b o,base.get? b=some o->s.heap.get? b=some o/\H b=none
 S:bG X.K m st H
 ex:Ext X.K m0 H0 m H
 hD:s.heap.get? D=some (seqObj "list" #[] e1)
 nD:H D=none
 nK:H kS=none
section
variable {X:Cx} {pins:List (aaG×Obj)} {σ:L2.St} {base:Heap} {m0 m m':Mp} {H0 H H':Hp} {st:Hs} {D kS:aaG} {e1:Nat} {s s':aaL}
theorem Rn.nf(d:Rn X pins base D kS)(I:Inv X pins σ H s)(hD:H D=none)(hK:H kS=none):D∉frs X.stack/\kS∉frs X.stack:=by
 obtain⟨_,a1,a2,_⟩:=d.D1 H hD
 obtain⟨_,b1,b2,_⟩:=d.K1 H hK
 exact⟨λz=>(List.mem_cons.mp (I.pj D z)).elim a1 a2,λz=>(List.mem_cons.mp (I.pj kS z)).elim b1 b2⟩
theorem Od.Qa(d:Rn X pins base D kS)(k:Od X pins σ base m0 H0 st D kS e1 s H m):yB X.prog X.w X.K X.mg base X.A X.stack s H :=
 ⟨k.I.ok.frames,d.mod,k.bs,aW d.bz (uY (aX k.hD)),A2 (λenv he L hL=>d.bf L (List.mem_filterMap.mpr ⟨env,he,hL⟩)) k.I.stack,k.I.qD,k.I.hok,k.I.bare⟩
theorem Od.call(d:Rn X pins base D kS)(k:Od X pins σ base m0 H0 st D kS e1 s H m){ks:Array aaM}{e:Nat}(hk:s.heap.get? kS=some (seqObj "list" ks e))(os:s'.os=s.os)(bare:AllBare s'.gens)(un:Un (frs X.stack) [] H H' s.heap s'.heap)(hok:lI X.prog X.w H' s'.heap)
  (ex:Ext X.K m H m' H')(S:bG X.K m' st H'):Od X pins σ base m0 H0 st D kS e1 s' H' m'/\s'.heap.get? kS=some (seqObj "list" ks e):=by
 obtain⟨f1,f2⟩:=d.nf k.I k.nD k.nK
 refine⟨⟨k.I.KS (ch:=[]) os un hok bare (λb z=>absurd z (by simp)),λb o e=>?_,S,k.ex.trans ex,un.keep _ _ k.hD k.nD f1 (by simp),un.free _ _ k.hD k.nD (by simp),un.free _ _ hk k.nK (by simp)⟩,un.keep _ _ hk k.nK f2 (by simp)⟩
 obtain⟨h1,h2⟩:=k.bs b o e
 exact⟨un.keep b o h1 h2 (λz=>by rw[d.bf b z] at e;cases e) (by simp),un.free b o h1 h2 (by simp)⟩
end
section
variable {X:Cx} {pins:List (aaG×Obj)} {σ:L2.St} {base:Heap} {m0 m m':Mp} {H0 H H':Hp} {st:Hs} {D kS:aaG} {e1:Nat} {s s':aaL}
theorem Od.done(d:Rn X pins base D kS)(k:Od X pins σ base m0 H0 st D kS e1 s H m){out:List aaM}{vs:List V}(hv:Vals vs out)(hz:vs.length < 64) :
  Inv X pins σ (upd H D (.lst vs)) { s with heap:=s.heap.update D (dB λ_=>out.toArray) }:=by
 obtain⟨_,a1,a2,a3,a4,a5⟩:=d.D1 H k.nD
 have I:=k.I
 have keep:∀b o,b≠D->s.heap.get? b=some o->(s.heap.update D (dB λ_=>out.toArray)).get? b=some o:=λb o n e=>((vM s.heap D _).2 b n).trans e
 have hD:=get?_update_seq k.hD λ_=>out.toArray
 have qQ:∀b u,H b=some u->b≠D:=λb u e=>bI e k.nD
 refine I.step (g':=s.gens) (d':=s.drawn) (t':=s.toks) (ch:=[D]) (λb z=>?_) (λb o _ _ n e _=>keep b o (by simpa using n) e) (λb o _ _ n e _=>⟨o.slots,keep b o (by simpa using n) e⟩) (λb o n e z=>by rw[aw (by simpa using n)];exact z) (λb o n e=>⟨o,keep b o (by simpa using n) e⟩)
  (λb xs e=>by rw[aw (qQ _ _ e)];exact e) (λb o u e=>by rw[aw (qQ _ _ e)];exact e) (λb ps e=>⟨#[],by rw[aw (qQ _ _ e),e];simp⟩) (λm' hm=>?_) (λb ob e=>?_) I.bare
 ·have e:b=D:=by simpa using z
  subst e
  exact⟨a3,a1,a4,a5⟩
 ·obtain⟨o,es,ep,ho,r⟩:=hm
  exact⟨o,es,ep,keep _ o (aH a1) ho,r⟩
 ·by_cases z:b=D
  ·subst z
   rw[aZ] at e
   cases e
   exact⟨by rw[sizeLine_eq];omega,out,_,hv,hD⟩
  ·rw[aw z] at e
   refine(I.hok b ob e).stay (λc v hc q=>keep c v ?_ q) (λc q=>by rw[aw (qQ _ _ q)];exact q) λc xs q=>by rw[aw (qQ _ _ q)];exact q
   rcases hc with y | y
   ·rw[y];exact z
   ·exact qQ c _ y
end
section
variable {X:Cx} {pins:List (aaG×Obj)} {σ:L2.St} {base:Heap} {m:Mp} {H:Hp} {st:Hs} {s:aaL}
end
open Classical in
section
variable {X:Cx}
end
section
variable {X:Cx}
end
section
variable {X:Cx}
end
section
variable {prog:aaK} {w:aaN} {A:aaH} {E:aaM->aaL->Prop} {s:aaL}
end
section
variable {X:Cx}
end
section
variable {X:Cx}
end
section
open PySem.SeqAt PySem.MeetsSeq PySem.MeetsSeq2 PySem.MeetsSeq3
end
variable {X:Cx}
def oLt:gO:=λx y st=>Rb x y st
theorem Oe(hu:X.A.units+64 < cLine):jw X (aaT .Lt) oLt:=NW hu
section
variable {X:Cx}
theorem JY:eM X (aaT .IsNot) (λx y H Q=>∃a b,x= .bl a/\y= .bl b/\Q (.bl (a != b)) H):=by
 intro pins s σ H x y v u Q I rx ry h
 obtain⟨a,b,rfl,rfl,q⟩:=h
 cases rx
 cases ry
 exact isnot_bool ⟨.bl (a != b),H,I,rfl,q⟩
def xE:gO:=λx y st=>match x,y with
 | .bl a,.bl b=> .ok (.bl (a != b)) st
 | x,y=>pF x y st
theorem JZ:jw X (aaT .IsNot) xE:=by
 obtain⟨r,h1,h2⟩:=Ew (X:=X)
 refine⟨_,eM.or h1 JY,λx y a b st H m Q S rx ry p=>?_⟩
 cases x with
 | bl c=>
  cases y with
  | bl d=>
   have e1:a= .bl c:=by unfold aj at rx;exact rx
   have e2:b= .bl d:=by unfold aj at ry;exact ry
   exact .inr ⟨c,d,e1,e2,p _ m H Ext.refl S iB⟩
  | _=>exact .inl (h2 _ _ _ _ st H m Q S rx ry p)
 | _=>exact .inl (h2 _ _ _ _ st H m Q S rx ry p)
theorem Of{x:Wv}{st:Hs}:xE x .bg st=pF x .bg st:=by cases x<;>rfl
end
section
variable {X:Cx} {o e f:Expr} {apos cpos:Pos} {td ty tx:TE}
def FY:Expr->Bool
 | .Call _ (_::_) _ _=>true
 | _=>false
theorem CY{o:Expr}{name:Str}{env:Env}(h:FY o=true):attributeBase o name env (eval o env)=eval o env:=by
 unfold FY at h
 split at h
 ·rename_i g e es ks p
  cases g<;>rfl
 ·cases h
end
section
variable {X:Cx} {pins:List (aaG×Obj)} {σ:L2.St} {m:Mp} {H:Hp} {st:Hs} {s:aaL}
end
def YU(K:PySem.W.Frag)(F:List Wv->Hs->Re Wv)(v:V)(H:Hp)(Q:VK):Prop:=∃m st w kw,bG K m st H/\aj K m H w v/\F [w] st= .ok kw st/\II K m H Q kw st
theorem f7.Rl{P:aaK}{w:aaN}{K:PySem.W.Frag}{mg:Str->Option aaM}{base:Heap}{k:Nat}{x:Str}{F:List Wv->Hs->Re Wv}(G:f7 P w K mg base k x 1 F):∃f,mg x=some (.ref f)/\Xi P w K mg base k f (YU K F):=by
 obtain⟨f,fd,ps,F0,hm,hk,hb⟩:=G
 refine⟨f,hm,?_⟩
 intro A outer s H u v Q hr e0 rv sp
 obtain⟨m,st,w',kw,S,rw',el,ok⟩:=sp
 have Rm:spW K 1 F [v] H Q (λ_ _ _=>False):=⟨m,st,[w'],S,ai.cons rw' ai.nil,rfl,by rw[el];exact ok⟩
 have rs:Vals [v] [u]:=.cons rv .nil
 have hl:[u].length=ps.length:=by rw[<-rs.length];exact F0.len _ _ _ _ Rm
 have HF:K.In s.heap:=e0.mod.HF.keeps λb o e=>(e0.bs b o e).1
 have bd:=hb s [u] HF (by rw[iz];exact hl)
 rw[iz] at bd
 refine wpAny_call (codeAny_mono (F0.run A outer s H ⟨[u],[]⟩ [u] [v] Q _ hr e0 bd rs Rm) λrr s2 hq=>?_)
 cases rr with
 | error x=>obtain⟨H2,C,fl,z⟩:=hq;exact z
 | ok fw=>
  cases fw with
  | ret u=>exact hq
  | next=>exact hq
  | brk=>exact hq
  | cont=>exact hq
section
variable {X:Cx}
end
section
variable {X:Cx} {es':List Expr} {kt:Nat} {pt:Pos}
end
section
variable {prog:aaK} {w:aaN} {A:aaH}
end
section
variable {X:Cx}
theorem ai.erase{K:PySem.W.Frag}{m:Mp}{H:Hp}:∀{ws:List Wv}{xs:List V}(k:Nat),ai K m H ws xs->ai K m H (ws.eraseIdx k) (xs.eraseIdx k)
 | [],xs,k,r=>by unfold ai at r;subst r;exact ai.nil
 | w::ws,xs,0,r=>by
  unfold ai at r
  obtain⟨x,t,rfl,r1,r2⟩:=r
  exact r2
 | w::ws,xs,k+1,r=>by
  unfold ai at r
  obtain⟨x,t,rfl,r1,r2⟩:=r
  exact ai.cons r1 (ai.erase k r2)
end
section
variable {X:Cx}
end
section
variable {X:Cx}
def Rp(to:TE):TE:=λσ H Q=>to σ H λx H1=>Ui X.K "list" x H1/\Ql x [] H1 Q
theorem J0{o:Expr}{to:TE}{apos cpos:Pos}(ho:PE X o to)(m:M0 X o "pop" apos cpos):PE X (.Call (.Attribute o "pop" apos) [] [] cpos) (Rp (X:=X) to):=by
 intro pins s σ H Q I h
 refine wpAny_Call_method0_late m.base m.line (a9 (ho pins s σ H _ I h) λv s1 ⟨x,H1,I1,r1,ty,q1⟩=>?_)
 obtain⟨h1,h2⟩:=D0 I1 r1 ty
 exact⟨"list","list.pop",F.plainAttrs_list,F.slot_list_pop,F.type_list_pop,h1,h2,vh rfl (PySem.evalArgs_none (MM pins s1 σ H1 x [] v [] Q I1 r1 .nil q1))⟩
def J1(w:Wv)(st:Hs):Re Wv:=match w with
 | .ref l=>(match st[l]? with
  | some (.lst ws)=>(match ws[ws.length - 1]? with | some v=> .ok v (st.set l (.lst ws.dropLast)) | none=> .bad)
  | _=> .bad)
 | _=> .bad
def nE(g:GE):GE:=λρ st=>(g ρ st).bind J1
theorem ai.at?{K:PySem.W.Frag}{m:Mp}{H:Hp}:∀{ws:List Wv}{xs:List V}{i:Nat}{w:Wv},ai K m H ws xs->ws[i]? =some w->∃x,xs[i]? =some x/\aj K m H w x
 | [],xs,i,w,r,e=>by cases e
 | v::ws,xs,0,w,r,e=>by
  unfold ai at r
  obtain⟨x,t,rfl,r1,r2⟩:=r
  cases e
  exact⟨x,rfl,r1⟩
 | v::ws,xs,i+1,w,r,e=>by
  unfold ai at r
  obtain⟨x,t,rfl,r1,r2⟩:=r
  exact ai.at? (ws:=ws) (xs:=t) (i:=i) r2 e
theorem ai.init{K:PySem.W.Frag}{m:Mp}{H:Hp}:∀{ws:List Wv}{xs:List V},ai K m H ws xs->ai K m H ws.dropLast xs.dropLast
 | [],xs,r=>by unfold ai at r;subst r;exact ai.nil
 | [v],xs,r=>by
  unfold ai at r
  obtain⟨x,t,rfl,r1,r2⟩:=r
  unfold ai at r2
  subst r2
  exact ai.nil
 | v::u::ws,xs,r=>by
  unfold ai at r
  obtain⟨x,t,rfl,r1,r2⟩:=r
  have q:=ai.init r2
  unfold ai at r2
  obtain⟨y,t2,rfl,r3,r4⟩:=r2
  exact ai.cons r1 q
theorem J2{o:Expr}{g:GE}{apos cpos:Pos}(h:JE X o g)(m:M0 X o "pop" apos cpos):JE X (.Call (.Attribute o "pop" apos) [] [] cpos) (nE g) :=
 JE.of (J0 aE m) λρ st σ H m Q S R p=>by
  refine h.go S R (ax.bind p) λw st1 v m1 H1 p1 e1 S1 r1=>?_
  cases w with
  | ref l=>
   unfold aj at r1
   obtain⟨a,rfl,ha⟩:=r1
   unfold J1 at p1
   dsimp only at p1
   cases q2:st1[l]? with
   | none=>rw[q2] at p1;exact ae p1
   | some ob=>
    rw[q2] at p1
    cases ob with
    | lst ws=>
     dsimp only at p1
     obtain⟨xs,y1,y2⟩:=(show ∃ys,H1 a=some (.lst ys)/\ai X.K m1 H1 ws ys from S1.obj _ _ _ ha q2)
     cases q3:ws[ws.length - 1]? with
     | none=>rw[q3] at p1;exact ae p1
     | some w=>
      rw[q3] at p1
      obtain⟨x,z1,z2⟩:=ai.at? y2 q3
      rw[y2.length] at z1
      have ex:Ext X.K m1 H1 m1 (upd H1 a (.lst xs.dropLast)):=Ext.lL (.inr (.inl ⟨_,y1⟩))
      exact⟨.inl ⟨rfl,xs,.inl (.inl y1)⟩,a,xs,x,rfl,rfl,y1,z1,p1 x m1 _ (e1.trans ex) (S1.pD ha q2 rfl ⟨_,aZ,(ai.init y2).mono ex⟩) (aj.mono ex _ _ z2)⟩
    | _=>exact ae p1
  | _=>exact ae p1
def xF(f:Int->Int->Int)(gd gk ge:GE):GS:=λρ st=>(gd ρ st).a9 ρ λd st1=>(gk ρ st1).a9 ρ λk st2=>match getD d k st2 with
 | some (.int a)=>(ge ρ st2).a9 ρ λy st3=>(match y with
  | .int b=>(match putD d k (.int (f a b)) st3 with | some rL=> .nx ρ rL | none=> .bad)
  | _=> .bad)
 | _=> .bad
theorem J3{op:Operator}{f:Int->Int->Int}{o i e:Expr}{go gi ge:GE}{pos tpos:Pos}(ho':CF op=some f)(hu:X.A.units+1 < cLine)(he:JE X e ge)(ho:JE X o go)(hi:JE X i gi)
  (ha:∀ov iv new,augStore i ov iv new=(do holding [new,ov,iv] (setItem ov iv new);release [new,ov,iv] [];pure .next)):JS X (.AugAssign (.Subscript o i tpos) op e pos) (xF f go gi ge):=by
 have U2:P9 X op (Sr f):=by
  cases op<;>first | (cases ho';exact DN) | (cases ho';exact DO) | cases ho'
 refine JS.of (IG hu aE aE aE U2 ha) λρ st σ H m D S R p=>?_
 refine ho.go S R (aK.cO R p) λd st1 vd m1 H1 p1 e1 S1 rd=>?_
 refine hi.go S1 (R.mono e1) ((aK.cO (m:=m) (H:=H) R p1).imp e1 λ_ _ q=>q) λk st2 vk m2 H2 p2 e2 S2 rk=>?_
 cases e4:getD d k st2 with
 | none=>rw[e4] at p2;exact ae p2
 | some w=>
  rw[e4] at p2
  obtain⟨a,v',rfl,g,rw'⟩:=A5 (X:=X) S2 (aj.mono e2 _ _ rd) rk e4
  cases w with
  | int n=>
   dsimp only at p2
   refine⟨a,v',rfl,g,?_⟩
   refine he.go S2 (R.mono (e1.trans e2)) ((aK.cO (m:=m) (H:=H) R p2).imp (e1.trans e2) λ_ _ q=>q) λy st3 vy m3 H3 p3 e3 S3 ry=>?_
   cases y with
   | int b=>
    dsimp only at p3
    cases aV rw'
    cases aV ry
    refine⟨n,b,rfl,rfl,?_⟩
    cases e5:putD d k (.int (f n b)) st3 with
    | none=>rw[e5] at p3;exact ae p3
    | some rL=>
     rw[e5] at p3
     obtain⟨a',H4,f1,f2,f3,f4⟩:=A0 (X:=X) S3 (aj.mono (e2.trans e3) _ _ rd) (aj.mono e3 _ _ rk) mkInt e5
     cases f1
     exact⟨H4,f2,p3 σ m3 H4 ((e1.trans (e2.trans e3)).trans f3) f4 (R.mono ((e1.trans (e2.trans e3)).trans f3))⟩
   | _=>exact ae p3
  | _=>exact ae p2
end
structure Ct where
 N:List Str
 names:List (Str×aaJ)
 consts:List (Str×Wv)
 bl:List Str
 fns:List (Str×Nat×(List Wv->Hs->Re Wv))
 tb:Tab:=[]
 tt:y8:=[]
 clss:List Str:=[]
 CZ:List Str:=[]
 tc:Tab:=[]
 DA:List (Str×Dc):=[]
 sj:List Str:=[]
 YV:List Str:=[]
 DB:List Str:=[]
 HK:List Str:=[]
 loop:Bool:=true
 free:Bool:=true
 top:Bool:=true
 lam:Option (Lm×LF):=none
 J4:List (Str×Xa):=[]
 U8:List Str:=[]
 lj:Nat:=0
 sk:Nat:=0
 Rl:List Str:=[]
 self:Str:=""
def oS(x:Str):List Str->Option Nat
 | []=>none
 | y::r=>if x=y then some 0 else match oS x r with
  | some i=>some (i+1)
  | none=>none
theorem ku{x:Str}:∀{N:List Str}{i:Nat},oS x N=some i->N[i]? =some x
 | [],i,h=>by cases h
 | y::r,i,h=>by
  unfold oS at h
  by_cases e:x=y
  ·rw[if_pos e] at h;cases h;subst e;rfl
  ·rw[if_neg e] at h
   cases q:oS x r with
   | none=>rw[q] at h;cases h
   | some j=>rw[q] at h;cases h;simpa using ku q
def okN(x:Str):Bool:=!(x == ("__debug__":Str))&& !(x == ("__classdict__":Str))&& !(decide (x="__name__"))
theorem kz{x:Str}(h:okN x=true):(x == ("__debug__":Str))=false:=by unfold okN at h;revert h;cases (x == ("__debug__":Str))<;>simp
theorem FZ{x:Str}(h:okN x=true):(x == ("__classdict__":Str))=false:=by unfold okN at h;revert h;cases (x == ("__classdict__":Str))<;>simp
theorem F6{x:Str}(h:okN x=true):x≠"__name__":=by
 intro e
 subst e
 unfold okN at h
 simp at h
def xG:List Wv->List V->Prop
 | [],[]=>True
 | .int i::r,.int j::t=>i=j/\xG r t
 | .str x::r,.str y::t=>(x=y/\br x=true)/\xG r t
 | _,_=>False
theorem xG.rel{K:PySem.W.Frag}{m:Mp}{H:Hp}:∀{ws:List Wv}{vs:List V},xG ws vs->ai K m H ws vs
 | [],[],_=>ai.nil
 | .int i::r,.int j::t,h=>by
  obtain⟨rfl,h⟩:=h
  exact ai.cons (by unfold aj;rfl) h.rel
 | .str x::r,.str y::t,h=>by
  obtain⟨⟨rfl,hx⟩,h⟩:=h
  exact ai.cons (by unfold aj;exact⟨rfl,hx⟩) h.rel
 | [],_::_,h=>ae h
 | .int i::r,[],h=>ae h
 | .str i::r,[],h=>ae h
 | .int i::r,.str _::_,h=>ae h
 | .str i::r,.int _::_,h=>ae h
def Ba(K:PySem.W.Frag)(mg:Str->Option aaM)(x:Str):Wv->Prop
 | .int i=>∃t,mg x=some (.int i t)
 | .str y=>(∃t,mg x=some (.str y t))/\br y=true
 | .rH ws=>∃(a:aaG)(vs:List V)(o:Obj)(its:Array aaM)(n:Nat),mg x=some (.ref a)/\K.lookup a=some o/\o.cls= .type "tuple"/\o.data= .seq its n/\its.size<=aaX/\Vals vs its.toList/\xG ws vs
 | _=>False
structure Rq(c:Ct)(k:Nat)(X:Cx):Prop where
 lam:∀p L,c.lam=some (p,L)->FF X.prog X.w X.K X.mg X.base k p 3 L
 J4:∀x F,c.J4.lookup x=some F->Xb X.prog X.w X.K X.mg k c.lj x F
 Rr:∀x n F,c.fns.lookup x=some (n,F)->c.U8.contains x=true->∀base,Cz X.K X.mg base->f7 X.prog X.w X.K X.mg base c.lj x n F
 at':c.top=true->c.self∈dY->∃P,Lp X c.self P
 sk:c.sk<=k
 Rt:∀x n F,c.fns.lookup x=some (n,F)->c.Rl.contains x=true->f7 X.prog X.w X.K X.mg X.base c.lj x n F
structure Good(c:Ct)(k:Nat)(X:Cx):Prop where
 N:X.N=c.N
 sc:X.env.scope.names=c.names
 nd:c.N.Nodup
 un:X.A.units+64 < cLine
 free:c.free=true->lK k X.A/\X.calm=true
 loop:c.loop=true->X.calm=true/\PassesOwn (model X.prog X.w) X.A X.env X.xe
 cst:∀x w,c.consts.lookup x=some w->Ba X.K X.mg x w
 bl:∀x,c.bl.contains x=true->X.mg x=none
 fns:∀x n F,c.fns.lookup x=some (n,F)->f7 X.prog X.w X.K X.mg X.base k x n F
 stk:c.top=true->Yo X
 fn:c.top=true->∀x,X.fn x=true
 kind:X.env.scope.kind= .function
 tab:TabOk X.K c.tb c.tt c.tc
 cls:∀x,c.clss.contains x=true->∃C,X.mg x=some (.ref C)/\Jg X.K x C
 CZ:∀x,c.CZ.contains x=true->∃C,X.mg x=some (.ref C)/\ClsAt X.K x C
 DA:∀x kvs,c.DA.lookup x=some kvs->oJ X.K X.w X.mg x kvs
 rm:uC k X.A
 HK:∀x n F,c.HK.contains x=true->c.fns.lookup x=some (n,F)->JD X.prog X.w X.K X.mg X.base k x n F
 x:Rq c k X
 fr:E7 X
 hd:Nv X
theorem Bb{k:Nat}{A:aaH}(hr:lK k A):A.units+64 < cLine:=by have:=hr.un;omega
def Ct.Ru(c:Ct):Ct:={ c with loop:=false }
theorem Good.body{c:Ct}{k:Nat}{X:Cx}(G:Good c k X)(hf:c.free=true)(pn:List (aaG×Obj))(E:aaM->aaL->Prop):Good c.Ru k (WY X X.A true pn E) :=
 ⟨G.N,G.sc,G.nd,G.un,λ_=>⟨(G.free hf).1,rfl⟩,(λz=>by cases z),G.cst,G.bl,G.fns,λz=>⟨(G.stk z).st,(G.stk z).fr,(G.stk z).ex⟩,G.fn,G.kind,G.tab,G.cls,G.CZ,G.DA,⟨G.rm.d,G.rm.u⟩,G.HK,⟨G.x.lam,G.x.J4,G.x.Rr,λt m=>(G.x.at' t m).imp λP L=>⟨L.code,L.qual,L.tab,L.mem,L.uniq,L.bm⟩,G.x.sk,G.x.Rt⟩,G.fr,G.hd⟩
theorem F8:aaQ "ValueError"=some (.type "ValueError"):=by decide+kernel
theorem F9:aaQ "dict"=some (.type "dict"):=by decide+kernel
def J5(x:Str):Option String :=
 if x="int" then some "int" else if x="str" then some "str" else if x="bool" then some "bool" else if x="tuple" then some "tuple" else if x="list" then some "list" else if x="ValueError" then some "ValueError" else if x="dict" then some "dict" else none
theorem J6{x:Str}{T:String}(h:J5 x=some T):aaQ x=some (.type T):=by
 unfold J5 at h
 by_cases e:x="int"
 ·rw[if_pos e] at h;cases h;subst e;exact EN
 rw[if_neg e] at h
 by_cases e:x="str"
 ·rw[if_pos e] at h;cases h;subst e;exact EO
 rw[if_neg e] at h
 by_cases e:x="bool"
 ·rw[if_pos e] at h;cases h;subst e;exact ER
 rw[if_neg e] at h
 by_cases e:x="tuple"
 ·rw[if_pos e] at h;cases h;subst e;exact w9
 rw[if_neg e] at h
 by_cases e:x="list"
 ·rw[if_pos e] at h;cases h;subst e;exact w_
 rw[if_neg e] at h
 by_cases e:x="ValueError"
 ·rw[if_pos e] at h;cases h;subst e;exact F8
 rw[if_neg e] at h
 by_cases e:x="dict"
 ·rw[if_pos e] at h;cases h;subst e;exact F9
 rw[if_neg e] at h
 cases h
section
variable {X:Cx}
def Rw:gO:=λ_ _ _=> .bad
theorem Og{f:aaM->aaM->Sem aaM}:jw X f Rw:=⟨λ_ _ _ _=>False,λ_ _ _ _ _ _ _ _ _ _ _ _ h=>h.elim,λ_ _ _ _ _ _ _ _ _ _ _ p=>p⟩
def Rx:Operator->gO
 | .Add=>cu
 | .Sub=>kK
 | .Mult=>b8
 | .FloorDiv=>bB
 | .Mod=>oMod
 | .Pow=>qw
 | _=>Rw
theorem J7(o:Operator):jw X (aaP o) (Rx o):=by
 cases o<;>first | exact Ni | exact Nf | exact FE | exact IM | exact Ng | exact Nh | exact Og
def pQ:CmpOp->gO
 | .Eq=>oEq
 | .NotEq=>yk
 | .Lt=>oLt
 | .LtE=>oLe
 | .Gt=>Ut
 | .GtE=>Uu
 | .Is=>WU
 | .IsNot=>xE
 | .In=>NI
 | .NotIn=>vI
theorem fK(hu:X.A.units+64 < cLine)(o:CmpOp):jw X (aaT o) (pQ o):=by
 cases o<;>first | exact QM hu | exact QN hu | exact Oe hu | exact NV hu | exact QG | exact QH | exact QI | exact JZ | exact NJ | exact Cq
def F_(c:Ct)(x:Str):GE:=if okN x=true then
  match c.names.lookup x with
  | some .local=>(match oS x c.N with | some i=>aa i | none=>cz)
  | some .cell=>(match oS x c.N with | some i=>aa i | none=>cz)
  | some .free=>(match oS x c.N with | some i=>aa i | none=>cz)
  | some .globalImplicit=>(match c.consts.lookup x with
   | some w=>gC w
   | none=>if c.clss.contains x=true then gC (.cls x) else if c.CZ.contains x=true then gC (.cls x) else if c.bl.contains x=true then(match J5 x with | some T=>gC (.ty T) | none=>cz) else cz)
  | _=>cz
 else cz
theorem Ga{c:Ct}{k:Nat}(G:Good c k X)(x:Str)(pos:Pos):JE X (.Name x pos) (F_ c x):=by
 unfold F_
 by_cases hx:okN x=true
 ·rw[if_pos hx]
  cases e:c.names.lookup x with
  | none=>exact aN
  | some kd=>
   have el:X.env.scope.names.lookup x=some kd:=by rw[G.sc];exact e
   cases kd with
   | «local»=>
    dsimp only
    cases e2:oS x c.N with
    | none=>exact aN
    | some i=>exact yR i (by rw[G.N];exact ku e2) (Or.inl el) (kz hx) (FZ hx)
   | cell=>
    dsimp only
    cases e2:oS x c.N with
    | none=>exact aN
    | some i=>exact yR i (by rw[G.N];exact ku e2) (mD (Or.inl el)) (kz hx) (FZ hx)
   | free=>
    dsimp only
    cases e2:oS x c.N with
    | none=>exact aN
    | some i=>exact yR i (by rw[G.N];exact ku e2) (mD (mD el)) (kz hx) (FZ hx)
   | globalImplicit=>
    dsimp only
    have hg:Gl X x:=el
    cases e2:c.consts.lookup x with
    | some w=>
     have q:=G.cst x w e2
     cases w with
     | int i=>obtain⟨t,q⟩:=q;exact En hg q (kz hx)
     | str y=>obtain⟨⟨t,q⟩,z⟩:=q;exact Eo hg q z (kz hx)
     | rH ws=>
      obtain⟨a,vs,o,its,n,q1,q2,q3,q4,q5,q6,q7⟩:=q
      exact JE.of (iJ (v:=.ref a) hg q1 rfl (kz hx)) λρ st σ H m Q S R p=>p (.ref a) m H Ext.refl S (by unfold aj;exact⟨a,vs,rfl,⟨o,its,n,q2,q3,q4,q5,q6⟩,q7.rel⟩)
     | _=>exact ae q
    | none=>
     dsimp only
     by_cases e5:c.clss.contains x=true
     ·rw[if_pos e5]
      obtain⟨C,q1,q2⟩:=G.cls x e5
      exact JE.of (iJ (v:=.ref C) hg q1 rfl (kz hx)) λρ st σ H m Q S R p=>p (.ref C) m H Ext.refl S (by unfold aj;exact⟨C,rfl,q2.cls⟩)
     rw[if_neg e5]
     by_cases e6:c.CZ.contains x=true
     ·rw[if_pos e6]
      obtain⟨C,q1,q2⟩:=G.CZ x e6
      exact JE.of (iJ (v:=.ref C) hg q1 rfl (kz hx)) λρ st σ H m Q S R p=>p (.ref C) m H Ext.refl S (by unfold aj;exact⟨C,rfl,q2⟩)
     rw[if_neg e6]
     by_cases e3:c.bl.contains x=true
     ·rw[if_pos e3]
      cases e4:J5 x with
      | none=>exact aN
      | some T=>exact Qv hg (G.bl x e3) (J6 e4) (F6 hx) (kz hx)
     ·rw[if_neg e3];exact aN
   | _=>exact aN
 ·rw[if_neg hx];exact aN
def Gb:Const->GE
 | .none=>gC .bg
 | .bool b=>gC (.bl b)
 | .int i=>gC (.int i)
 | .str x=>if br x=true then gC (.str x) else cz
 | _=>cz
theorem C0(k:Const)(j:Nat)(pos:Pos):JE X (.Constant k j pos) (Gb k):=by
 cases k with
 | none=>exact M5
 | bool b=>exact Qu
 | int i=>exact M4
 | str x=>
  show JE X _ (if br x=true then gC (.str x) else cz)
  by_cases h:br x=true
  ·rw[if_pos h];exact M6 h
  ·rw[if_neg h];exact aN
 | _=>exact aN
def plain:Expr->Bool
 | .Starred .. =>false
 | _=>true
theorem aI{e:Expr}{es:List Expr}{env:Env}(h:plain e=true):aaY (e::es) env=(false,eval e env)::aaY es env:=by
 cases e<;>first | rfl | cases h
theorem kA{pos:Pos}{env:Env}:∀{es:List Expr},es.all plain=true->(backTo pos (aaY es env)).any (·.1)=false
 | [],_=>rfl
 | e::es,h=>by
  rw[i7,ff] at h
  rw[aI h.1]
  have q:=kA (pos:=pos) (env:=env) h.2
  unfold backTo at q ⊢
  rw[a6,i8,q]
  rfl
def lZ(f:Expr->GE):List Expr->GA
 | []=>aq
 | e::es=>af (f e) (lZ f es)
theorem hJ{f:Expr->GE}(h:∀e,JE X e (f e)):∀es:List Expr,es.all plain=true->JA X es (lZ f es)
 | [],_=>yU
 | e::es,g=>by
  rw[i7,ff] at g
  exact vq (h e) (hJ h es g.2) (aI g.1)
def SX(c:Ct)(x:Str):Option (aaM×(List Wv->Hs->Re Wv)) :=
 if x="len" then some (.builtin "len",if c.sj.isEmpty=true then nq else lE) else if x="isinstance" then some (.builtin "isinstance",nQ c.tb c.tt) else if x="list"/\c.free=true then some (.type "list",lY) else if x="tuple" then some (.type "tuple",qo) else if x="all"/\c.free=true then some (.builtin "all",Fe) else if x="sum"/\c.free=true then some (.builtin "sum",xj) else if x="sorted"/\c.free=true then some (.builtin "sorted",qr) else if x="any"/\c.free=true then some (.builtin "any",zu) else none
theorem C2:aaQ "all"=some (.builtin "all"):=by decide+kernel
theorem C3:aaQ "sum"=some (.builtin "sum"):=by decide+kernel
theorem C4:aaQ "sorted"=some (.builtin "sorted"):=by decide+kernel
theorem Oh(c:Ct):fV X (.builtin "len") (if c.sj.isEmpty=true then nq else lE):=by
 by_cases e2:c.sj.isEmpty=true
 ·rw[if_pos e2];exact Ez
 ·rw[if_neg e2];exact JR
theorem Oi{c:Ct}{x:Str}{v:aaM}{op:List Wv->Hs->Re Wv}(O:TabOk X.K c.tb c.tt c.tc)(hc:c.free=true->X.calm=true)(h:SX c x=some (v,op)):aaQ x=some v/\fV X v op/\((∃id,v= .builtin id)\/∃T,v= .type T):=by
 unfold SX at h
 by_cases e:x="len"
 ·rw[if_pos e] at h;cases h;subst e;exact⟨Ce,Oh c,.inl ⟨_,rfl⟩⟩
 rw[if_neg e] at h
 by_cases e:x="isinstance"
 ·rw[if_pos e] at h;cases h;subst e;exact⟨EM,Nu O,.inl ⟨_,rfl⟩⟩
 rw[if_neg e] at h
 by_cases e:x="list"/\c.free=true
 ·rw[if_pos e] at h;cases h;obtain⟨rfl,e2⟩:=e;exact⟨w_,Fx (hc e2),.inr ⟨_,rfl⟩⟩
 rw[if_neg e] at h
 by_cases e:x="tuple"
 ·rw[if_pos e] at h;cases h;subst e;exact⟨w9,ND,.inr ⟨_,rfl⟩⟩
 rw[if_neg e] at h
 by_cases e:x="all"/\c.free=true
 ·rw[if_pos e] at h;cases h;obtain⟨rfl,e2⟩:=e;exact⟨C2,NC (hc e2),.inl ⟨_,rfl⟩⟩
 rw[if_neg e] at h
 by_cases e:x="sum"/\c.free=true
 ·rw[if_pos e] at h;cases h;obtain⟨rfl,e2⟩:=e;exact⟨C3,NF (hc e2),.inl ⟨_,rfl⟩⟩
 rw[if_neg e] at h
 by_cases e:x="sorted"/\c.free=true
 ·rw[if_pos e] at h;cases h;obtain⟨rfl,e2⟩:=e;exact⟨C4,JX (hc e2),.inl ⟨_,rfl⟩⟩
 rw[if_neg e] at h
 by_cases e:x="any"/\c.free=true
 ·rw[if_pos e] at h;cases h;obtain⟨rfl,e2⟩:=e;exact⟨CW,Oa (hc e2),.inl ⟨_,rfl⟩⟩
 rw[if_neg e] at h
 cases h
def zw(c:Ct)(fE:Expr->GE)(x:Str)(es:List Expr):GE:=if okN x=true/\es.all plain=true/\c.names.lookup x=some .globalImplicit then
   (match c.fns.lookup x with
   | some (n,F)=>if c.free=true then ay n F (lZ fE es) else cz
   | none=>if c.bl.contains x=true then(match SX c x with | some (_,op)=>a7 op (lZ fE es) | none=>cz) else cz)
  else cz
def Gd(fE:Expr->GE)(o:Expr)(name:Str)(e:Expr)(apos cpos:Pos):GE:=if plain e=true/\(apos.endLine == cpos.line)=true then
   (if name="append" then gP lS (fE o) (fE e) else if name="extend" then gP qq (fE o) (fE e) else cz)
  else cz
def vU(fE:Expr->GE)(o:Expr)(name:Str)(es:List Expr)(apos cpos:Pos):GE:=cz
theorem all_plain{pos:Pos}{env:Env}:∀{es:List Expr},es.all plain=true->(backTo pos (aaY es env)).all (λx=> !x.1)=true
 | [],_=>rfl
 | e::es,h=>by
  rw[i7,ff] at h
  rw[aI h.1]
  have q:=all_plain (pos:=pos) (env:=env) h.2
  unfold backTo at q ⊢
  rw[a6,i7,q]
  rfl
theorem pR{fE:Expr->GE}(h:∀e,JE X e (fE e))(o:Expr)(name:Str)(e:Expr)(es:List Expr)(apos cpos:Pos):JE X (.Call (.Attribute o name apos) (e::es) [] cpos) (vU fE o name (e::es) apos cpos):=by
 exact aN
def Ge(fE:Expr->GE)(o:Expr)(e f:Expr)(apos cpos:Pos):GE:=if plain e=true/\plain f=true/\(apos.endLine == cpos.line)=true then Fj (fE o) (fE e) (fE f) else cz
theorem Gf{c:Ct}{k:Nat}(G:Good c k X){fE:Expr->GE}(h:∀e,JE X e (fE e))(o:Expr)(ho:attributeBase o "get" X.env (eval o X.env)=eval o X.env)(e f:Expr)(apos cpos:Pos):JE X (.Call (.Attribute o "get" apos) [e,f] [] cpos) (Ge fE o e f apos cpos):=by
 unfold Ge
 by_cases g:plain e=true/\plain f=true/\(apos.endLine == cpos.line)=true
 ·rw[if_pos g]
  obtain⟨g1,g2,g3⟩:=g
  refine Fn (by have:=G.un;omega) (h _) (h e) (h f) ⟨ho,?_,g3,?_⟩
  ·rw[all_plain (es:=[e,f]) (by simp[g1,g2])]
   rfl
  ·rw[aI g1,aI g2]
   rfl
 ·rw[if_neg g];exact aN
def oT(c:Ct)(x:Str):Option Dc:=if okN x=true/\c.names.lookup x=some .globalImplicit then c.DA.lookup x else none
theorem mL{c:Ct}{k:Nat}(G:Good c k X){x:Str}{kvs:Dc}(h:oT c x=some kvs):Gl X x/\(x == ("__debug__":Str))=false/\oJ X.K X.w X.mg x kvs:=by
 unfold oT at h
 by_cases g:okN x=true/\c.names.lookup x=some .globalImplicit
 ·rw[if_pos g] at h
  refine⟨?_,kz g.1,G.DA x kvs h⟩
  show X.env.scope.names.lookup x=_
  rw[G.sc];exact g.2
 ·rw[if_neg g] at h;cases h
def oU:Expr->Bool
 | .Subscript .. =>true
 | _=>false
theorem Gg{o:Expr}{name:Str}{env:Env}(h:oU o=true):attributeBase o name env (eval o env)=eval o env:=by
 unfold oU at h
 split at h
 ·rfl
 ·cases h
theorem U9{o:Expr}{name:Str}{env:Env}(h:(FY o||oU o)=true):attributeBase o name env (eval o env)=eval o env:=by
 rw[yX] at h
 rcases h with h | h
 ·exact CY h
 ·exact Gg h
def Gh(fE:Expr->GE)(x:Str)(p:Pos)(name:Str)(apos cpos:Pos):GE:=if name="pop"/\(apos.endLine == cpos.line)=true then nE (fE (.Name x p)) else cz
theorem Gi{fE:Expr->GE}(h:∀e,JE X e (fE e))(x:Str)(p:Pos)(name:Str)(apos cpos:Pos):JE X (.Call (.Attribute (.Name x p) name apos) [] [] cpos) (Gh fE x p name apos cpos):=by
 unfold Gh
 by_cases g:name="pop"/\(apos.endLine == cpos.line)=true
 ·rw[if_pos g];obtain⟨rfl,g2⟩:=g;exact J2 (h _) ⟨rfl,g2⟩
 ·rw[if_neg g];exact aN
def Gj(c:Ct)(fE:Expr->GE)(x:Str)(p:Pos)(e:Expr)(apos cpos:Pos):GE:=if c.sj.contains x=true/\plain e=true/\(apos.endLine == cpos.line)=true then si (fE (.Name x p)) (fE e) else cz
theorem Gk{c:Ct}{k:Nat}(G:Good c k X){fE:Expr->GE}(h:∀e,JE X e (fE e))(x:Str)(p:Pos)(e:Expr)(apos cpos:Pos):JE X (.Call (.Attribute (.Name x p) "get" apos) [e] [] cpos) (Gj c fE x p e apos cpos):=by
 unfold Gj
 by_cases g:c.sj.contains x=true/\plain e=true/\(apos.endLine == cpos.line)=true
 ·rw[if_pos g]
  obtain⟨_,g1,g3⟩:=g
  refine FV (by have:=G.un;omega) (h _) (h e) ⟨rfl,?_,g3,?_⟩
  ·rw[all_plain (es:=[e]) (by simp[g1])]
   rfl
  ·rw[aI g1]
   rfl
 ·rw[if_neg g];exact aN
def Gm(c:Ct)(fE:Expr->GE)(cpos:Pos):Expr->List Expr->List Keyword->GE
 | .Name x _,e::es,[]=>zw c fE x (e::es)
 | .Attribute (.Name x p) name apos,[e],[]=>if name="get" then Gj c fE x p e apos cpos else if name="append"\/name="extend" then Gd fE (.Name x p) name e apos cpos else vU fE (.Name x p) name [e] apos cpos
 | .Attribute (.Name x p) name apos,[e,f],[]=>if name="get" then(match oT c x with | some kvs=>(if plain e=true/\plain f=true/\(apos.endLine == cpos.line)=true then FA kvs (fE e) (fE f) else cz) | none=>Ge fE (.Name x p) e f apos cpos) else vU fE (.Name x p) name [e,f] apos cpos
 | .Attribute o name apos,[e],[]=>if name="append"/\(FY o||oU o)=true/\plain e=true/\(apos.endLine == cpos.line)=true then gP lS (fE o) (fE e) else cz
 | .Attribute o name apos,e::es,[]=>vU fE o name (e::es) apos cpos
 | .Attribute (.Name x p) name apos,[],[]=>Gh fE x p name apos cpos
 | _,_,_=>cz
theorem C5{c:Ct}{k:Nat}(G:Good c k X){fE:Expr->GE}(h:∀e,JE X e (fE e))(x:Str)(e:Expr)(es:List Expr)(p pos:Pos):JE X (.Call (.Name x p) (e::es) [] pos) (zw c fE x (e::es)):=by
 unfold zw
 by_cases g:okN x=true/\(e::es).all plain=true/\c.names.lookup x=some .globalImplicit
 ·rw[if_pos g]
  obtain⟨g1,g2,g3⟩:=g
  have hg:Gl X x:=by
   show X.env.scope.names.lookup x=_
   rw[G.sc];exact g3
  have gp:plain e=true/\es.all plain=true:=by rw[i7,ff] at g2;exact g2
  have ha:=hJ h (e::es) g2
  cases e1:c.fns.lookup x with
  | some nF=>
   obtain⟨n,F⟩:=nF
   dsimp only
   by_cases cf:c.free=true
   ·rw[if_pos cf]
    obtain⟨a,fd,ps,G1,G2,G3,G4⟩:=G.fns x n F e1
    exact Ja G1 (G.free cf).1 G2 G3 G4 ha hg (kz g1) (aI gp.1) (kA gp.2)
   ·rw[if_neg cf]
    exact aN
  | none=>
   dsimp only
   by_cases e3:c.bl.contains x=true
   ·rw[if_pos e3]
    cases e4:SX c x with
    | none=>exact aN
    | some io=>
     obtain⟨v,op⟩:=io
     obtain⟨b1,b2,b3⟩:=Oi (X:=X) G.tab (λz=>(G.free z).2) e4
     rcases b3 with ⟨id,rfl⟩ | ⟨T,rfl⟩
     ·exact Ey b2 hg (G.bl x e3) b1 ha (F6 g1) (kz g1) (aI gp.1) (kA gp.2)
     ·exact B_ b2 hg (G.bl x e3) b1 ha (F6 g1) (kz g1) (aI gp.1) (kA gp.2)
   ·rw[if_neg e3]
    exact aN
 ·rw[if_neg g];exact aN
theorem Gn{fE:Expr->GE}(h:∀e,JE X e (fE e))(x name:Str)(e:Expr)(p apos cpos:Pos):JE X (.Call (.Attribute (.Name x p) name apos) [e] [] cpos) (Gd fE (.Name x p) name e apos cpos):=by
 unfold Gd
 by_cases g:plain e=true/\(apos.endLine == cpos.line)=true
 ·rw[if_pos g]
  by_cases n1:name="append"
  ·rw[if_pos n1]
   subst n1
   exact AI y9 PySem.F.slot_list_append PySem.F.type_list_append (h _) (h e) (aI g.1) g.2
  rw[if_neg n1]
  by_cases n2:name="extend"
  ·rw[if_pos n2]
   subst n2
   exact AI JJ PySem.F.slot_list_extend PySem.F.type_list_extend (h _) (h e) (aI g.1) g.2
  rw[if_neg n2]
  exact aN
 ·rw[if_neg g];exact aN
theorem Gp{c:Ct}{k:Nat}(G:Good c k X){fE:Expr->GE}(h:∀e,JE X e (fE e))(f:Expr)(as:List Expr)(ks:List Keyword)(pos:Pos):JE X (.Call f as ks pos) (Gm c fE pos f as ks):=by
 unfold Gm
 split
 ·exact C5 G h _ _ _ _ _
 ·rename_i x p name apos e
  by_cases gg:name="get"
  ·rw[if_pos gg];subst gg;exact Gk G h _ _ _ _ _
  rw[if_neg gg]
  by_cases g:name="append"\/name="extend"
  ·rw[if_pos g];exact Gn h _ _ _ _ _ _
  ·rw[if_neg g]
   exact pR h _ _ _ _ _ _
 ·rename_i x p name apos e f
  by_cases g:name="get"
  ·rw[if_pos g]
   subst g
   cases ed:oT c x with
   | none=>exact Gf G h _ rfl _ _ _ _
   | some kvs=>
    dsimp only
    by_cases g:plain e=true/\plain f=true/\(apos.endLine == pos.line)=true
    ·rw[if_pos g]
     obtain⟨g1,g2,g3⟩:=g
     obtain⟨q1,q2,q3⟩:=mL G ed
     refine FC (h e) (h f) ⟨rfl,?_,g3,?_⟩ q1 q2 q3
     ·rw[all_plain (es:=[e,f]) (by simp[g1,g2])]
      rfl
     ·rw[aI g1,aI g2]
      rfl
    ·rw[if_neg g];exact aN
  ·rw[if_neg g]
   exact pR h _ _ _ _ _ _
 ·rename_i o name apos e _
  by_cases ga:name="append"/\(FY o||oU o)=true/\plain e=true/\(apos.endLine == pos.line)=true
  ·rw[if_pos ga];obtain⟨rfl,g0,g1,g2⟩:=ga;exact Fz y9 PySem.F.slot_list_append PySem.F.type_list_append (U9 g0) (h _) (h e) (aI g1) g2
  rw[if_neg ga]
  exact aN
 ·exact pR h _ _ _ _ _ _
 ·exact Gi h _ _ _ _ _
 ·exact aN
def xH:Expr->Bool
 | .Slice .. =>true
 | _=>false
def Gq(f:Expr->GE):Option Expr->GO
 | none=>kL
 | some e=>rN (f e)
theorem Bc{f:Expr->GE}(h:∀e,JE X e (f e))(o:Option Expr):JO X o (Gq f o):=by
 cases o with
 | none=>exact IV
 | some e=>exact IW (h e)
def J8(f:Expr->GE)(a:Expr):Expr->GE
 | .Slice lo hi none _=>jC (f a) (Gq f lo) (Gq f hi)
 | .Slice .. =>cz
 | b=>ag aU (f a) (f b)
theorem Gs{f:Expr->GE}(h:∀e,JE X e (f e))(a b:Expr)(pos:Pos):JE X (.Subscript a b pos) (J8 f a b):=by
 unfold J8
 split
 ·exact Cp (h a) (Bc h _) (Bc h _)
 ·exact aN
 ·rename_i n1 n2
  refine QQ (h a) (h b) ?_
  intro o i
  cases b<;>first | rfl | (rename_i lo hi st p;exact(n2 _ _ _ _ rfl).elim)
def Gu(f:Expr->GE)(a:Expr):List CmpOp->List Expr->GE
 | [o],[b]=>if aaO o b=false then ag (pQ o) (f a) (f b) else cz
 | [o,o'],[b,b']=>if lastMarks [o,o'] [b,b']=false then iA (pQ o) (pQ o') (f a) (f b) (f b') else cz
 | [o,o',pP],[b,b',b'']=>if lastMarks [o,o',pP] [b,b',b'']=false then cU (pQ o) (pQ o') (pQ pP) (f a) (f b) (f b') (f b'') else cz
 | _,_=>cz
theorem zx(hu:X.A.units+64 < cLine){f:Expr->GE}(h:∀e,JE X e (f e))(a:Expr)(os:List CmpOp)(bs:List Expr)(pos:Pos):JE X (.Compare a os bs pos) (Gu f a os bs):=by
 unfold Gu
 split
 ·rename_i o b
  by_cases g:aaO o b=false
  ·rw[if_pos g];exact yS (fK hu o) (h a) (h b) g
  ·rw[if_neg g];exact aN
 ·rename_i o o' b b'
  by_cases g:lastMarks [o,o'] [b,b']=false
  ·rw[if_pos g];exact Ep (fK hu o) (fK hu o') (h a) (h b) (h b') g
  ·rw[if_neg g];exact aN
 ·rename_i o o' pP b b' b''
  by_cases g:lastMarks [o,o',pP] [b,b',b'']=false
  ·rw[if_pos g];exact CJ (fK hu o) (fK hu o') (fK hu pP) (h a) (h b) (h b') (h b'') g
  ·rw[if_neg g];exact aN
 ·exact aN
def Gv(f:Expr->GE)(a:Expr):List CmpOp->List Expr->GT
 | [o],[b]=>if aaO o b=false then aQ (ag (pQ o) (f a) (f b)) else lD
 | [o,o'],[b,b']=>if lastMarks [o,o'] [b,b']=false then aQ (iA (pQ o) (pQ o') (f a) (f b) (f b')) else lD
 | [o,o',pP],[b,b',b'']=>if lastMarks [o,o',pP] [b,b',b'']=false then aQ (cU (pQ o) (pQ o') (pQ pP) (f a) (f b) (f b') (f b'')) else lD
 | _,_=>lD
theorem vV(hu:X.A.units+64 < cLine){f:Expr->GE}(h:∀e,JE X e (f e))(a:Expr)(os:List CmpOp)(bs:List Expr)(pos:Pos):JT X (.Compare a os bs pos) (Gv f a os bs):=by
 unfold Gv
 split
 ·rename_i o b
  by_cases g:aaO o b=false
  ·rw[if_pos g];exact yT (fK hu o) (h a) (h b) g
  ·rw[if_neg g];exact kM
 ·rename_i o o' b b'
  by_cases g:lastMarks [o,o'] [b,b']=false
  ·rw[if_pos g];exact Er (fK hu o) (fK hu o') (h a) (h b) (h b') g
  ·rw[if_neg g];exact kM
 ·rename_i o o' pP b b' b''
  by_cases g:lastMarks [o,o',pP] [b,b',b'']=false
  ·rw[if_pos g];exact CK (fK hu o) (fK hu o') (fK hu pP) (h a) (h b) (h b') (h b'') g
  ·rw[if_neg g];exact kM
 ·exact kM
def zy(c:Ct):Expr->Bool
 | .Name x _=>c.sj.contains x
 | _=>false
def Lu(c:Ct)(x:Str)(neg:Bool):gO:=if c.sj.contains x=true then iM neg else nu neg
theorem Gw(c:Ct)(x:Str)(hu:X.A.units+64 < cLine):jw X (aaT .In) (Lu c x false):=by
 unfold Lu
 split
 ·exact N_ hu
 ·exact N2 hu
theorem uI(c:Ct)(x:Str)(hu:X.A.units+64 < cLine):jw X (aaT .NotIn) (Lu c x true):=by
 unfold Lu
 split
 ·exact CQ hu
 ·exact CG hu
def Oj(c:Ct)(f:Expr->GE)(a:Expr):List CmpOp->List Expr->GE
 | [.In],[.Name x p]=>(match oT c x with | some kvs=>oM false kvs (f a) | none=>if c.DB.contains x=true then(if aaO .In (.Name x p)=false then ag (Lu c x false) (f a) (f (.Name x p)) else cz) else Gu f a [.In] [.Name x p])
 | [.NotIn],[.Name x p]=>(match oT c x with | some kvs=>oM true kvs (f a) | none=>if c.DB.contains x=true then(if aaO .NotIn (.Name x p)=false then ag (Lu c x true) (f a) (f (.Name x p)) else cz) else Gu f a [.NotIn] [.Name x p])
 | os,bs=>Gu f a os bs
theorem J9{c:Ct}{k:Nat}(G:Good c k X){f:Expr->GE}(h:∀e,JE X e (f e))(a:Expr)(os:List CmpOp)(bs:List Expr)(pos:Pos):JE X (.Compare a os bs pos) (Oj c f a os bs):=by
 unfold Oj
 split
 ·rename_i x p
  cases e:oT c x with
  | none=>
   dsimp only
   by_cases gd:c.DB.contains x=true
   ·rw[if_pos gd]
    by_cases gm:aaO .In (.Name x p)=false
    ·rw[if_pos gm];exact yS (Gw c x G.un) (h a) (h _) gm
    ·rw[if_neg gm];exact aN
   ·rw[if_neg gd];exact zx G.un h a _ _ pos
  | some kvs=>obtain⟨g1,g2,g3⟩:=mL G e;exact Jq (h a) g1 g2 g3
 ·rename_i x p
  cases e:oT c x with
  | none=>
   dsimp only
   by_cases gd:c.DB.contains x=true
   ·rw[if_pos gd]
    by_cases gm:aaO .NotIn (.Name x p)=false
    ·rw[if_pos gm];exact yS (uI c x G.un) (h a) (h _) gm
    ·rw[if_neg gm];exact aN
   ·rw[if_neg gd];exact zx G.un h a _ _ pos
  | some kvs=>obtain⟨g1,g2,g3⟩:=mL G e;exact zd (h a) g1 g2 g3
 ·exact zx G.un h a _ _ pos
def Gx(c:Ct)(f:Expr->GE)(a:Expr):List CmpOp->List Expr->GT
 | [.In],[.Name x p]=>(match oT c x with | some kvs=>aQ (oM false kvs (f a)) | none=>if c.DB.contains x=true then(if aaO .In (.Name x p)=false then aQ (ag (Lu c x false) (f a) (f (.Name x p))) else lD) else Gv f a [.In] [.Name x p])
 | [.NotIn],[.Name x p]=>(match oT c x with | some kvs=>aQ (oM true kvs (f a)) | none=>if c.DB.contains x=true then(if aaO .NotIn (.Name x p)=false then aQ (ag (Lu c x true) (f a) (f (.Name x p))) else lD) else Gv f a [.NotIn] [.Name x p])
 | os,bs=>Gv f a os bs
theorem Gy{c:Ct}{k:Nat}(G:Good c k X){f:Expr->GE}(h:∀e,JE X e (f e))(a:Expr)(os:List CmpOp)(bs:List Expr)(pos:Pos):JT X (.Compare a os bs pos) (Gx c f a os bs):=by
 unfold Gx
 split
 ·rename_i x p
  cases e:oT c x with
  | none=>
   dsimp only
   by_cases gd:c.DB.contains x=true
   ·rw[if_pos gd]
    by_cases gm:aaO .In (.Name x p)=false
    ·rw[if_pos gm];exact yT (Gw c x G.un) (h a) (h _) gm
    ·rw[if_neg gm];exact kM
   ·rw[if_neg gd];exact vV G.un h a _ _ pos
  | some kvs=>obtain⟨g1,g2,g3⟩:=mL G e;exact Jr (h a) g1 g2 g3
 ·rename_i x p
  cases e:oT c x with
  | none=>
   dsimp only
   by_cases gd:c.DB.contains x=true
   ·rw[if_pos gd]
    by_cases gm:aaO .NotIn (.Name x p)=false
    ·rw[if_pos gm];exact yT (uI c x G.un) (h a) (h _) gm
    ·rw[if_neg gm];exact kM
   ·rw[if_neg gd];exact vV G.un h a _ _ pos
  | some kvs=>obtain⟨g1,g2,g3⟩:=mL G e;exact ze (h a) g1 g2 g3
 ·exact vV G.un h a _ _ pos
def C6(c:Ct):Expr->Bool
 | .Name x _=>c.sj.contains x||c.YV.contains x
 | _=>false
def Ol(c:Ct)(f:Expr->GE):Expr->Expr->GE
 | .Name x p,b=>(match oT c x with | some kvs=>if xH b=false then Ll kvs (f b) else cz | none=>if C6 c (.Name x p)=true/\xH b=false then bX (f (.Name x p)) (f b) else J8 f (.Name x p) b)
 | a,b=>J8 f a b
theorem J_{c:Ct}{k:Nat}(G:Good c k X){f:Expr->GE}(h:∀e,JE X e (f e))(a b:Expr)(pos:Pos):JE X (.Subscript a b pos) (Ol c f a b):=by
 unfold Ol
 split
 ·rename_i x p
  cases e:oT c x with
  | none=>
   dsimp only
   by_cases g:C6 c (.Name x p)=true/\xH b=false
   ·rw[if_pos g]
    refine JK (by have:=G.un;omega) (h _) (h b) ?_
    intro o i
    cases b<;>first | rfl | cases g.2
   ·rw[if_neg g];exact Gs h _ b pos
  | some kvs=>
   dsimp only
   by_cases g:xH b=false
   ·rw[if_pos g]
    obtain⟨g1,g2,g3⟩:=mL G e
    refine Jt (h b) ?_ g1 g2 g3
    intro o i
    cases b<;>first | rfl | cases g
   ·rw[if_neg g];exact aN
 ·exact Gs h _ b pos
def pairsOf(f:Expr->GE):List (Option Expr)->List Expr->Option (List (GE×GE))
 | [],[]=>some []
 | some k::ks,v::vs=>(match pairsOf f ks vs with | some r=>some ((f k,f v)::r) | none=>none)
 | _,_=>none
def Ry:List (Option Expr)->Bool
 | some (.Tuple ..)::_=>true
 | _=>false
def Rz(c:Ct):List (Option Expr)->Bool
 | some (.Name x _)::_=>c.sj.contains x
 | _=>false
def Gz(b:Bool)(f:Expr->GE)(ks:List (Option Expr))(vs:List Expr):GE:=if(!ks.isEmpty&&decide (ks.length<=15))=true then(match pairsOf f ks vs with | some gs=>if b=true then cz else cz | none=>cz) else cz
theorem Bd(hu:X.A.units+1 < cLine)(b:Bool){f:Expr->GE}(h:∀e,JE X e (f e))(ks:List (Option Expr))(vs:List Expr)(pos:Pos):JE X (.Dict ks vs pos) (Gz b f ks vs):=by
 unfold Gz
 by_cases g:(!ks.isEmpty&&decide (ks.length<=15))=true
 ·rw[if_pos g]
  simp only[ff,decide_eq_true_eq] at g
  cases e:pairsOf f ks vs with
  | none=>exact aN
  | some gs=>
   dsimp only
   by_cases t:b=true
   ·rw[if_pos t];exact aN
   ·rw[if_neg t];exact aN
 ·rw[if_neg g];exact aN
def Om(f:Expr->GE):List Expr->GE
 | []=>cz
 | [a]=>f a
 | a::b::r=>fU (f a) (Om f (b::r))
def U_(f:Expr->GE):List Expr->GE
 | []=>cz
 | [a]=>f a
 | a::b::r=>Qy (f a) (U_ f (b::r))
theorem Be{f:Expr->GE}(h:∀e,JE X e (f e))(pos:Pos):∀es,JE X (.BoolOp .And es pos) (Om f es)
 | []=>aN
 | [a]=>Et (h a)
 | a::b::r=>Na (h a) (Be h pos (b::r))
theorem GB{f:Expr->GE}(h:∀e,JE X e (f e))(pos:Pos):∀es,JE X (.BoolOp .Or es pos) (U_ f es)
 | []=>aN
 | [a]=>Et (h a)
 | a::b::r=>Qz (h a) (GB h pos (b::r))
def Oo(f:Expr->GT):List Expr->GT
 | []=>lD
 | [a]=>f a
 | a::b::r=>nP (f a) (Oo f (b::r))
def U'(f:Expr->GT):List Expr->GT
 | []=>lD
 | [a]=>f a
 | a::b::r=>Qw (f a) (U' f (b::r))
theorem GC{e:Expr}:JW X e lD:=λρ st σ H m Q S R p=>ae p
theorem Bf{f:Expr->GT}(h:∀e,JT X e (f e))(pos:Pos):∀es,JW X (.BoolOp .And es pos) (Oo f es)
 | []=>GC
 | [a]=>IJ (h a)
 | a::b::r=>M_ (h a) (Bf h pos (b::r))
theorem GD{f:Expr->GT}(h:∀e,JT X e (f e))(pos:Pos):∀es,JW X (.BoolOp .Or es pos) (U' f es)
 | []=>GC
 | [a]=>M9 (h a)
 | a::b::r=>Qx (h a) (GD h pos (b::r))
def YW(f:Expr->GE):UnaryOp->Expr->GE
 | .USub,a=>WT Es (f a)
 | .Not,a=>AD (f a)
 | _,_=>cz
def C7(f:Expr->GE)(g:GA->GE)(es:List Expr):GE:=if es.all plain=true then g (lZ f es) else cz
def isSet:Expr->Bool
 | .Set .. =>true
 | _=>false
theorem mM{e:Expr}{env:Env}(h:isSet e=false)(x:aaM):aaU e env x=pure x:=by
 cases e<;>first | rfl | cases h
def fL(c:Ct)(x:Str):Bool:=decide (x="range")&&decide (c.names.lookup x=some .globalImplicit)&&c.bl.contains x&&(match c.fns.lookup x with | some _=>false | none=>true)
theorem su{c:Ct}{k:Nat}(G:Good c k X)(y:Str)(hy:fL c y=true):y="range"/\Gl X y/\X.mg y=none:=by
 unfold fL at hy
 simp only[ff,decide_eq_true_eq] at hy
 refine⟨hy.1.1.1,?_,G.bl y hy.1.2⟩
 show X.env.scope.names.lookup y=_
 rw[G.sc];exact hy.1.1.2
def GF(c:Ct)(f:Expr->GE):Expr->GI
 | .Call (.Name x p) [a] [] q=>if fL c x=true then(if plain a=true then vG (lZ f [a]) else AM) else cP (f (.Call (.Name x p) [a] [] q))
 | .Call (.Name x p) [a,b] [] q=>if fL c x=true then(if plain a=true/\plain b=true then Fc (lZ f [a,b]) else AM) else cP (f (.Call (.Name x p) [a,b] [] q))
 | e=>if isSet e=false then cP (f e) else AM
theorem Ka{c:Ct}{k:Nat}(G:Good c k X){f:Expr->GE}(h:∀e,JE X e (f e))(tg e:Expr):JI X tg e (GF c f e):=by
 unfold GF
 split
 ·rename_i y p a q
  by_cases g:fL c y=true
  ·rw[if_pos g]
   obtain⟨rfl,g2,g3⟩:=su G y g
   by_cases ga:plain a=true
   ·rw[if_pos ga]
    exact Q1 g2 g3 (hJ h [a] (by simp[ga])) (aI ga)
   ·rw[if_neg ga];exact zb
  ·rw[if_neg g];exact vJ (h _)
 ·rename_i y p a b q
  by_cases g:fL c y=true
  ·rw[if_pos g]
   obtain⟨rfl,g2,g3⟩:=su G y g
   by_cases ga:plain a=true/\plain b=true
   ·rw[if_pos ga]
    exact Q2 g2 g3 (hJ h [a,b] (by simp[ga])) (by rw[aI ga.1,aI ga.2];rfl) (by rw[aI ga.2];rfl)
   ·rw[if_neg ga];exact zb
  ·rw[if_neg g];exact vJ (h _)
 ·by_cases g:isSet e=false
  ·rw[if_pos g];exact vJ (h _)
  ·rw[if_neg g];exact zb
def Lw(c:Ct)(x:Str):Bool:=decide (x="reversed")&&decide (c.names.lookup x=some .globalImplicit)&&c.bl.contains x
def qt(c:Ct):List (Str×aaJ)->Option ip
 | []=>some []
 | (n,.free)::r=>if c.names.lookup n=some .cell\/c.names.lookup n=some .free then(match oS n c.N,qt c r with | some i,some l=>some ((n,i)::l) | _,_=>none) else none
 | _::r=>qt c r
theorem sv{c:Ct}:∀{ns:List (Str×aaJ)}{cs:ip},qt c ns=some cs->(∀y∈ns,y.2= .free->c.names.lookup y.1=some .cell\/c.names.lookup y.1=some .free)/\∀p∈cs,(p.1,fI)∈ns/\c.N[p.2]? =some p.1
 | [],cs,h=>by cases h;exact⟨(λ_ z=>by cases z),(λ_ z=>by cases z)⟩
 | (n,k)::r,cs,h=>by
  unfold qt at h
  split at h
  ·cases ‹_::_=[]›
  ·rename_i n' r' he
   cases he
   by_cases g:c.names.lookup n=some .cell\/c.names.lookup n=some .free
   ·rw[if_pos g] at h
    cases e1:oS n c.N with
    | none=>rw[e1] at h;cases h
    | some i=>
     cases e2:qt c r with
     | none=>rw[e1,e2] at h;cases h
     | some l=>
      rw[e1,e2] at h
      cases h
      obtain⟨q1,q2⟩:=sv e2
      refine⟨λy hy e=>?_,λp hp=>?_⟩
      ·rcases List.mem_cons.mp hy with z | z
       ·subst z;exact g
       ·exact q1 y z e
      ·rcases List.mem_cons.mp hp with z | z
       ·subst z;exact⟨aB,ku e1⟩
       ·exact⟨aF _ (q2 p z).1,(q2 p z).2⟩
   ·rw[if_neg g] at h;cases h
  ·rename_i kk r' hk he
   cases he
   obtain⟨q1,q2⟩:=sv h
   refine⟨λy hy e=>?_,λp hp=>⟨aF _ (q2 p hp).1,(q2 p hp).2⟩⟩
   rcases List.mem_cons.mp hy with z | z
   ·subst z
    have e':k= .free:=e
    subst e'
    exact(hk n rfl).elim
   ·exact q1 y z e
def zA(c:Ct)(ns:List (Str×aaJ)):List (Str×aaJ):=ns.map λ(n,k)=>if(k == .free&&c.names.lookup n == some .cell) then(n,.cell) else(n,k)
def GG:ScopeKind->Bool
 | .function=>true
 | _=>false
def mO(scope:Scope)(x:Str):Bool:=GG scope.kind&&scope.names.all (λy=>decide (scope.names.lookup y.1=some y.2))&&scope.names.all (λy=>decide (y.2≠.cell))&&decide (scope.names.lookup x=some .local)
def Ct.block(c:Ct)(scope:Scope)(x:Str)(cs:ip):Ct:={ c with N:=x::cs.map (·.1),names:=zA c scope.names,loop:=false,top:=false }
def GH(c:Ct)(f:Expr->GE)(e:Expr):GI:=if zy c e=true then gn (f e) else GF c f e
theorem xI{c:Ct}{k:Nat}(G:Good c k X){f:Expr->GE}(h:∀e,JE X e (f e))(tg e:Expr):JI X tg e (GH c f e):=by
 unfold GH
 by_cases g:zy c e=true
 ·rw[if_pos g];exact JN (h e)
 ·rw[if_neg g];exact Ka G h tg e
def Bg(c:Ct):Expr->Option Nat
 | .Name x _=>oS x c.N
 | _=>none
def uJ(c:Ct)(e:Expr)(g:GE):GE:=if zy c e=true then(match Bg c e with | some j=>gU j g | none=>g) else g
def xJ(c:Ct)(sub:Ct->(Expr->GE)×(Expr->GT))(f:Expr->GE)(elt:Expr)(x:Str)(iter:Expr)(Oq:Ct->GT)(scope:Scope):GE :=
 if mO scope x=true/\c.free=true/\isSet iter=false then(match qt c scope.names with
  | some cs=>if(x::cs.map (·.1)).Nodup then uJ c iter (bO cs (GH c f iter) (Oq (c.block scope x cs)) ((sub (c.block scope x cs)).1 elt)) else cz
  | none=>cz) else cz
def SY(c:Ct)(sub:Ct->(Expr->GE)×(Expr->GT))(f:Expr->GE)(elt:Expr)(scope:Scope):List Comprehension->GE
 | [⟨.Name x _,iter,[],0⟩]=>xJ c sub f elt x iter (λ_=>λ_ st=> .ok true st) scope
 | [⟨.Name x _,iter,[q],0⟩]=>xJ c sub f elt x iter (λc'=>(sub c').2 q) scope
 | _=>cz
theorem sx{c:Ct}{k:Nat}(G:Good c k X){scope:Scope}{x:Str}{cs:ip}(hs:mO scope x=true)(nd:(x::cs.map (·.1)).Nodup)(C:aaG)(s0:aaL)(H0:Hp)(fp:List aaG)(pn:List (aaG×Obj))(E:aaM->aaL->Prop)(hA:Cg X.A H0) :
  Good (c.block scope x cs) k (iG X scope x cs C s0 H0 fp pn E):=by
 have hk:scope.kind= .function:=by
  have:GG scope.kind=true:=by
   unfold mO at hs
   simp only[ff] at hs
   exact hs.1.1.1
  revert this
  cases scope.kind<;>intro z<;>first | rfl | cases z
 refine⟨rfl,?_,nd,G.un,G.free,(λz=>by cases z),G.cst,G.bl,G.fns,(λz=>by cases z),(λz=>by cases z),hk,G.tab,G.cls,G.CZ,G.DA,⟨G.rm.d,G.rm.u⟩,G.HK,⟨G.x.lam,G.x.J4,G.x.Rr,(λz=>by cases z),G.x.sk,G.x.Rt⟩,G.fr,hA⟩
 show(relabel scope X.env).names=zA c scope.names
 unfold relabel zA Env.kindOf
 rw[G.kind,G.sc]
 simp
theorem GJ{c:Ct}{k:Nat}(G:Good c k X){scope:Scope}{x:Str}{cs:ip}(hs:mO scope x=true)(hcs:qt c scope.names=some cs)(nd:(x::cs.map (·.1)).Nodup):dS X scope x cs:=by
 have hs:(GG scope.kind=true/\∀y∈scope.names,scope.names.lookup y.1=some y.2)/\((scope.names.filter λy=>y.2 == .cell)=[]\/(scope.names.filter λy=>y.2 == .cell)=[(x,.cell)])/\(scope.names.lookup x=some .local\/scope.names.lookup x=some .cell):=by
  unfold mO at hs
  simp only[ff,decide_eq_true_eq,List.all_eq_true] at hs
  exact⟨hs.1.1,.inl (List.filter_eq_nil_iff.mpr λy hy=>by simpa using hs.1.2 y hy),.inl hs.2⟩
 obtain⟨⟨h1,h2⟩,h3,h4⟩:=hs
 have hk:scope.kind= .function:=by
  revert h1
  cases scope.kind<;>intro z<;>first | rfl | cases z
 obtain⟨q1,q2⟩:=sv hcs
 refine⟨hk,h2,h3,h4,λy hy e=>?_,λp hp=>⟨by rw[G.N];exact(q2 p hp).2,h2 _ (q2 p hp).1⟩,nd⟩
 show X.env.scope.names.lookup y.1=_\/X.env.scope.names.lookup y.1=_
 rw[G.sc];exact q1 y hy e
def Kb(X:Cx)(e:Expr)(g:GE):Prop:=∀(i:Nat)(y:Str)(py spos:Pos),X.N.Nodup->X.N[i]? =some y->Loc X.env.scope y->(X.fn y=true\/X.env.scope.names.lookup y=some .local)->JS X (.Assign [.Name y py] e spos) (aO i g)
theorem C8{i:Nat}{s:Stmt}:JS X s (aO i cz):=λρ st σ H m D S R p=>ae p
theorem jD{e:Expr}:Kb X e cz:=λi y py spos _ _ _ _=>C8
theorem GK{i j:Nat}{g:GE}:aO i (gU j g)=gR j (aO i g):=by
 funext ρ st
 show(gU j g ρ st).a9 ρ (λw st'=> .nx (ρ.set i (some w)) st')=gR j (aO i g) ρ st
 unfold gR gU
 cases oQ ρ[j]? st with
 | none=>rfl
 | some l=>
  show((match g ρ st with | .ok w st'=>Re.ok w (nB l st') | r=>r).a9 ρ λw st'=> .nx (ρ.set i (some w)) st')=(match(g ρ st).a9 ρ (λw st'=> .nx (ρ.set i (some w)) st') with | .nx ρ' st'=> .nx ρ' (nB l st') | r=>r)
  cases g ρ st<;>rfl
theorem GL{c:Ct}{it e:Expr}{g:GE}(h:JE X e g/\Kb X e g):JE X e (uJ c it g)/\Kb X e (uJ c it g):=by
 unfold uJ
 by_cases q:zy c it=true
 ·rw[if_pos q]
  cases Bg c it with
  | none=>exact h
  | some j=>exact⟨JM j h.1,λi y py spos hN hi hl hf=>by rw[GK];exact A6 j (h.2 i y py spos hN hi hl hf)⟩
 ·rw[if_neg q];exact h
theorem Bh{c:Ct}{k:Nat}(G:Good c k X){sub:Ct->(Expr->GE)×(Expr->GT)}(hb:∀c X,Good c k X->(∀e,JE X e ((sub c).1 e))/\∀e,JT X e ((sub c).2 e)){f:Expr->GE}(h:∀e,JE X e (f e))(elt:Expr)(scope:Scope)(gens:List Comprehension)(pos:Pos) :
  JE X (.ListComp elt gens scope pos) (SY c sub f elt scope gens)/\Kb X (.ListComp elt gens scope pos) (SY c sub f elt scope gens):=by
 have core:∀(x:Str)(px:Pos)(iter:Expr)(ifs:List Expr)(Oq:Ct->GT),(∀c X,Good c k X->Lk X ifs (Oq c))->
   JE X (.ListComp elt [⟨.Name x px,iter,ifs,0⟩] scope pos) (xJ c sub f elt x iter Oq scope)/\Kb X (.ListComp elt [⟨.Name x px,iter,ifs,0⟩] scope pos) (xJ c sub f elt x iter Oq scope):=by
  intro x px iter ifs Oq hg
  unfold xJ
  by_cases g:mO scope x=true/\c.free=true/\isSet iter=false
  ·rw[if_pos g]
   obtain⟨g1,g2,g3⟩:=g
   cases ec:qt c scope.names with
   | none=>exact⟨aN,jD⟩
   | some cs=>
    dsimp only
    by_cases nd:(x::cs.map (·.1)).Nodup
    ·rw[if_pos nd]
     have CS:=GJ G g1 ec nd
     have hE:∀C s0 H0 fp pn E,Cg X.A H0->JE (iG X scope x cs C s0 H0 fp pn E) elt ((sub (c.block scope x cs)).1 elt):=λC s0 H0 fp pn E z=>(hb _ _ (sx G g1 nd C s0 H0 fp pn E z)).1 elt
     have hT:∀C s0 H0 fp pn E,Cg X.A H0->Lk (iG X scope x cs C s0 H0 fp pn E) ifs (Oq (c.block scope x cs)):=λC s0 H0 fp pn E z=>hg _ _ (sx G g1 nd C s0 H0 fp pn E z)
     refine GL ?_
     exact⟨AO G.fr CS (xg (G.free g2).2) G.hd (xI G h _ iter).y hE hT (mM g3),λi y py spos hN hi hl hf=>Jm i hN G.fr CS (xg (G.free g2).2) G.hd (xI G h _ iter).y hE hT (mM g3) hi hl hf⟩
    ·rw[if_neg nd];exact⟨aN,jD⟩
  ·rw[if_neg g];exact⟨aN,jD⟩
 unfold SY
 split
 ·exact core _ _ _ _ _ λ_ _ _=>Jk
 ·exact core _ _ _ _ _ λc X G'=>Jl ((hb c X G').2 _)
 ·exact⟨aN,jD⟩
def GN(c:Ct)(sub:Ct->(Expr->GE)×(Expr->GT))(f:Expr->GE)(t:Expr->GT):Expr->GE
 | .Name x _=>F_ c x
 | .Constant k _ _=>Gb k
 | .BinOp a o b _=>ag (Rx o) (f a) (f b)
 | .UnaryOp o a _=>YW f o a
 | .BoolOp .And es _=>Om f es
 | .BoolOp .Or es _=>U_ f es
 | .Compare a os bs _=>Oj c f a os bs
 | .IfExp q a b _=>QA (t q) (f a) (f b)
 | .Tuple es _ _=>C7 f eh es
 | .List es _=>C7 f dR es
 | .Subscript a b _=>Ol c f a b
 | .Dict [] [] _=>Lo
 | .Dict ks vs _=>Gz (Ry ks||Rz c ks) f ks vs
 | .Call g as ks p=>Gm c f p g as ks
 | .ListComp elt gens scope _=>SY c sub f elt scope gens
 | _=>cz
def stepT(c:Ct)(f:Expr->GE)(t:Expr->GT):Expr->GT
 | .UnaryOp .Not a _=>wY (t a)
 | .BoolOp .And es _=>Oo t es
 | .BoolOp .Or es _=>U' t es
 | .Compare a os bs _=>Gx c f a os bs
 | .Name x p=>fi (f (.Name x p))
 | .Call g as ks p=>fi (f (.Call g as ks p))
 | .Subscript a b p=>fi (f (.Subscript a b p))
 | .Constant k j p=>fi (f (.Constant k j p))
 | .BinOp a o b p=>fi (f (.BinOp a o b p))
 | _=>lD
theorem xK{c:Ct}{k:Nat}(G:Good c k X){sub:Ct->(Expr->GE)×(Expr->GT)}(hb:∀k c X,Good c k X->(∀e,JE X e ((sub c).1 e))/\∀e,JT X e ((sub c).2 e)){f:Expr->GE}{t:Expr->GT}(h:∀e,JE X e (f e))(ht:∀e,JT X e (t e))(e:Expr):JE X e (GN c sub f t e):=by
 have hu:X.A.units+64 < cLine:=G.un
 cases e with
 | Name x p=>exact Ga G x p
 | Constant v j p=>exact C0 v j p
 | BinOp a o b p=>exact M7 (J7 o) (h a) (h b)
 | UnaryOp o a p=>
  cases o with
  | USub=>exact M8 (h a)
  | Not=>exact Nb (h a)
  | _=>exact aN
 | BoolOp o es p=>
  cases o with
  | And=>exact Be h p es
  | Or=>exact GB h p es
 | Compare a os bs p=>exact J9 G h a os bs p
 | IfExp q a b p=>exact QB (ht q) (h a) (h b)
 | Tuple es j p=>
  show JE X _ (C7 f eh es)
  unfold C7
  by_cases g:es.all plain=true
  ·rw[if_pos g];exact Nc (hJ h es g)
  ·rw[if_neg g];exact aN
 | List es p=>
  show JE X _ (C7 f dR es)
  unfold C7
  by_cases g:es.all plain=true
  ·rw[if_pos g];exact Nd (hJ h es g)
  ·rw[if_neg g];exact aN
 | Subscript a b p=>exact J_ G h a b p
 | Dict ks vs p=>
  cases ks with
  | cons k ks=>exact Bd (by have:=G.un;omega) _ h (k::ks) vs p
  | nil=>
   cases vs with
   | nil=>exact Jz
   | cons v vs=>exact Bd (by have:=G.un;omega) (Ry []||Rz c []) h [] (v::vs) p
 | Call g as ks p=>exact Gp G h g as ks p
 | ListComp elt gens scope p=>exact(Bh G (hb k) h elt scope gens p).1
 | _=>exact aN
def Kc:Expr->Bool
 | .ListComp .. =>true
 | .SetComp .. =>true
 | .DictComp .. =>true
 | .Set .. =>true
 | _=>false
theorem Bi{e:Expr}{t:Option Expr}{n:Nat}{env:Env}(h:Kc e=false):swapsWith e t n env=pure false:=by
 cases e<;>first | rfl | cases h
theorem xM{e o i:Expr}{p:Pos}{n:Nat}{env:Env}:swapsWith e (some (.Subscript o i p)) n env=pure false:=by
 cases e<;>rfl
theorem GP{c:Ct}{k:Nat}(G:Good c k X){sub:Ct->(Expr->GE)×(Expr->GT)}(hb:∀k c X,Good c k X->(∀e,JE X e ((sub c).1 e))/\∀e,JT X e ((sub c).2 e)){f:Expr->GE}{t:Expr->GT}(h:∀e,JE X e (f e))(ht:∀e,JT X e (t e))(e:Expr):Kb X e (GN c sub f t e):=by
 by_cases g:Kc e=false
 ·exact λi y py spos hN hi hl hf=>yY i hN (xK G hb h ht e) hi hl (Bi g) hf
 ·cases e with
  | ListComp elt gens scope p=>exact(Bh G (hb k) h elt scope gens p).2
  | SetComp=>exact jD
  | DictComp=>exact jD
  | Set=>exact jD
  | _=>exact absurd rfl g
theorem GQ{c:Ct}{k:Nat}(G:Good c k X){f:Expr->GE}{t:Expr->GT}(h:∀e,JE X e (f e))(ht:∀e,JT X e (t e))(e:Expr):JT X e (stepT c f t e):=by
 have hu:X.A.units+64 < cLine:=G.un
 cases e with
 | UnaryOp o a p=>
  cases o with
  | Not=>exact M' (ht a)
  | _=>exact kM
 | BoolOp o es p=>
  cases o with
  | And=>exact(Bf ht p es).jt
  | Or=>exact(GD ht p es).jt
 | Compare a os bs p=>exact Gy G h a os bs p
 | Name x p=>exact rO (h _) (λ_=>rfl)
 | Call g as ks p=>exact rO (h _) (λ_=>rfl)
 | Subscript a b p=>exact rO (h _) (λ_=>rfl)
 | Constant v j p=>exact rO (h _) (λ_=>rfl)
 | BinOp a o b p=>exact rO (h _) (λ_=>rfl)
 | _=>exact kM
end
def nG:Nat->Ct->(Expr->GE)×(Expr->GT)
 | 0,_=>(λ_=>cz,λ_=>lD)
 | n+1,c=>(GN c (nG n) (nG n c).1 (nG n c).2,stepT c (nG n c).1 (nG n c).2)
section
variable {X:Cx}
theorem fq:∀(n:Nat)(k:Nat)(c:Ct)(X:Cx),Good c k X->(∀e,JE X e ((nG n c).1 e))/\∀e,JT X e ((nG n c).2 e)
 | 0,_,_,_,_=>⟨λ_=>aN,λ_=>kM⟩
 | n+1,k,c,X,G=>⟨λe=>xK G (λk c X G=>fq n k c X G) (fq n k c X G).1 (fq n k c X G).2 e,λe=>GQ G (fq n k c X G).1 (fq n k c X G).2 e⟩
theorem GR{k:Nat}:∀(n:Nat)(c:Ct)(X:Cx),Good c k X->∀e,Kb X e ((nG n c).1 e)
 | 0,_,_,_,_=>jD
 | n+1,c,X,G,e=>GP G (λk c X G=>fq n k c X G) (fq n k c X G).1 (fq n k c X G).2 e
def slot(c:Ct)(x:Str):Option Nat:=if c.names.lookup x=some .local\/(c.names.lookup x=some .cell/\c.top=true) then oS x c.N else none
theorem qS{c:Ct}{k:Nat}(G:Good c k X){x:Str}{i:Nat}(h:slot c x=some i):X.N[i]? =some x/\(Loc X.env.scope x/\(X.fn x=true\/X.env.scope.names.lookup x=some .local)):=by
 unfold slot at h
 by_cases e:c.names.lookup x=some .local\/(c.names.lookup x=some .cell/\c.top=true)
 ·rw[if_pos e] at h
  refine⟨by rw[G.N];exact ku h,?_⟩
  rcases e with e | ⟨e,e2⟩
  ·have q:X.env.scope.names.lookup x=some .local:=by rw[G.sc];exact e
   exact⟨.inl q,.inr q⟩
  ·have q:X.env.scope.names.lookup x=some .cell:=by rw[G.sc];exact e
   exact⟨.inr q,.inl (G.fn e2 x)⟩
 ·rw[if_neg e] at h;cases h
def slots(c:Ct):List Expr->Option (List Nat)
 | []=>some []
 | .Name x _::es=>(match slot c x,slots c es with | some i,some is=>some (i::is) | _,_=>none)
 | _=>none
def Ot:Expr->Bool
 | .Dict [] [] _=>true
 | _=>false
def Ou(c:Ct)(f:Expr->GE)(v:Expr):List Expr->GS
 | [.Name x _]=>(match slot c x with | some i=>if Ot v=true/\c.sj.contains x=true then aO i gQ else aO i (f v) | none=>dC)
 | [.Subscript o i _]=>if xH i=false then(if C6 c o=true then dg (f v) (f o) (f i) else AG (f v) (f o) (f i)) else dC
 | _=>dC
theorem Ov{c:Ct}{k:Nat}(G:Good c k X){f:Expr->GE}(h:∀e,JE X e (f e))(ha:∀e,Kb X e (f e))(v:Expr)(ts:List Expr)(pos:Pos):JS X (.Assign ts v pos) (Ou c f v ts):=by
 unfold Ou
 split
 ·rename_i x p
  cases e:slot c x with
  | none=>exact b7
  | some i=>
   obtain⟨e1,e2⟩:=qS G e
   dsimp only
   by_cases g:Ot v=true/\c.sj.contains x=true
   ·rw[if_pos g]
    have gv:=g.1
    unfold Ot at gv
    split at gv
    ·exact yY i (by rw[G.N];exact G.nd) Jy e1 e2.1 rfl e2.2
    ·cases gv
   ·rw[if_neg g];exact ha v i x _ _ (by rw[G.N];exact G.nd) e1 e2.1 e2.2
 ·rename_i o i p
  by_cases g2:xH i=false
  ·rw[if_pos g2]
   by_cases gd:C6 c o=true
   ·rw[if_pos gd];exact JB (by have:=G.un;omega) (h v) (h o) (h i) xM
   rw[if_neg gd]
   refine I0 (h v) (h o) (h i) (by unfold swapsWithSole;exact xM) ?_ rfl ?_
   ·cases v<;>rfl
   ·intro _
    cases i<;>first | rfl | cases g2
  ·rw[if_neg g2];exact b7
 ·exact b7
def Ow(c:Ct)(f:Expr->GE)(i:Nat)(gb:GS):Expr->GS
 | .Call (.Name x p) [a] [] q=>if fL c x=true then(if plain a=true then kN i (lZ f [a]) gb else dC) else jL i (f (.Call (.Name x p) [a] [] q)) gb
 | .Call (.Name x p) [a,b] [] q=>if fL c x=true then(if plain a=true/\plain b=true then vC i (lZ f [a,b]) gb else dC) else jL i (f (.Call (.Name x p) [a,b] [] q)) gb
 | .Call (.Name x p) [a,b,d] [] q=>if fL c x=true then(if[a,b,d].all plain=true then sf i (lZ f [a,b,d]) gb else dC) else jL i (f (.Call (.Name x p) [a,b,d] [] q)) gb
 | e=>if isSet e=false then jL i (f e) gb else dC
theorem Ox{c:Ct}{k:Nat}(G:Good c k X)(hl:c.loop=true){f:Expr->GE}(h:∀e,JE X e (f e)){x:Str}{i:Nat}(hx:slot c x=some i){body:List Stmt}{gb:GS}(hb:ph X body gb)(e:Expr)(pos pos':Pos):JS X (.For (.Name x pos') e body [] pos) (Ow c f i gb e):=by
 have nd:X.N.Nodup:=by rw[G.N];exact G.nd
 obtain⟨e1,e2⟩:=qS G hx
 have rg:=su G
 unfold Ow
 split
 ·rename_i y p a q
  by_cases g:fL c y=true
  ·rw[if_pos g]
   obtain⟨rfl,g2,g3⟩:=rg y g
   by_cases ga:plain a=true
   ·rw[if_pos ga]
    exact EU i nd (G.loop hl).2 (G.loop hl).1 g2 g3 (hJ h [a] (by simp[ga])) hb e1 e2.1 e2.2 (aI ga)
   ·rw[if_neg ga];exact b7
  ·rw[if_neg g];exact vB i nd (G.loop hl).2 (G.loop hl).1 (h _) hb e1 e2.1 e2.2 (mM rfl)
 ·rename_i y p a b q
  by_cases g:fL c y=true
  ·rw[if_pos g]
   obtain⟨rfl,g2,g3⟩:=rg y g
   by_cases ga:plain a=true/\plain b=true
   ·rw[if_pos ga]
    exact EV i nd (G.loop hl).2 (G.loop hl).1 g2 g3 (hJ h [a,b] (by simp[ga])) hb e1 e2.1 e2.2 (by rw[aI ga.1,aI ga.2];rfl) (by rw[aI ga.2];rfl)
   ·rw[if_neg ga];exact b7
  ·rw[if_neg g];exact vB i nd (G.loop hl).2 (G.loop hl).1 (h _) hb e1 e2.1 e2.2 (mM rfl)
 ·rename_i y p a b d q
  by_cases g:fL c y=true
  ·rw[if_pos g]
   obtain⟨rfl,g2,g3⟩:=rg y g
   by_cases ga:[a,b,d].all plain=true
   ·rw[if_pos ga]
    have gp:plain a=true/\[b,d].all plain=true:=by rw[i7,ff] at ga;exact ga
    exact FI i nd (G.loop hl).2 (G.loop hl).1 g2 g3 (hJ h [a,b,d] ga) hb e1 e2.1 e2.2 (aI gp.1) (kA gp.2)
   ·rw[if_neg ga];exact b7
  ·rw[if_neg g];exact vB i nd (G.loop hl).2 (G.loop hl).1 (h _) hb e1 e2.1 e2.2 (mM rfl)
 ·by_cases g:isSet e=false
  ·rw[if_pos g];exact vB i nd (G.loop hl).2 (G.loop hl).1 (h _) hb e1 e2.1 e2.2 (mM g)
  ·rw[if_neg g];exact b7
def Oy(c:Ct):Expr->Bool
 | .Call (.Name x _) [a] [] _=>Lw c x&&plain a
 | _=>false
def Va(f:Expr->GE)(i:Nat)(gb:GS):Expr->GS
 | .Call _ [a] _ _=>Lq i (lZ f [a]) gb
 | _=>dC
def RA(c:Ct)(f:Expr->GE)(i:Nat)(gb:GS)(e:Expr):GS:=match Bg c e with
 | some j=>gR j (gS i (f e) gb)
 | none=>gS i (f e) gb
def Oz(c:Ct)(f:Expr->GE)(i:Nat)(gb:GS)(e:Expr):GS:=if Oy c e=true then Va f i gb e else if zy c e=true then RA c f i gb e else Ow c f i gb e
theorem Kd{c:Ct}{k:Nat}(G:Good c k X)(hl:c.loop=true){f:Expr->GE}(h:∀e,JE X e (f e)){x:Str}{i:Nat}(hx:slot c x=some i){body:List Stmt}{gb:GS}(hb:ph X body gb)(e:Expr)(pos pos':Pos):JS X (.For (.Name x pos') e body [] pos) (Oz c f i gb e):=by
 have nd:X.N.Nodup:=by rw[G.N];exact G.nd
 obtain⟨e1,e2⟩:=qS G hx
 unfold Oz
 by_cases g:Oy c e=true
 ·rw[if_pos g]
  unfold Oy at g
  split at g
  ·rename_i y p a q
   unfold Lw at g
   simp only[ff,decide_eq_true_eq] at g
   obtain⟨⟨⟨rfl,g2⟩,g3⟩,g4⟩:=g
   exact JU i nd (G.loop hl).2 (G.loop hl).1 (by show X.env.scope.names.lookup _=_;rw[G.sc];exact g2) (G.bl _ g3) (hJ h [a] (by simp[g4])) (aI g4) hb e1 e2.1 e2.2
  ·cases g
 ·rw[if_neg g]
  by_cases g2:zy c e=true
  ·rw[if_pos g2]
   have go:JS X (.For (.Name x pos') e body [] pos) (gS i (f e) gb):=by
    refine JP i nd (G.loop hl).2 (G.loop hl).1 (h e) hb e1 e2.1 e2.2 ?_
    unfold zy at g2
    split at g2
    ·exact λ_=>rfl
    ·cases g2
   unfold RA
   cases Bg c e with
   | none=>exact go
   | some j=>exact A6 j go
  ·rw[if_neg g2];exact Ox G hl h hx hb e pos pos'
def OA(c:Ct)(f:Expr->GE)(o i:Expr)(op:Operator)(e:Expr):GS:=if C6 c o=true/\xH i=false then(match CF op with | some q=>xF q (f o) (f i) (f e) | none=>dC) else dC
theorem Ke{c:Ct}{k:Nat}(G:Good c k X){f:Expr->GE}(h:∀e,JE X e (f e))(o i:Expr)(op:Operator)(e:Expr)(p pos:Pos):JS X (.AugAssign (.Subscript o i p) op e pos) (OA c f o i op e):=by
 unfold OA
 by_cases g:C6 c o=true/\xH i=false
 ·rw[if_pos g]
  cases e2:CF op with
  | none=>exact b7
  | some q=>
   refine J3 e2 (by have:=G.un;omega) (h e) (h o) (h i) ?_
   intro ov iv new
   have:=g.2
   cases i<;>first | rfl | cases this
 ·rw[if_neg g];exact b7
def OB(c:Ct)(f:Expr->GE)(x:Str)(op:Operator)(e:Expr):GS:=match slot c x,CF op with
 | some i,some o=>JG o i (f e)
 | _,_=>dC
theorem OC{c:Ct}{k:Nat}(G:Good c k X){f:Expr->GE}(h:∀e,JE X e (f e))(x:Str)(op:Operator)(e:Expr)(p pos:Pos):JS X (.AugAssign (.Name x p) op e pos) (OB c f x op e):=by
 unfold OB
 cases e1:slot c x with
 | none=>exact b7
 | some i=>
  cases e2:CF op with
  | none=>exact b7
  | some o=>
   obtain⟨q1,q2⟩:=qS G e1
   exact NZ i e2 (by rw[G.N];exact G.nd) (h e) q1 q2.1 q2.2
def gW:Nat:=100000
def GU(c:Ct)(f:Expr->GE)(t:Expr->GT)(b:Ct->List Stmt->GS):Stmt->GS
 | .Return (some e) _=>aY (f e)
 | .Return none _=>aY (gC .bg)
 | .Expr e _=>if Kc e=false then i9 (f e) else dC
 | .If q x y _=>jz (t q) (b c x) (b c y)
 | .Assign ts v _=>Ou c f v ts
 | .For (.Name x _) e body [] _=>if c.loop=true then(match slot c x with | some i=>Oz c f i (b c body) e | none=>dC) else dC
 | .While q body [] _=>if c.loop=true then jN gW (t q) (b c body) else dC
 | .AugAssign (.Name x _) op e _=>OB c f x op e
 | .AugAssign (.Subscript o i _) op e _=>OA c f o i op e
 | _=>dC
theorem GV{c:Ct}{k:Nat}(G:Good c k X){f:Expr->GE}{t:Expr->GT}{b:Ct->List Stmt->GS}(h:∀e,JE X e (f e))(ha:∀e,Kb X e (f e))(ht:∀e,JT X e (t e))(hb:∀c X,Good c k X->∀s,ph X s (b c s))(s:Stmt):JS X s (GU c f t b s):=by
 unfold GU
 split
 ·exact Nm (h _)
 ·exact Je
 ·rename_i e p
  by_cases g:Kc e=false
  ·rw[if_pos g];exact IZ (h _) (Bi g)
  ·rw[if_neg g];exact b7
 ·exact QS (ht _) (hb c X G _) (hb c X G _)
 ·exact Ov G h ha _ _ _
 ·rename_i x p e body q
  by_cases g:c.loop=true
  ·rw[if_pos g]
   cases e1:slot c x with
   | none=>exact b7
   | some i=>exact Kd G g h e1 (hb c X G body) e _ _
  ·rw[if_neg g];exact b7
 ·rename_i q body p
  by_cases g:c.loop=true
  ·rw[if_pos g];exact FJ gW (G.loop g).2 (ht _) (hb c X G body)
  ·rw[if_neg g];exact b7
 ·exact OC G h _ _ _ _ _
 ·exact Ke G h _ _ _ _ _ _
 ·exact b7
end
def zB(f:Stmt->GS):List Stmt->GS
 | []=>bt
 | [s]=>f s
 | s::s'::r=>aA (f s) (zB f (s'::r))
theorem xN{X:Cx}{f:Stmt->GS}(h:∀s,JS X s (f s)):∀ss,ph X ss (zB f ss)
 | []=>IX
 | [s]=>IY (h s)
 | s::s'::r=>ED (h s) (xN h (s'::r))
def bo:Nat->Ct->List Stmt->GS
 | 0,_=>λ_=>dC
 | n+1,c=>zB (GU c (nG 40 c).1 (nG 40 c).2 (bo n))
theorem sy{k:Nat}:∀(n:Nat)(c:Ct)(X:Cx),Good c k X->∀ss:List Stmt,ph X ss (bo n c ss)
 | 0,_,_,_,_=>Cb
 | n+1,c,X,G,ss=>xN (λs=>GV G (fq 40 k c X G).1 (GR 40 c X G) (fq 40 k c X G).2 (sy n) s) ss
structure Kf(K:PySem.W.Frag)(mg:Str->Option aaM)(q:Str)(P:aaG):Prop where
 tab:kJ K q=some P
 code:∃c o vs file tf flags tg Vb text tt,PySem.W.tabIn K q=some (c,P)/\K.lookup c=some o/\o.cls= .type "code"/\o.data= .fields vs/\vs[11]? =some (.ref P)/\vs.getD 11 .none= .ref P/\vs.getD 18 .none= .str file tf/\
  vs.getD 7 .none= .int flags tg/\vs.getD 9 .none= .bool Vb/\vs.getD 10 .none= .int text tt/\c≠P
 mem:q∈dY
 uniq:∀q',q'∈dY->kJ K q'=some P->q'=q
theorem Kf.at'{X:Cx}{q:Str}{P f:aaG}{cdv:aaM}(h:Kf X.K X.mg q P)(M:Cz X.K X.mg X.base)(hn:PySem.W.nsIn X.K aaW q=some (some (.ref f)))(hc:EJ X.K f cdv)(e1:X.env.code=cdv)(e2:X.env.qual=q++".<locals>."):Lp X q P:=by
 obtain⟨c,o,vs,file,tf,flags,tg,Vb,text,tt,t,l,r⟩:=h.code
 refine⟨⟨c,?_,o,vs,file,tf,flags,tg,Vb,text,tt,M.1.HF _ _ l,r⟩,e2,h.tab,h.mem,h.uniq,M.2⟩
 ·obtain⟨of,lf,fd,d,cd⟩:=hc
  rw[e1,<-cd]
  unfold PySem.W.tabIn at t
  rw[hn] at t
  dsimp only at t
  rw[lf] at t
  obtain⟨oc,od,da,sl⟩:=of
  dsimp only at d
  subst d
  dsimp only at t
  cases q1:fd.code with
  | ref c2=>
   rw[q1] at t
   dsimp only at t
   split at t
   ·split at t
    ·cases t;rfl
    ·cases t
   ·cases t
  | _=>rw[q1] at t;cases t
structure zC(c:Ct)(k:Nat)(P:aaK)(w:aaN)(K:PySem.W.Frag)(mg:Str->Option aaM)(base:Heap):Prop where
 lam:∀p L,c.lam=some (p,L)->FF P w K mg base k p 3 L
 J4:∀x F,c.J4.lookup x=some F->Xb P w K mg k c.lj x F
 Rr:∀x n F,c.fns.lookup x=some (n,F)->c.U8.contains x=true->∀base,Cz K mg base->f7 P w K mg base c.lj x n F
 at':c.self∈dY->∃P,Kf K mg c.self P
 sk:c.sk<=k
 Rt:∀x n F,c.fns.lookup x=some (n,F)->c.Rl.contains x=true->f7 P w K mg base c.lj x n F
theorem zC.no{c:Ct}{k:Nat}{P:aaK}{w:aaN}{K:PySem.W.Frag}{mg:Str->Option aaM}{base:Heap}(h1:c.lam=none)(h2:c.J4=[])(h3:c.U8=[])(h4:c.self="")(h5:c.sk=0:=by rfl)(h6:c.Rl=[]:=by rfl):zC c k P w K mg base :=
 ⟨(λp L e=>by rw[h1] at e;cases e),(λx F e=>by rw[h2] at e;cases e),(λx n F _ e=>by rw[h3] at e;cases e),(λe=>by rw[h4] at e;exact absurd e (by decide)),by rw[h5];exact dX _,(λx n F _ e=>by rw[h6] at e;cases e)⟩
structure xO(c:Ct)(k:Nat)(P:aaK)(w:aaN)(K:PySem.W.Frag)(mg:Str->Option aaM)(base:Heap):Prop where
 cst:∀x w,c.consts.lookup x=some w->Ba K mg x w
 bl:∀x,c.bl.contains x=true->mg x=none
 fns:∀x n F,c.fns.lookup x=some (n,F)->f7 P w K mg base k x n F
 tab:TabOk K c.tb c.tt c.tc
 cls:∀x,c.clss.contains x=true->∃C,mg x=some (.ref C)/\Jg K x C
 CZ:∀x,c.CZ.contains x=true->∃C,mg x=some (.ref C)/\ClsAt K x C
 DA:∀x kvs,c.DA.lookup x=some kvs->oJ K w mg x kvs
 HK:∀x n F,c.HK.contains x=true->c.fns.lookup x=some (n,F)->JD P w K mg base k x n F
 x:zC c k P w K mg base
theorem aJ{P:aaK}{w:aaN}{K:PySem.W.Frag}{mg:Str->Option aaM}{base:Heap}{h:Heap}{k:Nat}{c:Ct}{x:Str}{st:Stmt}{ps:List Str}{g:GS}(KX:K.In h)(NS:h.Ns aaW mg)(D:bh K x st)(T:xO c k P w K mg base)
  (S:FnScope c.N ps (defScope st))(hn:(defScope st).names=c.names)(hg:bo 30 c (defBody st)=g)
  (hb:∀(kV doc pm:aaM)(an:Option aaG)(cdv ct:aaM)(us:List aaM),us.length=ps.length->bindArgs (PySem.W.fnOf x x (defArgs st) (defBody st) (defScope st) .none kV doc pm an cdv ct) ⟨us,[]⟩=pure (ps.zip us))(hM:c.self∈dY->Cz K mg base/\c.self=x:=by exact λz=>absurd (show("":Str)∈dY from z) (by decide)) :
  f7 P w K mg base (k+1) x ps.length (df c.N.length g):=by
 obtain⟨f,fd,a,F⟩:=D
 refine⟨f,fd,ps,?_,PySem.W.mg_of KX NS a,F.kp,F.binds hb⟩
 subst hg
 refine Lg F S λcdv Vc A outer s H E hr=>?_
 refine sy (k:=k) 30 c _ ⟨rfl,hn,S.nd,Bb hr,λ_=>⟨hr,rfl⟩,λ_=>⟨rfl,Kh⟩,T.cst,T.bl,T.fns,λ_=>⟨rfl,rfl,rfl⟩,λ_ _=>rfl,S.kind,T.tab,T.cls,T.CZ,T.DA,uC.of hr,T.HK,⟨T.x.lam,T.x.J4,T.x.Rr,λ_ z=>?_,T.x.sk,T.x.Rt⟩,⟨_,_,_,rfl,rfl,rfl⟩,.inl hr.hd⟩ _
 obtain⟨P',L⟩:=T.x.at' z
 obtain⟨M,e⟩:=hM z
 exact⟨P',Kf.at' L M (by rw[e];exact a) Vc rfl (by rw[e];rfl)⟩
theorem Ki{P:aaK}{w:aaN}{K:PySem.W.Frag}{mg:Str->Option aaM}{h:Heap}{k:Nat}{F:List Wv->Hs->Re Wv}{fa:aaG}{st:Stmt}(KX:K.In h)(NS:h.Ns aaW mg)(hmg:mg "law"=some (.ref fa))(D:bh K "law" st)
  (hp:∀(kV doc pm:aaM)(an:Option aaG)(cdv ct:aaM)(s:aaL)(u:aaM),BindsTo s (PySem.W.fnOf "law" "law" (defArgs st) (defBody st) (defScope st) .none kV doc pm an cdv ct) ⟨[u],[]⟩ [("script",u)])
  (FN:∀(f:aaG)(fd:aaI),MQ K "law" "law" st f fd->∀base:Heap,K.In base->base.Ns aaW mg->FnOk P w K mg base (CXJ P w) k f fd ["script"] (spW K 1 F)) :
  ∃fd:aaI,(∀(s:aaL)(u:aaM),BindsTo s fd ⟨[u],[]⟩ [("script",u)])/\∀base:Heap,K.In base->base.Ns aaW mg->FnOk P w K mg base (CXJ P w) k fa fd ["script"] (spW K 1 F):=by
 obtain⟨f,fd,a,Fu⟩:=D
 have e:=hmg.symm.trans (PySem.W.mg_of KX NS a)
 cases e
 refine⟨fd,λs u=>?_,FN fa fd Fu⟩
 obtain⟨oc,od,kV,doc,pm,an,cdv,ct,osl,rfl,lk,hcd⟩:=Fu.ex
 exact hp kV doc pm an cdv ct s u
theorem OD{P:aaK}{w:aaN}{K:PySem.W.Frag}{mg:Str->Option aaM}{base:Heap}{k:Nat}{c:Ct}{x:Str}{st:Stmt}{ps:List Str}{g:GS}{f:aaG}{fd:aaI}(F:MQ K x x st f fd)(T:xO c k P w K mg base)
  (S:FnScope c.N ps (defScope st))(hn:(defScope st).names=c.names)(hg:bo 30 c (defBody st)=g)(hs:c.self∉dY:=by exact(show("":Str)∉dY by decide)):FnOk P w K mg base (CXJ P w) (k+1) f fd ps (spW K ps.length (df c.N.length g)):=by
 subst hg
 refine Lg F S λcdv _ A outer s H E hr=>?_
 exact sy (k:=k) 30 c _ ⟨rfl,hn,S.nd,Bb hr,λ_=>⟨hr,rfl⟩,λ_=>⟨rfl,Kh⟩,T.cst,T.bl,T.fns,λ_=>⟨rfl,rfl,rfl⟩,λ_ _=>rfl,S.kind,T.tab,T.cls,T.CZ,T.DA,uC.of hr,T.HK,⟨T.x.lam,T.x.J4,T.x.Rr,λ_ z=>absurd z hs,T.x.sk,T.x.Rt⟩,⟨_,_,_,rfl,rfl,rfl⟩,.inl hr.hd⟩ _
def AllP{α:Type}(P:α->Prop):List α->Prop
 | []=>True
 | a::l=>P a/\AllP P l
theorem AllP.look{κ β:Type}[BEq κ][LawfulBEq κ]{P:κ×β->Prop}:∀{l:List (κ×β)}{x:κ}{b:β},AllP P l->l.lookup x=some b->P (x,b)
 | [],_,_,_,h=>by cases h
 | (y,c)::l,x,b,a,h=>by
  rw[i_] at h
  cases e:x == y with
  | true=>
   rw[e] at h
   cases h
   have e':=eq_of_beq e
   subst e'
   exact a.1
  | false=>rw[e] at h;exact AllP.look a.2 h
theorem AllP.mem{P:Str->Prop}:∀{l:List Str}{x:Str},AllP P l->l.contains x=true->P x
 | [],_,_,h=>by cases h
 | y::l,x,a,h=>by
  rw[EY,yX] at h
  rcases h with e | h
  ·have e':=eq_of_beq e
   subst e'
   exact a.1
  ·exact AllP.mem a.2 h
theorem oV{K:PySem.W.Frag}{c:PySem.Str}{C D:aaG}(h:ClsAt K c C)(k:ClsAt K c D):C=D:=by
 unfold ClsAt at h k
 rw[h] at k
 cases k
 rfl
theorem OE{K:PySem.W.Frag}{tb:Tab}{tt:y8}{tc:Tab}(h:AllP (λp=>∃C D,ClsAt K p.1.1 C/\ClsAt K p.1.2 D/\pI K C/\PySem.W.kitOne K (.ref C) (.ref D)=some p.2) tb)
  (g:AllP (λp=>∃C,ClsAt K p.1.1 C/\pI K C/\PySem.W.kitOne K (.ref C) (.type p.1.2)=some p.2) tt)
  (f:AllP (λp=>∃C D,ClsAt K p.1.1 C/\ClsAt K p.1.2 D/\PySem.W.excIn K C Li Jf=true/\PySem.W.excIn K D Li Jf=true/\PySem.W.mroIn K C (.ref D)=some p.2) tc):TabOk K tb tt tc :=
 ⟨λc d b C D e hC hD=>by
  obtain⟨C',D',q1,q2,r⟩:=AllP.look h e
  cases oV hC q1
  cases oV hD q2
  exact r,λc d b C D e hC hD=>by
  obtain⟨C',D',q1,q2,r⟩:=AllP.look f e
  cases oV hC q1
  cases oV hD q2
  exact r,λc T b C e hC=>by
  obtain⟨C',q1,r⟩:=AllP.look g e
  cases oV hC q1
  exact r⟩
theorem az{c:Ct}{k:Nat}{P:aaK}{w:aaN}{K:PySem.W.Frag}{mg:Str->Option aaM}{base:Heap}(hc:AllP (λp=>Ba K mg p.1 p.2) c.consts)(hb:AllP (λx=>mg x=none) c.bl)(hf:AllP (λp=>f7 P w K mg base k p.1 p.2.1 p.2.2) c.fns)
  (ht:TabOk K c.tb c.tt c.tc)(hk:AllP (λx=>∃C,mg x=some (.ref C)/\Jg K x C) c.clss)(hn:AllP (λx=>∃C,mg x=some (.ref C)/\ClsAt K x C) c.CZ)(hd:AllP (λp=>oJ K w mg p.1 p.2) c.DA)
  (hu:AllP (λx=>∀n F,c.fns.lookup x=some (n,F)->JD P w K mg base k x n F) c.HK:=by exact trivial)(hx:zC c k P w K mg base:=by exact zC.no rfl rfl rfl rfl):xO c k P w K mg base :=
 ⟨λ_ _ h=>hc.look h,λ_ h=>hb.mem h,λx n F h=>hf.look (b:=(n,F)) h,ht,λ_ h=>hk.mem h,λ_ h=>hn.mem h,λx kvs h=>hd.look (b:=kvs) h,λx n F h k=>hu.mem h n F k,hx⟩
def Rs.sq(r:Rs)(h:GS):Rs:=match r with
 | .nx ρ st=>h ρ st
 | r=>r
section
variable {α β:Type} {ρ ρ':bF} {st:Hs} {h g ga' gb':GS} {ga gb gc:GE} {gt gu:GT} {w:Wv} {c:PySem.Str} {f:α->Hs->Re β} {k:α->Hs->Rs} {a:α} {i:Nat}
@[simp] theorem bH:(Rs.nx ρ st).sq h=h ρ st:=rfl
@[simp] theorem Xj:(Rs.rt w st).sq h= .rt w st:=rfl
@[simp] theorem Xk:(Rs.bk ρ st).sq h= .bk ρ st:=rfl
@[simp] theorem Xl:(Rs.ct ρ st).sq h= .ct ρ st:=rfl
@[simp] theorem Vd:(Rs.err c ρ st).sq h= .err c ρ st:=rfl
@[simp] theorem Ve:Rs.bad.sq h= .bad:=rfl
@[simp] theorem a_:(Re.ok a st).bind f=f a st:=rfl
@[simp] theorem RB:(Re.err c st).bind f= .err c st:=rfl
@[simp] theorem RC:(Re.bad:Re α).bind f= .bad:=rfl
@[simp] theorem dj:(Re.ok a st).a9 ρ k=k a st:=rfl
@[simp] theorem S0:(Re.err c st:Re α).a9 ρ k= .err c ρ st:=rfl
@[simp] theorem dU:(Re.ok a st).lJ= .ok a st:=rfl
@[simp] theorem S7:(Re.bad:Re α).lJ= .bad:=rfl
@[simp] theorem S8:(Re.bad:Re α).a9 ρ k= .bad:=rfl
@[simp] theorem ba:aA g h ρ st=(g ρ st).sq h:=by unfold aA Rs.sq;cases g ρ st<;>rfl
@[simp] theorem e_next:bt ρ st= .nx ρ st:=rfl
@[simp] theorem Xm:aY ga ρ st=(ga ρ st).a9 ρ λw st'=> .rt w st':=rfl
@[simp] theorem e_expr:i9 ga ρ st=(ga ρ st).a9 ρ λ_ st'=> .nx ρ st':=rfl
@[simp] theorem uK:aO i ga ρ st=(ga ρ st).a9 ρ λw st'=> .nx (ρ.set i (some w)) st':=rfl
def S_(ga gb:GS)(ρ:bF):Bool->Hs->Rs:=λb st'=>if b=true then ga ρ st' else gb ρ st'
@[simp] theorem RD:S_ g h ρ true st=g ρ st:=rfl
@[simp] theorem Xn:S_ g h ρ false st=h ρ st:=rfl
@[simp] theorem nT:jz gt g h ρ st=(gt ρ st).a9 ρ (S_ g h ρ):=rfl
def Xo(o:Option (Option Wv))(st:Hs):Re Wv:=match o with
 | some (some w)=> .ok w st
 | _=> .bad
@[simp] theorem cM:Xo (some (some w)) st= .ok w st:=rfl
@[simp] theorem cN:aa i ρ st=Xo ρ[i]? st:=rfl
@[simp] theorem e_c:gC w ρ st= .ok w st:=rfl
def kB(op:gO)(gb:GE)(ρ:bF):Wv->Hs->Re Wv:=λx st1=>(gb ρ st1).bind λy st2=>(op x y st2).lJ
@[simp] theorem nU{op:gO}{x:Wv}:kB op gb ρ x st=(gb ρ st).bind λy st2=>(op x y st2).lJ:=rfl
@[simp] theorem ir{op:gO}:ag op ga gb ρ st=(ga ρ st).bind (kB op gb ρ):=rfl
@[simp] theorem kC:aQ ga ρ st=(ga ρ st).bind La:=rfl
@[simp] theorem nH{b:Bool}:La (.bl b) st= .ok b st:=rfl
@[simp] theorem Lx:fi ga ρ st=(ga ρ st).bind EK:=rfl
@[simp] theorem Vf{b:Bool}:EK (.bl b) st= .ok b st:=rfl
@[simp] theorem Xp:wY gt ρ st=(gt ρ st).bind λb st1=> .ok (!b) st1:=rfl
def OF(gb:GT)(ρ:bF):Bool->Hs->Re Bool:=λb st1=>if b=true then gb ρ st1 else .ok false st1
@[simp] theorem Vg:OF gu ρ true st=gu ρ st:=rfl
@[simp] theorem Vh:OF gu ρ false st= .ok false st:=rfl
@[simp] theorem qu:nP gt gu ρ st=(gt ρ st).bind (OF gu ρ):=rfl
def Vi(gb:GT)(ρ:bF):Bool->Hs->Re Bool:=λb st1=>if b=true then .ok true st1 else gb ρ st1
@[simp] theorem Xq:Vi gu ρ true st= .ok true st:=rfl
@[simp] theorem Xr:Vi gu ρ false st=gu ρ st:=rfl
@[simp] theorem YX:Qw gt gu ρ st=(gt ρ st).bind (Vi gu ρ):=rfl
def GW(gb:GE)(ρ:bF):Wv->Hs->Re Wv:=λw st1=>match w with
 | .bl true=>gb ρ st1
 | .bl false=> .ok (.bl false) st1
 | _=> .bad
@[simp] theorem Tf:GW gb ρ (.bl true) st=gb ρ st:=rfl
@[simp] theorem Tg:GW gb ρ (.bl false) st= .ok (.bl false) st:=rfl
@[simp] theorem Vj:fU ga gb ρ st=(ga ρ st).bind (GW gb ρ):=rfl
def Ly:Wv->Hs->Re Wv:=λw st1=>match w with
 | .bl b=> .ok (.bl (!b)) st1
 | _=> .bad
@[simp] theorem Th{b:Bool}:Ly (.bl b) st= .ok (.bl (!b)) st:=rfl
@[simp] theorem Vk:AD ga ρ st=(ga ρ st).bind Ly:=rfl
@[simp] theorem Lz:aq ρ st= .ok [] st:=rfl
def LA(gr:GA)(ρ:bF):Wv->Hs->Re (List Wv):=λx st1=>(gr ρ st1).bind λxs st2=> .ok (x::xs) st2
@[simp] theorem Bj{gr:GA}{x:Wv}:LA gr ρ x st=(gr ρ st).bind λxs st2=> .ok (x::xs) st2:=rfl
@[simp] theorem GX{gr:GA}:af ga gr ρ st=(ga ρ st).bind (LA gr ρ):=rfl
def C9:List Wv->Hs->Re Wv:=λws st1=>if ws.length<=lim then .ok (.tup ws) st1 else .bad
theorem vW{ws:List Wv}(hl:ws.length<=lim):C9 ws st= .ok (.tup ws) st:=if_pos hl
@[simp] theorem Xs{gr:GA}:eh gr ρ st=(gr ρ st).bind C9:=rfl
def xP:List Wv->Hs->Re Wv:=λws st1=>if ws.length<=lim then .ok (.ref st1.length) (st1++[.lst ws]) else .bad
theorem pS{ws:List Wv}(hl:ws.length<=lim):xP ws st= .ok (.ref st.length) (st++[.lst ws]):=if_pos hl
@[simp] theorem Xt{gr:GA}:dR gr ρ st=(gr ρ st).bind xP:=rfl
section
variable {x x0 x1 x2 x3 x4 x5 x6 x7:Wv}
@[simp] theorem Vl:C9 [x0] st= .ok (.tup [x0]) st:=vW (by simp[lim])
@[simp] theorem Vm:C9 [x0,x1] st= .ok (.tup [x0,x1]) st:=vW (by simp[lim])
@[simp] theorem Vn:C9 [x0,x1,x2] st= .ok (.tup [x0,x1,x2]) st:=vW (by simp[lim])
@[simp] theorem Vo:C9 [x0,x1,x2,x3] st= .ok (.tup [x0,x1,x2,x3]) st:=vW (by simp[lim])
@[simp] theorem Vp:xP [] st= .ok (.ref st.length) (st++[.lst []]):=pS (by simp[lim])
@[simp] theorem Vq:xP [x0] st= .ok (.ref st.length) (st++[.lst [x0]]):=pS (by simp[lim])
@[simp] theorem Vr:xP [x0,x1] st= .ok (.ref st.length) (st++[.lst [x0,x1]]):=pS (by simp[lim])
@[simp] theorem Vs:xP [x0,x1,x2] st= .ok (.ref st.length) (st++[.lst [x0,x1,x2]]):=pS (by simp[lim])
@[simp] theorem Vt:xP [x0,x1,x2,x3] st= .ok (.ref st.length) (st++[.lst [x0,x1,x2,x3]]):=pS (by simp[lim])
@[simp] theorem Vu:xP [x0,x1,x2,x3,x4,x5,x6] st= .ok (.ref st.length) (st++[.lst [x0,x1,x2,x3,x4,x5,x6]]):=pS (by simp[lim])
end
def uL(n:Nat)(F:List Wv->Hs->Re Wv):List Wv->Hs->Re Wv:=λws st1=>if ws.length=n then F ws st1 else .bad
section
variable {F:List Wv->Hs->Re Wv} {x0 x1 x2 x3:Wv} {gr:GA}
@[simp] theorem Ti:uL 1 F [x0] st=F [x0] st:=rfl
@[simp] theorem Kj:uL 2 F [x0,x1] st=F [x0,x1] st:=rfl
@[simp] theorem Tj:uL 3 F [x0,x1,x2] st=F [x0,x1,x2] st:=rfl
@[simp] theorem Tn:uL 4 F [x0,x1,x2,x3] st=F [x0,x1,x2,x3] st:=rfl
@[simp] theorem OG{n:Nat}:ay n F gr ρ st=(gr ρ st).bind (uL n F):=rfl
@[simp] theorem Kk{op:List Wv->Hs->Re Wv}:a7 op gr ρ st=(gr ρ st).bind λws st1=>(op ws st1).lJ:=rfl
end
@[simp] theorem Xu{i:Int}:Es (.int i) st= .ok (.int (-i)) st:=rfl
@[simp] theorem RE{i j:Int}:cu (.int i) (.int j) st= .ok (.int (i+j)) st:=rfl
@[simp] theorem Xv{i j:Int}:kK (.int i) (.int j) st= .ok (.int (i - j)) st:=rfl
@[simp] theorem Vv{x:Wv}:xE x .bg st=pF x .bg st:=Of
@[simp] theorem YY{i j:Int}:oLt (.int i) (.int j) st= .ok (.bl (decide (i < j))) st:=rfl
@[simp] theorem YZ{i j:Int}:oLe (.int i) (.int j) st= .ok (.bl (decide (i<=j))) st:=rfl
@[simp] theorem Y0{i j:Int}:Ut (.int i) (.int j) st= .ok (.bl (decide (j < i))) st:=rfl
@[simp] theorem Y1{i j:Int}:Uu (.int i) (.int j) st= .ok (.bl (decide (j<=i))) st:=rfl
@[simp] theorem RF{i j:Int}:oEq (.int i) (.int j) st= .ok (.bl (i == j)) st:=rfl
@[simp] theorem Y2{i j:Int}:yk (.int i) (.int j) st= .ok (.bl (!(i == j))) st:=rfl
@[simp] theorem Y3{i j:PySem.Str}:oEq (.str i) (.str j) st= .ok (.bl (i == j)) st:=rfl
@[simp] theorem Y4{i j:PySem.Str}:yk (.str i) (.str j) st= .ok (.bl (!(i == j))) st:=rfl
@[simp] theorem Y5{i j:Bool}:oEq (.bl i) (.bl j) st= .ok (.bl (i == j)) st:=by cases i<;>cases j<;>rfl
@[simp] theorem Y6{i j:Bool}:yk (.bl i) (.bl j) st= .ok (.bl (!(i == j))) st:=by cases i<;>cases j<;>rfl
theorem gw{i j:Int}(h:j≠0/\j.natAbs.log2 < 9000):bB (.int i) (.int j) st= .ok (.int (i.fdiv j)) st:=by show(if _ then _ else _)=_;rw[if_pos h]
theorem gT{i j:Int}(h:j≠0):oMod (.int i) (.int j) st= .ok (.int (i.fmod j)) st:=by show(if _ then _ else _)=_;rw[if_pos h]
theorem Bk{i j:Int}(h:IntMulOk i j):b8 (.int i) (.int j) st= .ok (.int (i * j)) st:=by show(if _ then _ else _)=_;rw[if_pos h]
theorem oW{i j:Int}(h1:-(2 ^ 64) < i)(h2:i < 2 ^ 64):b8 (.int i) (.int j) st= .ok (.int (i * j)) st:=Bk (IntMulOk.of_left (intBits_le_64 h1 h2))
theorem mul_r{i j:Int}(h1:-(2 ^ 64) < j)(h2:j < 2 ^ 64):b8 (.int i) (.int j) st= .ok (.int (i * j)) st:=Bk (IntMulOk.of_right (intBits_le_64 h1 h2))
theorem RG{i j:Int}(h:0<=j/\j<=1000000/\i.natAbs < 2 ^ 64):qw (.int i) (.int j) st= .ok (.int (i ^ j.toNat)) st:=by show(if _ then _ else _)=_;rw[if_pos h]
theorem C_{l:Nat}{i:Int}{ws:List Wv}{v:Wv}(h:ao st l=some ws)(h2:qi ws i=some v):aU (.ref l) (.int i) st= .ok v st:=by
 show(match ao st l with | some ws=>(match qi ws i with | some w=>Re.ok w st | none=> .bad) | none=> .bad)=_
 rw[h]
 dsimp only
 rw[h2]
theorem c9{i:Int}{ws:List Wv}{v:Wv}(h2:qi ws i=some v):aU (.tup ws) (.int i) st= .ok v st:=by
 show(match qi ws i with | some w=>Re.ok w st | none=> .bad)=_
 rw[h2]
end
theorem lF{n:Nat}{g:GS}{ws:List Wv}{st st':Hs}{w:Wv}(h:g (ws.map some++aM (n - ws.length) none) st= .rt w st'):df n g ws st= .ok w st':=by unfold df;rw[h]
section
variable {ρ:bF} {st:Hs} {ga gb gc:GE} {gl gh:GO}
def Xw(gl gh:GO)(ρ:bF):Wv->Hs->Re Wv:=λx st1=>(gl ρ st1).bind λlo st2=>(gh ρ st2).bind λhi st3=>xl x lo hi st3
@[simp] theorem To:jC ga gl gh ρ st=(ga ρ st).bind (Xw gl gh ρ):=rfl
@[simp] theorem Xx{x:Wv}:Xw gl gh ρ x st=(gl ρ st).bind λlo st2=>(gh ρ st2).bind λhi st3=>xl x lo hi st3:=rfl
@[simp] theorem RH:kL ρ st= .ok none st:=rfl
def LB:Wv->Hs->Re (Option Int):=λw st1=>match w with
 | .int i=> .ok (some i) st1
 | _=> .bad
@[simp] theorem Vw:rN ga ρ st=(ga ρ st).bind LB:=rfl
@[simp] theorem Tp{i:Int}:LB (.int i) st= .ok (some i) st:=rfl
theorem Bl{l:Nat}{ws:List Wv}(h:ao st l=some ws):nq [.ref l] st= .ok (.int ws.length) st:=by
 show(match ao st l with | some ws=>Re.ok (Wv.int ws.length) st | none=> .bad)=_
 rw[h]
def GY(op':gO)(gc:GE)(y:Wv)(ρ:bF):Wv->Hs->Re Wv:=λz st3=>match z with
 | .bl true=>(gc ρ st3).bind λu rL=>(op' y u rL).lJ
 | .bl false=> .ok (.bl false) st3
 | _=> .bad
@[simp] theorem Vx{op':gO}{y:Wv}:GY op' gc y ρ (.bl true) st=(gc ρ st).bind λu rL=>(op' y u rL).lJ:=rfl
@[simp] theorem Vy{op':gO}{y:Wv}:GY op' gc y ρ (.bl false) st= .ok (.bl false) st:=rfl
@[simp] theorem Tq{op op':gO}:iA op op' ga gb gc ρ st=(ga ρ st).bind λx st1=>(gb ρ st1).bind λy st2=>(op x y st2).lJ.bind (GY op' gc y ρ):=rfl
def OH(op' kr:gO)(gc gd:GE)(y:Wv)(ρ:bF):Wv->Hs->Re Wv:=λz st3=>match z with
 | .bl true=>(gc ρ st3).bind λu rL=>(op' y u rL).lJ.bind (GY kr gd u ρ)
 | .bl false=> .ok (.bl false) st3
 | _=> .bad
@[simp] theorem Vz{op' kr:gO}{gd:GE}{y:Wv}:OH op' kr gc gd y ρ (.bl true) st=(gc ρ st).bind λu rL=>(op' y u rL).lJ.bind (GY kr gd u ρ):=rfl
@[simp] theorem VA{op' kr:gO}{gd:GE}{y:Wv}:OH op' kr gc gd y ρ (.bl false) st= .ok (.bl false) st:=rfl
@[simp] theorem RJ{op op' kr:gO}{gd:GE}:cU op op' kr ga gb gc gd ρ st=(ga ρ st).bind λx st1=>(gb ρ st1).bind λy st2=>(op x y st2).lJ.bind (OH op' kr gc gd y ρ):=rfl
def LC(cat:PySem.Str->Option Bool)(gs:GS)(r:Rs):Rs:=match r with
 | .err c ρ' st'=>(match cat c with
  | some true=>(match gs ρ' st' with
   | .nx ρ2 st2=> .nx ρ2 st2
   | .rt w st2=> .rt w st2
   | _=> .bad)
  | _=> .bad)
 | r=>r
@[simp] theorem RK{cat:PySem.Str->Option Bool}{gs:GS}:LC cat gs (.nx ρ st)= .nx ρ st:=rfl
@[simp] theorem RL{cat:PySem.Str->Option Bool}{gs:GS}{w:Wv}:LC cat gs (.rt w st)= .rt w st:=rfl
end
theorem cA{st:Hs}{ws:List Wv}:ao (st++[.lst ws]) st.length=some ws:=by unfold ao;simp
theorem xQ{st:Hs}{l:Nat}{ws:List Wv}(h:ao st l=some ws):l < st.length:=by
 unfold ao at h
 cases e:st[l]? with
 | none=>rw[e] at h;cases h
 | some o=>exact(List.getElem?_eq_some_iff.mp e).1
def bA(l:Nat)(st st':Hs):Prop:=st.length<=st'.length/\∀k,k < st.length->k≠l->st'[k]? =st[k]?
theorem bA.refl{l:Nat}{st:Hs}:bA l st st:=⟨au _,λ_ _ _=>rfl⟩
theorem bA.trans{l:Nat}{a b c:Hs}(h:bA l a b)(k:bA l b c):bA l a c:=⟨aW h.1 k.1,λj h1 h2=>(k.2 j (bP h1 h.1) h2).trans (h.2 j h1 h2)⟩
theorem bA.push{l:Nat}{st:Hs}{o:Ob}:bA l st (st++[o]):=⟨by simp,λk h _=>fQ h⟩
theorem bA.set{l:Nat}{st:Hs}{o:Ob}:bA l st (st.set l o):=⟨by simp,λk _ h=>aC (λz=>h z.symm)⟩
theorem bA.lst{l:Nat}{st st':Hs}(k:bA l st st'){j:Nat}{ws:List Wv}(h:ao st j=some ws)(hj:j≠l):ao st' j=some ws:=by
 unfold ao at h ⊢
 rw[k.2 j (xQ (st:=st) (ws:=ws) (by unfold ao;exact h)) hj]
 exact h
@[simp] theorem Tr{i:Nat}{ga:GA}{gb:GS}{ρ:bF}{st:Hs}:kN i ga gb ρ st=(ga ρ st).a9 ρ λws st1=>match ws with
 | [.int j]=>if dE j then du i gb (bZ 0 j.toNat) ρ st1 else .bad
 | _=> .bad:=rfl
@[simp] theorem Ts{i:Nat}{ga:GA}{gb:GS}{ρ:bF}{st:Hs}:vC i ga gb ρ st=(ga ρ st).a9 ρ λws st1=>match ws with
 | [.int a,.int j]=>if dE a/\dE j then du i gb (bZ a (j - a).toNat) ρ st1 else .bad
 | _=> .bad:=rfl
def LG(mt:Wv->Wv->Hs->Re Wv)(ga:GE)(ρ:bF):Wv->Hs->Re Wv:=λo st1=>match o with
 | .ref l=>(match ao st1 l with
  | some _=>(ga ρ st1).bind λv st2=>(mt o v st2).lJ
  | none=> .bad)
 | _=> .bad
@[simp] theorem OI{mt:Wv->Wv->Hs->Re Wv}{go ga:GE}{ρ:bF}{st:Hs}:gP mt go ga ρ st=(go ρ st).bind (LG mt ga ρ):=rfl
theorem Kl{mt:Wv->Wv->Hs->Re Wv}{ga:GE}{ρ:bF}{st:Hs}{l:Nat}{ws:List Wv}(h:ao st l=some ws):LG mt ga ρ (.ref l) st=(ga ρ st).bind λv st2=>(mt (.ref l) v st2).lJ:=by
 show(match ao st l with | some _=>(ga ρ st).bind λv st2=>(mt (.ref l) v st2).lJ | none=> .bad)=_
 rw[h]
theorem Bm{st:Hs}{l:Nat}{v:Wv}{ws:List Wv}(h:st[l]? =some (.lst ws))(hl:ws.length < lim):lS (.ref l) v st= .ok .bg (st.set l (.lst (ws++[v]))):=by
 show(match st[l]? with | some (.lst ws)=>if ws.length < lim then Re.ok Wv.bg (st.set l (.lst (ws++[v]))) else .bad | _=> .bad)=_
 rw[h]
 exact if_pos hl
def kFor(i:Nat)(gb:GS)(ρ:bF):Wv->Hs->Rs:=λw st1=>match w with
 | .ref l=>(match ao st1 l with | some ws=>forL i gb l ws ws ρ st1 | none=> .bad)
 | .tup ws=>du i gb ws ρ st1
 | .rH ws=>du i gb ws ρ st1
 | _=> .bad
@[simp] theorem uM{i:Nat}{ga:GE}{gb:GS}{ρ:bF}{st:Hs}:jL i ga gb ρ st=(ga ρ st).a9 ρ (kFor i gb ρ):=rfl
theorem jO{i:Nat}{gb:GS}{ρ:bF}{st:Hs}{l:Nat}{ws:List Wv}(h:ao st l=some ws):kFor i gb ρ (.ref l) st=forL i gb l ws ws ρ st:=by
 show(match ao st l with | some ws=>forL i gb l ws ws ρ st | none=> .bad)=_
 rw[h]
@[simp] theorem VB{i:Nat}{gb:GS}{ρ:bF}{st:Hs}{ws:List Wv}:kFor i gb ρ (.tup ws) st=du i gb ws ρ st:=rfl
theorem mP{i:Nat}{gb:GS}(P:Nat->bF->Hs->Prop):∀(ws:List Wv)(k:Nat)(ρ:bF)(st:Hs),P k ρ st->
  (∀(j:Nat)(w:Wv),ws[j]? =some w->∀ρ st,P (k+j) ρ st->∃ρ' st',gb (ρ.set i (some w)) st= .nx ρ' st'/\P (k+j+1) ρ' st')->∃ρ' st',du i gb ws ρ st= .nx ρ' st'/\P (k+ws.length) ρ' st'
 | [],k,ρ,st,h,_=>⟨ρ,st,rfl,h⟩
 | w::r,k,ρ,st,h,step=>by
  obtain⟨ρ1,st1,e1,p1⟩:=step 0 w rfl ρ st h
  obtain⟨ρ2,st2,e2,p2⟩:=mP P r (k+1) ρ1 st1 p1 λj w hw ρ st hp=>by
   have e:k+(j+1)=k+1+j:=by omega
   have q:=step (j+1) w hw ρ st (by rw[e];exact hp)
   rw[e] at q
   exact q
  refine⟨ρ2,st2,?_,?_⟩
  ·unfold du
   rw[e1]
   exact e2
  ·have e:k+(w::r).length=k+1+r.length:=by simp;omega
   rw[e]
   exact p2
theorem xR{i:Nat}{gb:GS}(P:bF->Hs->Prop):∀(ws:List Wv)(ρ:bF)(st:Hs),P ρ st->
  (∀w∈ws,∀ρ st,P ρ st->∃ρ' st',gb (ρ.set i (some w)) st= .nx ρ' st'/\P ρ' st')->∃ρ' st',du i gb ws ρ st= .nx ρ' st'/\P ρ' st'
 | [],ρ,st,h,_=>⟨ρ,st,rfl,h⟩
 | w::r,ρ,st,h,step=>by
  obtain⟨ρ1,st1,e1,p1⟩:=step w aB ρ st h
  obtain⟨ρ2,st2,e2,p2⟩:=xR P r ρ1 st1 p1 λw hw=>step w (aF _ hw)
  refine⟨ρ2,st2,?_,p2⟩
  unfold du
  rw[e1]
  exact e2
@[simp] theorem VC{i:Int}{st:Hs}:QZ [.int i] st=QW [.int i] st:=rfl
@[simp] theorem zD{cs:ip}{gi:GI}{gt:GT}{ge:GE}{ρ:bF}{st:Hs}:bO cs gi gt ge ρ st=(gi ρ st).bind (dZ cs gt ge ρ):=rfl
@[simp] theorem vX{g:GE}{ρ:bF}{st:Hs}:cP g ρ st=(g ρ st).bind xm:=rfl
@[simp] theorem VD{g:GA}{ρ:bF}{st:Hs}:vG g ρ st=(g ρ st).bind xh:=rfl
@[simp] theorem VE{g:GA}{ρ:bF}{st:Hs}:Fc g ρ st=(g ρ st).bind AL:=rfl
@[simp] theorem VF{g:GA}{ρ:bF}{st:Hs}:U6 g ρ st=(g ρ st).bind Lr:=rfl
theorem zE{j:Int}{st:Hs}(h:dE j):xh [.int j] st= .ok (none,bZ 0 j.toNat) st:=if_pos h
theorem OJ{i j:Int}{st:Hs}(h:dE i)(k:dE j):AL [.int i,.int j] st= .ok (none,bZ i (j - i).toNat) st:=if_pos ⟨h,k⟩
theorem vY{l:Nat}{st:Hs}{ws:List Wv}(h:ao st l=some ws):xm (.ref l) st= .ok (some l,ws) st:=by
 show(match ao st l with | some ws=>Re.ok (some l,ws) st | none=> .bad)=_
 rw[h]
@[simp] theorem VG{st:Hs}{z:PySem.Str}:xm (.str z) st= .ok (none,jM z) st:=rfl
@[simp] theorem GZ{st:Hs}{ws:List Wv}:xm (.tup ws) st= .ok (none,ws) st:=rfl
theorem Km{st:Hs}{acc:List Wv}{v:Wv}(h:acc.length < lim):lS (.ref st.length) v (st++[.lst acc])= .ok .bg (st++[.lst (acc++[v])]):=by
 rw[Bm (ws:=acc) (by simp) h]
 congr 1
 simp
theorem nV{w:Wk}{gt:Wv->Hs->Re Bool}{ge:Wv->Hs->Re Wv}{st:Hs}{t:Wv->Bool}{f:Wv->Wv}(ck:kO w st):∀(ws acc:List Wv),(∀v∈ws,∀acc,gt v (st++[.lst acc])= .ok (t v) (st++[.lst acc]))->
  (∀v∈ws,t v=true->∀acc,ge v (st++[.lst acc])= .ok (f v) (st++[.lst acc]))->acc.length+ws.length < lim->iF (kO w) gt ge st.length ws (st++[.lst acc])=some (st++[.lst (acc++(ws.filter t).map f)])
 | [],acc,_,_,_=>by simp[iF]
 | v::r,acc,h1,h2,hl=>by
  have hl':acc.length+(r.length+1) < lim:=hl
  unfold iF
  rw[h1 v aB acc]
  cases e:t v with
  | false=>
   dsimp only
   rw[if_pos (rR ck),nV ck r acc (λv hv=>h1 v (aF _ hv)) (λv hv=>h2 v (aF _ hv)) (by omega),jb (by simp[e])]
  | true=>
   dsimp only
   rw[h2 v aB e acc]
   dsimp only
   rw[Km (by omega)]
   dsimp only
   rw[if_pos (rR ck),nV ck r (acc++[f v]) (λv hv=>h1 v (aF _ hv)) (λv hv=>h2 v (aF _ hv)) (by simp;omega),ja e]
   simp
theorem fX{cs:ip}{gt:GT}{ge:GE}{ρ:bF}{w:Wk}{st:Hs}{t:Wv->Bool}{f:Wv->Wv}(ck:kO w st)(h1:∀v∈w.2,∀acc,gt (some v::eD cs ρ) (st++[.lst acc])= .ok (t v) (st++[.lst acc]))
  (h2:∀v∈w.2,t v=true->∀acc,ge (some v::eD cs ρ) (st++[.lst acc])= .ok (f v) (st++[.lst acc]))(hl:w.2.length < lim):dZ cs gt ge ρ w st= .ok (.ref st.length) (st++[.lst ((w.2.filter t).map f)]):=by
 unfold dZ
 rw[nV ck w.2 [] h1 h2 (by simpa using hl)]
 simp
theorem xS{α:Type}{ws:List α}{d:Int}(h0:0<=d)(h1:d < ws.length):∃v,L2.qi ws d=some v/\v∈ws:=by
 have hk:d.toNat < ws.length:=by omega
 have ek:d=((d.toNat:Nat):Int):=by omega
 refine⟨ws[d.toNat],?_,List.getElem_mem hk⟩
 have q:=L2.Ar (dD hk)
 rw[<-ek] at q
 exact q
theorem aP{st:Hs}{l:Nat}{o o':Ob}(h:st[l]? =some o):(st.set l o')[l]? =some o':=pv (List.getElem?_eq_some_iff.mp h).1
theorem b9{st:Hs}{l:Nat}{o o':Ob}(h:st[l]? =some o):(st++[o'])[l]? =some o:=by rw[fQ (List.getElem?_eq_some_iff.mp h).1];exact h
theorem bY{st:Hs}{l:Nat}{ws:List Wv}(h:st[l]? =some (.lst ws)):ao st l=some ws:=by unfold ao;rw[h]
theorem bE{st:Hs}{l:Nat}{o:Ob}(h:st[l]? =some o):l < st.length:=(List.getElem?_eq_some_iff.mp h).1
theorem bM{st:Hs}{o:Ob}:(st++[o])[st.length]? =some o:=by simp
@[simp] theorem Xy{i:Int}{st:Hs}:Uw [.int i] st= .ok (.int (if i < 0 then -i else i)) st:=rfl
@[simp] theorem LH{l:Nat}{st:Hs}{ns:List Int}(h:ao st l=some (ns.map Wv.int)):xj [.ref l] st= .ok (.int ns.sum) st:=by
 show(match ao st l with | some ws=>(match intsOf ws with | some ns=>Re.ok (Wv.int ns.sum) st | none=> .bad) | none=> .bad)=_
 rw[h]
 dsimp only
 rw[rV]
theorem vZ{lo:Int}{n:Nat}{w:Wv}(h:w∈bZ lo n):∃k:Int,w= .int k/\lo<=k/\k < lo+n:=by
 unfold bZ at h
 obtain⟨k,hk,rfl⟩:=List.mem_map.mp h
 have:=List.mem_range.mp hk
 exact⟨lo+k,rfl,by omega,by omega⟩
theorem zF{i:Int}(h1:-1000000<=i)(h2:i<=1000000):dE i:=⟨by omega,by omega⟩
@[simp] theorem Tt{F:List Wv->Hs->Re Wv}{st:Hs}:uL 0 F [] st=F [] st:=rfl
theorem uN{w:Wk}{gt:Wv->Hs->Re Bool}{ge:Wv->Hs->Re Wv}{rr:Nat}(P:Hs->Prop)(E:Wv->Prop)(hP:∀st acc,P st->P (st.set rr (.lst acc)))(hck:∀st,P st->kO w st) :
  ∀(ws:List Wv),(∀v∈ws,∀st acc,P st->st[rr]? =some (.lst acc)->∃st1,gt v st= .ok true st1/\P st1/\st1[rr]? =some (.lst acc)/\∃u st2,ge v st1= .ok u st2/\E u/\P st2/\st2[rr]? =some (.lst acc))->
   ∀(acc:List Wv)(st:Hs),P st->st[rr]? =some (.lst acc)->acc.length+ws.length < lim->(∀a∈acc,E a)->∃st' acc',iF (kO w) gt ge rr ws st=some st'/\P st'/\st'[rr]? =some (.lst acc')/\(∀a∈acc',E a)/\acc'.length=acc.length+ws.length
 | [],_,acc,st,hp,hg,_,ha=>⟨st,acc,rfl,hp,hg,ha,rfl⟩
 | v::r,step,acc,st,hp,hg,hl,ha=>by
  obtain⟨st1,e1,p1,g1,u,st2,e2,hu,p2,g2⟩:=step v aB st acc hp hg
  have hl':acc.length+(r.length+1) < lim:=hl
  obtain⟨st3,VH,f1,f2,f3,f4,f5⟩:=uN P E hP hck r (λv hv=>step v (aF _ hv)) (acc++[u]) (st2.set rr (.lst (acc++[u]))) (hP _ _ p2) (aP g2) (by simp;omega) (by
   intro a h
   rcases List.mem_append.mp h with z | z
   ·exact ha a z
   ·simp at z;rw[z];exact hu)
  refine⟨st3,VH,?_,f2,f3,f4,?_⟩
  ·unfold iF
   rw[e1]
   dsimp only
   rw[e2]
   dsimp only
   rw[Bm g2 (by omega)]
   dsimp only
   rw[if_pos (hck _ (hP _ _ p2)),f1]
  ·rw[f5];simp;omega
def Gr(st st':Hs):Prop:=st.length<=st'.length/\∀k,k < st.length->st'[k]? =st[k]?
theorem Gr.refl{st:Hs}:Gr st st:=⟨au _,λ_ _=>rfl⟩
theorem Gr.trans{a b c:Hs}(h:Gr a b)(k:Gr b c):Gr a c:=⟨aW h.1 k.1,λj h1=>(k.2 j (bP h1 h.1)).trans (h.2 j h1)⟩
theorem Gr.push{st:Hs}{o:Ob}:Gr st (st++[o]):=⟨by simp,λk h=>fQ h⟩
theorem Gr.app{st xs:Hs}:Gr st (st++xs):=⟨by simp,λk h=>fQ h⟩
theorem Gr.lst{st st':Hs}(k:Gr st st'){j:Nat}{ws:List Wv}(h:ao st j=some ws):ao st' j=some ws:=by
 unfold ao at h ⊢
 rw[k.2 j (xQ (st:=st) (ws:=ws) (by unfold ao;exact h))]
 exact h
theorem Gr.get{st st':Hs}(k:Gr st st'){j:Nat}{o:Ob}(h:st[j]? =some o):st'[j]? =some o:=by rw[k.2 j (bE h)];exact h
theorem Gr.keep{st st':Hs}{l:Nat}(k:Gr st st'):bA l st st':=⟨k.1,λj h _=>k.2 j h⟩
theorem Gr.jP{st s1 s2:Hs}{l:Nat}(h:st.length<=l)(g:Gr st s1)(k:bA l s1 s2):Gr st s2:=⟨aW g.1 k.1,λj h1=>(k.2 j (bP h1 g.1) (by omega)).trans (g.2 j h1)⟩
theorem iu{α:Type}(f:α->Wv){i:Nat}{gb:GS}{l:Nat}{all:List Wv}(full:List α)(P:List α->bF->Hs->Prop)
  (step:∀a pre post ρ st,full=pre++a::post->P pre ρ st->ao st l=some all->∃ρ' st',gb (ρ.set i (some (f a))) st= .nx ρ' st'/\ao st' l=some all/\P (pre++[a]) ρ' st') :
  ∀(post pre:List α)(ρ:bF)(st:Hs),full=pre++post->P pre ρ st->ao st l=some all->∃ρ' st',forL i gb l all (post.map f) ρ st= .nx ρ' st'/\P full ρ' st'/\ao st' l=some all
 | [],pre,ρ,st,hf,h,hl=>⟨ρ,st,rfl,by rw[hf];simpa using h,hl⟩
 | a::r,pre,ρ,st,hf,h,hl=>by
  obtain⟨ρ1,st1,e1,l1,p1⟩:=step a pre r ρ st hf h hl
  obtain⟨ρ2,st2,e2,p2,l2⟩:=iu f full P step r (pre++[a]) ρ1 st1 (by rw[hf];simp) p1 l1
  refine⟨ρ2,st2,?_,p2,l2⟩
  rw[a6]
  unfold forL
  rw[e1]
  simp only[if_pos l1]
  exact e2
theorem oX{α:Type}(f:α->Wv){i:Nat}{gb:GS}(full:List α)(P:List α->bF->Hs->Prop)
  (step:∀a pre post ρ st,full=pre++a::post->P pre ρ st->∃ρ' st',gb (ρ.set i (some (f a))) st= .nx ρ' st'/\P (pre++[a]) ρ' st') :
  ∀(post pre:List α)(ρ:bF)(st:Hs),full=pre++post->P pre ρ st->∃ρ' st',du i gb (post.map f) ρ st= .nx ρ' st'/\P full ρ' st'
 | [],pre,ρ,st,hf,h=>⟨ρ,st,rfl,by rw[hf];simpa using h⟩
 | a::r,pre,ρ,st,hf,h=>by
  obtain⟨ρ1,st1,e1,p1⟩:=step a pre r ρ st hf h
  obtain⟨ρ2,st2,e2,p2⟩:=oX f full P step r (pre++[a]) ρ1 st1 (by rw[hf];simp) p1
  refine⟨ρ2,st2,?_,p2⟩
  rw[a6]
  unfold du
  rw[e1]
  exact e2
theorem G7{st:Hs}{x y:Wv}{d:PyData}(h1:bJ st 20 x=some d)(h2:bJ st 20 y=some d)(h:b_ d d=true):yk x y st= .ok (.bl false) st:=by
 unfold yk
 rw[h1,h2]
 show Re.ok (Wv.bl (!PyData.eqv d d)) st=_
 rw[h]
 rfl
theorem G8{st:Hs}{n l:Nat}{ws:List Wv}(h:ao st l=some ws):bJ st (n+1) (.ref l)=(lM (bJ st n) ws).map vx:=by
 show(match ao st l with | some ws=>(lM (bJ st n) ws).map vx | none=>none)=_
 rw[h]
@[simp] theorem Xz{i j:Int}{st:Hs}:Q4 [.int i,.int j] st= .ok (.int (if j > i then j else i)) st:=rfl
@[simp] theorem XA{i j:Int}{st:Hs}:Q5 [.int i,.int j] st= .ok (.int (if j < i then j else i)) st:=rfl
theorem RM{l:Nat}{st:Hs}{ps:List (Int×Int)}(h:ao st l=some (ps.map pw))(hn:ps.length < 64):lV [.ref l] st= .ok (.ref st.length) (st++[.lst ((di ps).map pw)]):=by
 match ps,h,hn with
 | [],h,_=>
  unfold lV
  simp only[h]
  rfl
 | [p],h,_=>
  unfold lV
  simp only[h]
  rfl
 | p::q::r,h,hn=>
  have e:kQ ((p::q::r).map pw)=some (p::q::r):=r9 _
  unfold lV
  simp only[h]
  rw[if_neg (by simp),e]
  dsimp only
  rw[if_pos ⟨by simp,hn⟩]
open PySem L2
theorem tb_none{K:PySem.W.Frag}{H:Hp}(h1:PySem.W.nsIn K aaW "form_of"=some none)(h2:PySem.W.nsIn K aaW "formula_by"=some none)(h3:PySem.W.nsIn K aaW "turned"=some none)(h4:PySem.W.nsIn K aaW "readied_content"=some none)(h5:PySem.W.nsIn K aaW "ordered"=some none):vp K H:=λq P hq e=>by
 have no:∀q,PySem.W.nsIn K aaW q=some none->kJ K q=none:=λq h=>by
  unfold kJ PySem.W.tabIn
  rw[h]
 simp only[dY,G_,List.not_mem_nil,or_false] at hq
 rcases hq with rfl | rfl | rfl | rfl | rfl
 ·rw[no _ h1] at e;cases e
 ·rw[no _ h2] at e;cases e
 ·rw[no _ h3] at e;cases e
 ·rw[no _ h4] at e;cases e
 ·rw[no _ h5] at e;cases e
theorem yn{fd:aaI}{ps:List Str}(us:List aaM)(hl:us.length=1)(h:∀a0:aaM,bindArgs fd { pos:=[a0] }=pure (ps.zip [a0])):bindArgs fd { pos:=us }=pure (ps.zip us):=match us,hl with | [a0],_=>h a0
theorem ln2{fd:aaI}{ps:List Str}(us:List aaM)(hl:us.length=2)(h:∀a0 a1:aaM,bindArgs fd { pos:=[a0,a1] }=pure (ps.zip [a0,a1])):bindArgs fd { pos:=us }=pure (ps.zip us):=match us,hl with | [a0,a1],_=>h a0 a1
theorem Tu{fd:aaI}{ps:List Str}(us:List aaM)(hl:us.length=3)(h:∀a0 a1 a2:aaM,bindArgs fd { pos:=[a0,a1,a2] }=pure (ps.zip [a0,a1,a2])):bindArgs fd { pos:=us }=pure (ps.zip us):=match us,hl with | [a0,a1,a2],_=>h a0 a1 a2
theorem f7.mo{P:aaK}{w:aaN}{K:PySem.W.Frag}{mg:Str->Option aaM}{base:Heap}{j k:Nat}{x:Str}{n:Nat}{F:List Wv->Hs->Re Wv}(h:f7 P w K mg base j x n F)(l:j<=k:=by first | decide | omega):f7 P w K mg base k x n F:=h.mono l
theorem hdf{P:aaK}{w:aaN}{K:PySem.W.Frag}{mg:Str->Option aaM}{base:Heap}{h:Heap}{k:Nat}{c:Ct}{x:Str}{st:Stmt}{ps:List Str}{g:GS}(KX:K.In h)(NS:h.Ns aaW mg)(D:bh K x st)(T:xO c k P w K mg base)
  (S:FnScope c.N ps (defScope st))(hg:bo 30 c (defBody st)=g)(hM:c.self∈dY->Cz K mg base/\c.self=x:=by exact λz=>absurd (show("":Str)∈dY from z) (by decide))(hn:(defScope st).names=c.names:=by exact rfl)
  (hb:∀(kV doc pm:aaM)(an:Option aaG)(cdv ct:aaM)(us:List aaM),us.length=ps.length->bindArgs (PySem.W.fnOf x x (defArgs st) (defBody st) (defScope st) .none kV doc pm an cdv ct) ⟨us,[]⟩=pure (ps.zip us):=by intro _ _ _ _ _ _ us hl;first | exact yn us hl λ_=>rfl | exact ln2 us hl λ_ _=>rfl | exact Tu us hl λ_ _ _=>rfl | exact ln4 us hl λ_ _ _ _=>rfl | exact ln5 us hl λ_ _ _ _ _=>rfl | exact ln6 us hl λ_ _ _ _ _ _=>rfl | exact ln7 us hl λ_ _ _ _ _ _ _=>rfl) :
  f7 P w K mg base (k+1) x ps.length (df c.N.length g):=aJ KX NS D T S hn hg hb hM
theorem tk{c:Ct}{k:Nat}{P:aaK}{w:aaN}{K:PySem.W.Frag}{mg:Str->Option aaM}{base:Heap}(ht:TabOk K c.tb c.tt c.tc)(hf:AllP (λp=>f7 P w K mg base k p.1 p.2.1 p.2.2) c.fns:=by exact trivial)(hc:AllP (λp=>Ba K mg p.1 p.2) c.consts:=by exact trivial)(hb:AllP (λx=>mg x=none) c.bl:=by exact trivial)
  (hk:AllP (λx=>∃C,mg x=some (.ref C)/\Jg K x C) c.clss:=by exact trivial)(hn:AllP (λx=>∃C,mg x=some (.ref C)/\ClsAt K x C) c.CZ:=by exact trivial)(hd:AllP (λp=>oJ K w mg p.1 p.2) c.DA:=by exact trivial)
  (hu:AllP (λx=>∀n F,c.fns.lookup x=some (n,F)->JD P w K mg base k x n F) c.HK:=by exact trivial)(hx:zC c k P w K mg base:=by exact zC.no rfl rfl rfl rfl):xO c k P w K mg base:=az hc hb hf ht hk hn hd hu hx
end J
namespace K31
open PySem J
open L2 (defScope defBody defArgs FnScope CX0 FnOk XK Hp)
def top (i:Nat):Stmt:=PySem.Challenge.pw_onelook_k31_who_reads_round.main.body.getD i (.Pass ⟨0,0,0,0⟩)
def pf:Tab:=[]
def nW:y8:=[]
def OK:Tab:=[]
def cB(s:Stmt)(n b:List Str)(f:List (Str×Nat×(List Wv->Hs->Re Wv))):Ct:={ N:=n,names:=(defScope s).names,consts:=[],bl:=b,fns:=f,tb:=pf,tt:=nW,tc:=OK }
theorem kF{N P:List Str}{sc:Scope}(h:sc.kind= .function/\sc.isCoroutine=false/\sc.isGenerator=false/\N.take P.length=P)(k:N.Nodup/\(∀x∈P,sc.names.lookup x=some .local\/sc.names.lookup x=some .cell)/\∀y∈sc.names,y.2≠.free):FnScope N P sc:=⟨h.1,h.2.1,h.2.2.1,k.1,h.2.2.2,k.2.1,k.2.2⟩
abbrev gy:Stmt:=top 31
def je:GS:=(aA (jz (aQ (ag oLt (aa 1) (a7 nq (af (aa 0) aq)))) (aY (ag aU (aa 0) (aa 1))) bt)
  (aY (gC (.int 0))))
def cI:List Wv->Hs->Re Wv:=df 2 je
def jf:Ct:=cB gy ["script","k"] ["len"] []
theorem sA:bo 30 (jf) (defBody gy)=je:=by kernel_rfl
theorem qy:FnScope (jf).N ["script","k"] (defScope gy):=kF ⟨rfl,rfl,rfl,rfl⟩ (by decide+kernel)
abbrev jE:Stmt:=top 42
def l3:GS:=(aA (aO 1 (ag bB (ay 2 cI (af (aa 0) (af (gC (.int 0)) aq))) (gC (.int 2))))
  (aY (eh (af (ag aU (dR (af (gC (.int 0)) (af (ag oMod (ag bB (aa 1) (gC (.int 4))) (gC (.int 97))) aq))) (ag oMod (aa 1) (gC (.int 2)))) (af (ag aU (dR (af (gC (.int 0)) (af (ag oMod (ag bB (aa 1) (gC (.int 400))) (gC (.int 23))) aq))) (ag oMod (ag bB (aa 1) (gC (.int 2))) (gC (.int 2)))) aq)))))
def cV:List Wv->Hs->Re Wv:=df 2 l3
def l7:Ct:=cB jE ["script","first"] [] [("_law_cell_at",2,cI)]
theorem xT:bo 30 (l7) (defBody jE)=l3:=by kernel_rfl
theorem v5:FnScope (l7).N ["script"] (defScope jE):=kF ⟨rfl,rfl,rfl,rfl⟩ (by decide+kernel)
abbrev iN:Stmt:=top 34
def kR:GS:=(aA (aO 2 (ag oMod (ag aU (aa 0) (gC (.int 0))) (aa 1)))
  (aA (AG (ag bB (ag aU (aa 0) (gC (.int 0))) (aa 1)) (aa 0) (gC (.int 0)))
  (aY (aa 2))))
def av:List Wv->Hs->Re Wv:=df 3 kR
def kT:Ct:=cB iN ["row","many","digit"] [] []
theorem v8:bo 30 (kT) (defBody iN)=kR:=by kernel_rfl
theorem tK:FnScope (kT).N ["row","many"] (defScope iN):=kF ⟨rfl,rfl,rfl,rfl⟩ (by decide+kernel)
abbrev jF:Stmt:=top 36
def l8:GS:=(aA (aO 2 (ay 2 av (af (aa 0) (af (gC (.int 3)) aq))))
  (aA (aO 3 (ay 2 av (af (aa 0) (af (gC (.int 4)) aq))))
  (aA (aO 4 (ag cu (aa 2) (ay 2 av (af (aa 0) (af (ag kK (gC (.int 3)) (aa 2)) aq)))))
  (aA (aO 5 (ag cu (aa 3) (ay 2 av (af (aa 0) (af (ag kK (gC (.int 4)) (aa 3)) aq)))))
  (aY (eh (af (ag cu (ag aU (aa 1) (gC (.int 0))) (aa 2)) (af (ag cu (ag aU (aa 1) (gC (.int 1))) (aa 3)) (af (ag cu (ag aU (aa 1) (gC (.int 0))) (aa 4)) (af (ag cu (ag aU (aa 1) (gC (.int 1))) (aa 5)) aq))))))))))
def dz:List Wv->Hs->Re Wv:=df 6 l8
def l9:Ct:=cB jF ["row","spot","top","left","bottom","right"] [] [("_law_digit",2,av)]
theorem xU:bo 30 (l9) (defBody jF)=l8:=by kernel_rfl
theorem v9:FnScope (l9).N ["row","spot"] (defScope jF):=kF ⟨rfl,rfl,rfl,rfl⟩ (by decide+kernel)
abbrev jG:Stmt:=top 37
def iC:GT:=(λ_ st=> .ok true st)
def fM:GE:=(ay 2 av (af (aa 1) (af (gC (.int 2)) aq)))
def l_:GS:=(aY (a7 qo (af (bO [("row",0)] (vG (af (aa 1) aq)) iC fM) aq)))
def bR:List Wv->Hs->Re Wv:=df 2 l_
def ma:Ct:=cB jG ["row","many"] ["tuple","range"] [("_law_digit",2,av)]
theorem xV:bo 30 (ma) (defBody jG)=l_:=by kernel_rfl
theorem v_:FnScope (ma).N ["row","many"] (defScope jG):=kF ⟨rfl,rfl,rfl,rfl⟩ (by decide+kernel)
abbrev hV:Stmt:=top 38
def jQ:GS:=(aA (jz (aQ (ag oEq (ay 2 av (af (aa 0) (af (gC (.int 5)) aq))) (gC (.int 0)))) (aY (ag kK (ag qw (gC (.int 10)) (gC (.int 60))) (ay 2 av (af (aa 0) (af (gC (.int 3)) aq))))) bt)
  (aY (ay 2 av (af (aa 0) (af (gC (.int 6)) aq)))))
def ft:List Wv->Hs->Re Wv:=df 1 jQ
def jR:Ct:=cB hV ["row"] [] [("_law_digit",2,av)]
theorem tL:bo 30 (jR) (defBody hV)=jQ:=by kernel_rfl
theorem sC:FnScope (jR).N ["row"] (defScope hV):=kF ⟨rfl,rfl,rfl,rfl⟩ (by decide+kernel)
abbrev iO:Stmt:=top 35
def kU:GS:=(aY (eh (af (ag cu (ag aU (aa 1) (gC (.int 0))) (ay 2 av (af (aa 0) (af (gC (.int 3)) aq)))) (af (ag cu (ag aU (aa 1) (gC (.int 1))) (ay 2 av (af (aa 0) (af (gC (.int 4)) aq)))) aq))))
def dG:List Wv->Hs->Re Wv:=df 2 kU
def kW:Ct:=cB iO ["row","spot"] [] [("_law_digit",2,av)]
theorem wa:bo 30 (kW) (defBody iO)=kU:=by kernel_rfl
theorem tM:FnScope (kW).N ["row","spot"] (defScope iO):=kF ⟨rfl,rfl,rfl,rfl⟩ (by decide+kernel)
abbrev jH:Stmt:=top 39
def me:GS:=(aA (aO 2 (ay 2 av (af (aa 0) (af (gC (.int 8)) aq))))
  (aA (jz (aQ (ag oEq (aa 2) (gC (.int 0)))) (aY (eh (af (gC (.str "num")) (af (ay 1 ft (af (aa 0) aq)) aq)))) bt)
  (aA (jz (aQ (ag oEq (aa 2) (gC (.int 1)))) (aY (eh (af (gC (.str "text")) (af (ag aU (dR (af (gC (.str "")) (af (gC (.str "a")) (af (gC (.str "b7")) (af (gC (.str "no")) aq))))) (ay 2 av (af (aa 0) (af (gC (.int 4)) aq)))) aq)))) bt)
  (aA (jz (nP (aQ (ag oEq (aa 2) (gC (.int 2)))) (aQ (ag oEq (ay 2 av (af (aa 0) (af (gC (.int 3)) aq))) (gC (.int 0))))) (aY (eh (af (gC (.str "lost")) aq))) bt)
  (aA (jz (aQ (ag oLt (aa 2) (gC (.int 6)))) (aY (eh (af (gC (.str "at")) (af (ay 2 dG (af (aa 0) (af (aa 1) aq))) (af (ay 2 bR (af (aa 0) (af (gC (.int 2)) aq))) aq))))) bt)
  (aY (eh (af (ag aU (dR (af (gC (.str "sum")) (af (gC (.str "count")) (af (gC (.str "least")) (af (gC (.str "greatest")) aq))))) (ay 2 av (af (aa 0) (af (gC (.int 4)) aq)))) (af (ay 2 dz (af (aa 0) (af (aa 1) aq))) (af (ay 2 bR (af (aa 0) (af (gC (.int 4)) aq))) aq))))))))))
def fY:List Wv->Hs->Re Wv:=df 3 me
def mf:Ct:=cB jH ["row","spot","way"] [] [("_law_digit",2,av),("_law_area",2,dz),("_law_pins",2,bR),("_law_number",1,ft),("_law_place",2,dG)]
theorem xW:bo 30 (mf) (defBody jH)=me:=by kernel_rfl
theorem wb:FnScope (mf).N ["row","spot"] (defScope jH):=kF ⟨rfl,rfl,rfl,rfl⟩ (by decide+kernel)
abbrev gz:Stmt:=top 40
def gA(aS:List Wv->Hs->Re Wv):GS:=(aA (jz (aQ (ag oEq (aa 2) (gC (.int 0)))) (aY (ay 2 fY (af (aa 0) (af (aa 1) aq)))) bt)
  (aA (aO 3 (ay 2 av (af (aa 0) (af (gC (.int 16)) aq))))
  (aA (jz (aQ (ag oLt (aa 3) (gC (.int 3)))) (aY (ay 2 fY (af (aa 0) (af (aa 1) aq)))) bt)
  (aA (aO 4 (ay 3 aS (af (aa 0) (af (aa 1) (af (ag kK (aa 2) (gC (.int 1))) aq)))))
  (aA (jz (aQ (ag oLt (aa 3) (gC (.int 5)))) (aY (eh (af (ag aU (dR (af (gC (.str "minus")) (af (gC (.str "not")) aq))) (ag kK (aa 3) (gC (.int 3)))) (af (aa 4) aq)))) bt)
  (aA (jz (aQ (ag oEq (aa 3) (gC (.int 5)))) (aY (eh (af (gC (.str "find")) (af (aa 4) (af (ay 2 dz (af (aa 0) (af (aa 1) aq))) (af (ay 2 bR (af (aa 0) (af (gC (.int 4)) aq))) aq)))))) bt)
  (aA (aO 5 (ay 3 aS (af (aa 0) (af (aa 1) (af (ag kK (aa 2) (gC (.int 1))) aq)))))
  (aA (jz (aQ (ag oLt (aa 3) (gC (.int 8)))) (aY (eh (af (gC (.str "if")) (af (aa 4) (af (aa 5) (af (ay 3 aS (af (aa 0) (af (aa 1) (af (ag kK (aa 2) (gC (.int 1))) aq)))) aq)))))) bt)
  (aA (jz (aQ (ag oEq (aa 3) (gC (.int 15)))) (aY (eh (af (ag aU (dR (af (gC (.str "=")) (af (gC (.str "&")) aq))) (ay 2 av (af (aa 0) (af (gC (.int 2)) aq)))) (af (aa 4) (af (aa 5) aq))))) bt)
  (aY (eh (af (ag aU (dR (af (gC (.str "else")) (af (gC (.str "rest")) (af (gC (.str "+")) (af (gC (.str "-")) (af (gC (.str "*")) (af (gC (.str "/")) (af (gC (.str "<")) aq)))))))) (ag kK (aa 3) (gC (.int 8)))) (af (aa 4) (af (aa 5) aq))))))))))))))
def mh(aS:List Wv->Hs->Re Wv):Ct where
  N:=["row","spot","deep","way","one","other"]
  names:=(defScope gz).names
  consts:=[]
  bl:=[]
  fns:=[("_law_digit",2,av),("_law_formula",3,aS),("_law_leaf",2,fY),("_law_area",2,dz),("_law_pins",2,bR)]
  tb:=pf
  tt:=nW
  tc:=OK
theorem sD(aS:List Wv->Hs->Re Wv):bo 30 (mh aS) (defBody gz)=gA aS:=by kernel_rfl
theorem qz(aS:List Wv->Hs->Re Wv):FnScope ["row","spot","deep","way","one","other"] ["row","spot","deep"] (defScope gz):=kF ⟨rfl,rfl,rfl,rfl⟩ (by decide+kernel)
def lG:Nat->(List Wv->Hs->Re Wv)
  | 0=>Rf
  | n+1=>df 6 (gA ((lG n)))
def bS(n:Nat):List Wv->Hs->Re Wv:=(lG n)
theorem ny(n:Nat):bS (n+1)=df 6 (gA (bS n)):=rfl
def aS:List Wv->Hs->Re Wv:=bS 6
abbrev gB:Stmt:=top 41
def jg:GS:=(aA (aO 3 (ay 2 av (af (aa 0) (af (gC (.int 8)) aq))))
  (aA (jz (aQ (ag oEq (aa 3) (gC (.int 0)))) (aY (gC .bg)) bt)
  (aA (jz (aQ (ag oEq (aa 3) (gC (.int 1)))) (aY (ag kK (ay 2 av (af (aa 0) (af (ag cu (ag b8 (gC (.int 2)) (ag qw (gC (.int 10)) (gC (.int 60)))) (gC (.int 1))) aq))) (ag qw (gC (.int 10)) (gC (.int 60))))) bt)
  (aA (jz (aQ (ag oEq (aa 3) (gC (.int 2)))) (aY (ag kK (ay 2 av (af (aa 0) (af (gC (.int 5)) aq))) (gC (.int 1)))) bt)
  (aA (jz (aQ (ag oEq (aa 3) (gC (.int 3)))) (aY (ag aU (dR (af (gC (.str "")) (af (gC (.str "a")) (af (gC (.str "b7")) (af (gC (.str "no")) aq))))) (ay 2 av (af (aa 0) (af (gC (.int 4)) aq))))) bt)
  (aY (ay 3 aS (af (aa 0) (af (aa 1) (af (aa 2) aq))))))))))
def dk:List Wv->Hs->Re Wv:=df 4 jg
def jh:Ct:=cB gB ["row","spot","deep","way"] [] [("_law_digit",2,av),("_law_formula",3,aS)]
theorem sE:bo 30 (jh) (defBody gB)=jg:=by kernel_rfl
theorem qA:FnScope (jh).N ["row","spot","deep"] (defScope gB):=kF ⟨rfl,rfl,rfl,rfl⟩ (by decide+kernel)
abbrev iP:Stmt:=top 32
def kX:GS:=(aA (aO 2 (ag oMod (ag b8 (ag cu (ag cu (ag oMod (aa 0) (gC (.int 1000000007))) (ag b8 (gC (.int 7919)) (aa 1))) (gC (.int 1))) (gC (.int 48271))) (gC (.int 2147483647))))
  (aY (ag oMod (ag b8 (ag oMod (ag b8 (aa 2) (aa 2)) (gC (.int 2147483629))) (gC (.int 69621))) (gC (.int 2147483647)))))
def cb:List Wv->Hs->Re Wv:=df 3 kX
def kY:Ct:=cB iP ["cell","k","stir"] [] []
theorem wc:bo 30 (kY) (defBody iP)=kX:=by kernel_rfl
theorem tN:FnScope (kY).N ["cell","k"] (defScope iP):=kF ⟨rfl,rfl,rfl,rfl⟩ (by decide+kernel)
abbrev hX:Stmt:=top 33
def eN:GS:=(aO 4 (ag cu (ag b8 (aa 4) (gC (.int 2147483647))) (ay 2 cb (af (ag cu (aa 2) (a7 xj (af (aa 0) aq))) (af (ag cu (ag b8 (gC (.int 8)) (aa 1)) (aa 3)) aq)))))
def cC:GS:=(aO 2 (ag cu (ag b8 (aa 2) (ag qw (gC (.int 10)) (gC (.int 60)))) (ag oMod (ag aU (aa 0) (aa 3)) (ag qw (gC (.int 10)) (gC (.int 60))))))
def jS:GS:=(aA (aO 2 (gC (.int 0)))
  (aA (sf 3 (af (ag cu (aa 1) (gC (.int 1))) (af (a7 nq (af (aa 0) aq)) (af (gC (.int 13)) aq))) cC)
  (aA (jz (aQ (ag oEq (ag oMod (ay 2 cI (af (aa 0) (af (gC (.int 0)) aq))) (gC (.int 2))) (gC (.int 1)))) (aY (dR (af (aa 2) aq))) bt)
  (aA (aO 4 (gC (.int 0)))
  (aA (kN 3 (af (gC (.int 8)) aq) eN)
  (aY (dR (af (ag bB (aa 4) (gC (.int 8))) aq))))))))
def fu:List Wv->Hs->Re Wv:=df 5 jS
def jT:Ct:=cB hX ["script","k","cell","j","found"] ["range","len","sum"] [("_law_cell_at",2,cI),("_law_mixed",2,cb)]
theorem tO:bo 30 (jT) (defBody hX)=jS:=by kernel_rfl
theorem sG:FnScope (jT).N ["script","k"] (defScope hX):=kF ⟨rfl,rfl,rfl,rfl⟩ (by decide+kernel)
abbrev iQ:Stmt:=top 43
def fN:GS:=(aA (aO 5 (ay 3 dk (af (ay 2 fu (af (aa 0) (af (aa 4) aq))) (af (aa 2) (af (aa 1) aq)))))
  (jz (aQ (ag xE (aa 5) (gC .bg))) (dg (aa 5) (aa 3) (eh (af (ag cu (ag aU (aa 2) (gC (.int 0))) (ag bB (aa 4) (gC (.int 4)))) (af (ag cu (ag aU (aa 2) (gC (.int 1))) (ag oMod (aa 4) (gC (.int 4)))) aq)))) bt))
def iR:GS:=(aA (aO 2 (ay 1 cV (af (aa 0) aq)))
  (aA (aO 3 gQ)
  (aA (kN 4 (af (gC (.int 12)) aq) fN)
  (aY (aa 3)))))
def eO:List Wv->Hs->Re Wv:=df 6 iR
def kZ:Ct:={ cB iQ ["script","deep","spot","cells","k","content"] ["range"] [("_law_spot",1,cV),("_law_content",3,dk),("_law_stream",2,fu)] with sj:=["cells"] }
theorem we:bo 30 (kZ) (defBody iQ)=iR:=by kernel_rfl
theorem tP:FnScope (kZ).N ["script","deep"] (defScope iQ):=kF ⟨rfl,rfl,rfl,rfl⟩ (by decide+kernel)
abbrev hZ:Stmt:=top 20
def jU:GS:=(aY (a7 (nQ pf nW) (af (si (aa 0) (aa 1)) (af (gC (.ty "tuple")) aq))))
def dO:List Wv->Hs->Re Wv:=df 2 jU
def jV:Ct:={ cB hZ ["sheet","place"] ["isinstance","tuple"] [] with sj:=["sheet"] }
theorem tQ:bo 30 (jV) (defBody hZ)=jU:=by kernel_rfl
theorem sH:FnScope (jV).N ["sheet","place"] (defScope hZ):=kF ⟨rfl,rfl,rfl,rfl⟩ (by decide+kernel)
abbrev eP:Stmt:=top 21
def bT:GT:=(fi (ay 2 dO (af (aa 1) (af (aa 0) aq))))
def cW:GE:=(aa 0)
def gX:GS:=(aY (a7 qr (af (gU 0 (bO [("sheet",0)] (gn (aa 0)) bT cW)) aq)))
def cD:List Wv->Hs->Re Wv:=df 1 gX
def gY:Ct:={ cB eP ["sheet"] ["sorted"] [("has_formula",2,dO)] with sj:=["sheet"] }
theorem pT:bo 30 (gY) (defBody eP)=gX:=by kernel_rfl
theorem oY:FnScope (gY).N ["sheet"] (defScope eP):=kF ⟨rfl,rfl,rfl,rfl⟩ (by decide+kernel)
abbrev k6:Stmt:=top 12
def nX:GS:=(aY (fU (a7 (nQ pf nW) (af (aa 0) (af (gC (.ty "int")) aq))) (AD (a7 (nQ pf nW) (af (aa 0) (af (gC (.ty "bool")) aq))))))
def ji:List Wv->Hs->Re Wv:=df 1 nX
def nY:Ct:=cB k6 ["thing"] ["isinstance","int","bool"] []
theorem zG:bo 30 (nY) (defBody k6)=nX:=by kernel_rfl
theorem xX:FnScope (nY).N ["thing"] (defScope k6):=kF ⟨rfl,rfl,rfl,rfl⟩ (by decide+kernel)
abbrev fO:Stmt:=top 13
def iI:GT:=(λ_ st=> .ok true st)
def fk:GE:=(ay 1 ji (af (aa 0) aq))
def iD:GS:=(aY (fU (a7 (nQ pf nW) (af (aa 0) (af (gC (.ty "tuple")) aq))) (fU (ag oEq (a7 nq (af (aa 0) aq)) (aa 1)) (a7 Fe (af (bO [] (cP (aa 0)) iI fk) aq)))))
def a8:List Wv->Hs->Re Wv:=df 2 iD
def iE:Ct:=cB fO ["thing","many"] ["isinstance","tuple","all","len"] [("is_whole",1,ji)]
theorem qB:bo 30 (iE) (defBody fO)=iD:=by kernel_rfl
theorem pU:FnScope (iE).N ["thing","many"] (defScope fO):=kF ⟨rfl,rfl,rfl,rfl⟩ (by decide+kernel)
abbrev k7:Stmt:=top 3
def nZ:GS:=(aY (fU (iA oLe oLt (gC (.int 0)) (ag aU (aa 0) (gC (.int 0))) (gC (.int 99))) (iA oLe oLt (gC (.int 0)) (ag aU (aa 0) (gC (.int 1))) (gC (.int 26)))))
def dH:List Wv->Hs->Re Wv:=df 1 nZ
def n8:Ct:={ cB k7 ["place"] [] [] with consts:=[("ROWS",(.int 99)),("COLUMNS",(.int 26))] }
theorem zH:bo 30 (n8) (defBody k7)=nZ:=by kernel_rfl
theorem xY:FnScope (n8).N ["place"] (defScope k7):=kF ⟨rfl,rfl,rfl,rfl⟩ (by decide+kernel)
abbrev h_:Stmt:=top 7
def jW:GS:=(aA (aO 1 (fU (ag oLe (ag aU (aa 0) (gC (.int 0))) (ag aU (aa 0) (gC (.int 2)))) (ag oLe (ag aU (aa 0) (gC (.int 1))) (ag aU (aa 0) (gC (.int 3))))))
  (aY (fU (aa 1) (fU (ay 1 dH (af (jC (aa 0) kL (rN (gC (.int 2)))) aq)) (ay 1 dH (af (jC (aa 0) (rN (gC (.int 2))) kL) aq))))))
def fA:List Wv->Hs->Re Wv:=df 2 jW
def jX:Ct:=cB h_ ["area","in_order"] [] [("is_place",1,dH)]
theorem tR:bo 30 (jX) (defBody h_)=jW:=by kernel_rfl
theorem sI:FnScope (jX).N ["area"] (defScope h_):=kF ⟨rfl,rfl,rfl,rfl⟩ (by decide+kernel)
abbrev jI:Stmt:=top 8
def mi:GS:=(aY (ag b8 (ag cu (ag kK (ag aU (aa 0) (gC (.int 2))) (ag aU (aa 0) (gC (.int 0)))) (gC (.int 1))) (ag cu (ag kK (ag aU (aa 0) (gC (.int 3))) (ag aU (aa 0) (gC (.int 1)))) (gC (.int 1)))))
def iw:List Wv->Hs->Re Wv:=df 1 mi
def mj:Ct:=cB jI ["area"] [] []
theorem xZ:bo 30 (mj) (defBody jI)=mi:=by kernel_rfl
theorem wg:FnScope (mj).N ["area"] (defScope jI):=kF ⟨rfl,rfl,rfl,rfl⟩ (by decide+kernel)
abbrev mQ:Stmt:=top 6
def pV:GS:=(aY (fU (ay 1 fA (af (aa 0) aq)) (ag oLe (ay 1 iw (af (aa 0) aq)) (gC (.int 300)))))
def iZ:List Wv->Hs->Re Wv:=df 1 pV
def pW:Ct:={ cB mQ ["area"] [] [("has_corners",1,fA),("area_many",1,iw)] with consts:=[("MOST_PLACES",(.int 300))] }
theorem Dd:bo 30 (pW) (defBody mQ)=pV:=by kernel_rfl
theorem zI:FnScope (pW).N ["area"] (defScope mQ):=kF ⟨rfl,rfl,rfl,rfl⟩ (by decide+kernel)
abbrev oZ:Stmt:=top 9
def sJ:GS:=(aY (fU (iA oLe oLe (ag aU (aa 0) (gC (.int 0))) (ag aU (aa 1) (gC (.int 0))) (ag aU (aa 0) (gC (.int 2)))) (iA oLe oLe (ag aU (aa 0) (gC (.int 1))) (ag aU (aa 1) (gC (.int 1))) (ag aU (aa 0) (gC (.int 3))))))
def ml:List Wv->Hs->Re Wv:=df 2 sJ
def sL:Ct:=cB oZ ["area","place"] [] []
theorem Ha:bo 30 (sL) (defBody oZ)=sJ:=by kernel_rfl
theorem De:FnScope (sL).N ["area","place"] (defScope oZ):=kF ⟨rfl,rfl,rfl,rfl⟩ (by decide+kernel)
abbrev mR:Stmt:=top 18
def mS:GS:=(aY (fU (ay 2 a8 (af (aa 0) (af (gC (.int 4)) aq))) (fU (ay 1 iZ (af (aa 0) aq)) (fU (ay 2 a8 (af (aa 1) (af (gC (.int 2)) aq))) (ay 2 ml (af (aa 0) (af (aa 1) aq)))))))
def i5:List Wv->Hs->Re Wv:=df 2 mS
def pX:Ct:=cB mR ["area","place"] [] [("is_number_row",2,a8),("is_area",1,iZ),("within",2,ml)]
theorem Df:bo 30 (pX) (defBody mR)=mS:=by kernel_rfl
theorem zJ:FnScope (pX).N ["area","place"] (defScope mR):=kF ⟨rfl,rfl,rfl,rfl⟩ (by decide+kernel)
abbrev mU:Stmt:=top 17
def mV:GS:=(aA (jz (wY (fi (a7 (nQ pf nW) (af (aa 0) (af (gC (.ty "tuple")) aq))))) (aY (gC (.bl false))) bt)
  (aA (jz (aQ (ag oEq (jC (aa 0) kL (rN (gC (.int 1)))) (eh (af (gC (.str "at")) aq)))) (aY (fU (ag oEq (a7 nq (af (aa 0) aq)) (gC (.int 2))) (fU (ay 2 a8 (af (ag aU (aa 0) (gC (.int 1))) (af (gC (.int 2)) aq))) (ay 1 dH (af (ag aU (aa 0) (gC (.int 1))) aq))))) bt)
  (aA (jz (aQ (ag oEq (jC (aa 0) kL (rN (gC (.int 1)))) (eh (af (gC (.str "part")) aq)))) (aY (fU (ag oEq (a7 nq (af (aa 0) aq)) (gC (.int 3))) (ay 2 i5 (af (ag aU (aa 0) (gC (.int 1))) (af (ag aU (aa 0) (gC (.int 2))) aq))))) bt)
  (aY (gC (.bl false))))))
def gZ:List Wv->Hs->Re Wv:=df 1 mV
def pY:Ct:=cB mU ["thing"] ["isinstance","tuple","len"] [("is_number_row",2,a8),("is_place",1,dH),("is_part",2,i5)]
theorem Dg:bo 30 (pY) (defBody mU)=mV:=by kernel_rfl
theorem zK:FnScope (pY).N ["thing"] (defScope mU):=kF ⟨rfl,rfl,rfl,rfl⟩ (by decide+kernel)
abbrev eQ:Stmt:=top 10
def eF:GT:=(λ_ st=> .ok true st)
def cX:GE:=(eh (af (aa 1) (af (aa 0) aq)))
def dh:GS:=(i9 (gP qq (aa 1) (bO [("row",2)] (Fc (af (ag aU (aa 0) (gC (.int 1))) (af (ag cu (ag aU (aa 0) (gC (.int 3))) (gC (.int 1))) aq))) eF cX)))
def eS:GS:=(aA (aO 1 (dR aq))
  (aA (vC 2 (af (ag aU (aa 0) (gC (.int 0))) (af (ag cu (ag aU (aa 0) (gC (.int 2))) (gC (.int 1))) aq)) dh)
  (aY (aa 1))))
def eV:List Wv->Hs->Re Wv:=df 3 eS
def g_:Ct:=cB eQ ["area","places","row"] ["range"] []
theorem pZ:bo 30 (g_) (defBody eQ)=eS:=by kernel_rfl
theorem o_:FnScope (g_).N ["area"] (defScope eQ):=kF ⟨rfl,rfl,rfl,rfl⟩ (by decide+kernel)
abbrev ib:Stmt:=top 16
def gD:GT:=(aQ (ag oLe (aa 0) (ag aU (aa 1) (gC (.int 2)))))
def gE:GE:=(aa 0)
def ic:GS:=(aA (jz (aQ (ag oEq (ag aU (aa 0) (gC (.int 0))) (gC (.str "at")))) (aY (dR (af (ag aU (aa 0) (gC (.int 1))) aq))) bt)
  (aY (bO [("item",0)] (cP (ay 1 eV (af (ag aU (aa 0) (gC (.int 1))) aq))) gD gE)))
def dQ:List Wv->Hs->Re Wv:=df 1 ic
def jY:Ct:=cB ib ["item"] [] [("places_between",1,eV)]
theorem tS:bo 30 (jY) (defBody ib)=ic:=by kernel_rfl
theorem sM:FnScope (jY).N ["item"] (defScope ib):=kF ⟨rfl,rfl,rfl,rfl⟩ (by decide+kernel)
abbrev ie:Stmt:=top 15
def hG:GS:=(dg (gC (.bl true)) (aa 1) (aa 3))
def eW:GS:=(jL 3 (ay 1 dQ (af (aa 2) aq)) hG)
def jZ:GS:=(aA (aO 1 gQ)
  (aA (jL 2 (aa 0) eW)
  (aY (a7 lY (af (aa 1) aq)))))
def c_:List Wv->Hs->Re Wv:=df 4 jZ
def j6:Ct:={ cB ie ["reads","places","item","place"] ["list"] [("item_places",1,dQ)] with sj:=["places"] }
theorem tT:bo 30 (j6) (defBody ie)=jZ:=by kernel_rfl
theorem sN:FnScope (j6).N ["reads"] (defScope ie):=kF ⟨rfl,rfl,rfl,rfl⟩ (by decide+kernel)
abbrev iS:Stmt:=top 23
def eX:GT:=(aQ (ag (iM false) (aa 0) (aa 1)))
def dq:GE:=(aa 0)
def eY:GT:=(fi (ay 1 gZ (af (aa 0) aq)))
def hI:GE:=(aa 0)
def dI:GS:=(aA (aO 4 (bO [] (cP (ag aU (bX (aa 1) (aa 3)) (gC (.int 2)))) eY hI))
  (dg (bO [("reads",2)] (cP (ay 1 c_ (af (aa 4) aq))) eX dq) (aa 2) (aa 3)))
def dJ:GS:=(jz (nP (aQ (ag (iM false) (aa 3) (aa 1))) (aQ (ag oEq (ag aU (bX (aa 1) (aa 3)) (gC (.int 0))) (gC (.str "worth"))))) (dg (dR aq) (aa 2) (aa 3)) bt)
def gF:GS:=(aA (aO 2 gQ)
  (aA (jL 3 (ay 1 cD (af (aa 0) aq)) dJ)
  (aA (jL 3 (a7 lY (af (aa 2) aq)) dI)
  (aY (aa 2)))))
def eZ:List Wv->Hs->Re Wv:=df 5 gF
def k8:Ct:={ cB iS ["sheet","book","reads","cell","items"] ["list"] [("formula_places",1,cD),("is_item",1,gZ),("places_read",1,c_)] with sj:=["sheet","reads","book"],DB:=["book","reads"] }
theorem wj:bo 30 (k8) (defBody iS)=gF:=by kernel_rfl
theorem tU:FnScope (k8).N ["sheet","book"] (defScope iS):=kF ⟨rfl,rfl,rfl,rfl⟩ (by decide+kernel)
abbrev iT:Stmt:=top 26
def lH:GS:=(i9 (gP lS (bX (aa 1) (aa 3)) (aa 2)))
def dM:GS:=(jL 3 (bX (aa 0) (aa 2)) lH)
def dN:GS:=(dg (dR aq) (aa 1) (aa 2))
def gG:GS:=(aA (aO 1 gQ)
  (aA (gR 0 (gS 2 (aa 0) dN))
  (aA (gR 0 (gS 2 (aa 0) dM))
  (aY (aa 1)))))
def gH:List Wv->Hs->Re Wv:=df 4 gG
def k9:Ct:={ cB iT ["reads","readers","cell","place"] [] [] with sj:=["reads","readers"] }
theorem wk:bo 30 (k9) (defBody iT)=gG:=by kernel_rfl
theorem tV:FnScope (k9).N ["reads"] (defScope iT):=kF ⟨rfl,rfl,rfl,rfl⟩ (by decide+kernel)
abbrev d_:Stmt:=top 25
def bU:GS:=(aA (xF (λi j=>i - j) (aa 1) (aa 3) (gC (.int 1)))
  (jz (aQ (ag oEq (bX (aa 1) (aa 3)) (gC (.int 0)))) (i9 (gP lS (aa 2) (aa 3))) bt))
def cY:GS:=(aA (aO 2 (dR aq))
  (aA (jL 3 (aa 0) bU)
  (aY (aa 2))))
def cZ:List Wv->Hs->Re Wv:=df 4 cY
def gI:Ct:={ cB d_ ["readers","missing","ready","reader"] [] [] with sj:=["missing"] }
theorem pb:bo 30 (gI) (defBody d_)=cY:=by kernel_rfl
theorem n9:FnScope (gI).N ["readers","missing"] (defScope d_):=kF ⟨rfl,rfl,rfl,rfl⟩ (by decide+kernel)
abbrev k_:Stmt:=top 24
def fB:GS:=(aA (dg (aa 5) (aa 4) (aa 3))
  (i9 (gP qq (aa 7) (ay 2 cZ (af (bX (aa 1) (aa 3)) (af (aa 2) aq))))))
def de:GS:=(aA (aO 7 (dR aq))
  (aA (jL 3 (aa 6) fB)
  (aA (aO 6 (aa 7))
  (JG (λi j=>i+j) 5 (gC (.int 1))))))
def eG:GT:=(aQ (ag oEq (bX (aa 1) (aa 0)) (gC (.int 0))))
def jj:GE:=(aa 0)
def fD:GS:=(dg (a7 lE (af (bX (aa 0) (aa 3)) aq)) (aa 2) (aa 3))
def jk:GS:=(aA (aO 1 (ay 1 gH (af (aa 0) aq)))
  (aA (aO 2 gQ)
  (aA (gR 0 (gS 3 (aa 0) fD))
  (aA (aO 4 gQ)
  (aA (aO 5 (gC (.int 0)))
  (aA (aO 6 (gU 0 (bO [("missing",2)] (gn (aa 0)) eG jj)))
  (aA (jN gW (fi (aa 6)) de)
  (aY (aa 4)))))))))
def jl:List Wv->Hs->Re Wv:=df 8 jk
def n_:Ct:={ cB k_ ["reads","readers","missing","cell","ranks","rank","level","above"] ["len"] [("readers_of",1,gH),("readied_readers",2,cZ)] with sj:=["reads","readers","missing","ranks"] }
theorem zL:bo 30 (n_) (defBody k_)=jk:=by kernel_rfl
theorem x8:FnScope (n_).N ["reads"] (defScope k_):=kF ⟨rfl,rfl,rfl,rfl⟩ (by decide+kernel)
abbrev iU:Stmt:=top 29
def aL:GS:=(aA (jz (aQ (ag oEq (aa 6) (aa 2))) (aY (gC (.bl true))) bt)
  (jz (nP (aQ (ag (iM true) (aa 6) (aa 1))) (aQ (ag (iM true) (aa 6) (aa 3)))) (aA (dg (gC (.bl true)) (aa 3) (aa 6))
    (i9 (gP lS (aa 4) (aa 6)))) bt))
def bb:GS:=(aA (aO 5 (nE (aa 4)))
  (jL 6 (bX (aa 0) (aa 5)) aL))
def e8:GS:=(aA (aO 3 gQ)
  (aA (aO 4 (dR (af (aa 2) aq)))
  (aA (jN gW (fi (aa 4)) bb)
  (aY (gC (.bl false))))))
def e_:List Wv->Hs->Re Wv:=df 7 e8
def lb:Ct:={ cB iU ["reads","ranks","start","seen","ahead","here","cell"] [] [] with sj:=["reads","ranks","seen"],DB:=["ranks","seen"] }
theorem wo:bo 30 (lb) (defBody iU)=e8:=by kernel_rfl
theorem tX:FnScope (lb).N ["reads","ranks","start"] (defScope iU):=kF ⟨rfl,rfl,rfl,rfl⟩ (by decide+kernel)
abbrev iV:Stmt:=top 28
def aG:GS:=(jz (nP (aQ (ag (iM true) (aa 4) (aa 3))) (fi (ay 3 e_ (af (aa 2) (af (aa 3) (af (aa 4) aq)))))) (aY (aa 4)) bt)
def fc:GS:=(aA (aO 2 (ay 2 eZ (af (aa 0) (af (aa 1) aq))))
  (aA (aO 3 (ay 1 jl (af (aa 2) aq)))
  (aA (gR 2 (gS 4 (aa 2) aG))
  (aY (gC .bg)))))
def iW:List Wv->Hs->Re Wv:=df 5 fc
def lh:Ct:={ cB iV ["sheet","book","reads","ranks","cell"] [] [("cells_read",2,eZ),("ranks_of",1,jl),("comes_back",3,e_)] with sj:=["sheet","book","reads","ranks"],DB:=["ranks"] }
theorem wq:bo 30 (lh) (defBody iV)=fc:=by kernel_rfl
theorem tY:FnScope (lh).N ["sheet","book"] (defScope iV):=kF ⟨rfl,rfl,rfl,rfl⟩ (by decide+kernel)
abbrev ig:Stmt:=top 47
def nI:GS:=(aY (fU (iA oLe oLe (ag aU (aa 0) (gC (.int 0))) (ag aU (aa 1) (gC (.int 0))) (ag aU (aa 0) (gC (.int 2)))) (iA oLe oLe (ag aU (aa 0) (gC (.int 1))) (ag aU (aa 1) (gC (.int 1))) (ag aU (aa 0) (gC (.int 3))))))
def fF:List Wv->Hs->Re Wv:=df 2 nI
def j7:Ct:=cB ig ["area","place"] [] []
theorem tZ:bo 30 (j7) (defBody ig)=nI:=by kernel_rfl
theorem sO:FnScope (j7).N ["area","place"] (defScope ig):=kF ⟨rfl,rfl,rfl,rfl⟩ (by decide+kernel)
abbrev gJ:Stmt:=top 46
def eI:GS:=(aA (jz (Qw (wY (aQ (cU oLe oLe oLe (gC (.int 0)) (ag aU (aa 0) (gC (.int 0))) (ag aU (aa 0) (gC (.int 2))) (gC (.int 98))))) (wY (aQ (cU oLe oLe oLe (gC (.int 0)) (ag aU (aa 0) (gC (.int 1))) (ag aU (aa 0) (gC (.int 3))) (gC (.int 25)))))) (aY (gC (.bl false))) bt)
  (aY (ag oLe (ag b8 (ag cu (ag kK (ag aU (aa 0) (gC (.int 2))) (ag aU (aa 0) (gC (.int 0)))) (gC (.int 1))) (ag cu (ag kK (ag aU (aa 0) (gC (.int 3))) (ag aU (aa 0) (gC (.int 1)))) (gC (.int 1)))) (gC (.int 300)))))
def cJ:List Wv->Hs->Re Wv:=df 1 eI
def jm:Ct:=cB gJ ["area"] [] []
theorem sP:bo 30 (jm) (defBody gJ)=eI:=by kernel_rfl
theorem qC:FnScope (jm).N ["area"] (defScope gJ):=kF ⟨rfl,rfl,rfl,rfl⟩ (by decide+kernel)
abbrev iX:Stmt:=top 48
def iY:GS:=(aA (jz (aQ (ag oEq (ag aU (aa 0) (gC (.int 0))) (gC (.str "at")))) (aY (ag oEq (ag aU (aa 0) (gC (.int 1))) (aa 1))) bt)
  (aA (aO 2 (ag aU (aa 0) (gC (.int 1))))
  (aA (jz (Qw (wY (fi (ay 1 cJ (af (aa 2) aq)))) (wY (fi (ay 2 fF (af (aa 2) (af (ag aU (aa 0) (gC (.int 2))) aq)))))) (aY (gC (.bl false))) bt)
  (aY (fU (ay 2 fF (af (aa 2) (af (aa 1) aq))) (ag oLe (aa 1) (ag aU (aa 0) (gC (.int 2)))))))))
def c7:List Wv->Hs->Re Wv:=df 3 iY
def lu:Ct:=cB iX ["item","place","area"] [] [("_law_inside",2,fF),("_law_is_area",1,cJ)]
theorem wt:bo 30 (lu) (defBody iX)=iY:=by kernel_rfl
theorem t5:FnScope (lu).N ["item","place"] (defScope iX):=kF ⟨rfl,rfl,rfl,rfl⟩ (by decide+kernel)
abbrev lz:Stmt:=top 49
def dt:GT:=(λ_ st=> .ok true st)
def cK:GE:=(ay 2 c7 (af (aa 0) (af (aa 1) aq)))
def bu:GS:=(jz (nP (aQ (ag (nu true) (aa 7) (aa 4))) (fi (a7 zu (af (bO [("other",7)] (cP (ag aU (bX (aa 1) (aa 6)) (gC (.int 2)))) dt cK) aq)))) (aA (i9 (gP lS (aa 4) (aa 7)))
    (i9 (gP lS (aa 5) (aa 7)))) bt)
def fG:GS:=(aA (aO 6 (nE (aa 5)))
  (jL 7 (aa 2) bu))
def bw:GS:=(aA (aO 4 (dR aq))
  (aA (aO 5 (dR (af (aa 3) aq)))
  (aA (jN gW (aQ (ag yk (aa 5) (dR aq))) fG)
  (jz (aQ (ag (nu false) (aa 3) (aa 4))) (aY (aa 3)) bt))))
def eJ:GT:=(nP (fi (a7 (nQ pf nW) (af (bX (aa 1) (aa 0)) (af (gC (.ty "tuple")) aq)))) (nP (aQ (ag (iM false) (aa 0) (aa 2))) (aQ (ag oEq (ag aU (bX (aa 2) (aa 0)) (gC (.int 0))) (gC (.str "worth"))))))
def jn:GE:=(aa 0)
def jo:GS:=(aA (aO 2 (bO [("sheet",0),("book",1)] (cP (a7 qr (af (aa 0) aq))) eJ jn))
  (aA (jL 3 (aa 2) bw)
  (aY (gC .bg))))
def lB:List Wv->Hs->Re Wv:=df 8 jo
def oa:Ct:={ cB lz ["sheet","book","told","place","met","row","one","other"] ["sorted","isinstance","tuple","any"] [("_law_holds",2,c7)] with sj:=["sheet","book"],DB:=["book","met"] }
theorem zM:bo 30 (oa) (defBody lz)=jo:=by kernel_rfl
theorem x9:FnScope (oa).N ["sheet","book"] (defScope lz):=kF ⟨rfl,rfl,rfl,rfl⟩ (by decide+kernel)
abbrev mW:Stmt:=top 44
def p_:GS:=(aY (eh (af (ag cu (ag aU (aa 0) (gC (.int 0))) (ag bB (aa 1) (gC (.int 4)))) (af (ag cu (ag aU (aa 0) (gC (.int 1))) (ag oMod (aa 1) (gC (.int 4)))) aq))))
def cR:List Wv->Hs->Re Wv:=df 2 p_
def qa:Ct:=cB mW ["spot","k"] [] []
theorem Dh:bo 30 (qa) (defBody mW)=p_:=by kernel_rfl
theorem zN:FnScope (qa).N ["spot","k"] (defScope mW):=kF ⟨rfl,rfl,rfl,rfl⟩ (by decide+kernel)
abbrev jJ:Stmt:=top 45
def fZ:GS:=(aA (aO 2 (ay 2 cR (af (aa 1) (af (ag oMod (ag bB (aa 0) (gC (.int 8))) (gC (.int 12))) aq))))
  (aA (jz (aQ (ag oLt (ag oMod (aa 0) (gC (.int 8))) (gC (.int 4)))) (aY (eh (af (gC (.str "at")) (af (aa 2) aq)))) bt)
  (aA (jz (aQ (ag oEq (ag oMod (aa 0) (gC (.int 8))) (gC (.int 4)))) (aY (eh (af (gC (.str "at")) (af (eh (af (ag kK (ag kK (ag aU (aa 1) (gC (.int 0))) (gC (.int 1))) (ag oMod (ag bB (aa 0) (gC (.int 8))) (gC (.int 3)))) (af (gC (.int 27)) aq))) aq)))) bt)
  (aA (aO 3 (ag oMod (ag bB (aa 0) (gC (.int 96))) (gC (.int 3))))
  (aA (aO 4 (ag oMod (ag bB (aa 0) (gC (.int 288))) (gC (.int 4))))
  (aA (aO 5 (eh (af (ag cu (ag aU (aa 1) (gC (.int 0))) (aa 3)) (af (ag cu (ag aU (aa 1) (gC (.int 1))) (aa 4)) (af (ag cu (ag cu (ag aU (aa 1) (gC (.int 0))) (aa 3)) (ag oMod (ag bB (aa 0) (gC (.int 1152))) (gC (.int 3)))) (af (ag cu (ag cu (ag aU (aa 1) (gC (.int 1))) (aa 4)) (ag oMod (ag bB (aa 0) (gC (.int 3456))) (gC (.int 3)))) aq))))))
  (aA (jz (aQ (ag oEq (ag oMod (aa 0) (gC (.int 8))) (gC (.int 5)))) (aA (aO 6 (dR (af (eh (af (ag cu (ag aU (aa 5) (gC (.int 2))) (gC (.int 1))) (af (ag aU (aa 5) (gC (.int 1))) (af (ag aU (aa 5) (gC (.int 0))) (af (ag aU (aa 5) (gC (.int 3))) aq))))) (af (eh (af (ag aU (aa 5) (gC (.int 0))) (af (ag aU (aa 5) (gC (.int 1))) (af (ag aU (aa 5) (gC (.int 2))) (af (gC (.int 26)) aq))))) (af (eh (af (gC (.int 0)) (af (gC (.int 0)) (af (gC (.int 98)) (af (gC (.int 25)) aq))))) aq)))))
    (aO 5 (ag aU (aa 6) (ag oMod (ag bB (aa 0) (gC (.int 8))) (gC (.int 3)))))) bt)
  (aY (eh (af (gC (.str "part")) (af (aa 5) (af (aa 2) aq))))))))))))
def dA:List Wv->Hs->Re Wv:=df 7 fZ
def mn:Ct:=cB jJ ["stir","spot","place","top","left","area","odd"] [] [("_law_at",2,cR)]
theorem x_:bo 30 (mn) (defBody jJ)=fZ:=by kernel_rfl
theorem wu:FnScope (mn).N ["stir","spot"] (defScope jJ):=kF ⟨rfl,rfl,rfl,rfl⟩ (by decide+kernel)
abbrev Bn:Stmt:=top 50
def qb:GT:=(λ_ st=> .ok true st)
def mX:GE:=(ay 2 dA (af (aa 0) (af (aa 1) aq)))
def qc:GT:=(λ_ st=> .ok true st)
def mY:GE:=(ag bB (ay 2 cb (af (ag cu (aa 1) (aa 2)) (af (ag cu (ag b8 (gC (.int 99)) (aa 3)) (aa 0)) aq))) (gC (.int 4)))
def jq:GS:=(aA (aO 7 (ay 2 cb (af (ag cu (aa 3) (aa 4)) (af (ag cu (ag b8 (gC (.int 40)) (aa 4)) (aa 6)) aq))))
  (aA (aO 8 (bO [("number",3),("k",6),("turn",4)] (vG (af (ag oMod (aa 7) (gC (.int 4))) aq)) qc mY))
  (aA (aO 9 (a7 qo (af (bO [("spot",2)] (cP (aa 8)) qb mX) aq)))
  (jz (aQ (ag oEq (ag oMod (ag bB (aa 7) (gC (.int 4))) (gC (.int 5))) (gC (.int 0)))) (dg (eh (af (gC (.str "waits")) (af (ay 2 cR (af (aa 2) (af (ag oMod (ag bB (aa 7) (gC (.int 20))) (gC (.int 12))) aq))) (af (aa 9) aq)))) (aa 5) (ay 2 cR (af (aa 2) (af (aa 6) aq)))) (jz (aQ (ag oLt (ag oMod (ag bB (aa 7) (gC (.int 4))) (gC (.int 5))) (gC (.int 4)))) (dg (eh (af (gC (.str "worth")) (af (ag aU (dR (af (gC (.int 0)) (af (gC .bg) (af (gC (.str "a")) (af (eh (af (gC (.str "fault")) (af (gC (.str "kind")) aq))) aq))))) (ag oMod (ag bB (aa 7) (gC (.int 20))) (gC (.int 4)))) (af (aa 9) aq)))) (aa 5) (ay 2 cR (af (aa 2) (af (aa 6) aq)))) bt)))))
def mq:GS:=(aA (aO 5 gQ)
  (aA (kN 6 (af (gC (.int 12)) aq) jq)
  (jz (aQ (ag yk (ay 2 iW (af (aa 1) (af (aa 5) aq))) (ay 2 lB (af (aa 1) (af (aa 5) aq))))) (aY (gC (.bl false))) bt)))
def mZ:GT:=(λ_ st=> .ok true st)
def kD:GE:=(ag b8 (ag cu (ag b8 (gC (.int 2)) (aa 0)) (gC (.int 1))) (ag oMod (ag aU (aa 1) (aa 0)) (ag qw (gC (.int 10)) (gC (.int 60)))))
def ya:GS:=(aA (aO 1 (ay 2 eO (af (aa 0) (af (gC (.int 1)) aq))))
  (aA (aO 2 (ay 1 cV (af (aa 0) aq)))
  (aA (aO 3 (a7 xj (af (bO [("script",0)] (vG (af (a7 lE (af (aa 0) aq)) aq)) mZ kD) aq)))
  (aA (kN 4 (af (gC (.int 3)) aq) mq)
  (aY (gC (.bl true)))))))
def F_law:List Wv->Hs->Re Wv:=df 10 ya
def Hd:Ct:={ cB Bn ["script","sheet","spot","number","turn","book","k","stir","draws","items"] ["sum","range","tuple","len"] [("_law_cells",2,eO),("_law_spot",1,cV),("_law_mixed",2,cb),("round_read",2,iW),("_law_due",2,lB),("_law_item",2,dA),("_law_at",2,cR)] with sj:=["sheet","book"] }
theorem RN:bo 30 (Hd) (defBody Bn)=ya:=by kernel_rfl
theorem OL:FnScope (Hd).N ["script"] (defScope Bn):=kF ⟨rfl,rfl,rfl,rfl⟩ (by decide+kernel)
abbrev S:=PySem.Str
def Ro(r:Nat)(st:Hs):Prop:=∃v:Int,st[r]? =some (.lst [.int v])
def Dw(r:Nat)(st st':Hs):Prop:=bA r st st'/\Ro r st'
theorem Dw.trans{r:Nat}{a b c:Hs}(h:Dw r a b)(k:Dw r b c):Dw r a c:=⟨h.1.trans k.1,k.2⟩
theorem Ro.push{r:Nat}{st:Hs}{o:Ob}(h:Ro r st):Ro r (st++[o]):=let ⟨v,e⟩:=h;⟨v,b9 e⟩
theorem Dw.of{r:Nat}{st:Hs}(h:Ro r st):Dw r st st:=⟨bA.refl,h⟩
theorem digit{st:Hs}{l:Nat}{n many:Int}(h:st[l]? =some (.lst [.int n]))(hm:many≠0/\many.natAbs.log2 < 9000) :
  av [.ref l,.int many] st= .ok (.int (n.fmod many)) (st.set l (.lst [.int (n.fdiv many)])):=by
 have hl:ao st l=some [.int n]:=by unfold ao;rw[h]
 have h0:L2.qi [Wv.int n] 0=some (.int n):=rfl
 unfold av df kR
 simp[C_ hl h0,gT hm.1,gw hm,AG,QT,h,L2.Ds]
theorem dig{r:Nat}{st:Hs}{m:Int}(h:Ro r st)(h0:0 < m)(h1:m < 1000000):∃d st',av [.ref r,.int m] st= .ok (.int d) st'/\0<=d/\d < m/\Dw r st st':=by
 obtain⟨v,e⟩:=h
 have hl:m.natAbs.log2 < 9000:=Aw ((Nat.log2_lt (k:=20) (by omega)).mpr (by omega)) (by decide)
 exact⟨_,_,digit e ⟨by omega,hl⟩,j8 _ h0,lC _ h0,bA.set,_,aP e⟩
def tI(l:List Int):Wv:=.tup (l.map Wv.int)
def fm(a b c d:Int):Prop:=0<=a/\a<=c/\c<=98/\0<=b/\b<=d/\d<=25/\(c - a+1) * (d - b+1)<=300
theorem RO{x y p q:Int}(h0:0<=x)(h1:x<=p)(k0:0<=y)(k1:y<=q):x * y<=p * q:=Int.mul_le_mul h1 k1 k0 (by omega)
theorem Tv{st:Hs}{a b:Wv}:aU (.tup [a,b]) (.int 0) st= .ok a st:=rfl
theorem Tw{st:Hs}{a b:Wv}:aU (.tup [a,b]) (.int 1) st= .ok b st:=rfl
theorem place{r:Nat}{st:Hs}{a b:Int}(h:Ro r st):∃c d st',dG [.ref r,tI [a,b]] st= .ok (tI [a+c,b+d]) st'/\(0<=c/\c < 3/\0<=d/\d < 4)/\Dw r st st':=by
 obtain⟨c,s1,e1,c0,c1,d1⟩:=dig (m:=3) h (by decide) (by decide)
 obtain⟨d,s2,e2,a0,a1,d2⟩:=dig (m:=4) d1.2 (by decide) (by decide)
 unfold dG df kU
 exact⟨c,d,s2,by simp[e1,e2,tI,Tv,Tw],⟨c0,c1,a0,a1⟩,d1.trans d2⟩
theorem VI{r:Nat}{st:Hs}{a b:Int}(h:Ro r st):∃t l p q st',dz [.ref r,tI [a,b]] st= .ok (tI [a+t,b+l,a+p,b+q]) st'/\(0<=t/\t<=p/\p < 3/\0<=l/\l<=q/\q < 4)/\Dw r st st':=by
 obtain⟨t,s1,e1,t0,t1,d1⟩:=dig (m:=3) h (by decide) (by decide)
 obtain⟨l,s2,e2,l0,l1,d2⟩:=dig (m:=4) d1.2 (by decide) (by decide)
 obtain⟨p,s3,e3,p0,p1,d3⟩:=dig (m:=3 - t) d2.2 (by omega) (by omega)
 obtain⟨q,s4,e4,q0,q1,d4⟩:=dig (m:=4 - l) d3.2 (by omega) (by omega)
 unfold dz df l8
 exact⟨t,l,t+p,l+q,s4,by simp[e1,e2,e3,e4,tI,Tv,Tw],by omega,((d1.trans d2).trans d3).trans d4⟩
theorem pins{r:Nat}{st:Hs}(h:Ro r st){n:Nat}(hn:n<=4):∃p st',bR [.ref r,.int n] st= .ok (tI p) st'/\p.length=n/\(∀q∈p,q=0\/q=1)/\Dw r st st':=by
 have hr:r < st.length:=let ⟨v,e⟩:=h;bE e
 have cn:dE (n:Int):=zF (by omega) (by omega)
 obtain⟨st',acc,e,⟨p1,p2⟩,hg,ha,hl⟩:=uN (w:=(none,bZ 0 n)) (gt:=λv=>iC (some v::eD [("row",0)] [some (.ref r),some (.int (n:Int))])) (ge:=λv=>fM (some v::eD [("row",0)] [some (.ref r),some (.int (n:Int))])) (rr:=st.length)
  (λs=>bA r st s/\Ro r s) (λu=>∃q:Int,u= .int q/\(q=0\/q=1))
  (λs acc ⟨k,v,e⟩=>⟨⟨by simpa using k.1,λj hj hne=>by rw[aC (by omega)];exact k.2 j hj hne⟩,v,by rw[aC (by omega)];exact e⟩) (λ_ _=>trivial) (bZ 0 n)
  (λv hv s acc ⟨k,ro⟩ hg=>by
   obtain⟨q,s2,e2,q0,q1,k2,VJ⟩:=dig (m:=2) ro (by decide) (by decide)
   refine⟨s,rfl,⟨k,ro⟩,hg,.int q,s2,?_,⟨q,rfl,by omega⟩,⟨k.trans k2,VJ⟩,?_⟩
   ·unfold fM
    simp[eD,e2]
   ·rw[k2.2 _ (bE hg) (by omega)];exact hg)
  [] (st++[.lst []]) ⟨bA.push,h.push⟩ bM (by rw[bQ];simp[lim];omega) (by simp)
 obtain⟨p,hp⟩:∃p:List Int,acc=p.map Wv.int/\∀q∈p,q=0\/q=1:=by
  clear e hg hl
  induction acc with
  | nil=>exact⟨[],rfl,by simp⟩
  | cons a t ih=>
   obtain⟨p,e1,e2⟩:=ih λu hu=>ha u (aF _ hu)
   obtain⟨q,e3,e4⟩:=ha a aB
   exact⟨q::p,by rw[e1,e3];rfl,by simpa using ⟨e4,e2⟩⟩
 obtain⟨rfl,hp⟩:=hp
 refine⟨p,st',?_,by simpa [bQ] using hl,hp,p1,p2⟩
 have run:dZ [("row",0)] iC fM [some (.ref r),some (.int (n:Int))] (none,bZ 0 n) st= .ok (.ref st.length) st':=by
  unfold dZ
  rw[e]
 have tc:qo [.ref st.length] st'= .ok (.tup (p.map Wv.int)) st':=by
  show(match ao st' st.length with | some ws=>Re.ok (Wv.tup ws) st' | none=> .bad)=_
  rw[bY hg]
 unfold bR df l_
 have r1:xh [.int (n:Int)] st= .ok (none,bZ 0 n) st:=by rw[zE cn];simp
 simp[r1,run,tc,tI]
theorem mixed{st:Hs}{c k:Int}(h0:0<=k)(h1:k < 1000000):∃v:Int,0<=v/\cb [.int c,.int k] st= .ok (.int v) st:=by
 have z1:b8 (.int 7919) (.int k) st= .ok (.int (7919 * k)) st:=oW (by decide) (by decide)
 have z2:∀i:Int,b8 (.int i) (.int 48271) st= .ok (.int (i * 48271)) st:=λi=>mul_r (by decide) (by decide)
 have z3:∀i:Int,b8 (.int i) (.int 69621) st= .ok (.int (i * 69621)) st:=λi=>mul_r (by decide) (by decide)
 generalize hs:((c.fmod 1000000007+7919 * k+1) * 48271).fmod 2147483647=s
 have s0:0<=s:=by rw[<-hs];exact j8 _ (by decide)
 have s1:s < 2147483647:=by rw[<-hs];exact lC _ (by decide)
 have z4:b8 (.int s) (.int s) st= .ok (.int (s * s)) st:=oW (by omega) (by omega)
 refine⟨((s * s).fmod 2147483629 * 69621).fmod 2147483647,j8 _ (by decide),?_⟩
 unfold cb df kX
 simp[z1,z2,z3,z4,hs,gT]
theorem zO{ns:List Int}{k:Int}(h0:0<=k)(c:k < ns.length):L2.qi (ns.map Wv.int) k=some (.int (ns.getD k.toNat 0)):=by
 have hk:k.toNat < ns.length:=by omega
 have ek:k=((k.toNat:Nat):Int):=by omega
 have q:=L2.Ar (xs:=ns.map Wv.int) (j:=k.toNat) (v:=.int (ns.getD k.toNat 0)) (by simp[hk])
 rw[<-ek] at q
 exact q
theorem Bo{st:Hs}{l:Nat}{ns:List Int}(h:ao st l=some (ns.map Wv.int)){k:Int}(h0:0<=k):∃v:Int,cI [.ref l,.int k] st= .ok (.int v) st:=by
 have ln:=Bl h
 rw[bc] at ln
 unfold cI df je
 by_cases c:k < ns.length
 ·exact⟨_,by simp[ln,c,C_ h (zO h0 c)];rfl⟩
 ·exact⟨0,by simp[ln,c]⟩
theorem LI{st:Hs}:qw (.int 10) (.int 60) st= .ok (.int (10 ^ 60)) st:=RG (by decide)
theorem Hf{lo c:Int}{n:Nat}{j:Nat}{w:Wv}(h:(qx lo c n)[j]? =some w):w= .int (lo+j * c)/\j < n:=by
 have hj:j < n:=by
  have:=(List.getElem?_eq_some_iff.mp h).1
  rw[oP] at this
  exact this
 rw[uD hj] at h
 exact⟨(Option.some.inj h).symm,hj⟩
theorem OM{c:Int}{k:Nat}(h0:0<=c)(h1:c < (10 ^ 60) ^ k)(hk:k<=5):IntMulOk c (10 ^ 60):=by
 have b:c.natAbs < 2 ^ 1000:=by
  have e:(10 ^ 60:Int) ^ k < 2 ^ 1000:=by
   have hk':k=0\/k=1\/k=2\/k=3\/k=4\/k=5:=by omega
   rcases hk' with rfl | rfl | rfl | rfl | rfl | rfl<;>decide+kernel
  have e2:((2 ^ 1000:Nat):Int)=2 ^ 1000:=by norm_cast
  omega
 exact IntMulOk.of_bits (aW (Kn b) (by decide)) (aW (Kn (k:=200) (by decide+kernel)) (by decide))
theorem stream{st:Hs}{l:Nat}{ns:List Int}(h:ao st l=some (ns.map Wv.int))(hn:ns.length<=63){k:Int}(h0:0<=k)(h1:k<=12):∃n:Int,fu [.ref l,.int k] st= .ok (.ref st.length) (st++[.lst [.int n]]):=by
 obtain⟨v0,XB⟩:=Bo h (k:=0) (Int.le_refl _)
 have ln:=Bl h
 rw[bc] at ln
 have sm:=LH h
 have cr:Dz (k+1) ns.length 13:=⟨by omega,by omega,by omega,by omega,by decide,by decide⟩
 have sn:jd (k+1) ns.length 13<=5:=by
  unfold jd
  split<;>omega
 have l1:∃(o3:Option Wv)(c:Int),du 3 cC (qx (k+1) 13 (jd (k+1) ns.length 13)) [some (.ref l),some (.int k),some (.int 0),none,none] st= .nx [some (.ref l),some (.int k),some (.int c),o3,none] st:=by
  obtain⟨ρ,st',e,o3,c,rfl,rfl,_,_⟩:=mP (i:=3) (gb:=cC) (λi ρ st'=>∃(o3:Option Wv)(c:Int),ρ=[some (.ref l),some (.int k),some (.int c),o3,none]/\st'=st/\0<=c/\c < (10 ^ 60) ^ i) (qx (k+1) 13 (jd (k+1) ns.length 13)) 0 [some (.ref l),some (.int k),some (.int 0),none,none] st ⟨none,0,rfl,rfl,by decide,by decide⟩ (by
   rintro j w hw _ s ⟨o3,c,rfl,rfl,c0,c1⟩
   obtain⟨rfl,hj⟩:=Hf hw
   have Y7:0+j<=5:=by omega
   have jx:k+1+(j:Int) * 13 < ns.length:=by
    unfold jd at hj
    split at hj<;>omega
   have m1:b8 (.int c) (.int (10 ^ 60)) s= .ok (.int (c * 10 ^ 60)) s:=Bk (OM c0 c1 Y7)
   have m2:oMod (.int (ns.getD (k+1+(j:Int) * 13).toNat 0)) (.int (10 ^ 60)) s= .ok (.int ((ns.getD (k+1+(j:Int) * 13).toNat 0).fmod (10 ^ 60))) s:=gT (by decide)
   have x1:=C_ h (zO (k:=k+1+(j:Int) * 13) (by omega) jx)
   have q0:=j8 (ns.getD (k+1+(j:Int) * 13).toNat 0) (b:=10 ^ 60) (by decide)
   have q1:=lC (ns.getD (k+1+(j:Int) * 13).toNat 0) (b:=10 ^ 60) (by decide)
   generalize (ns.getD (k+1+(j:Int) * 13).toNat 0).fmod (10 ^ 60)=q at m2 q0 q1
   refine⟨_,_,?_,⟨some (.int (k+1+(j:Int) * 13)),c * 10 ^ 60+q,rfl,rfl,?_,?_⟩⟩
   ·unfold cC
    simp only[uK,ir,cN,e_c,cL,cQ,List.set_cons_zero,List.set_cons_succ,cM,a_,nU,LI,dU,m1,x1,m2,RE,dj]
   ·have:=Int.mul_nonneg c0 (show(0:Int)<=10 ^ 60 by decide)
    omega
   ·have e:(10 ^ 60:Int) ^ (0+j+1)=(10 ^ 60) ^ (0+j) * 10 ^ 60:=Int.pow_succ ..
    rw[e]
    have:(c+1) * 10 ^ 60<=(10 ^ 60) ^ (0+j) * 10 ^ 60:=Int.mul_le_mul_of_nonneg_right (by omega) (by decide)
    rw[Int.add_mul] at this
    omega)
  exact⟨o3,c,e⟩
 obtain⟨o3,c,e1⟩:=l1
 have l2:∃(Pl:Option Wv)(g':Int),du 3 eN (bZ 0 8) [some (.ref l),some (.int k),some (.int c),o3,some (.int 0)] st= .nx [some (.ref l),some (.int k),some (.int c),Pl,some (.int g')] st:=by
  obtain⟨ρ,st',e,Pl,g',rfl,rfl⟩:=xR (i:=3) (gb:=eN) (λρ st'=>∃(o3:Option Wv)(g:Int),ρ=[some (.ref l),some (.int k),some (.int c),o3,some (.int g)]/\st'=st) (bZ 0 8) [some (.ref l),some (.int k),some (.int c),o3,some (.int 0)] st ⟨o3,0,rfl,rfl⟩ (by
   rintro w hw _ s ⟨o3,g,rfl,rfl⟩
   obtain⟨j,rfl,j0,j1⟩:=vZ hw
   obtain⟨u,_,eu⟩:=mixed (st:=s) (c:=c+ns.sum) (k:=8 * k+j) (by omega) (by omega)
   have z1:b8 (.int 8) (.int k) s= .ok (.int (8 * k)) s:=oW (by decide) (by decide)
   have z3:b8 (.int g) (.int 2147483647) s= .ok (.int (g * 2147483647)) s:=mul_r (by decide) (by decide)
   refine⟨_,_,?_,⟨some (.int j),g * 2147483647+u,rfl,rfl⟩⟩
   unfold eN
   simp[sm,z1,z3,eu])
  exact⟨Pl,g',e⟩
 obtain⟨Pl,g',e2⟩:=l2
 have f8:∀i:Int,bB (.int i) (.int 8) st= .ok (.int (i.fdiv 8)) st:=λi=>gw (by decide)
 have c8:dE 8:=zF (by decide) (by decide)
 have Y8:∀(ga:GA)(ρ:bF)(s s1:Hs)(a b c:Int),ga ρ s= .ok [.int a,.int b,.int c] s1->Dz a b c->sf 3 ga cC ρ s=du 3 cC (qx a c (jd a b c)) ρ s1:=λga ρ s s1 a b c h1 h2=>by
  unfold sf
  rw[h1]
  show(if Dz a b c then _ else _)=_
  rw[if_pos h2]
 have e3:=Y8 (af (ag cu (aa 1) (gC (.int 1))) (af (a7 nq (af (aa 0) aq)) (af (gC (.int 13)) aq))) [some (.ref l),some (.int k),some (.int 0),none,none] st st (k+1) ns.length 13 (by simp[ln]) cr
 rw[e1] at e3
 unfold fu df jS
 by_cases b:v0.fmod 2=1
 ·exact⟨c,by simp[e3,XB,gT,b]⟩
 ·have b':(v0.fmod 2 == 1)=false:=beq_false_of_ne b
  exact⟨g'.fdiv 8,by simp[e3,XB,gT,b',c8,e2,f8]⟩
inductive Fm
 | lit (x:S) (ws:List Wv)
 | pt (x:S) (l p:List Int)
 | fd (a:Fm) (l p:List Int)
 | o1 (x:S) (a:Fm)
 | o2 (x:S) (a b:Fm)
 | o3 (a b c:Fm)
def Fm.v:Fm->S×List Wv
 | .lit x ws=>(x,ws)
 | .pt x l p=>(x,[tI l,tI p])
 | .fd a l p=>("find",[.tup (.str a.v.1::a.v.2),tI l,tI p])
 | .o1 x a=>(x,[.tup (.str a.v.1::a.v.2)])
 | .o2 x a b=>(x,[.tup (.str a.v.1::a.v.2),.tup (.str b.v.1::b.v.2)])
 | .o3 a b c=>("if",[.tup (.str a.v.1::a.v.2),.tup (.str b.v.1::b.v.2),.tup (.str c.v.1::c.v.2)])
def Fm.w(f:Fm):Wv:=.tup (.str f.v.1::f.v.2)
def Fm.dp:Fm->Nat
 | .lit _ _=>1
 | .pt _ _ _=>1
 | .fd a _ _=>a.dp+1
 | .o1 _ a=>a.dp+1
 | .o2 _ a b=>max a.dp b.dp+1
 | .o3 a b c=>max a.dp (max b.dp c.dp)+1
def RP(x:S)(ws:List Wv):Prop:=(x="num"/\∃i,ws=[.int i])\/(x="text"/\∃s,ws=[.str s])\/(x="lost"/\ws=[])
def Bp(q:Int):Prop:=q=0\/q=1
def Y9(l p:List Int):Prop:=∃a b q r,l=[a,b]/\p=[q,r]/\Bp q/\Bp r
def XC(l p:List Int):Prop:=∃a b c d q r s t,l=[a,b,c,d]/\p=[q,r,s,t]/\Bp q/\Bp r/\Bp s/\Bp t
def AW:List S:=["sum","count","least","greatest"]
def W1:List S:=["minus","not"]
def W2:List S:=["else","rest","+","-","*","/","&","<","="]
def Fm.sh:Fm->Prop
 | .lit x ws=>RP x ws
 | .pt x l p=>(x="at"/\Y9 l p)\/(x∈AW/\XC l p)
 | .fd a l p=>a.sh/\XC l p
 | .o1 x a=>x∈W1/\a.sh
 | .o2 x a b=>x∈W2/\a.sh/\b.sh
 | .o3 a b c=>a.sh/\b.sh/\c.sh
def kE(a b:Int):Prop:=0<=a/\a<=98/\0<=b/\b<=25
def Fits:List Int->Prop
 | [a,b]=>kE a b
 | [a,b,c,d]=>fm a b c d
 | _=>False
def Fm.fit:Fm->Prop
 | .lit _ _=>True
 | .pt _ l _=>Fits l
 | .fd a l _=>a.fit/\Fits l
 | .o1 _ a=>a.fit
 | .o2 _ a b=>a.fit/\b.fit
 | .o3 a b c=>a.fit/\b.fit/\c.fit
def Bq:Int:=10 ^ 60
theorem zP{st:Hs}:qw (.int 10) (.int 60) st= .ok (.int Bq) st:=LI
theorem pick{r:Nat}{st:Hs}{ws:List Wv}{m:Int}(h:Ro r st)(hw:(ws.length:Int)=m)(h0:0 < m)(h1:m < 1000000) :
  ∃d v st',av [.ref r,.int m] (st++[.lst ws])= .ok (.int d) st'/\aU (.ref st.length) (.int d) st'= .ok v st'/\v∈ws/\Dw r st st':=by
 have hr:r < st.length:=let ⟨v,e⟩:=h;bE e
 obtain⟨d,s2,e2,d0,d1,k2,VJ⟩:=dig (m:=m) (h.push (o:=.lst ws)) h0 h1
 obtain⟨v,e3,e4⟩:=xS (ws:=ws) (d:=d) d0 (by omega)
 exact⟨d,v,s2,e2,C_ (k2.lst cA (by omega)) e3,e4,bA.push.trans k2,VJ⟩
theorem RQ{r:Nat}{st:Hs}(h:Ro r st):∃q s st',bR [.ref r,.int 2] st= .ok (tI [q,s]) st'/\Bp q/\Bp s/\Dw r st st':=by
 obtain⟨p,st',e,hl,hp,d⟩:=pins h (n:=2) (by decide)
 match p,hl with
 | [q,s],_=>exact⟨q,s,st',e,hp q (by simp),hp s (by simp),d⟩
theorem LJ{r:Nat}{st:Hs}(h:Ro r st):∃q s t u st',bR [.ref r,.int 4] st= .ok (tI [q,s,t,u]) st'/\Bp q/\Bp s/\Bp t/\Bp u/\Dw r st st':=by
 obtain⟨p,st',e,hl,hp,d⟩:=pins h (n:=4) (by decide)
 match p,hl with
 | [q,s,t,u],_=>exact⟨q,s,t,u,st',e,hp q (by simp),hp s (by simp),hp t (by simp),hp u (by simp),d⟩
theorem number{r:Nat}{st:Hs}(h:Ro r st):∃n st',ft [.ref r] st= .ok (.int n) st'/\Dw r st st':=by
 obtain⟨w,s1,e1,w0,w1,d1⟩:=dig (m:=5) h (by decide) (by decide)
 unfold ft df jQ
 by_cases c0:w=0
 ·obtain⟨d,s2,e2,a0,a1,d2⟩:=dig (m:=3) d1.2 (by decide) (by decide)
  subst c0
  exact⟨Bq - d,s2,by simp[e1,e2,zP],d1.trans d2⟩
 have b0:(w == 0)=false:=beq_false_of_ne c0
 obtain⟨d,s2,e2,a0,a1,d2⟩:=dig (m:=6) d1.2 (by decide) (by decide)
 exact⟨d,s2,by simp[e1,e2,b0],d1.trans d2⟩
def t6(a b:Int):Prop:=0<=a/\a<=96/\0<=b/\b<=22
theorem ON{r:Nat}{st:Hs}{a b:Int}(h:Ro r st)(k:t6 a b):∃c d st',dG [.ref r,tI [a,b]] st= .ok (tI [c,d]) st'/\Fits [c,d]/\Dw r st st':=by
 obtain⟨c,d,s1,e,hc,d1⟩:=place (a:=a) (b:=b) h
 exact⟨_,_,s1,e,by unfold t6 at k;show kE _ _;unfold kE;omega,d1⟩
theorem LK{r:Nat}{st:Hs}{a b:Int}(h:Ro r st)(k:t6 a b):∃c d e f st',dz [.ref r,tI [a,b]] st= .ok (tI [c,d,e,f]) st'/\Fits [c,d,e,f]/\Dw r st st':=by
 obtain⟨t,l,p,q,s1,e,hc,d1⟩:=VI (a:=a) (b:=b) h
 refine⟨_,_,_,_,s1,e,?_,d1⟩
 unfold t6 at k
 show fm _ _ _ _
 unfold fm
 have:=RO (x:=a+p - (a+t)+1) (y:=b+q - (b+l)+1) (p:=3) (q:=4) (by omega) (by omega) (by omega) (by omega)
 omega
theorem leaf{r:Nat}{st:Hs}{a b:Int}(h:Ro r st)(hs:t6 a b):∃f st',fY [.ref r,tI [a,b]] st= .ok (Fm.w f) st'/\f.sh/\f.fit/\f.dp=1/\Dw r st st':=by
 obtain⟨w,s1,e1,w0,w1,d1⟩:=dig (m:=8) h (by decide) (by decide)
 unfold fY df me
 by_cases c0:w=0
 ·subst c0
  obtain⟨i,s2,e2,d2⟩:=number d1.2
  exact⟨.lit "num" [.int i],s2,by simp[e1,e2,Fm.w,Fm.v],.inl ⟨rfl,i,rfl⟩,trivial,rfl,d1.trans d2⟩
 have b0:(w == 0)=false:=beq_false_of_ne c0
 by_cases c1:w=1
 ·subst c1
  obtain⟨d,v,s4,e4,e5,hv,d4⟩:=pick (m:=4) (ws:=[.str "",.str "a",.str "b7",.str "no"]) d1.2 rfl (by decide) (by decide)
  obtain⟨i,rfl⟩:∃i:S,v= .str i:=by simp at hv;rcases hv with rfl | rfl | rfl | rfl<;>exact⟨_,rfl⟩
  exact⟨.lit "text" [.str i],s4,by simp[e1,e4,e5,Fm.w,Fm.v],.inr (.inl ⟨rfl,i,rfl⟩),trivial,rfl,d1.trans d4⟩
 have b1:(w == 1)=false:=beq_false_of_ne c1
 have at':∀s2,Dw r s1 s2->∃(c d q s:Int)(s4 s5:Hs),dG [.ref r,tI [a,b]] s2= .ok (tI [c,d]) s4/\bR [.ref r,.int 2] s4= .ok (tI [q,s]) s5/\Fits [c,d]/\Bp q/\Bp s/\Dw r st s5:=λs2 d2=>by
  obtain⟨c,d,s4,e4,hf,d4⟩:=ON d2.2 hs
  obtain⟨q,s,s5,e5,q1,q2,d5⟩:=RQ d4.2
  exact⟨c,d,q,s,s4,s5,e4,e5,hf,q1,q2,((d1.trans d2).trans d4).trans d5⟩
 by_cases c2:w=2
 ·subst c2
  obtain⟨x,s2,e2,x0,x1,d2⟩:=dig (m:=3) d1.2 (by decide) (by decide)
  by_cases cx:x=0
  ·subst cx
   exact⟨.lit "lost" [],s2,by simp[e1,e2,Fm.w,Fm.v],.inr (.inr ⟨rfl,rfl⟩),trivial,rfl,d1.trans d2⟩
  ·have bx:(x == 0)=false:=beq_false_of_ne cx
   obtain⟨c,d,q,s,s4,s5,e4,e5,hf,q1,q2,d5⟩:=at' s2 d2
   exact⟨.pt "at" [c,d] [q,s],s5,by simp[e1,e2,bx,e4,e5,Fm.w,Fm.v],.inl ⟨rfl,c,d,q,s,rfl,rfl,q1,q2⟩,hf,rfl,d5⟩
 have b2:(w == 2)=false:=beq_false_of_ne c2
 by_cases c3:w < 6
 ·obtain⟨c,d,q,s,s4,s5,e4,e5,hf,q1,q2,d5⟩:=at' s1 (Dw.of d1.2)
  exact⟨.pt "at" [c,d] [q,s],s5,by simp[e1,b0,b1,b2,c3,e4,e5,Fm.w,Fm.v],.inl ⟨rfl,c,d,q,s,rfl,rfl,q1,q2⟩,hf,rfl,d5⟩
 ·obtain⟨d,v,s2,e2,e3,hv,d2⟩:=pick (m:=4) (ws:=[.str "sum",.str "count",.str "least",.str "greatest"]) d1.2 rfl (by decide) (by decide)
  obtain⟨x,rfl,hx⟩:∃x:S,v= .str x/\x∈AW:=by simp at hv;rcases hv with rfl | rfl | rfl | rfl<;>exact⟨_,rfl,by decide+kernel⟩
  obtain⟨a',b',c',d',s3,e4,har,d3⟩:=LK d2.2 hs
  obtain⟨q,s,t,u,s4,e5,q1,q2,q3,q4,d4⟩:=LJ d3.2
  exact⟨.pt x [a',b',c',d'] [q,s,t,u],s4,by simp[e1,b0,b1,b2,c3,e2,e3,e4,e5,Fm.w,Fm.v],.inr ⟨hx,a',b',c',d',q,s,t,u,rfl,rfl,q1,q2,q3,q4⟩,har,rfl,((d1.trans d2).trans d3).trans d4⟩
theorem uO{st:Hs}{ws:List Wv}{d:Int}(h0:0<=d)(h1:d < ws.length):∃v,aU (.ref st.length) (.int d) (st++[.lst ws])= .ok v (st++[.lst ws])/\v∈ws:=by
 obtain⟨v,e3,e4⟩:=xS (ws:=ws) (d:=d) h0 h1
 exact⟨v,C_ cA e3,e4⟩
theorem Dw.push{r:Nat}{st:Hs}{o:Ob}(h:Ro r st):Dw r st (st++[o]):=⟨bA.push,h.push⟩
theorem qT{r:Nat}{a b:Int}(hs:t6 a b):∀(n:Nat){st:Hs}{k:Nat},Ro r st->k<=n->∃f st',bS (n+1) [.ref r,tI [a,b],.int k] st= .ok (Fm.w f) st'/\f.sh/\f.fit/\f.dp<=k+1/\Dw r st st'
 | n,st,k,h,hk=>by
  rw[ny]
  unfold df gA
  by_cases c0:k=0
  ·obtain⟨f,s2,e2,h1,h2,h3,d2⟩:=leaf h hs
   subst c0
   exact⟨f,s2,by simp[e2],h1,h2,by omega,d2⟩
  obtain⟨w,s1,e1,w0,w1,d1⟩:=dig (m:=16) h (by decide) (by decide)
  have bk:((k:Int) == 0)=false:=beq_false_of_ne (by omega)
  by_cases cw:w < 3
  ·obtain⟨f,s2,e2,h1,h2,h3,d2⟩:=leaf d1.2 hs
   exact⟨f,s2,by simp[e1,e2,bk,cw],h1,h2,by omega,d1.trans d2⟩
  obtain⟨n',rfl⟩:∃n',n=n'+1:=⟨n - 1,by omega⟩
  have ek:((k:Int) - 1)=((k - 1:Nat):Int):=by omega
  obtain⟨x,s2,e2,a1,a2,a3,d2⟩:=qT hs n' (k:=k - 1) d1.2 (by omega)
  by_cases c5:w < 5
  ·obtain⟨v,e3,hv⟩:=uO (st:=s2) (ws:=[.str "minus",.str "not"]) (d:=w - 3) (by omega) (by simp;omega)
   obtain⟨y,rfl,hy⟩:∃y:S,v= .str y/\y∈W1:=by simp at hv;rcases hv with rfl | rfl<;>exact⟨_,rfl,by decide+kernel⟩
   refine⟨.o1 y x,s2++[.lst [.str "minus",.str "not"]],?_,⟨hy,a1⟩,a2,by simp only[Fm.dp];omega,(d1.trans d2).trans (Dw.push d2.2)⟩
   simp[e1,bk,cw,ek,e2,c5,e3]
   rfl
  by_cases c6:w=5
  ·subst c6
   obtain⟨a',b',c',d',s3,e3,har,d3⟩:=LK d2.2 hs
   obtain⟨q,s,t,u,s4,e4,q1,q2,q3,q4,d4⟩:=LJ d3.2
   refine⟨.fd x [a',b',c',d'] [q,s,t,u],s4,?_,⟨a1,a',b',c',d',q,s,t,u,rfl,rfl,q1,q2,q3,q4⟩,⟨a2,har⟩,by simp only[Fm.dp];omega,((d1.trans d2).trans d3).trans d4⟩
   simp[e1,bk,ek,e2,e3,e4]
   rfl
  have b6:(w == 5)=false:=beq_false_of_ne c6
  obtain⟨y,s3,e3,b1,b2,b3,d3⟩:=qT hs n' (k:=k - 1) d2.2 (by omega)
  by_cases c8:w < 8
  ·obtain⟨z,s4,e4,z1,z2,z3,d4⟩:=qT hs n' (k:=k - 1) d3.2 (by omega)
   refine⟨.o3 x y z,s4,?_,⟨a1,b1,z1⟩,⟨a2,b2,z2⟩,by simp only[Fm.dp];omega,((d1.trans d2).trans d3).trans d4⟩
   simp[e1,bk,cw,c5,b6,ek,e2,e3,c8,e4]
   rfl
  by_cases XD:w=15
  ·subst XD
   obtain⟨d,v,s4,e4,e5,hv,d4⟩:=pick (m:=2) (ws:=[.str "=",.str "&"]) d3.2 rfl (by decide) (by decide)
   obtain⟨o,rfl,ho⟩:∃y:S,v= .str y/\y∈W2:=by simp at hv;rcases hv with rfl | rfl<;>exact⟨_,rfl,by decide+kernel⟩
   refine⟨.o2 o x y,s4,?_,⟨ho,a1,b1⟩,⟨a2,b2⟩,by simp only[Fm.dp];omega,((d1.trans d2).trans d3).trans d4⟩
   simp[e1,bk,ek,e2,e3,e4,e5]
   rfl
  have Y_:(w == 15)=false:=beq_false_of_ne XD
  obtain⟨v,e4,hv⟩:=uO (st:=s3) (ws:=[.str "else",.str "rest",.str "+",.str "-",.str "*",.str "/",.str "<"]) (d:=w - 8) (by omega) (by simp;omega)
  obtain⟨o,rfl,ho⟩:∃y:S,v= .str y/\y∈W2:=by simp at hv;rcases hv with rfl | rfl | rfl | rfl | rfl | rfl | rfl<;>exact⟨_,rfl,by decide+kernel⟩
  refine⟨.o2 o x y,s3++[.lst [.str "else",.str "rest",.str "+",.str "-",.str "*",.str "/",.str "<"]],?_,⟨ho,a1,b1⟩,⟨a2,b2⟩,by simp only[Fm.dp];omega,((d1.trans d2).trans d3).trans (Dw.push d3.2)⟩
  simp[e1,bk,cw,c5,b6,ek,e2,e3,c8,Y_,e4]
  rfl
def Cn(v:Wv):Prop:=(∃i:Int,v= .int i)\/(∃x:S,v= .str x)\/∃f:Fm,v=f.w/\f.sh/\f.fit/\f.dp<=3
theorem RS:IntMulOk 2 Bq:=by unfold Bq;decide+kernel
theorem content{r:Nat}{st:Hs}{a b:Int}{k:Nat}(h:Ro r st)(hs:t6 a b)(hk:k<=2):∃v st',dk [.ref r,tI [a,b],.int k] st= .ok v st'/\(v= .bg\/Cn v)/\Dw r st st':=by
 obtain⟨w,s1,e1,w0,w1,d1⟩:=dig (m:=8) h (by decide) (by decide)
 unfold dk df jg
 by_cases c0:w=0
 ·subst c0
  exact⟨.bg,s1,by simp[e1],.inl rfl,d1⟩
 have b0:(w == 0)=false:=beq_false_of_ne c0
 by_cases c1:w=1
 ·subst c1
  obtain⟨v,e⟩:=id d1.2
  have e2:=digit (many:=2 * Bq+1) e ⟨by unfold Bq;decide+kernel,by unfold Bq;decide+kernel⟩
  refine⟨.int (v.fmod (2 * Bq+1) - Bq),s1.set r (.lst [.int (v.fdiv (2 * Bq+1))]),?_,.inr (.inl ⟨_,rfl⟩),d1.trans ⟨bA.set,_,aP e⟩⟩
  simp[e1,zP,Bk RS,e2]
 have b1:(w == 1)=false:=beq_false_of_ne c1
 by_cases c2:w=2
 ·subst c2
  obtain⟨d,s2,e2,_,_,d2⟩:=dig (m:=5) d1.2 (by decide) (by decide)
  exact⟨.int (d - 1),s2,by simp[e1,e2],.inr (.inl ⟨_,rfl⟩),d1.trans d2⟩
 have b2:(w == 2)=false:=beq_false_of_ne c2
 by_cases c3:w=3
 ·subst c3
  obtain⟨d,v,s4,e4,e5,hv,d4⟩:=pick (m:=4) (ws:=[.str "",.str "a",.str "b7",.str "no"]) d1.2 rfl (by decide) (by decide)
  obtain⟨i,rfl⟩:∃i:S,v= .str i:=by simp at hv;rcases hv with rfl | rfl | rfl | rfl<;>exact⟨_,rfl⟩
  exact⟨.str i,s4,by simp[e1,e4,e5],.inr (.inr (.inl ⟨i,rfl⟩)),d1.trans d4⟩
 have b3:(w == 3)=false:=beq_false_of_ne c3
 obtain⟨f,s2,e2,h1,h2,h3,d2⟩:=qT hs 5 (k:=k) d1.2 (by omega)
 have Lj:aS [.ref r,tI [a,b],.int k] s1= .ok f.w s2:=e2
 exact⟨f.w,s2,by simp[e1,b0,b1,b2,b3,Lj],.inr (.inr (.inr ⟨f,rfl,h1,h2,by omega⟩)),d1.trans d2⟩
theorem spot{st:Hs}{l:Nat}{ns:List Int}(h:ao st l=some (ns.map Wv.int)):∃a b st',cV [.ref l] st= .ok (tI [a,b]) st'/\t6 a b/\∃more,st'=st++more:=by
 obtain⟨v,e⟩:=Bo h (k:=0) (by decide)
 have lg:∀j:Int,(j=2\/j=4\/j=400)->j≠0/\j.natAbs.log2 < 9000:=by rintro j (rfl | rfl | rfl)<;>decide+kernel
 let f:=v.fdiv 2
 let x:=(f.fdiv 4).fmod 97
 let y:=(f.fdiv 400).fmod 23
 have x0:0<=x:=j8 _ (by decide)
 have x1:x < 97:=lC _ (by decide)
 have y0:0<=y:=j8 _ (by decide)
 have y1:y < 23:=lC _ (by decide)
 let s1:=st++[.lst [.int 0,.int x]]
 let s2:=s1++[.lst [.int 0,.int y]]
 obtain⟨p,e2,hp⟩:=uO (st:=st) (ws:=[.int 0,.int x]) (d:=f.fmod 2) (j8 _ (by decide)) (by simpa using lC f (by decide))
 obtain⟨q,e3,hq⟩:=uO (st:=s1) (ws:=[.int 0,.int y]) (d:=(f.fdiv 2).fmod 2) (j8 _ (by decide)) (by simpa using lC (f.fdiv 2) (by decide))
 obtain⟨a,rfl,ha⟩:∃a:Int,p= .int a/\0<=a/\a<=96:=by
  simp at hp
  rcases hp with rfl | rfl
  ·exact⟨0,rfl,by omega⟩
  ·exact⟨x,rfl,by omega⟩
 obtain⟨b,rfl,hb⟩:∃b:Int,q= .int b/\0<=b/\b<=22:=by
  simp at hq
  rcases hq with rfl | rfl
  ·exact⟨0,rfl,by omega⟩
  ·exact⟨y,rfl,by omega⟩
 refine⟨a,b,s2,?_,⟨ha.1,ha.2,hb.1,hb.2⟩,[.lst [.int 0,.int x],.lst [.int 0,.int y]],by simp[s2,s1]⟩
 have m1:∀{i:Int}{s:Hs},oMod (.int i) (.int 97) s= .ok (.int (i.fmod 97)) s:=gT (by decide)
 have m2:∀{i:Int}{s:Hs},oMod (.int i) (.int 23) s= .ok (.int (i.fmod 23)) s:=gT (by decide)
 have m3:∀{i:Int}{s:Hs},oMod (.int i) (.int 2) s= .ok (.int (i.fmod 2)) s:=gT (by decide)
 have f2:∀{i:Int}{s:Hs},bB (.int i) (.int 2) s= .ok (.int (i.fdiv 2)) s:=gw (lg 2 (by simp))
 have f4:∀{i:Int}{s:Hs},bB (.int i) (.int 4) s= .ok (.int (i.fdiv 4)) s:=gw (lg 4 (by simp))
 have VL:∀{i:Int}{s:Hs},bB (.int i) (.int 400) s= .ok (.int (i.fdiv 400)) s:=gw (lg 400 (by simp))
 unfold cV df l3
 dsimp only[s1,x,y,f] at e2 e3 ⊢
 simp[e,m1,m2,m3,f2,f4,VL,e2]
 simp at e3
 simp[e3,tI,s2,s1,x,y,f]
def ky(p q:Int):List L2.Key:=[.inl p,.inl q]
theorem VM{p q:Int}:lW (tI [p,q])=some (ky p q):=rfl
theorem VN{st:Hs}{l:Nat}{kvs:List (List L2.Key×Wv)}{p q:Int}{i j:Nat}{ρ:bF}(hi:ρ[i]? =some (some (.ref l)))(hj:ρ[j]? =some (some (tI [p,q])))(h:bV st[l]? =some kvs) :
  si (aa i) (aa j) ρ st= .ok ((en kvs (ky p q)).getD .bg) st:=by
 have e1:aa i ρ st= .ok (.ref l) st:=by unfold aa;rw[hi]
 have e2:aa j ρ st= .ok (tI [p,q]) st:=by unfold aa;rw[hj]
 unfold si
 rw[e1]
 show(if _ then _ else _)=_
 rw[h,if_pos (show(some kvs).isSome=true from rfl),e2]
 show(match lW (tI [p,q]),bV st[l]? with | some kk,some kvs=>Re.ok ((en kvs kk).getD .bg) st | _,_=> .bad)=_
 rw[VM,h]
def RT:Wv->Bool
 | .tup _=>true
 | _=>false
theorem XE{v:Wv}{st:Hs}(h:v= .bg\/Cn v):nQ pf nW [v,.ty "tuple"] st= .ok (.bl (RT v)) st:=by
 rcases h with rfl | ⟨i,rfl⟩ | ⟨x,rfl⟩ | ⟨f,rfl,_⟩<;>rfl
theorem yb{st:Hs}{l:Nat}{kvs:List (List L2.Key×Wv)}{p q:Int}(h:bV st[l]? =some kvs)(hk:∀v,en kvs (ky p q)=some v->Cn v) :
  dO [.ref l,tI [p,q]] st= .ok (.bl (RT ((en kvs (ky p q)).getD .bg))) st:=by
 have e:=VN (i:=0) (j:=1) (ρ:=[some (.ref l),some (tI [p,q])]) rfl rfl h
 have t:=XE (st:=st) (v:=(en kvs (ky p q)).getD .bg) (by
  cases c:en kvs (ky p q) with
  | none=>exact .inl rfl
  | some v=>exact .inr (hk v c))
 unfold dO df jU
 simp[e,t]
theorem Gr.Hg{base st:Hs}{l:Nat}{o:Ob}(h:base.length<=l)(g:Gr base st):Gr base (st.set l o):=Gr.jP h g bA.set
theorem Y'{a b c d:Wv}{st:Hs}:aU (.tup [a,b,c,d]) (.int 0) st= .ok a st/\aU (.tup [a,b,c,d]) (.int 1) st= .ok b st/\aU (.tup [a,b,c,d]) (.int 2) st= .ok c st/\aU (.tup [a,b,c,d]) (.int 3) st= .ok d st:=⟨rfl,rfl,rfl,rfl⟩
theorem uP{st:Hs}{xs:List Ob}{ws:List Wv}:ao (st++ .lst ws::xs) st.length=some ws:=by unfold ao;simp
section
variable {a b c d:Int} {st:Hs}
theorem Pn:L2.qi [Wv.int a,.int b,.int c,.int d] 0=some (.int a):=rfl
theorem Za:L2.qi [Wv.int a,.int b,.int c,.int d] 1=some (.int b):=rfl
theorem Zb:L2.qi [Wv.int a,.int b,.int c,.int d] 3=some (.int d):=rfl
def pe(r b:Int)(n:Nat):List Wv:=(eL n).map λk:Nat=> .tup [.int r,.int (b+k)]
def jr(a b:Int)(m n:Nat):List Wv:=((eL m).map λk:Nat=>pe (a+k) b n).flatten
theorem uQ{m n:Nat}:(jr a b m n).length=m * n:=by
 unfold jr
 rw[List.length_flatten,mr]
 have:(f9 ∘ λk:Nat=>pe (a+k) b n)=λ_=>n:=by funext k;simp[pe]
 rw[this]
 clear this
 induction m with
 | zero=>simp
 | succ m ih=>rw[List.range_succ,ju,List.sum_append,ih,Nat.succ_mul];simp
theorem zQ{m n:Nat}:jr a b (m+1) n=jr a b m n++pe (a+m) b n:=by
 unfold jr
 rw[List.range_succ,ju,List.flatten_append]
 simp
theorem Hh{o:Wv}{r:Int}{st:Hs}(hb:dE b)(hd:dE (d+1))(hn:(d+1 - b).toNat<=300) :
  bO [("row",2)] (Fc (af (ag aU (aa 0) (gC (.int 1))) (af (ag cu (ag aU (aa 0) (gC (.int 3))) (gC (.int 1))) aq))) eF cX [some (.tup [.int a,.int b,.int c,.int d]),some o,some (.int r)] st=
   .ok (.ref st.length) (st++[.lst (pe r b (d+1 - b).toNat)]):=by
 have q:=fX (cs:=[("row",2)]) (gt:=eF) (ge:=cX) (ρ:=[some (.tup [.int a,.int b,.int c,.int d]),some o,some (.int r)]) (w:=(none,bZ b (d+1 - b).toNat)) (st:=st) (t:=λ_=>true) (f:=λv=> .tup [.int r,v]) trivial
  (λv _ acc=>rfl) (λv _ _ acc=>by unfold cX;simp[eD]) (by rw[show((none,bZ b (d+1 - b).toNat):Wk).2=bZ b (d+1 - b).toNat from rfl,bQ];unfold lim;omega)
 have e:((bZ b (d+1 - b).toNat).filter λ_=>true).map (λv=>Wv.tup [.int r,v])=pe r b (d+1 - b).toNat:=by
  rw[List.filter_eq_self.mpr (λ_ _=>rfl)]
  unfold bZ pe
  rw[mr]
  rfl
 rw[show((none,bZ b (d+1 - b).toNat):Wk).2=bZ b (d+1 - b).toNat from rfl,e] at q
 simp[c9 Za,c9 Zb,OJ hb hd,q]
theorem Ko{st more:Hs}{acc row:List Wv}(h:acc.length+row.length<=lim):E2 (.ref st.length) (.ref (st++ .lst acc::more).length) ((st++ .lst acc::more)++[.lst row])= .ok .bg (st++ .lst (acc++row)::(more++[.lst row])):=by
 have g1:((st++Ob.lst acc::more)++[Ob.lst row])[st.length]? =some (.lst acc):=by simp
 have g2:((st++Ob.lst acc::more)++[Ob.lst row])[(st++Ob.lst acc::more).length]? =some (.lst row):=by rw[pA (au _),qJ];rfl
 show(match((st++Ob.lst acc::more)++[Ob.lst row])[st.length]?,((st++Ob.lst acc::more)++[Ob.lst row])[(st++Ob.lst acc::more).length]? with
  | some (.lst ws),some (.lst zs)=>if ws.length+zs.length<=lim then Re.ok Wv.bg (((st++Ob.lst acc::more)++[Ob.lst row]).set st.length (.lst (ws++zs))) else .bad
  | _,_=> .bad)=_
 rw[g1,g2]
 dsimp only
 rw[if_pos h]
 congr 1
 simp
theorem Hi{st more:Hs}{acc row:List Wv}(h:acc.length+row.length<=lim):qq (.ref st.length) (.ref (st++ .lst acc::more).length) ((st++ .lst acc::more)++[.lst row])= .ok .bg (st++ .lst (acc++row)::(more++[.lst row])):=Ko h
theorem Di(hb:dE b)(hd:dE (d+1))(hn:(d+1 - b).toNat<=300){m:Nat}(hm:m<=100){ρ0:Option Wv}:∃(o:Option Wv)(more:Hs),
  du 2 dh (bZ a m) [some (.tup [.int a,.int b,.int c,.int d]),some (.ref st.length),ρ0] (st++[.lst []])= .nx [some (.tup [.int a,.int b,.int c,.int d]),some (.ref st.length),o] (st++ .lst (jr a b m (d+1 - b).toNat)::more):=by
 obtain⟨ρ1,st1,e1,o,more,rfl,rfl⟩:=mP (i:=2) (gb:=dh) (λk ρ st'=>∃(o:Option Wv)(more:Hs),ρ=[some (.tup [.int a,.int b,.int c,.int d]),some (.ref st.length),o]/\st'=st++ .lst (jr a b k (d+1 - b).toNat)::more)
  (bZ a m) 0 [some (.tup [.int a,.int b,.int c,.int d]),some (.ref st.length),ρ0] (st++[.lst []]) ⟨ρ0,[],rfl,rfl⟩ (λj w hw ρ st' hP=>by
   obtain⟨o,more,rfl,rfl⟩:=hP
   have hj:j < m:=by
    have q:=(List.getElem?_eq_some_iff.mp hw).1
    rw[bQ] at q
    exact q
   rw[kn hj] at hw
   cases hw
   have ln:(jr a b (0+j) (d+1 - b).toNat).length+(pe (a+j) b (d+1 - b).toNat).length<=lim:=by
    rw[uQ]
    have z:(pe (a+(j:Int)) b (d+1 - b).toNat).length=(d+1 - b).toNat:=by unfold pe;simp
    rw[z]
    have:(0+j) * (d+1 - b).toNat<=100 * 300:=Br (by omega) hn
    unfold lim
    omega
   refine⟨_,_,?_,some (.int (a+(j:Int))),more++[.lst (pe (a+j) b (d+1 - b).toNat)],rfl,rfl⟩
   have e:jr a b (0+j+1) (d+1 - b).toNat=jr a b (0+j) (d+1 - b).toNat++pe (a+j) b (d+1 - b).toNat:=by rw[wx];exact zQ
   rw[e]
   have rc:=Hh (a:=a) (c:=c) (o:=.ref st.length) (r:=a+(j:Int)) (st:=st++ .lst (jr a b (0+j) (d+1 - b).toNat)::more) hb hd hn
   have km:=λga ρ=>Kl (mt:=qq) (ga:=ga) (ρ:=ρ) (st:=st++ .lst (jr a b (0+j) (d+1 - b).toNat)::more) (l:=st.length) uP
   have em:=Hi (st:=st) (more:=more) ln
   unfold dh
   simp only[e_expr,OI,cN,List.set_cons_succ,List.set_cons_zero,cQ,cL,cM,a_,km,rc,em,dU,dj])
 exact⟨o,more,by rw[e1,bQ,wx]⟩
theorem sQ(h:fm a b c d):∃more:Hs,eV [tI [a,b,c,d]] st= .ok (.ref st.length) (st++ .lst (jr a b (c+1 - a).toNat (d+1 - b).toNat)::more):=by
 unfold fm at h
 obtain⟨o,more,e⟩:=Di (a:=a) (c:=c) (st:=st) (b:=b) (d:=d) (ρ0:=none) (by unfold dE;omega) (by unfold dE;omega) (by omega) (m:=(c+1 - a).toNat) (by omega)
 have ca:dE a:=by unfold dE;omega
 have cc:dE (c+1):=by unfold dE;omega
 refine⟨more,lF (n:=3) (g:=eS) ?_⟩
 unfold eS
 simp[tI,Y',ca,cc]
 simp[e]
end
abbrev Ks:=List (List L2.Key×Wv)
abbrev Pt:=Int×Int
def jy(p:Pt):List L2.Key:=ky p.1 p.2
def hs(p:Pt):Int:=Rj [p.1,p.2]
def hm(p:Pt):Nat:=(hs p % 19291).toNat
theorem zR{a b c d:Int}(h:ky a b=ky c d):a=c/\b=d:=by
 unfold ky at h
 injection h with h1 h2
 injection h2 with h2
 injection h1 with h1
 injection h2 with h2
 exact⟨h1,h2⟩
theorem Kp{kvs:Ks}{k:List L2.Key}{v:Wv}(h:k∉kvs.map (·.1)):lU kvs k v=kvs++[(k,v)]:=by
 unfold lU
 rw[if_neg]
 intro q
 obtain⟨p,hp,e⟩:=List.any_eq_true.mp q
 exact h (List.mem_map.mpr ⟨p,hp,of_decide_eq_true e⟩)
theorem Hj{d:Nat}{kvs:Ks}{a b:Int}{v:Wv}{st:Hs}(h:st[d]? =some (.bq kvs))(hl:kvs.length < 1000):putD (.ref d) (.tup [.int a,.int b]) v st=some (st.set d (.bq (lU kvs (ky a b) v))):=by
 have hk:lW (.tup [.int a,.int b])=some (ky a b):=rfl
 unfold putD
 dsimp only
 rw[h]
 dsimp only
 rw[hk]
 dsimp only
 rw[if_pos (by unfold lim;omega)]
def gp(a b:Int)(k:Nat):Pt:=(a+((k / 4:Nat):Int),b+((k % 4:Nat):Int))
def zS(a b:Int)(n:Nat)(kvs:Ks):Prop:=∃js:List Nat,kvs.map (·.1)=js.map (λj=>jy (gp a b j))/\js.Nodup/\(∀j∈js,j < n)/\js.length<=n/\∀kv∈kvs,Cn kv.2
theorem Hk{a b:Int}{i j:Nat}(h:jy (gp a b i)=jy (gp a b j)):i=j:=by
 obtain⟨h1,h2⟩:=zR h
 have h1:a+((i / 4:Nat):Int)=a+((j / 4:Nat):Int):=h1
 have h2:b+((i % 4:Nat):Int)=b+((j % 4:Nat):Int):=h2
 omega
theorem RU{a b:Int}{k:Nat}(h:t6 a b)(hk:k < 12):kE (gp a b k).1 (gp a b k).2:=by
 obtain⟨h1,h2,h3,h4⟩:=h
 show kE (a+((k / 4:Nat):Int)) (b+((k % 4:Nat):Int))
 unfold kE
 omega
theorem zS.put{a b:Int}{n:Nat}{kvs:Ks}{v:Wv}(h:zS a b n kvs)(hv:Cn v):zS a b (n+1) (lU kvs (jy (gp a b n)) v):=by
 obtain⟨js,h1,h2,h3,hl,h4⟩:=h
 have no:jy (gp a b n)∉kvs.map (·.1):=λz=>by
  rw[h1] at z
  obtain⟨j,hj,e⟩:=List.mem_map.mp z
  have:=Hk e
  have:=h3 j hj
  omega
 rw[Kp no]
 refine⟨js++[n],by rw[ju,h1,ju];rfl,?_,?_,by rw[cF];exact vw hl,?_⟩
 ·rw[m_]
  refine⟨h2,by simp,λx hx y hy=>?_⟩
  have:=h3 x hx
  rw[List.mem_singleton.mp hy]
  omega
 ·intro j hj
  rcases List.mem_append.mp hj with z | z
  ·have:=h3 j z;omega
  ·rw[List.mem_singleton.mp z];omega
 ·intro kv hkv
  rcases List.mem_append.mp hkv with z | z
  ·exact h4 kv z
  ·rw[List.mem_singleton.mp z];exact hv
theorem zS.le{a b:Int}{n m:Nat}{kvs:Ks}(h:zS a b n kvs)(k:n<=m):zS a b m kvs:=by
 obtain⟨js,h1,h2,h3,hl,h4⟩:=h
 exact⟨js,h1,h2,λj hj=>bP (h3 j hj) k,aW hl k,h4⟩
theorem zS.len{a b:Int}{n:Nat}{kvs:Ks}(h:zS a b n kvs):kvs.length<=n:=by
 obtain⟨js,h1,h2,h3,hl,h4⟩:=h
 have:=congrArg f9 h1
 rw[bc,bc] at this
 omega
theorem zS.nil{a b:Int}:zS a b 0 []:=⟨[],rfl,Ay,λj hj=>(by cases hj),au _,λkv h=>by cases h⟩
theorem zS.val{a b:Int}{n:Nat}{kvs:Ks}{k:List L2.Key}{v:Wv}(h:zS a b n kvs)(e:en kvs k=some v):Cn v:=by
 obtain⟨js,h1,h2,h3,hl,h4⟩:=h
 exact h4 _ (xA e)
theorem uR{k:List L2.Key}:∀{kvs:Ks},k∈kvs.map (·.1)->∃v,en kvs k=some v
 | [],h=>by cases h
 | p::r,h=>by
  unfold en
  by_cases e:p.1=k
  ·exact⟨p.2,if_pos e⟩
  ·rw[if_neg e]
   rw[a6,G_] at h
   exact uR (h.resolve_left λz=>e z.symm)
theorem OO{v:Wv}{st:Hs}(h:Cn v):pF v .bg st= .ok (.bl true) st:=by
 rcases h with ⟨i,rfl⟩ | ⟨x,rfl⟩ | ⟨f,rfl,_⟩<;>rfl
theorem cells{st:Hs}{l:Nat}{ns:List Int}{dp:Nat}(h:ao st l=some (ns.map Wv.int))(hn:ns.length<=63)(hd:dp<=2):∃(a b:Int)(kvs:Ks)(d:Nat)(st':Hs),eO [.ref l,.int dp] st= .ok (.ref d) st'/\st'[d]? =some (.bq kvs)/\t6 a b/\zS a b 12 kvs/\Gr st st'/\(∃s,cV [.ref l] st= .ok (tI [a,b]) s):=by
 obtain⟨a,b,s0,e0,hs,more,rfl⟩:=spot h
 have g0:Gr st (st++more):=Gr.app
 generalize hs0:st++more=s0 at e0 g0
 have g1:Gr st (s0++[.bq []]):=g0.trans Gr.push
 have f4:∀(k:Nat)(s:Hs),bB (.int k) (.int 4) s= .ok (.int ((k / 4:Nat):Int)) s:=λk s=>by
  rw[gw (by decide+kernel),Int.fdiv_eq_ediv_of_nonneg _ (by decide)]
  rfl
 have m4:∀(k:Nat)(s:Hs),oMod (.int k) (.int 4) s= .ok (.int ((k % 4:Nat):Int)) s:=λk s=>by
  rw[gT (by decide),Int.fmod_eq_emod_of_nonneg _ (by decide)]
  rfl
 obtain⟨ρ1,s1,e1,o4,o5,kvs,rfl,hk,hg,hsh⟩:=mP (i:=4) (gb:=fN) (λk ρ s=>∃(o4 o5:Option Wv)(kvs:Ks),ρ=[some (.ref l),some (.int dp),some (tI [a,b]),some (.ref s0.length),o4,o5]/\s[s0.length]? =some (.bq kvs)/\Gr st s/\zS a b k kvs)
  (bZ 0 12) 0 [some (.ref l),some (.int dp),some (tI [a,b]),some (.ref s0.length),none,none] (s0++[.bq []]) ⟨none,none,[],rfl,bM,g1,zS.nil⟩ (λk w hw ρ s hP=>by
   obtain⟨o4,o5,kvs,rfl,hk,hg,hsh⟩:=hP
   have hj:k < 12:=by
    have q:=(List.getElem?_eq_some_iff.mp hw).1
    rw[bQ] at q
    exact q
   rw[kn hj] at hw
   cases hw
   rw[wx] at hsh
   obtain⟨n,es⟩:=stream (hg.lst h) hn (k:=k) (by omega) (by omega)
   have ro:Ro s.length (s++[.lst [.int n]]):=⟨n,bM⟩
   obtain⟨v,s2,e2,hv,dw⟩:=content ro hs hd
   have g2:Gr s s2:=Gr.push.jP (au _) dw.1
   have hk2:=g2.get hk
   have lt:st.length<=s0.length:=g0.1
   rw[show((0:Int)+(k:Nat))=(k:Int) from Int.zero_add _]
   rcases hv with rfl | hv
   ·refine⟨_,_,?_,some (.int k),some .bg,kvs,rfl,hk2,hg.trans g2,hsh.le (by omega)⟩
    unfold fN
    simp[es,e2,pF]
   ·have pd:=Hj (a:=a+((k / 4:Nat):Int)) (b:=b+((k % 4:Nat):Int)) (v:=v) hk2 (by have:=hsh.len;omega)
    refine⟨_,_,?_,some (.int k),some v,lU kvs (jy (gp a b k)) v,rfl,aP hk2,Gr.Hg lt (hg.trans g2),?_⟩
    rotate_left
    ·rw[wx]
     exact hsh.put hv
    show _=Rs.nx _ (s2.set s0.length (.bq (lU kvs (ky (a+((k / 4:Nat):Int)) (b+((k % 4:Nat):Int))) v)))
    have XF:=f4 k s2
    have XG:=m4 k s2
    generalize ((k / 4:Nat):Int)=x at XF pd ⊢
    generalize ((k % 4:Nat):Int)=y at XG pd ⊢
    have Lj:dk [.ref s.length,.tup [.int a,.int b],.int dp] (s++[.lst [.int n]])= .ok v s2:=e2
    unfold fN
    simp[es,Lj,OO hv,dg,tI,Tv,Tw,XF,XG,pd])
 refine⟨a,b,kvs,s0.length,s1,lF (n:=6) (g:=iR) ?_,hk,hs,by simpa [bQ] using hsh,hg,s0,e0⟩
 have c12:dE 12:=zF (by decide) (by decide)
 unfold iR
 simp[e0,gQ,c12,e1]
inductive yc(E:Pt->Pt->Prop):Pt->Pt->Prop
 | one {a b:Pt}:E a b->yc E a b
 | tail {a b c:Pt}:yc E a b->E b c->yc E a c
section
variable {E:Pt->Pt->Prop} {T:List Pt}
theorem Hl{rk:List Pt}(nd:rk.Nodup)(od:∀(i:Nat)(h:i < rk.length),∀o,E rk[i] o->o∈rk.take i):∀x∈rk,¬yc E x x:=by
 have key:∀{x y:Pt},yc E x y->∀(i:Nat)(h:i < rk.length),rk[i]=x->y∈rk.take i:=by
  intro x y p
  induction p with
  | one e=>intro i h q;rw[<-q] at e;exact od i h _ e
  | tail p e ih=>
   intro i h q
   obtain⟨j,hj,ej⟩:=List.mem_iff_getElem.mp (ih i h q)
   rw[q9] at hj
   rw[List.getElem_take] at ej
   rw[<-ej] at e
   have:=od j (by omega) _ e
   exact Bs (by
    rw[show rk.take j=(rk.take i).take j by rw[List.take_take,Nat.min_eq_left (by omega)]] at this
    exact this)
 intro x hx p
 obtain⟨i,h,e⟩:=List.mem_iff_getElem.mp hx
 obtain⟨j,hj,ej⟩:=List.mem_iff_getElem.mp (key p i h e)
 rw[q9] at hj
 rw[List.getElem_take,<-e] at ej
 have:=(List.getElem_inj nd).mp ej
 omega
structure Dv(E:Pt->Pt->Prop)(T:List Pt)(s:Pt)(met row:List Pt):Prop where
 rc:∀x∈met,yc E s x
 sub:∀x∈row,x=s\/x∈met
 cl:∀x,(x=s\/x∈met)->x∉row->∀o,E x o->o∈met
 nd:met.Nodup
 yo:∀x∈met,x∈T
theorem Dv.start{s:Pt}:Dv E T s [] [s]:=⟨(λ_ h=>by cases h),λx h=> .inl (List.mem_singleton.mp h),λx h n o _=>absurd (show x∈[s] by rcases h with rfl | h;exact aB;cases h) n,.nil,(λ_ h=>by cases h)⟩
theorem Dv.fin{s:Pt}{met:List Pt}(d:Dv E T s met [])(x:Pt):x∈met↔yc E s x:=by
 refine⟨d.rc x,λp=>?_⟩
 induction p with
 | one e=>exact d.cl _ (.inl rfl) (by simp) _ e
 | tail p e ih=>exact d.cl _ (.inr ih) (by simp) _ e
theorem Dv.turn{s x:Pt}{met row:List Pt}{r:Pt->Pt->Bool}(hT:T.Nodup)(hE:∀a b,E a b↔b∈T/\r a b=true)(d:Dv E T s met (row++[x])) :
  Dv E T s (met++T.filter λo=> !decide (o∈met)&&r x o) (row++T.filter λo=> !decide (o∈met)&&r x o):=by
 have hx:=d.sub x (by simp)
 have nw:∀{o:Pt},o∈T.filter (λo=> !decide (o∈met)&&r x o)↔o∈T/\o∉met/\r x o=true:=by
  intro o
  rw[ng]
  simp
 refine⟨λy hy=>?_,λy hy=>?_,λy hy hn o e=>?_,?_,λy hy=>?_⟩
 ·rcases List.mem_append.mp hy with h | h
  ·exact d.rc y h
  ·obtain⟨h1,_,h3⟩:=nw.mp h
   have e:E x y:=(hE _ _).mpr ⟨h1,h3⟩
   rcases hx with rfl | hx
   ·exact .one e
   ·exact .tail (d.rc x hx) e
 ·rcases List.mem_append.mp hy with h | h
  ·exact(d.sub y (fP _ h)).imp id (fP _)
  ·exact .inr (fg _ h)
 ·by_cases c:y=x
  ·subst c
   obtain⟨h1,h2⟩:=(hE _ _).mp e
   by_cases m:o∈met
   ·exact fP _ m
   ·exact fg _ (nw.mpr ⟨h1,m,h2⟩)
  ·refine fP _ (d.cl y ?_ (λz=>?_) o e)
   ·rcases hy with h | h
    ·exact .inl h
    ·rcases List.mem_append.mp h with h | h
     ·exact .inr h
     ·exact absurd (fg _ h) hn
   ·rcases List.mem_append.mp z with h | h
    ·exact hn (fP _ h)
    ·exact c (List.mem_singleton.mp h)
 ·rw[m_]
  exact⟨d.nd,hT.filter _,λa ha b hb e=>(nw.mp hb).2.1 (e ▸ ha)⟩
 ·rcases List.mem_append.mp hy with h | h
  ·exact d.yo y h
  ·exact(nw.mp h).1
structure Bv(E:Pt->Pt->Prop)(T rk:List Pt)(s:Pt)(seen ahead:List Pt):Prop where
 rc:∀x∈seen,yc E s x
 sub:∀x∈ahead,x=s\/x∈seen
 cl:∀x,(x=s\/x∈seen)->x∉ahead->∀o,E x o->o≠s/\(o∈rk\/o∈seen)
 nd:seen.Nodup
 yo:∀x∈seen,x∈T
theorem Bv.start{rk:List Pt}{s:Pt}:Bv E T rk s [] [s]:=⟨(λ_ h=>by cases h),λx h=> .inl (List.mem_singleton.mp h),λx h n o _=>absurd (show x∈[s] by rcases h with rfl | h;exact aB;cases h) n,.nil,(λ_ h=>by cases h)⟩
theorem Bv.fin{rk:List Pt}{s:Pt}{seen:List Pt}(d:Bv E T rk s seen [])(hk:∀x∈rk,∀o,E x o->o∈rk)(hs:s∉rk):¬yc E s s:=by
 have key:∀{x:Pt},yc E s x->x∈rk\/(x≠s/\x∈seen):=by
  intro x p
  induction p with
  | one e=>
   obtain⟨h1,h2⟩:=d.cl _ (.inl rfl) (by simp) _ e
   exact h2.imp id λh=>⟨h1,h⟩
  | tail p e ih=>
   rcases ih with h | ⟨_,h⟩
   ·exact .inl (hk _ h _ e)
   ·obtain⟨h1,h2⟩:=d.cl _ (.inr h) (by simp) _ e
    exact h2.imp id λh=>⟨h1,h⟩
 intro p
 rcases key p with h | h
 ·exact hs h
 ·exact h.1 rfl
theorem Bv.turn{rk:List Pt}{s x:Pt}{seen ahead rx:List Pt}(hr:rx.Nodup)(hE:∀b,E x b↔b∈rx)(hT:∀b∈rx,b∈T)(hs:s∉rx)(d:Bv E T rk s seen (ahead++[x])) :
  Bv E T rk s (seen++rx.filter λo=> !decide (o∈rk)&& !decide (o∈seen)) (ahead++rx.filter λo=> !decide (o∈rk)&& !decide (o∈seen)):=by
 have hx:=d.sub x (by simp)
 have nw:∀{o:Pt},o∈rx.filter (λo=> !decide (o∈rk)&& !decide (o∈seen))↔o∈rx/\o∉rk/\o∉seen:=by
  intro o
  rw[ng]
  simp
 refine⟨λy hy=>?_,λy hy=>?_,λy hy hn o e=>?_,?_,λy hy=>?_⟩
 ·rcases List.mem_append.mp hy with h | h
  ·exact d.rc y h
  ·have e:E x y:=(hE _).mpr (nw.mp h).1
   rcases hx with rfl | hx
   ·exact .one e
   ·exact .tail (d.rc x hx) e
 ·rcases List.mem_append.mp hy with h | h
  ·exact(d.sub y (fP _ h)).imp id (fP _)
  ·exact .inr (fg _ h)
 ·by_cases c:y=x
  ·subst c
   have ho:=(hE _).mp e
   refine⟨λz=>hs (z ▸ ho),?_⟩
   by_cases m:o∈rk
   ·exact .inl m
   ·by_cases k:o∈seen
    ·exact .inr (fP _ k)
    ·exact .inr (fg _ (nw.mpr ⟨ho,m,k⟩))
  ·obtain⟨h1,h2⟩:=d.cl y (by
    rcases hy with h | h
    ·exact .inl h
    ·rcases List.mem_append.mp h with h | h
     ·exact .inr h
     ·exact absurd (fg _ h) hn) (λz=>by
    rcases List.mem_append.mp z with h | h
    ·exact hn (fP _ h)
    ·exact c (List.mem_singleton.mp h)) o e
   exact⟨h1,h2.imp id (fP _)⟩
 ·rw[m_]
  exact⟨d.nd,hr.filter _,λa ha b hb e=>(nw.mp hb).2.2 (e ▸ ha)⟩
 ·rcases List.mem_append.mp hy with h | h
  ·exact d.yo y h
  ·exact hT y (nw.mp h).1
structure Rv(T:List Pt)(rd:Pt->List Pt)(rk pend:List Pt)(m:Pt->Int):Prop where
 nd:(rk++pend).Nodup
 yo:∀x∈rk++pend,x∈T
 od:∀(i:Nat)(h:i < rk.length),∀o∈rd rk[i],o∈rk.take i
 pd:∀x∈pend,∀o∈rd x,o∈rk
 ms:∀c∈T,m c=(((rd c).filter λp=> !decide (p∈rk)).length:Int)
def dec(rd:Pt->List Pt)(x:Pt)(m:Pt->Int)(c:Pt):Int:=if x∈rd c then m c - 1 else m c
theorem cnt{rk:List Pt}{x:Pt}(hx:x∉rk):∀{l:List Pt},l.Nodup->((l.filter λp=> !decide (p∈rk++[x])).length:Int)=if x∈l then((l.filter λp=> !decide (p∈rk)).length:Int) - 1 else((l.filter λp=> !decide (p∈rk)).length:Int)
 | [],_=>rfl
 | a::r,n=>by
  obtain⟨n1,n2⟩:=List.nodup_cons.mp n
  have ih:=cnt hx n2
  by_cases e:a=x
  ·subst e
   rw[jb (by simp),ih,if_neg n1,if_pos aB,ja (by simpa using hx)]
   simp only[cG]
   omega
  ·have m:(x∈a::r)↔x∈r:=⟨λh=>(List.mem_cons.mp h).resolve_left λz=>e z.symm,aF _⟩
   by_cases k:a∈rk
   ·rw[jb (by simp[k]),jb (by simp[k]),ih]
    simp only[m]
   ·rw[ja (by simp[k,e]),ja (by simp[k])]
    simp only[cG,m]
    push_cast
    rw[ih]
    split<;>omega
theorem Rv.turn{rd:Pt->List Pt}{rk pend:List Pt}{x:Pt}{m:Pt->Int}(hT:T.Nodup)(hr:∀c∈T,(rd c).Nodup)(d:Rv T rd rk (x::pend) m) :
  Rv T rd (rk++[x]) (pend++(T.filter λc=>decide (x∈rd c)).filter λc=>decide (dec rd x m c=0)) (dec rd x m):=by
 obtain⟨n1,n2,n3⟩:=List.nodup_append.mp d.nd
 obtain⟨n4,n5⟩:=List.nodup_cons.mp n2
 have hx:x∉rk:=λh=>n3 x h x aB rfl
 have nw:∀{c:Pt},c∈(T.filter λc=>decide (x∈rd c)).filter (λc=>decide (dec rd x m c=0))↔c∈T/\x∈rd c/\dec rd x m c=0:=by
  intro c
  rw[ng,ng]
  simp[and_assoc]
 have ms':∀c∈T,dec rd x m c=(((rd c).filter λp=> !decide (p∈rk++[x])).length:Int):=λc hc=>by
  rw[cnt hx (hr c hc),<-d.ms c hc]
  rfl
 have VO:∀{c:Pt},c∈(T.filter λc=>decide (x∈rd c)).filter (λc=>decide (dec rd x m c=0))->c∉rk/\c∉x::pend:=by
  intro c hc
  have h:=(nw.mp hc).2.1
  refine⟨λz=>?_,λz=>hx (d.pd c z x h)⟩
  obtain⟨i,hi,e⟩:=List.mem_iff_getElem.mp z
  exact hx (Bs (d.od i hi x (by rw[e];exact h)))
 refine⟨?_,λy hy=>?_,λi h o ho=>?_,λy hy o ho=>?_,ms'⟩
 ·rw[vj,m_]
  refine⟨n1,?_,λa ha b hb e=>?_⟩
  ·rw[Kq,List.nodup_cons,m_]
   refine⟨λz=>?_,n5,(hT.filter _).filter _,λa ha b hb e=>?_⟩
   ·rcases List.mem_append.mp z with h | h
    ·exact n4 h
    ·exact(VO h).2 aB
   ·exact(VO hb).2 (aF _ (e ▸ ha))
  ·subst e
   rw[Kq] at hb
   rcases List.mem_cons.mp hb with h | h
   ·exact hx (h ▸ ha)
   ·rcases List.mem_append.mp h with h | h
    ·exact n3 a ha a (aF _ h) rfl
    ·exact(VO h).1 ha
 ·rcases List.mem_append.mp hy with h | h
  ·rcases List.mem_append.mp h with h | h
   ·exact d.yo y (fP _ h)
   ·rw[List.mem_singleton.mp h];exact d.yo x (by simp)
  ·rcases List.mem_append.mp h with h | h
   ·exact d.yo y (fg _ (aF _ h))
   ·exact(nw.mp h).1
 ·rw[cF] at h
  by_cases c:i < rk.length
  ·rw[List.getElem_append_left c] at ho
   rw[Kr (by omega)]
   exact d.od i c o ho
  ·have e:i=rk.length:=by simp at h;omega
   subst e
   rw[List.getElem_append_right (au _)] at ho
   simp only[qJ,List.getElem_cons_zero] at ho
   rw[Kr (au _),List.take_length]
   exact d.pd x aB o ho
 ·rcases List.mem_append.mp hy with h | h
  ·exact fP _ (d.pd y (aF _ h) o ho)
  ·obtain⟨h1,_,h3⟩:=nw.mp h
   rw[ms' y h1] at h3
   have h4:((rd y).filter λp=> !decide (p∈rk++[x]))=[]:=vt (by omega)
   rw[List.filter_eq_nil_iff] at h4
   have:=h4 o ho
   by_cases c:o∈rk++[x]
   ·exact c
   ·exact absurd (by simpa using c) this
end
theorem qU{p q:Pt}(h:jy p=jy q):p=q:=u7 (zR h).1 (zR h).2
def dF(T:List Pt)(f:Pt->Wv):Ks:=T.map λp=>(jy p,f p)
theorem Bt{T:List Pt}{f:Pt->Wv}:(dF T f).map (·.1)=T.map jy:=by unfold dF;rw[mr];rfl
theorem zT{f:Pt->Wv}{q:Pt}:∀{T:List Pt},en (dF T f) (jy q)=if q∈T then some (f q) else none
 | []=>rfl
 | p::r=>by
  show(if jy p=jy q then some (f p) else en (dF r f) (jy q))=_
  rw[zT (T:=r)]
  by_cases e:p=q
  ·subst e
   rw[if_pos rfl,if_pos aB]
  ·have m:(q∈p::r)↔q∈r:=⟨λh=>(List.mem_cons.mp h).resolve_left λz=>e z.symm,aF _⟩
   rw[if_neg (λz=>e (qU z))]
   simp only[m]
theorem zU{f:Pt->Wv}{q:Pt}:∀{T:List Pt},((dF T f).any λkv=>decide (kv.1=jy q))=decide (q∈T)
 | []=>rfl
 | p::r=>by
  show(decide (jy p=jy q)||(dF r f).any λkv=>decide (kv.1=jy q))=_
  rw[zU (T:=r)]
  by_cases e:p=q
  ·subst e
   rw[decide_eq_true rfl,decide_eq_true (show p∈p::r from aB)]
   rfl
  ·have m:(q∈p::r)↔q∈r:=⟨λh=>(List.mem_cons.mp h).resolve_left λz=>e z.symm,aF _⟩
   rw[decide_eq_false (λz=>e (qU z)),Bool.false_or,decide_eq_decide.mpr m]
def sR(f:Pt->Wv)(q:Pt)(v:Wv)(p:Pt):Wv:=if p=q then v else f p
theorem jv{T:List Pt}{f g:Pt->Wv}(h:∀p∈T,f p=g p):dF T f=dF T g:=wy λp hp=>by rw[h p hp]
theorem wz{T:List Pt}{f:Pt->Wv}{q:Pt}{v:Wv}(h:q∈T):lU (dF T f) (jy q) v=dF T (sR f q v):=by
 unfold lU
 rw[zU,decide_eq_true h,if_pos rfl]
 unfold dF
 rw[mr]
 refine wy λp _=>?_
 show(if jy p=jy q then(jy p,v) else(jy p,f p))=_
 unfold sR
 by_cases e:p=q
 ·rw[if_pos (by rw[e]),if_pos e]
 ·rw[if_neg (λz=>e (qU z)),if_neg e]
theorem nh{T:List Pt}{f:Pt->Wv}{q:Pt}{v:Wv}(h:q∉T):lU (dF T f) (jy q) v=dF (T++[q]) (sR f q v):=by
 unfold lU
 rw[zU,decide_eq_false h,if_neg bD]
 unfold dF
 rw[ju]
 congr 1
 ·refine wy λp hp=>?_
  have n:¬p=q:=λz=>h (z ▸ hp)
  unfold sR
  rw[if_neg n]
 ·unfold sR
  simp
theorem qV:∀ps:List Pt,eE (ps.map jy)=some (ps.map pw)
 | []=>rfl
 | p::r=>by
  rw[a6,a6]
  unfold eE
  rw[qV r]
  rfl
section
variable {st:Hs}
theorem j9{l:Nat}{kvs:Ks}(h:st[l]? =some (.bq kvs)):bV st[l]? =some kvs:=by rw[h];rfl
theorem zV{l:Nat}{kvs:Ks}(h:st[l]? =some (.fH kvs)):bV st[l]? =some kvs:=by rw[h];rfl
theorem bN{s s':Hs}{l:Nat}{kvs:Ks}(h:bV s[l]? =some kvs)(e:s'[l]? =s[l]?):bV s'[l]? =some kvs:=by rw[e];exact h
theorem gK{l:Nat}{kvs:Ks}(h:bV st[l]? =some kvs):l < st.length:=by
 by_cases c:l < st.length
 ·exact c
 ·rw[vO (by omega)] at h;cases h
theorem Hm{l:Nat}{T:List Pt}{f:Pt->Wv}{q:Pt}(h:bV st[l]? =some (dF T f))(hq:q∈T):getD (.ref l) (pw q) st=some (f q):=by
 have hk:lW (pw q)=some (jy q):=rfl
 have hv:en (dF T f) (jy q)=some (f q):=by rw[zT,if_pos hq]
 unfold bV at h
 unfold getD
 split at h
 ·rename_i k' e
  cases h
  dsimp only
  rw[e,hk]
  exact hv
 ·rename_i k' e
  cases h
  dsimp only
  rw[e,hk]
  exact hv
 ·cases h
theorem RV{l:Nat}{T:List Pt}{f:Pt->Wv}{q:Pt}(h:bV st[l]? =some (dF T f))(hq:q∈T):N4 (.ref l) (pw q) st= .ok (f q) st:=by
 unfold N4
 rw[Hm h hq]
theorem t7{l i j:Nat}{T:List Pt}{f:Pt->Wv}{q:Pt}{ρ:bF}(hi:ρ[i]? =some (some (.ref l)))(hj:ρ[j]? =some (some (pw q)))(h:bV st[l]? =some (dF T f))(hq:q∈T):bX (aa i) (aa j) ρ st= .ok (f q) st:=by
 unfold bX
 simp only[cN,hi,cM,a_,hj]
 exact RV h hq
theorem yd{l:Nat}{T:List Pt}{f:Pt->Wv}{q:Pt}{neg:Bool}(h:bV st[l]? =some (dF T f)):iM neg (pw q) (.ref l) st= .ok (.bl (decide (q∈T) != neg)) st:=by
 have hk:lW (pw q)=some (jy q):=rfl
 unfold iM
 dsimp only
 rw[h,hk]
 dsimp only
 rw[zT]
 by_cases c:q∈T
 ·rw[if_pos c,decide_eq_true c];rfl
 ·rw[if_neg c,decide_eq_false c];rfl
theorem mv{d:Nat}{kvs:Ks}{q:Pt}{v:Wv}(h:st[d]? =some (.bq kvs))(hl:kvs.length < 1000):putD (.ref d) (pw q) v st=some (st.set d (.bq (lU kvs (jy q) v))):=Hj h hl
theorem mw{T:List Pt}{f:Pt->Wv}:(dF T f).length=T.length:=by unfold dF;simp
theorem wA{d:Nat}{T:List Pt}{f:Pt->Wv}(h:st[d]? =some (.bq (dF T f))):xy (.ref d) st= .ok (none,T.map pw) (st.set d (.fH (dF T f))):=by
 show(match st[d]? with
  | some (.bq kvs)=>(match eE (qd (λx:List L2.Key×Wv=>x.1) kvs) with | some ws=>Re.ok ((none,ws):Wk) (st.set d (.fH kvs)) | none=> .bad)
  | some (.fH kvs)=>(match eE (qd (λx:List L2.Key×Wv=>x.1) kvs) with | some ws=> .ok (none,ws) st | none=> .bad)
  | _=> .bad)=_
 rw[h]
 dsimp only
 rw[Bt,qV]
theorem zW{w:Option (Option Wv)}{d:Nat}{kvs:Ks}(hw:w=some (some (.ref d)))(h:st[d]? =some (.bq kvs)):oQ w st=some d:=by
 subst hw
 show(match st[d]? with | some (.bq _)=>some d | _=>none)=_
 rw[h]
theorem Bu{i j d:Nat}{T:List Pt}{f:Pt->Wv}{gb:GS}{ρ ρ':bF}{s':Hs}(hi:ρ[i]? =some (some (.ref d)))(h:st[d]? =some (.bq (dF T f)))(run:du j gb (T.map pw) ρ (st.set d (.fH (dF T f)))= .nx ρ' s')(h':s'[d]? =some (.fH (dF T f))) :
  gR i (gS j (aa i) gb) ρ st= .nx ρ' (s'.set d (.bq (dF T f))):=by
 have gf:gS j (aa i) gb ρ st= .nx ρ' s':=by
  unfold gS gn
  simp only[cN,hi,cM,a_]
  rw[wA h]
  exact run
 unfold gR
 rw[zW hi h]
 dsimp only
 rw[gf]
 dsimp only
 unfold nB
 rw[h']
theorem RW{i j d:Nat}{T:List Pt}{f:Pt->Wv}{gb:GS}{ρ:bF}{w:Wv}{s':Hs}(hi:ρ[i]? =some (some (.ref d)))(h:st[d]? =some (.bq (dF T f)))(run:du j gb (T.map pw) ρ (st.set d (.fH (dF T f)))= .rt w s') :
  gR i (gS j (aa i) gb) ρ st= .rt w s':=by
 have gf:gS j (aa i) gb ρ st= .rt w s':=by
  unfold gS gn
  simp only[cN,hi,cM,a_]
  rw[wA h]
  exact run
 unfold gR
 rw[zW hi h]
 dsimp only
 rw[gf]
end
def Fb(b:Nat)(s s':Hs):Prop:=s.length<=s'.length/\∀k,k < b->s'[k]? =s[k]?
theorem Fb.refl{b:Nat}{s:Hs}:Fb b s s:=⟨au _,λ_ _=>rfl⟩
theorem Fb.trans{b:Nat}{x y z:Hs}(h:Fb b x y)(k:Fb b y z):Fb b x z:=⟨aW h.1 k.1,λj hj=>(k.2 j hj).trans (h.2 j hj)⟩
theorem Fb.set{b l:Nat}{s:Hs}{o:Ob}(h:b<=l):Fb b s (s.set l o):=⟨by simp,λk hk=>aC (by omega)⟩
theorem Fb.gr{b:Nat}{s s':Hs}(h:b<=s.length)(g:Gr s s'):Fb b s s':=⟨g.1,λk hk=>g.2 k (by omega)⟩
theorem Fb.OP{s s':Hs}(h:Fb s.length s s'):Gr s s':=h
structure LD(T:List Pt)(d:Nat)(Dx:Pt->Nat)(c:Pt->List Pt)(st:Hs):Prop where
 dc:bV st[d]? =some (dF T λp=> .ref (Dx p))
 ls:∀p∈T,st[Dx p]? =some (.lst ((c p).map pw))
theorem LD.fb{T:List Pt}{d b:Nat}{Dx:Pt->Nat}{c:Pt->List Pt}{s s':Hs}(h:LD T d Dx c s)(f:Fb b s s')(hd:d < b)(hl:∀p∈T,Dx p < b):LD T d Dx c s' :=
 ⟨bN h.dc (f.2 d hd),λp hp=>by rw[f.2 _ (hl p hp)];exact h.ls p hp⟩
def Hn(T:List Pt)(rd:Pt->List Pt)(p:Pt):List Pt:=T.filter λx=>decide (p∈rd x)
theorem Kt{T pre post:List Pt}{a:Pt}(nd:T.Nodup)(e:T=pre++a::post):T.idxOf a=pre.length:=by
 subst e
 have n:a∉pre:=λh=>(List.nodup_append.mp nd).2.2 a h a aB rfl
 rw[List.idxOf_append,if_neg n,List.idxOf_cons_self]
 omega
theorem Ku{T:List Pt}{p q:Pt}(hp:p∈T)(hq:q∈T)(h:T.idxOf p=T.idxOf q):p=q:=by
 have h1:=List.getElem_idxOf (OQ hp)
 have h2:=List.getElem_idxOf (OQ hq)
 rw[<-h1,<-h2]
 congr 1
section
variable {T:List Pt} {rd:Pt->List Pt} {st:Hs}
theorem app_list{go ga:GE}{ρ:bF}{l:Nat}{ws:List Wv}{v:Wv}{s1:Hs}(h1:go ρ st= .ok (.ref l) s1)(h2:s1[l]? =some (.lst ws))(h3:ga ρ s1= .ok v s1)(hl:ws.length < lim):i9 (gP lS go ga) ρ st= .nx ρ (s1.set l (.lst (ws++[v]))):=by
 unfold i9 gP
 rw[h1]
 simp only[a_]
 rw[bY h2]
 dsimp only
 rw[h3]
 simp only[a_]
 rw[show lS (.ref l) v s1=(match s1[l]? with | some (.lst ws)=>(if ws.length < lim then Re.ok Wv.bg (s1.set l (.lst (ws++[v]))) else .bad) | _=> .bad) from rfl,h2]
 dsimp only
 rw[if_pos hl]
 rfl
theorem Kv{d:Nat}{f:Pt->Wv}(nd:T.Nodup)(hT:T.length<=100)(h:st[d]? =some (.bq (dF T f))) :
  ∃(o2:Option Wv)(st':Hs),gR 0 (gS 2 (aa 0) dN) [some (.ref d),some (.ref st.length),none,none] (st++[.bq []])= .nx [some (.ref d),some (.ref st.length),o2,none] st'/\st'[st.length]? =some (.bq (dF T λp=> .ref (st.length+1+T.idxOf p)))/\(∀p∈T,st'[st.length+1+T.idxOf p]? =some (.lst []))/\Gr st st'/\st'.length=st.length+1+T.length:=by
 have dl:=bE h
 have h1:(st++[Ob.bq []])[d]? =some (.bq (dF T f)):=b9 h
 obtain⟨s1,hs1⟩:∃s1,(st++[Ob.bq []]).set d (.fH (dF T f))=s1:=⟨_,rfl⟩
 have l1:s1.length=st.length+1:=by rw[<-hs1];simp
 have k1:s1[st.length]? =some (.bq (dF ([]:List Pt) λp=> .ref (st.length+1+T.idxOf p))):=by rw[<-hs1,aC (by omega)];exact bM
 have kd:s1[d]? =some (.fH (dF T f)):=by rw[<-hs1];exact aP h1
 obtain⟨ρ2,s2,e2,o2,rfl,c2,m2,F2,n2⟩:=oX (i:=2) (gb:=dN) pw T
  (λpre ρ s=>∃o2,ρ=[some (.ref d),some (.ref st.length),o2,none]/\s[st.length]? =some (.bq (dF pre λp=> .ref (st.length+1+T.idxOf p)))/\(∀p∈pre,s[st.length+1+T.idxOf p]? =some (.lst []))/\Fb st.length s1 s/\s.length=st.length+1+pre.length)
  (λa pre post ρ s hf hP=>by
   obtain⟨o2,rfl,c2,m2,F2,n2⟩:=hP
   have ia:=Kt nd hf
   have na:a∉pre:=λz=>by
    rw[hf] at nd
    exact(List.nodup_append.mp nd).2.2 a z a aB rfl
   have pl:pre.length<=T.length:=by rw[hf];simp
   have c3:(s++[Ob.lst []])[st.length]? =some (.bq (dF pre λp=> .ref (st.length+1+T.idxOf p))):=b9 c2
   have pd:=mv (q:=a) (v:=.ref s.length) c3 (by rw[mw];omega)
   rw[nh na] at pd
   have ec:dF (pre++[a]) (sR (λp=> .ref (st.length+1+T.idxOf p)) a (.ref s.length))=dF (pre++[a]) λp=> .ref (st.length+1+T.idxOf p):=jv λp _=>by
    unfold sR
    by_cases e:p=a
    ·rw[if_pos e,e,ia,n2]
    ·rw[if_neg e]
   rw[ec] at pd
   refine⟨[some (.ref d),some (.ref st.length),some (pw a),none],(s++[Ob.lst []]).set st.length (.bq (dF (pre++[a]) λp=> .ref (st.length+1+T.idxOf p))),?_,some (pw a),rfl,aP c3,λp hp=>?_,F2.trans ⟨by simp,λk hk=>by rw[aC (by omega),fQ (by omega)]⟩,by simp;omega⟩
   ·show dN [some (.ref d),some (.ref st.length),some (pw a),none] s=_
    unfold dN dg
    simp[pd]
   ·rw[aC (by omega)]
    rcases List.mem_append.mp hp with z | z
    ·exact b9 (m2 p z)
    ·rw[List.mem_singleton.mp z,ia,<-n2]
     exact bM)
  T [] [some (.ref d),some (.ref st.length),none,none] s1 rfl ⟨none,rfl,k1,(λ_ z=>by cases z),Fb.refl,by rw[l1];rfl⟩
 have XH:s2[d]? =some (.fH (dF T f)):=by rw[F2.2 d dl];exact kd
 refine⟨o2,s2.set d (.bq (dF T f)),Bu rfl h1 (by rw[hs1];exact e2) XH,by rw[aC (by omega)];exact c2,λp hp=>by rw[aC (by omega)];exact m2 p hp,⟨by simp;omega,λk hk=>?_⟩,by simp;omega⟩
 by_cases e:k=d
 ·subst e
  rw[aP XH,h]
 ·rw[aC (aH e),F2.2 k hk,<-hs1,aC (aH e),fQ hk]
theorem Ho{d e b:Nat}{lr:Pt->Nat}{le:Pt->Nat}{c:Pt->List Pt}{a:Pt}{o3:Option Wv}(R:LD T d lr rd st)(W:LD T e le c st)(ha:a∈T)(hsub:∀p∈rd a,p∈T)(hr:(rd a).Nodup)(hb:∀p∈T,b<=le p/\lr p < b/\le p≠e)(hd:d < b)(he:b<=e)(inj:∀p∈T,∀q∈T,le p=le q->p=q)(hc:∀p∈T,(c p).length < 1000) :
  ∃(p3:Option Wv)(st':Hs),dM [some (.ref d),some (.ref e),some (pw a),o3] st= .nx [some (.ref d),some (.ref e),some (pw a),p3] st'/\LD T e le (λp=>if p∈rd a then c p++[a] else c p) st'/\Fb b st st'/\st'.length=st.length:=by
 have g0:bX (aa 0) (aa 2) [some (.ref d),some (.ref e),some (pw a),o3] st= .ok (.ref (lr a)) st:=t7 rfl rfl R.dc ha
 have k0:=R.ls a ha
 obtain⟨ρ2,s2,e2,⟨p3,rfl,W2,F2,n2⟩,_⟩:=iu (i:=3) (gb:=lH) (l:=lr a) (all:=(rd a).map pw) pw (rd a)
  (λpre ρ s=>∃p3,ρ=[some (.ref d),some (.ref e),some (pw a),p3]/\LD T e le (λp=>if p∈pre then c p++[a] else c p) s/\Fb b st s/\s.length=st.length)
  (λx pre post ρ s hf hP hl=>by
   obtain⟨p3,rfl,W2,F2,n2⟩:=hP
   have hx:x∈T:=hsub x (by rw[hf];simp)
   have nx:x∉pre:=λz=>by
    rw[hf] at hr
    exact(List.nodup_append.mp hr).2.2 x z x aB rfl
   have kx:=W2.ls x hx
   rw[if_neg nx] at kx
   have g1:bX (aa 1) (aa 3) [some (.ref d),some (.ref e),some (pw a),some (pw x)] s= .ok (.ref (le x)) s:=t7 rfl rfl W2.dc hx
   have ap:=app_list (ga:=aa 2) (v:=pw a) g1 kx (by simp) (by rw[bc];have:=hc x hx;unfold lim;omega)
   obtain⟨b1,b2,b3⟩:=hb x hx
   obtain⟨_,b4,_⟩:=hb a ha
   refine⟨_,s.set (le x) (.lst ((c x).map pw++[pw a])),ap,?_,some (pw x),rfl,⟨bN W2.dc (aC b3),λp hp=>?_⟩,F2.trans (Fb.set b1),by simp;exact n2⟩
   ·have kl:ao s (lr a)=some ((rd a).map pw):=hl
    unfold ao at kl ⊢
    rw[aC (by omega)]
    exact kl
   ·by_cases q:p=x
    ·subst q
     rw[aP kx,if_pos (by simp),ju]
     rfl
    ·rw[aC (λz=>q (inj _ hx _ hp z).symm)]
     have m:(p∈pre++[x])↔p∈pre:=by simp[q]
     have:=W2.ls p hp
     simp only[m]
     exact this)
  (rd a) [] [some (.ref d),some (.ref e),some (pw a),o3] st rfl ⟨o3,rfl,⟨W.dc,λp hp=>by simpa using W.ls p hp⟩,Fb.refl,rfl⟩ (bY k0)
 refine⟨p3,s2,?_,W2,F2,n2⟩
 unfold dM
 simp only[uM,g0,dj,jO (bY k0)]
 exact e2
theorem zX{d:Nat}{lr:Pt->Nat}(nd:T.Nodup)(hT:T.length<=100)(hd:st[d]? =some (.bq (dF T λp=> .ref (lr p))))(hl:∀p∈T,st[lr p]? =some (.lst ((rd p).map pw)))(hsub:∀a∈T,∀p∈rd a,p∈T)(hr:∀a∈T,(rd a).Nodup) :
  ∃(e:Nat)(le:Pt->Nat)(st':Hs),gH [.ref d] st= .ok (.ref e) st'/\LD T e le (Hn T rd) st'/\Gr st st'/\st.length<=e/\(∀p∈T,st.length<=le p):=by
 obtain⟨o2,s1,e1,c1,m1,G1,n1⟩:=Kv (st:=st) nd hT hd
 have dl:=bE hd
 have lt:∀p∈T,lr p < st.length:=λp hp=>bE (hl p hp)
 obtain⟨le,hle⟩:∃le:Pt->Nat,le=λp=>st.length+1+T.idxOf p:=⟨_,rfl⟩
 have d1:=G1.get hd
 obtain⟨s2,hs2⟩:∃s2,s1.set d (.fH (dF T λp=> .ref (lr p)))=s2:=⟨_,rfl⟩
 have d2:s2[d]? =some (.fH (dF T λp=> .ref (lr p))):=by rw[<-hs2];exact aP d1
 have R2:LD T d lr rd s2:=⟨zV d2,λp hp=>by
  rw[<-hs2]
  by_cases q:d=lr p
  ·have:=hl p hp
   rw[<-q,hd] at this
   cases this
  ·rw[aC q]
   exact G1.get (hl p hp)⟩
 have W2:LD T st.length le (λp=>([]:List Pt).filter λx=>decide (p∈rd x)) s2:=⟨by rw[hle];exact j9 (by rw[<-hs2,aC (by omega)];exact c1),λp hp=>by
  rw[hle]
  show s2[st.length+1+T.idxOf p]? =_
  rw[<-hs2,aC (by omega)]
  exact m1 p hp⟩
 obtain⟨ρ3,s3,e3,Zc,Pl,rfl,W3,F3,n3⟩:=oX (i:=2) (gb:=dM) pw T
  (λpre ρ s=>∃o2 o3,ρ=[some (.ref d),some (.ref st.length),o2,o3]/\LD T st.length le (λp=>pre.filter λx=>decide (p∈rd x)) s/\Fb st.length s2 s/\s.length=s2.length)
  (λa pre post ρ s hf hP=>by
   obtain⟨o2,o3,rfl,W,F,n⟩:=hP
   have ha:a∈T:=by rw[hf];simp
   have pl:pre.length<=T.length:=by rw[hf];simp
   obtain⟨p3,s4,e4,W4,F4,n4⟩:=Ho (o3:=o3) (b:=st.length) (R2.fb F dl lt) W ha (hsub a ha) (hr a ha) (λp hp=>⟨by rw[hle];show st.length<=st.length+1+T.idxOf p;omega,lt p hp,by rw[hle];show st.length+1+T.idxOf p≠st.length;omega⟩) dl (au _) (λp hp q hq z=>by
    rw[hle] at z
    exact Ku hp hq (by have z:st.length+1+T.idxOf p=st.length+1+T.idxOf q:=z;omega)) (λp hp=>by have:=gM (λx=>decide (p∈rd x)) pre;omega)
   refine⟨_,s4,e4,some (pw a),p3,rfl,⟨W4.dc,λp hp=>?_⟩,F.trans F4,n4.trans n⟩
   rw[W4.ls p hp,zY]
   by_cases c:p∈rd a
   ·rw[if_pos c,ja (by simpa using c)];rfl
   ·rw[if_neg c,jb (by simpa using c)];simp)
  T [] [some (.ref d),some (.ref st.length),o2,none] s2 rfl ⟨o2,none,rfl,W2,Fb.refl,rfl⟩
 have d3:s3[d]? =some (.fH (dF T λp=> .ref (lr p))):=by rw[F3.2 d dl];exact d2
 refine⟨st.length,le,s3.set d (.bq (dF T λp=> .ref (lr p))),?_,⟨bN W3.dc (aC (by omega)),λp hp=>?_⟩,⟨by have:=G1.1;rw[rA,n3,<-hs2];simpa using this,λk hk=>?_⟩,au _,λp hp=>by rw[hle];show st.length<=st.length+1+T.idxOf p;omega⟩
 ·refine lF (n:=4) (g:=gG) ?_
  have f2:gR 0 (gS 2 (aa 0) dM) [some (.ref d),some (.ref st.length),o2,none] s1= .nx [some (.ref d),some (.ref st.length),Zc,Pl] (s3.set d (.bq (dF T λp=> .ref (lr p)))):=Bu rfl d1 (by rw[hs2];exact e3) d3
  have f0:aO 1 gQ [some (.ref d),none,none,none] st= .nx [some (.ref d),some (.ref st.length),none,none] (st++[.bq []]):=rfl
  show gG [some (.ref d),none,none,none] st=_
  unfold gG
  rw[ba,f0,bH,ba,e1,bH,ba,f2,bH]
  rfl
 ·have:=W3.ls p hp
  rw[aC (by rw[hle];show d≠st.length+1+T.idxOf p;omega)]
  exact this
 ·by_cases e:k=d
  ·subst e
   rw[aP d3,hd]
  ·rw[aC (aH e),F3.2 k hk,<-hs2,aC (aH e)]
   exact G1.2 k hk
end
def K3(a b c:Nat)(s s':Hs):Prop:=s.length<=s'.length/\∀k,k < s.length->k≠a->k≠b->k≠c->s'[k]? =s[k]?
section
variable {T:List Pt} {rd:Pt->List Pt} {st:Hs}
theorem OR{l:Nat}{ws:List Wv}(h:st[l]? =some (.lst ws)):lE [.ref l] st= .ok (.int (ws.length:Int)) st:=by
 have e:=Bl (bY h)
 unfold lE
 dsimp only
 rw[h]
 exact e
theorem RX{a b:Nat}{xs ys:List Wv}(h:st[a]? =some (.lst xs))(k:st[b]? =some (.lst ys))(hl:xs.length+ys.length<=lim):qq (.ref a) (.ref b) st= .ok .bg (st.set a (.lst (xs++ys))):=by
 show E2 (.ref a) (.ref b) st=_
 unfold E2
 dsimp only
 rw[h,k]
 dsimp only
 rw[if_pos hl]
abbrev mF(T:List Pt)(m:Pt->Int):Ks:=dF T λp=> .int (m p)
theorem zZ{lq dm lr:Nat}{m:Pt->Int}{x:Pt}{ys:List Pt}(hm:st[dm]? =some (.bq (mF T m)))(hr:st[lr]? =some (.lst (ys.map pw)))(hx:x∈T)(hT:T.length<=100)(hy:ys.length < 1000)(ne:dm≠lr) :
  ∃st',bU [some (.ref lq),some (.ref dm),some (.ref lr),some (pw x)] st= .nx [some (.ref lq),some (.ref dm),some (.ref lr),some (pw x)] st'/\st'[dm]? =some (.bq (mF T λp=>if p=x then m p - 1 else m p))/\st'[lr]? =some (.lst ((ys++if m x - 1=0 then[x] else[]).map pw))/\st'.length=st.length/\∀k,k≠dm->k≠lr->st'[k]? =st[k]?:=by
 obtain⟨ρ,hρ⟩:∃ρ:bF,[some (.ref lq),some (.ref dm),some (.ref lr),some (pw x)]=ρ:=⟨_,rfl⟩
 have gd:=Hm (j9 hm) hx
 have pd:=mv (q:=x) (v:=.int (m x - 1)) hm (by rw[mw];omega)
 rw[wz hx] at pd
 have ec:dF T (sR (λp=> .int (m p)) x (.int (m x - 1)))=mF T λp=>if p=x then m p - 1 else m p:=jv λp _=>by
  show(if p=x then Wv.int (m x - 1) else Wv.int (m p))=Wv.int (if p=x then m p - 1 else m p)
  by_cases e:p=x
  ·rw[if_pos e,if_pos e,e]
  ·rw[if_neg e,if_neg e]
 rw[ec] at pd
 obtain⟨s1,hs1⟩:∃s1,st.set dm (.bq (mF T λp=>if p=x then m p - 1 else m p))=s1:=⟨_,rfl⟩
 rw[hs1] at pd
 have m1:s1[dm]? =some (.bq (mF T λp=>if p=x then m p - 1 else m p)):=by rw[<-hs1];exact aP hm
 have r1:s1[lr]? =some (.lst (ys.map pw)):=by rw[<-hs1,aC ne];exact hr
 have f1:xF (λi j=>i - j) (aa 1) (aa 3) (gC (.int 1)) ρ st= .nx ρ s1:=by
  unfold xF
  rw[<-hρ]
  simp only[cN,cQ,cL,cM,dj]
  rw[gd]
  simp only[e_c,dj]
  rw[pd]
 have g1:bX (aa 1) (aa 3) ρ s1= .ok (.int (m x - 1)) s1:=by
  have:=t7 (st:=s1) (i:=1) (j:=3) (ρ:=ρ) (l:=dm) (q:=x) (by rw[<-hρ];rfl) (by rw[<-hρ];rfl) (j9 m1) hx
  dsimp only at this
  rw[if_pos rfl] at this
  exact this
 have La:aQ (ag oEq (bX (aa 1) (aa 3)) (gC (.int 0))) ρ s1= .ok (m x - 1 == 0) s1:=by
  simp only[kC,ir,g1,a_,nU,e_c,RF,dU,nH]
 rw[hρ]
 unfold bU
 rw[ba,f1,bH,nT,La]
 simp only[dj]
 by_cases c:m x - 1=0
 ·have ap:=app_list (go:=aa 2) (ga:=aa 3) (ρ:=ρ) (v:=pw x) (st:=s1) (s1:=s1) (by rw[<-hρ];simp) r1 (by rw[<-hρ];simp) (by rw[bc];unfold lim;omega)
  rw[show(m x - 1 == 0)=true by simpa using c,if_pos c]
  refine⟨s1.set lr (.lst (ys.map pw++[pw x])),ap,by rw[aC (aH ne)];exact m1,by rw[ju];exact aP r1,by rw[<-hs1];simp,λk h1 h2=>?_⟩
  rw[aC (aH h2),<-hs1,aC (aH h1)]
 ·rw[show(m x - 1 == 0)=false by simpa using c,if_neg c,iz]
  refine⟨s1,rfl,m1,r1,by rw[<-hs1];simp,λk h1 _=>?_⟩
  rw[<-hs1,aC (aH h1)]
theorem Kx{lq dm:Nat}{m:Pt->Int}{rs:List Pt}(hq:st[lq]? =some (.lst (rs.map pw)))(hm:st[dm]? =some (.bq (mF T m)))(nd:rs.Nodup)(hs:∀p∈rs,p∈T)(hT:T.length<=100)(hr:rs.length<=100) :
  ∃st',cZ [.ref lq,.ref dm] st= .ok (.ref st.length) st'/\st'[st.length]? =some (.lst ((rs.filter λp=>decide (m p - 1=0)).map pw))/\st'[dm]? =some (.bq (mF T λp=>if p∈rs then m p - 1 else m p))/\bA dm st st':=by
 have lq':=bE hq
 have dm':=bE hm
 have ne:lq≠dm:=λz=>by rw[z,hm] at hq;cases hq
 obtain⟨s1,hs1⟩:∃s1,st++[Ob.lst []]=s1:=⟨_,rfl⟩
 have q1:s1[lq]? =some (.lst (rs.map pw)):=by rw[<-hs1];exact b9 hq
 have m1:s1[dm]? =some (.bq (mF T m)):=by rw[<-hs1];exact b9 hm
 have r1:s1[st.length]? =some (.lst (([]:List Pt).map pw)):=by rw[<-hs1];exact bM
 obtain⟨ρ2,s2,e2,⟨o3,rfl,m2,r2,n2,K2⟩,_⟩:=iu (i:=3) (gb:=bU) (l:=lq) (all:=rs.map pw) pw rs
  (λpre ρ s=>∃o3,ρ=[some (.ref lq),some (.ref dm),some (.ref st.length),o3]/\s[dm]? =some (.bq (mF T λp=>if p∈pre then m p - 1 else m p))/\s[st.length]? =some (.lst ((pre.filter λp=>decide (m p - 1=0)).map pw))/\s.length=s1.length/\∀k,k≠dm->k≠st.length->s[k]? =s1[k]?)
  (λx pre post ρ s hf hP hl=>by
   obtain⟨o3,rfl,m2,r2,n2,K2⟩:=hP
   have nx:x∉pre:=λz=>by
    rw[hf] at nd
    exact(List.nodup_append.mp nd).2.2 x z x aB rfl
   have pl:pre.length<=rs.length:=by rw[hf];simp
   obtain⟨s3,e3,m3,r3,n3,K3⟩:=zZ (lq:=lq) m2 r2 (hs x (by rw[hf];simp)) hT (by have:=gM (λp=>decide (m p - 1=0)) pre;omega) (by omega)
   rw[if_neg nx] at r3
   refine⟨_,s3,e3,?_,some (pw x),rfl,?_,?_,n3.trans n2,λk h1 h2=>(K3 k h1 h2).trans (K2 k h1 h2)⟩
   ·unfold ao at hl ⊢
    rw[K3 lq ne (by omega)]
    exact hl
   ·rw[m3]
    congr 2
    refine jv λp _=>?_
    congr 1
    dsimp only
    by_cases e:p=x
    ·rw[if_pos e,e,if_neg nx,if_pos (by simp)]
    ·have mm:(p∈pre++[x])↔p∈pre:=by simp[e]
     rw[if_neg e]
     simp only[mm]
   ·rw[r3,zY]
    congr 3
    by_cases c:m x - 1=0
    ·rw[if_pos c,ja (by simpa using c)];rfl
    ·rw[if_neg c,jb (by simpa using c)];rfl)
  rs [] [some (.ref lq),some (.ref dm),some (.ref st.length),none] s1 rfl ⟨none,rfl,by simpa using m1,r1,rfl,λ_ _ _=>rfl⟩ (bY q1)
 refine⟨s2,?_,r2,m2,⟨by rw[n2,<-hs1];simp,λk hk h2=>by rw[K2 k h2 (by omega),<-hs1,fQ hk]⟩⟩
 refine lF (n:=4) (g:=cY) ?_
 have f1:aO 2 (dR aq) [some (.ref lq),some (.ref dm),none,none] st= .nx [some (.ref lq),some (.ref dm),some (.ref st.length),none] s1:=by simp[hs1]
 have f2:jL 3 (aa 0) bU [some (.ref lq),some (.ref dm),some (.ref st.length),none] s1= .nx [some (.ref lq),some (.ref dm),some (.ref st.length),o3] s2:=by
  simp only[uM,cN,cL,cM,dj,jO (bY q1)]
  exact e2
 show cY [some (.ref lq),some (.ref dm),none,none] st=_
 unfold cY
 rw[ba,f1,bH,ba,f2,bH]
 rfl
theorem Dj{d e dm dr la:Nat}{le:Pt->Nat}{m:Pt->Int}{rk ab:List Pt}{rf:Pt->Wv}{x:Pt}{k:Int}{o6:Option Wv}(hT:T.length<=100)(OS:T.Nodup)(W:LD T e le (Hn T rd) st)(hm:st[dm]? =some (.bq (mF T m)))(hr:st[dr]? =some (.bq (dF rk rf)))(ha:st[la]? =some (.lst (ab.map pw)))
  (hx:x∈T)(nx:x∉rk)(lk:rk.length<=100)(Dx:ab.length<=100)(n1:dm≠dr)(n2:dm≠la)(n3:dr≠la)(n4:le x≠dm)(n5:le x≠dr)(n6:e≠dr) :
  ∃(VP:Pt->Wv)(st':Hs),fB [some (.ref d),some (.ref e),some (.ref dm),some (pw x),some (.ref dr),some (.int k),o6,some (.ref la)] st= .nx [some (.ref d),some (.ref e),some (.ref dm),some (pw x),some (.ref dr),some (.int k),o6,some (.ref la)] st'/\
   st'[dm]? =some (.bq (mF T (dec rd x m)))/\st'[dr]? =some (.bq (dF (rk++[x]) VP))/\st'[la]? =some (.lst ((ab++(T.filter λc=>decide (x∈rd c)).filter λc=>decide (dec rd x m c=0)).map pw))/\K3 dm dr la st st':=by
 obtain⟨ρ,hρ⟩:∃ρ:bF,[some (.ref d),some (.ref e),some (.ref dm),some (pw x),some (.ref dr),some (.int k),o6,some (.ref la)]=ρ:=⟨_,rfl⟩
 have pd:=mv (q:=x) (v:=.int k) hr (by rw[mw];omega)
 rw[nh nx] at pd
 obtain⟨s1,hs1⟩:∃s1,st.set dr (.bq (dF (rk++[x]) (sR rf x (.int k))))=s1:=⟨_,rfl⟩
 rw[hs1] at pd
 have other:∀k,k≠dr->s1[k]? =st[k]?:=λk hk=>by rw[<-hs1,aC (aH hk)]
 have l1:s1.length=st.length:=by rw[<-hs1];simp
 have r1:s1[dr]? =some (.bq (dF (rk++[x]) (sR rf x (.int k)))):=by rw[<-hs1];exact aP hr
 have m1:s1[dm]? =some (.bq (mF T m)):=by rw[other dm n1];exact hm
 have a1:s1[la]? =some (.lst (ab.map pw)):=by rw[other la (aH n3)];exact ha
 have q1:s1[le x]? =some (.lst ((Hn T rd x).map pw)):=by rw[other _ n5];exact W.ls x hx
 have g1:bX (aa 1) (aa 3) ρ s1= .ok (.ref (le x)) s1:=t7 (by rw[<-hρ];rfl) (by rw[<-hρ];rfl) (bN W.dc (other e n6)) hx
 have rl:(Hn T rd x).length<=100:=aW (gM _ _) hT
 obtain⟨s2,e2,y2,m2,K2⟩:=Kx (T:=T) q1 m1 (OS.filter _) (λp hp=>(List.mem_filter.mp hp).1) hT rl
 have Zd:=bE a1
 have a2:s2[la]? =some (.lst (ab.map pw)):=by rw[K2.2 la Zd (aH n2)];exact a1
 have rn:(Hn T rd x).filter (λp=>decide (m p - 1=0))=(T.filter λc=>decide (x∈rd c)).filter λc=>decide (dec rd x m c=0):=by
  unfold Hn
  refine Hq λp hp=>?_
  have:x∈rd p:=by simpa using (List.mem_filter.mp hp).2
  unfold dec
  rw[if_pos this]
 rw[rn] at y2
 have ex:=RX a2 y2 (by rw[bc,bc];have:=aW (gM (λc=>decide (dec rd x m c=0)) (T.filter λc=>decide (x∈rd c))) (gM _ _);unfold lim;omega)
 rw[<-ju] at ex
 have mm:mF T (λp=>if p∈Hn T rd x then m p - 1 else m p)=mF T (dec rd x m):=jv λp hp=>by
  have i:(p∈Hn T rd x)↔x∈rd p:=by unfold Hn;rw[ng];simp[hp]
  unfold dec
  congr 1
  simp only[i]
 rw[mm] at m2
 have f1:dg (aa 5) (aa 4) (aa 3) ρ st= .nx ρ s1:=by
  unfold dg
  rw[<-hρ]
  simp only[cN,cQ,cL,cM,dj]
  rw[pd]
 have f2:i9 (gP qq (aa 7) (ay 2 cZ (af (bX (aa 1) (aa 3)) (af (aa 2) aq)))) ρ s1= .nx ρ (s2.set la (.lst ((ab++(T.filter λc=>decide (x∈rd c)).filter λc=>decide (dec rd x m c=0)).map pw))):=by
  have v7:aa 7 ρ s1= .ok (.ref la) s1:=by rw[<-hρ];rfl
  have v2:aa 2 ρ s1= .ok (.ref dm) s1:=by rw[<-hρ];rfl
  unfold i9 gP
  rw[v7]
  simp only[a_]
  rw[bY a1]
  simp only[OG,GX,g1,a_,Bj,v2,Lz,Kj,e2,ex,dU,dj]
 rw[hρ]
 refine⟨sR rf x (.int k),s2.set la (.lst ((ab++(T.filter λc=>decide (x∈rd c)).filter λc=>decide (dec rd x m c=0)).map pw)),?_,by rw[aC (aH n2)];exact m2,?_,aP a2,⟨by rw[rA,<-l1];exact K2.1,λk hk h1 h2 h3=>?_⟩⟩
 ·unfold fB
  rw[ba,f1,bH]
  exact f2
 ·rw[aC (aH n3),K2.2 dr (bE r1) (aH n1)]
  exact r1
 ·rw[aC (aH h3),K2.2 k (by omega) h1,other k h2]
end
theorem my:∀{l T:List Pt},l.Nodup->(∀x∈l,x∈T)->l.length<=T.length
 | [],T,_,_=>dX _
 | a::r,T,n,h=>by
  obtain⟨n1,n2⟩:=List.nodup_cons.mp n
  have ha:=h a aB
  have ih:=my (T:=T.erase a) n2 λx hx=>by
   have ne:x≠a:=λz=>n1 (z ▸ hx)
   exact(List.mem_erase_of_ne ne).mpr (h x (aF _ hx))
  rw[List.length_erase_of_mem ha] at ih
  have:=List.length_pos_of_mem ha
  simp only[cG]
  omega
structure RI(T:List Pt)(rd:Pt->List Pt)(e dm dr lv:Nat)(le:Pt->Nat)(rk pend:List Pt)(st:Hs):Prop where
 W:LD T e le (Hn T rd) st
 m:∃m rf,st[dm]? =some (.bq (mF T m))/\st[dr]? =some (.bq (dF rk rf))/\Rv T rd rk pend m
 l:st[lv]? =some (.lst (pend.map pw))
 g:dr < lv
section
variable {T:List Pt} {rd:Pt->List Pt} {st:Hs}
theorem z_{d e dm dr lv b:Nat}{le:Pt->Nat}{rk pend:List Pt}{k:Int}{o3 o7:Option Wv}(hT:T.length<=100)(OS:T.Nodup)(hr:∀c∈T,(rd c).Nodup)(h1:e < b)(h2:∀p∈T,le p < b)(h3:b<=dm)(h4:dm < dr)(R:RI T rd e dm dr lv le rk pend st) :
  ∃(q3:Option Wv)(lv':Nat)(ab:List Pt)(st':Hs),de [some (.ref d),some (.ref e),some (.ref dm),o3,some (.ref dr),some (.int k),some (.ref lv),o7] st= .nx [some (.ref d),some (.ref e),some (.ref dm),q3,some (.ref dr),some (.int (k+1)),some (.ref lv'),some (.ref lv')] st'/\RI T rd e dm dr lv' le (rk++pend) ab st'/\Fb b st st':=by
 obtain⟨m,rf,hm,hr',V⟩:=R.m
 have lvl:=bE R.l
 have hg:=R.g
 obtain⟨s1,hs1⟩:∃s1,st++[Ob.lst []]=s1:=⟨_,rfl⟩
 have G1:Gr st s1:=by rw[<-hs1];exact Gr.push
 have a1:s1[st.length]? =some (.lst (([]:List Pt).map pw)):=by rw[<-hs1];exact bM
 have F1:Fb b st s1:=Fb.gr (by have:=bE hm;omega) G1
 have l1:=G1.get R.l
 obtain⟨ρ2,s2,e2,⟨q3,ab,m2,Ze,rfl,W2,hm2,hr2,ha2,V2,F2⟩,_⟩:=iu (i:=3) (gb:=fB) (l:=lv) (all:=pend.map pw) pw pend
  (λpre ρ s=>∃(q3:Option Wv)(ab:List Pt)(m:Pt->Int)(rf:Pt->Wv),ρ=[some (.ref d),some (.ref e),some (.ref dm),q3,some (.ref dr),some (.int k),some (.ref lv),some (.ref st.length)]/\LD T e le (Hn T rd) s/\s[dm]? =some (.bq (mF T m))/\s[dr]? =some (.bq (dF (rk++pre) rf))/\s[st.length]? =some (.lst (ab.map pw))/\Rv T rd (rk++pre) (pend.drop pre.length++ab) m/\Fb b st s)
  (λx pre post ρ s hf hP hl=>by
   obtain⟨q3,ab,m,rf,rfl,W,hm,hr2,ha,V,F⟩:=hP
   have dx:pend.drop pre.length=x::post:=by rw[hf];simp
   have Zf:pend.drop (pre++[x]).length=post:=by rw[hf];simp
   rw[dx,List.cons_append] at V
   have hx:x∈T:=V.yo x (by simp)
   have ll:=my V.nd V.yo
   simp only[cF,cG] at ll
   have nx:x∉rk++pre:=λz=>(List.nodup_append.mp V.nd).2.2 x z x aB rfl
   have bx:=h2 x hx
   obtain⟨VP,s3,e3,m3,r3,a3,K3⟩:=Dj (d:=d) (k:=k) (o6:=some (.ref lv)) hT OS W hm hr2 ha hx nx (by rw[cF];omega) (by omega) (by omega) (by have:=bE R.l;omega) (by omega) (by omega) (by omega) (by omega)
   have F3:Fb b s s3:=⟨K3.1,λk hk=>K3.2 k (by have:=bE hm;omega) (by omega) (by omega) (by omega)⟩
   refine⟨_,s3,e3,?_,some (pw x),_,_,VP,rfl,W.fb F3 h1 h2,m3,by rw[<-vj];exact r3,a3,?_,F.trans F3⟩
   ·unfold ao at hl ⊢
    have Zg:lv < s.length:=by
     by_cases c:lv < s.length
     ·exact c
     ·rw[vO (by omega)] at hl;cases hl
    rw[K3.2 lv Zg (by omega) (by omega) (by omega)]
    exact hl
   ·rw[Zf,<-vj,<-vj]
    exact V.turn OS hr)
  pend [] [some (.ref d),some (.ref e),some (.ref dm),o3,some (.ref dr),some (.int k),some (.ref lv),some (.ref st.length)] s1 rfl ⟨o3,[],m,rf,rfl,R.W.fb F1 h1 h2,G1.get hm,by rw[iz];exact G1.get hr',a1,by simpa using V,F1⟩ (bY l1)
 rw[vA,Au] at V2
 refine⟨q3,st.length,ab,s2,?_,⟨W2,⟨m2,Ze,hm2,hr2,V2⟩,ha2,by omega⟩,F2⟩
 have f1:aO 7 (dR aq) [some (.ref d),some (.ref e),some (.ref dm),o3,some (.ref dr),some (.int k),some (.ref lv),o7] st= .nx [some (.ref d),some (.ref e),some (.ref dm),o3,some (.ref dr),some (.int k),some (.ref lv),some (.ref st.length)] s1:=by simp[hs1]
 have f2:jL 3 (aa 6) fB [some (.ref d),some (.ref e),some (.ref dm),o3,some (.ref dr),some (.int k),some (.ref lv),some (.ref st.length)] s1= .nx [some (.ref d),some (.ref e),some (.ref dm),q3,some (.ref dr),some (.int k),some (.ref lv),some (.ref st.length)] s2:=by
  simp only[uM,cN,cQ,cL,cM,dj,jO (bY l1)]
  exact e2
 unfold de
 rw[ba,f1,bH,ba,f2,bH]
 rfl
theorem LL{l:Nat}{ws:List Wv}(h:st[l]? =some (.lst ws)):EK (.ref l) st= .ok (!ws.isEmpty) st:=by
 unfold EK
 simp only[bY h]
theorem sS{d e dm dr b:Nat}{le:Pt->Nat}(hT:T.length<=100)(OS:T.Nodup)(hr:∀c∈T,(rd c).Nodup)(h1:e < b)(h2:∀p∈T,le p < b)(h3:b<=dm)(h4:dm < dr):∀(N lv:Nat)(rk pend:List Pt)(k:Int)(o3 o7:Option Wv)(st:Hs),RI T rd e dm dr lv le rk pend st->T.length - rk.length < N->
  ∃(q3 q5 q6 q7:Option Wv)(lv':Nat)(Zh:List Pt)(st':Hs),uE (fi (aa 6)) de N [some (.ref d),some (.ref e),some (.ref dm),o3,some (.ref dr),some (.int k),some (.ref lv),o7] st= .nx [some (.ref d),some (.ref e),some (.ref dm),q3,some (.ref dr),q5,q6,q7] st'/\RI T rd e dm dr lv' le Zh [] st'/\Fb b st st'
 | 0,lv,rk,pend,k,o3,o7,st,R,hN=>absurd hN (vm _)
 | N+1,lv,rk,pend,k,o3,o7,st,R,hN=>by
  have tr:fi (aa 6) [some (.ref d),some (.ref e),some (.ref dm),o3,some (.ref dr),some (.int k),some (.ref lv),o7] st= .ok (!(pend.map pw).isEmpty) st:=by
   simp only[Lx,cN,cQ,cL,cM,a_]
   exact LL R.l
  cases pend with
  | nil=>
   refine⟨o3,some (.int k),some (.ref lv),o7,lv,rk,st,?_,R,Fb.refl⟩
   unfold uE
   rw[tr]
   rfl
  | cons x r=>
   obtain⟨q3,lv',ab,s1,e1,R1,F1⟩:=z_ (d:=d) (k:=k) (o3:=o3) (o7:=o7) hT OS hr h1 h2 h3 h4 R
   obtain⟨m,rf,_,_,V⟩:=R1.m
   have ll:=my V.nd V.yo
   simp only[cF,cG] at ll
   obtain⟨p3,p5,p6,p7,Zi,Zj,s2,e2,R2,F2⟩:=sS (d:=d) hT OS hr h1 h2 h3 h4 N lv' (rk++x::r) ab (k+1) q3 (some (.ref lv')) s1 R1 (by simp only[cF,cG];omega)
   refine⟨p3,p5,p6,p7,Zi,Zj,s2,?_,R2,F1.trans F2⟩
   unfold uE
   rw[tr]
   show(match de [some (.ref d),some (.ref e),some (.ref dm),o3,some (.ref dr),some (.int k),some (.ref lv),o7] st with
    | .nx ρ' st'=>uE (fi (aa 6)) de N ρ' st'
    | .ct ρ' st'=>uE (fi (aa 6)) de N ρ' st'
    | .bk ρ' st'=> .nx ρ' st'
    | .rt w st'=> .rt w st'
    | .err c ρ' st'=> .err c ρ' st'
    | .bad=> .bad)=_
   rw[e1]
   exact e2
theorem uJ{i d:Nat}{f:Pt->Wv}{cs:ip}{gt:GT}{ge:GE}{ρ:bF}{ws:List Wv}(hi:ρ[i]? =some (some (.ref d)))(h:st[d]? =some (.bq (dF T f)))(run:dZ cs gt ge ρ (none,T.map pw) (st.set d (.fH (dF T f)))= .ok (.ref st.length) (st.set d (.fH (dF T f))++[.lst ws])) :
  gU i (bO cs (gn (aa i)) gt ge) ρ st= .ok (.ref st.length) (st++[.lst ws]):=by
 have gc:bO cs (gn (aa i)) gt ge ρ st= .ok (.ref st.length) (st.set d (.fH (dF T f))++[.lst ws]):=by
  unfold bO gn
  simp only[cN,hi,cM,a_]
  rw[wA h]
  exact run
 have lt:=bE h
 have e1:(st.set d (.fH (dF T f))++[Ob.lst ws])[d]? =some (.fH (dF T f)):=b9 (aP h)
 unfold gU
 rw[zW hi h]
 dsimp only
 rw[gc]
 dsimp only
 unfold nB
 rw[e1]
 dsimp only
 congr 1
 rw[Ky _ _ (by simpa using lt),Bw]
 congr 1
 exact zo λj=>by
  by_cases c:j=d
  ·subst c;rw[aP h,h]
  ·rw[aC (aH c)]
theorem Hr{d:Nat}{lr:Pt->Nat}(nd:T.Nodup)(hT:T.length<=100)(hd:st[d]? =some (.bq (dF T λp=> .ref (lr p))))(hl:∀p∈T,st[lr p]? =some (.lst ((rd p).map pw)))(hsub:∀a∈T,∀p∈rd a,p∈T)(hr:∀a∈T,(rd a).Nodup) :
  ∃(dr:Nat)(rk:List Pt)(rf:Pt->Wv)(st':Hs),jl [.ref d] st= .ok (.ref dr) st'/\st'[dr]? =some (.bq (dF rk rf))/\rk.Nodup/\(∀(i:Nat)(h:i < rk.length),∀o∈rd rk[i],o∈rk.take i)/\Gr st st'/\st.length<=dr:=by
 obtain⟨e,le,s1,e1,W1,G1,b1,b2⟩:=zX (st:=st) nd hT hd hl hsub hr
 have dl:=bE hd
 have d1:=G1.get hd
 have el:e < s1.length:=gK W1.dc
 have XI:∀p∈T,le p < s1.length:=λp hp=>bE (W1.ls p hp)
 -- what is missing
 obtain⟨s2,hs2⟩:∃s2,(s1++[Ob.bq []]).set d (.fH (dF T λp=> .ref (lr p)))=s2:=⟨_,rfl⟩
 have XJ:(s1++[Ob.bq []])[d]? =some (.bq (dF T λp=> .ref (lr p))):=b9 d1
 have d2:s2[d]? =some (.fH (dF T λp=> .ref (lr p))):=by rw[<-hs2];exact aP XJ
 have m2:s2[s1.length]? =some (.bq (mF [] λp=>((rd p).length:Int))):=by rw[<-hs2,aC (by have:=G1.1;omega)];exact bM
 have Zk:∀p∈T,s2[lr p]? =some (.lst ((rd p).map pw)):=λp hp=>by
  rw[<-hs2]
  by_cases q:d=lr p
  ·have:=hl p hp
   rw[<-q,hd] at this
   cases this
  ·rw[aC q]
   exact b9 (G1.get (hl p hp))
 obtain⟨ρ3,s3,e3,o3,rfl,m3,F3,n3⟩:=oX (i:=3) (gb:=fD) pw T
  (λpre ρ s=>∃o3,ρ=[some (.ref d),some (.ref e),some (.ref s1.length),o3,none,none,none,none]/\s[s1.length]? =some (.bq (mF pre λp=>((rd p).length:Int)))/\Fb s1.length s2 s/\s.length=s2.length)
  (λa pre post ρ s hf hP=>by
   obtain⟨o3,rfl,m3,F3,n3⟩:=hP
   have ha:a∈T:=by rw[hf];simp
   have na:a∉pre:=λz=>by
    rw[hf] at nd
    exact(List.nodup_append.mp nd).2.2 a z a aB rfl
   have pl:pre.length<=T.length:=by rw[hf];simp
   have Zl:lr a < s1.length:=by have:=bE (hl a ha);have:=G1.1;omega
   have ds:bV s[d]? =some (dF T λp=> .ref (lr p)):=bN (zV d2) (F3.2 d (by have:=G1.1;omega))
   have ka:s[lr a]? =some (.lst ((rd a).map pw)):=by rw[F3.2 _ Zl];exact Zk a ha
   have ln:=OR ka
   rw[bc] at ln
   have g0:bX (aa 0) (aa 3) [some (.ref d),some (.ref e),some (.ref s1.length),some (pw a),none,none,none,none] s= .ok (.ref (lr a)) s:=t7 rfl rfl ds ha
   have pd:=mv (q:=a) (v:=.int ((rd a).length:Int)) m3 (by rw[mw];omega)
   rw[nh na] at pd
   have ec:dF (pre++[a]) (sR (λp=> .int ((rd p).length:Int)) a (.int ((rd a).length:Int)))=mF (pre++[a]) λp=>((rd p).length:Int):=jv λp _=>by
    show(if p=a then Wv.int ((rd a).length:Int) else Wv.int ((rd p).length:Int))=Wv.int ((rd p).length:Int)
    by_cases z:p=a
    ·rw[if_pos z,z]
    ·rw[if_neg z]
   rw[ec] at pd
   refine⟨[some (.ref d),some (.ref e),some (.ref s1.length),some (pw a),none,none,none,none],s.set s1.length (.bq (mF (pre++[a]) λp=>((rd p).length:Int))),?_,some (pw a),rfl,aP m3,F3.trans (Fb.set (au _)),by simp;exact n3⟩
   show fD [some (.ref d),some (.ref e),some (.ref s1.length),some (pw a),none,none,none,none] s=_
   unfold fD dg
   simp only[Kk,GX,g0,a_,Bj,Lz,ln,dU,dj,cN,cQ,cL,cM]
   rw[pd])
  T [] [some (.ref d),some (.ref e),some (.ref s1.length),none,none,none,none,none] s2 rfl ⟨none,rfl,m2,Fb.refl,rfl⟩
 have d3:s3[d]? =some (.fH (dF T λp=> .ref (lr p))):=by rw[F3.2 d (by have:=G1.1;omega)];exact d2
 have f3:gR 0 (gS 3 (aa 0) fD) [some (.ref d),some (.ref e),some (.ref s1.length),none,none,none,none,none] (s1++[.bq []])= .nx [some (.ref d),some (.ref e),some (.ref s1.length),o3,none,none,none,none] (s3.set d (.bq (dF T λp=> .ref (lr p)))):=Bu rfl XJ (by rw[hs2];exact e3) d3
 obtain⟨s4,Kz⟩:∃s4,s3.set d (.bq (dF T λp=> .ref (lr p)))=s4:=⟨_,rfl⟩
 rw[Kz] at f3
 have dn:d≠s1.length:=by have:=G1.1;omega
 have l4:s4.length=s1.length+1:=by rw[<-Kz,rA,n3,<-hs2];simp
 have d4:s4[d]? =some (.bq (dF T λp=> .ref (lr p))):=by rw[<-Kz];exact aP d3
 have m4:s4[s1.length]? =some (.bq (mF T λp=>((rd p).length:Int))):=by rw[<-Kz,aC dn];exact m3
 have G4:Gr s1 s4:=⟨by omega,λk hk=>by
  by_cases c:k=d
  ·subst c;rw[d4,d1]
  ·rw[<-Kz,aC (aH c),F3.2 k hk,<-hs2,aC (aH c),fQ hk]⟩
 obtain⟨s5,Tz⟩:∃s5,s4++[Ob.bq []]=s5:=⟨_,rfl⟩
 have G5:Gr s4 s5:=by rw[<-Tz];exact Gr.push
 have l5:s5.length=s1.length+2:=by rw[<-Tz];simp[l4]
 have d5:=G5.get d4
 have m5:=G5.get m4
 have r5:s5[s4.length]? =some (.bq (dF [] λ_=> .bg)):=by rw[<-Tz];exact bM
 -- the first level
 obtain⟨ρ6,KA⟩:∃ρ6:bF,[some (.ref d),some (.ref e),some (.ref s1.length),o3,some (.ref s4.length),some (.int 0),none,none]=ρ6:=⟨_,rfl⟩
 have Zm:(s5.set d (.fH (dF T λp=> .ref (lr p))))[s1.length]? =some (.bq (mF T λp=>((rd p).length:Int))):=by rw[aC dn];exact m5
 have cp:=fX (cs:=[("missing",2)]) (gt:=eG) (ge:=jj) (ρ:=ρ6) (w:=(none,T.map pw)) (st:=s5.set d (.fH (dF T λp=> .ref (lr p)))) (t:=λv=>match v with | .tup [.int a,.int b]=>decide (((rd (a,b)).length:Int)=0) | _=>false) (f:=id) trivial
  (λv hv acc=>by
   obtain⟨p,hp,rfl⟩:=List.mem_map.mp hv
   have g0:bX (aa 1) (aa 0) [some (pw p),some (.ref s1.length)] (s5.set d (.fH (dF T λp=> .ref (lr p)))++[.lst acc])= .ok (.int ((rd p).length:Int)) (s5.set d (.fH (dF T λp=> .ref (lr p)))++[.lst acc]):=t7 rfl rfl (j9 (b9 Zm)) hp
   rw[<-KA]
   show eG [some (pw p),some (.ref s1.length)] _=_
   unfold eG
   simp only[kC,ir,g0,a_,nU,e_c,RF,dU,nH]
   rfl)
  (λv hv _ acc=>rfl) (by show(T.map pw).length < lim;rw[bc];unfold lim;omega)
 have ef:((T.map pw).filter λv=>match v with | .tup [.int a,.int b]=>decide (((rd (a,b)).length:Int)=0) | _=>false).map id=(T.filter λp=>decide (((rd p).length:Int)=0)).map pw:=by
  rw[List.map_id,List.filter_map]
  rfl
 rw[show((none,T.map pw):Wk).2=T.map pw from rfl,ef,rA] at cp
 have f6:=uJ (i:=0) (ρ:=ρ6) (by rw[<-KA];rfl) d5 cp
 obtain⟨s6,VQ⟩:∃s6,s5++[Ob.lst ((T.filter λp=>decide (((rd p).length:Int)=0)).map pw)]=s6:=⟨_,rfl⟩
 rw[VQ] at f6
 have G6:Gr s5 s6:=by rw[<-VQ];exact Gr.push
 have l6:s6[s5.length]? =some (.lst ((T.filter λp=>decide (((rd p).length:Int)=0)).map pw)):=by rw[<-VQ];exact bM
 have V0:Rv T rd [] (T.filter λp=>decide (((rd p).length:Int)=0)) λp=>((rd p).length:Int):=by
  refine⟨nd.filter _,λx hx=>(List.mem_filter.mp hx).1,(λi h=>by cases h),λx hx o ho=>?_,λc hc=>?_⟩
  ·have:=(List.mem_filter.mp hx).2
   have z:(rd x).length=0:=by simpa using this
   rw[vt z] at ho
   cases ho
  ·congr 1
   rw[List.filter_eq_self.mpr]
   intro p _
   simp
 have R0:RI T rd e s1.length s4.length s5.length le [] (T.filter λp=>decide (((rd p).length:Int)=0)) s6:=⟨W1.fb (Fb.gr (au _) (G4.trans (G5.trans G6))) el XI,⟨_,_,G6.get m5,G6.get r5,V0⟩,l6,by omega⟩
 obtain⟨q3,q5,q6,q7,lv',rk,s7,e7,R7,F7⟩:=sS (d:=d) hT nd hr el XI (au _) (by omega) gW s5.length [] _ 0 o3 none s6 R0 (by unfold gW;simp only[jK];omega)
 obtain⟨m7,Zn,_,r7,V7⟩:=R7.m
 have XM:=V7.nd
 rw[iz] at XM
 refine⟨s4.length,rk,Zn,s7,?_,r7,XM,V7.od,⟨aW G1.1 (aW (G4.trans (G5.trans G6)).1 F7.1),λk hk=>?_⟩,by have:=G1.1;omega⟩
 ·refine lF (n:=8) (g:=jk) ?_
  have g1:aO 1 (ay 1 gH (af (aa 0) aq)) [some (.ref d),none,none,none,none,none,none,none] st= .nx [some (.ref d),some (.ref e),none,none,none,none,none,none] s1:=by simp[e1]
  have g2:aO 2 gQ [some (.ref d),some (.ref e),none,none,none,none,none,none] s1= .nx [some (.ref d),some (.ref e),some (.ref s1.length),none,none,none,none,none] (s1++[.bq []]):=rfl
  have g4:aO 4 gQ [some (.ref d),some (.ref e),some (.ref s1.length),o3,none,none,none,none] s4= .nx [some (.ref d),some (.ref e),some (.ref s1.length),o3,some (.ref s4.length),none,none,none] s5:=by rw[<-Tz];rfl
  have g5:aO 5 (gC (.int 0)) [some (.ref d),some (.ref e),some (.ref s1.length),o3,some (.ref s4.length),none,none,none] s5= .nx ρ6 s5:=by rw[<-KA];rfl
  have g6:aO 6 (gU 0 (bO [("missing",2)] (gn (aa 0)) eG jj)) ρ6 s5= .nx [some (.ref d),some (.ref e),some (.ref s1.length),o3,some (.ref s4.length),some (.int 0),some (.ref s5.length),none] s6:=by
   rw[uK,f6,<-KA]
   rfl
  show jk [some (.ref d),none,none,none,none,none,none,none] st=_
  unfold jk
  rw[ba,g1,bH,ba,g2,bH,ba,f3,bH,ba,g4,bH,ba,g5,bH,ba,g6,bH,ba]
  unfold jN
  rw[e7]
  rfl
 ·rw[F7.2 k (by have:=G1.1;omega),(G4.trans (G5.trans G6)).2 k (by have:=G1.1;omega)]
  exact G1.2 k hk
end
theorem RY{p q:Pt}{st:Hs}:oEq (pw p) (pw q) st= .ok (.bl (decide (p=q))) st:=by
 obtain⟨a,b⟩:=p
 obtain⟨c,d⟩:=q
 show Re.ok (Wv.bl (b_ (.tuple [.int a,.int b]) (.tuple [.int c,.int d]))) st=_
 congr 2
 simp only[b_,ni,Prod.mk.injEq]
 rw[Bx]
 simp
abbrev sF(seen:List Pt):Ks:=dF seen λ_=> .bl true
section
variable {T rk:List Pt} {rd:Pt->List Pt} {E:Pt->Pt->Prop}
theorem qe{d dr ls la l b:Nat}{rf:Pt->Wv}{s:Pt}{h:Wv}{all:List Wv}(n1:ls≠la)(n2:l≠ls)(n3:l≠la)(n4:dr≠ls)(n5:dr≠la)(b1:b<=ls)(b2:b<=la):∀(rest seen ahead:List Pt)(o6:Option Wv)(st:Hs),bV st[dr]? =some (dF rk rf)->st[ls]? =some (.bq (sF seen))->st[la]? =some (.lst (ahead.map pw))->ao st l=some all->rest.Nodup->seen.length+rest.length < 900->ahead.length+rest.length < 900->
  (s∈rest/\∃st',forL 6 aL l all (rest.map pw) [some (.ref d),some (.ref dr),some (pw s),some (.ref ls),some (.ref la),some h,o6] st= .rt (.bl true) st'/\Fb b st st')\/
  (s∉rest/\∃q6 st',forL 6 aL l all (rest.map pw) [some (.ref d),some (.ref dr),some (pw s),some (.ref ls),some (.ref la),some h,o6] st= .nx [some (.ref d),some (.ref dr),some (pw s),some (.ref ls),some (.ref la),some h,q6] st'/\st'[ls]? =some (.bq (sF (seen++rest.filter λo=> !decide (o∈rk)&& !decide (o∈seen))))/\st'[la]? =some (.lst ((ahead++rest.filter λo=> !decide (o∈rk)&& !decide (o∈seen)).map pw))/\Fb b st st'/\∀k,k≠ls->k≠la->st'[k]? =st[k]?)
 | [],seen,ahead,o6,st,hr,hs,ha,hl,nd,l1,l2=> .inr ⟨by simp,o6,st,rfl,by simpa using hs,by simpa using ha,Fb.refl,λ_ _ _=>rfl⟩
 | x::r,seen,ahead,o6,st,hr,hs,ha,hl,nd,l1,l2=>by
  obtain⟨VR,RZ⟩:=List.nodup_cons.mp nd
  simp only[cG] at l1 l2
  obtain⟨ρ,hρ⟩:∃ρ:bF,[some (.ref d),some (.ref dr),some (pw s),some (.ref ls),some (.ref la),some h,some (pw x)]=ρ:=⟨_,rfl⟩
  have eq:=RY (p:=x) (q:=s) (st:=st)
  have t1:aQ (ag oEq (aa 6) (aa 2)) ρ st= .ok (decide (x=s)) st:=by
   rw[<-hρ]
   simp only[kC,ir,cN,cQ,cL,cM,a_,nU,eq,dU,nH]
  have Ht:∀{ρ':bF}{st':Hs},aL ρ st= .nx ρ' st'->ao st' l=some all->forL 6 aL l all ((x::r).map pw) [some (.ref d),some (.ref dr),some (pw s),some (.ref ls),some (.ref la),some h,o6] st=forL 6 aL l all (r.map pw) ρ' st':=λ{ρ' st'} hz hl'=>by
   rw[a6]
   conv=>lhs;unfold forL
   rw[show([some (.ref d),some (.ref dr),some (pw s),some (.ref ls),some (.ref la),some h,o6]:bF).set 6 (some (pw x))=ρ from hρ,hz]
   simp only[if_pos hl']
  have VS:∀{w:Wv}{st':Hs},aL ρ st= .rt w st'->forL 6 aL l all ((x::r).map pw) [some (.ref d),some (.ref dr),some (pw s),some (.ref ls),some (.ref la),some h,o6] st= .rt w st':=λ{w st'} hz=>by
   rw[a6]
   conv=>lhs;unfold forL
   rw[show([some (.ref d),some (.ref dr),some (pw s),some (.ref ls),some (.ref la),some h,o6]:bF).set 6 (some (pw x))=ρ from hρ,hz]
  by_cases c:x=s
  ·subst c
   refine .inl ⟨aB,st,?_,Fb.refl⟩
   refine VS ?_
   unfold aL
   rw[ba,nT,t1]
   simp
  ·have mm:(s∈x::r)↔s∈r:=⟨λz=>(List.mem_cons.mp z).resolve_left λy=>c y.symm,aF _⟩
   have i1:=yd (q:=x) (neg:=true) hr
   have i2:=yd (q:=x) (neg:=true) (j9 hs)
   have t2:nP (aQ (ag (iM true) (aa 6) (aa 1))) (aQ (ag (iM true) (aa 6) (aa 3))) ρ st= .ok (!decide (x∈rk)&& !decide (x∈seen)) st:=by
    rw[<-hρ]
    simp only[qu,kC,ir,cN,cQ,cL,cM,a_,nU,i1,dU,nH]
    by_cases k1:x∈rk
    ·rw[decide_eq_true k1];rfl
    ·rw[decide_eq_false k1]
     show aQ (ag (iM true) (aa 6) (aa 3)) [some (.ref d),some (.ref dr),some (pw s),some (.ref ls),some (.ref la),some h,some (pw x)] st=_
     simp only[kC,ir,cN,cQ,cL,cM,a_,nU,i2,dU,nH]
     by_cases k2:x∈seen
     ·rw[decide_eq_true k2];rfl
     ·rw[decide_eq_false k2];rfl
   have st1:∀{z:Rs},jz (nP (aQ (ag (iM true) (aa 6) (aa 1))) (aQ (ag (iM true) (aa 6) (aa 3)))) (aA (dg (gC (.bl true)) (aa 3) (aa 6)) (i9 (gP lS (aa 4) (aa 6)))) bt ρ st=z->aL ρ st=z:=λ{z} hz=>by
    unfold aL
    rw[ba,nT,t1,decide_eq_false c]
    simpa using hz
   by_cases k:(!decide (x∈rk)&& !decide (x∈seen))=true
   ·rw[ff] at k
    have k1:x∉rk:=by simpa using k.1
    have k2:x∉seen:=by simpa using k.2
    have pd:=mv (q:=x) (v:=.bl true) hs (by rw[mw];omega)
    rw[nh k2] at pd
    have ec:dF (seen++[x]) (sR (λ_=> .bl true) x (.bl true))=sF (seen++[x]):=jv λp _=>by unfold sR;split<;>rfl
    rw[ec] at pd
    obtain⟨s1,hs1⟩:∃s1,st.set ls (.bq (sF (seen++[x])))=s1:=⟨_,rfl⟩
    rw[hs1] at pd
    have a1:s1[la]? =some (.lst (ahead.map pw)):=by rw[<-hs1,aC n1];exact ha
    have ap:=app_list (go:=aa 4) (ga:=aa 6) (ρ:=ρ) (v:=pw x) (st:=s1) (s1:=s1) (by rw[<-hρ];simp) a1 (by rw[<-hρ];simp) (by rw[bc];unfold lim;omega)
    obtain⟨s2,hs2⟩:∃s2,s1.set la (.lst (ahead.map pw++[pw x]))=s2:=⟨_,rfl⟩
    rw[hs2] at ap
    have other:∀k,k≠ls->k≠la->s2[k]? =st[k]?:=λk h1 h2=>by rw[<-hs2,aC (aH h2),<-hs1,aC (aH h1)]
    have hl2:ao s2 l=some all:=by unfold ao at hl ⊢;rw[other l n2 n3];exact hl
    have F2:Fb b st s2:=by rw[<-hs2,<-hs1];exact(Fb.set b1).trans (Fb.set b2)
    have fp:dg (gC (.bl true)) (aa 3) (aa 6) ρ st= .nx ρ s1:=by
     unfold dg
     rw[<-hρ]
     simp only[e_c,cN,cQ,cL,cM,dj]
     rw[pd]
    have run:aL ρ st= .nx ρ s2:=st1 (by
     rw[nT,t2,decide_eq_false k1,decide_eq_false k2]
     show aA _ _ ρ st=_
     rw[ba,fp,bH]
     exact ap)
    have KC:s2[ls]? =some (.bq (sF (seen++[x]))):=by rw[<-hs2,aC (aH n1),<-hs1];exact aP hs
    have VT:s2[la]? =some (.lst ((ahead++[x]).map pw)):=by rw[<-hs2,ju];exact aP a1
    have fl:(x::r).filter (λo=> !decide (o∈rk)&& !decide (o∈seen))=x::r.filter (λo=> !decide (o∈rk)&& !decide (o∈seen++[x])):=by
     rw[ja (by simp[k1,k2])]
     congr 1
     refine Hq λo ho=>?_
     have:o≠x:=λz=>VR (z ▸ ho)
     simp[this]
    rw[Ht run hl2,<-hρ,fl]
    rcases qe (d:=d) (s:=s) (h:=h) n1 n2 n3 n4 n5 b1 b2 r (seen++[x]) (ahead++[x]) (some (pw x)) s2 (bN hr (other dr n4 n5)) KC VT hl2 RZ (by simp;omega) (by simp;omega) with ⟨z1,s3,z2,z3⟩ | ⟨z1,q6,s3,z2,z3,z4,z5,z6⟩
    ·exact .inl ⟨mm.mpr z1,s3,z2,F2.trans z3⟩
    ·refine .inr ⟨λz=>z1 (mm.mp z),q6,s3,z2,?_,?_,F2.trans z5,λk h1 h2=>(z6 k h1 h2).trans (other k h1 h2)⟩
     ·rw[z3];simp
     ·rw[z4];simp
   ·have kf:(!decide (x∈rk)&& !decide (x∈seen))=false:=by simpa using k
    have run:aL ρ st= .nx ρ st:=st1 (by rw[nT,t2,kf];rfl)
    have fl:(x::r).filter (λo=> !decide (o∈rk)&& !decide (o∈seen))=r.filter (λo=> !decide (o∈rk)&& !decide (o∈seen)):=jb k
    rw[Ht run hl,<-hρ,fl]
    rcases qe (d:=d) (s:=s) (h:=h) n1 n2 n3 n4 n5 b1 b2 r seen ahead (some (pw x)) st hr hs ha hl RZ (by omega) (by omega) with ⟨z1,s3,z2,z3⟩ | ⟨z1,q6,s3,z2,z3,z4,z5,z6⟩
    ·exact .inl ⟨mm.mpr z1,s3,z2,z3⟩
    ·exact .inr ⟨λz=>z1 (mm.mp z),q6,s3,z2,z3,z4,z5,z6⟩
theorem sT{d dr ls la b:Nat}{lr:Pt->Nat}{rf:Pt->Wv}{s:Pt}(hT:T.length<=100)(hE:∀x∈T,∀o,E x o↔o∈rd x)(hsub:∀a∈T,∀p∈rd a,p∈T)(hr:∀a∈T,(rd a).Nodup)(hk:∀x∈rk,∀o,E x o->o∈rk)(hs:s∈T)(ns:s∉rk)(n1:ls≠la)(b1:b<=ls)(b2:b<=la)(b3:d < b)(b4:dr < b)(b5:∀p∈T,lr p < b) :
  ∀(N:Nat)(seen ahead:List Pt)(o5 o6:Option Wv)(st:Hs),LD T d lr rd st->bV st[dr]? =some (dF rk rf)->st[ls]? =some (.bq (sF seen))->st[la]? =some (.lst (ahead.map pw))->Bv E T rk s seen ahead->ahead.length+(T.length - seen.length) < N->ahead.length+(T.length - seen.length)<=400->
  (∃st',uE (fi (aa 4)) bb N [some (.ref d),some (.ref dr),some (pw s),some (.ref ls),some (.ref la),o5,o6] st= .rt (.bl true) st'/\yc E s s/\Fb b st st')\/(∃ρ' st',uE (fi (aa 4)) bb N [some (.ref d),some (.ref dr),some (pw s),some (.ref ls),some (.ref la),o5,o6] st= .nx ρ' st'/\¬yc E s s/\Fb b st st')
 | 0,seen,ahead,o5,o6,st,R,hr1,h1,h2,B,hN,_=>absurd hN (vm _)
 | N+1,seen,ahead,o5,o6,st,R,hr1,h1,h2,B,hN,hA=>by
  have tr:fi (aa 4) [some (.ref d),some (.ref dr),some (pw s),some (.ref ls),some (.ref la),o5,o6] st= .ok (!(ahead.map pw).isEmpty) st:=by
   simp only[Lx,cN,cQ,cL,cM,a_]
   exact LL h2
  rcases OT ahead with rfl | ⟨ah,x,rfl⟩
  ·refine .inr ⟨[some (.ref d),some (.ref dr),some (pw s),some (.ref ls),some (.ref la),o5,o6],st,?_,B.fin hk ns,Fb.refl⟩
   unfold uE
   rw[tr]
   rfl
  ·rw[OU] at h2 B hN hA tr
   have lc:(ah++[x]).length=ah.length+1:=by simp
   have hN:ah.length+1+(T.length - seen.length) < N+1:=lc ▸ hN
   have hA:ah.length+1+(T.length - seen.length)<=400:=lc ▸ hA
   have hx:x∈T:=by
    rcases B.sub x (by simp) with z | z
    ·rw[z];exact hs
    ·exact B.yo x z
   have sl:=my B.nd B.yo
   have lx:=b5 x hx
   have po:nE (aa 4) [some (.ref d),some (.ref dr),some (pw s),some (.ref ls),some (.ref la),o5,o6] st= .ok (pw x) (st.set la (.lst (ah.map pw))):=by
    unfold nE
    simp only[cN,cQ,cL,cM,a_]
    unfold J1
    dsimp only
    rw[h2]
    simp
   obtain⟨s1,hs1⟩:∃s1,st.set la (.lst (ah.map pw))=s1:=⟨_,rfl⟩
   rw[hs1] at po
   have F1:Fb b st s1:=by rw[<-hs1];exact Fb.set b2
   have R1:=R.fb F1 b3 b5
   have a1:s1[la]? =some (.lst (ah.map pw)):=by rw[<-hs1];exact aP h2
   have c1:s1[ls]? =some (.bq (sF seen)):=by rw[<-hs1,aC (aH n1)];exact h1
   have k1:=R1.ls x hx
   have g1:bX (aa 0) (aa 5) [some (.ref d),some (.ref dr),some (pw s),some (.ref ls),some (.ref la),some (pw x),o6] s1= .ok (.ref (lr x)) s1:=t7 rfl rfl R1.dc hx
   have rl:=my (hr x hx) (hsub x hx)
   have body:∀{z:Rs},forL 6 aL (lr x) ((rd x).map pw) ((rd x).map pw) [some (.ref d),some (.ref dr),some (pw s),some (.ref ls),some (.ref la),some (pw x),o6] s1=z->bb [some (.ref d),some (.ref dr),some (pw s),some (.ref ls),some (.ref la),o5,o6] st=z:=λ{z} hz=>by
    have f1:aO 5 (nE (aa 4)) [some (.ref d),some (.ref dr),some (pw s),some (.ref ls),some (.ref la),o5,o6] st= .nx [some (.ref d),some (.ref dr),some (pw s),some (.ref ls),some (.ref la),some (pw x),o6] s1:=by
     rw[uK,po]
     rfl
    unfold bb
    rw[ba,f1,bH,uM,g1]
    simp only[dj,jO (bY k1)]
    exact hz
   have wh:∀{z:Rs},bb [some (.ref d),some (.ref dr),some (pw s),some (.ref ls),some (.ref la),o5,o6] st=z->uE (fi (aa 4)) bb (N+1) [some (.ref d),some (.ref dr),some (pw s),some (.ref ls),some (.ref la),o5,o6] st=(match z with
    | .nx ρ' st'=>uE (fi (aa 4)) bb N ρ' st'
    | .ct ρ' st'=>uE (fi (aa 4)) bb N ρ' st'
    | .bk ρ' st'=> .nx ρ' st'
    | .rt w st'=> .rt w st'
    | .err c ρ' st'=> .err c ρ' st'
    | .bad=> .bad):=λ{z} hz=>by
    conv=>lhs;unfold uE
    rw[tr]
    have ne:(!((ah++[x]).map pw).isEmpty)=true:=by simp
    rw[ne]
    simp only[dj,if_true]
    rw[hz]<;>(cases z<;>rfl)
   rcases qe (d:=d) (s:=s) (h:=pw x) (rk:=rk) (rf:=rf) (l:=lr x) (all:=(rd x).map pw) (b:=b) n1 (by omega) (by omega) (by omega) (by omega) b1 b2 (rd x) seen ah o6 s1 (bN hr1 (F1.2 dr b4)) c1 a1 (bY k1) (hr x hx) (by omega) (by omega) with ⟨z1,s3,z2,z3⟩ | ⟨z1,q6,s3,z2,z3,z4,z5,z6⟩
   ·refine .inl ⟨s3,by rw[wh (body z2)],?_,F1.trans z3⟩
    have e:=(hE x hx s).mpr z1
    rcases B.sub x (by simp) with z | z
    ·rw[z] at e;exact .one e
    ·exact .tail (B.rc x z) e
   ·have B2:=B.turn (hr x hx) (hE x hx) (hsub x hx) z1
    have VU:=my B2.nd B2.yo
    simp only[cF] at VU
    have F3:=F1.trans z5
    rw[wh (body z2)]
    dsimp only
    rcases sT (d:=d) hT hE hsub hr hk hs ns n1 b1 b2 b3 b4 b5 N _ _ (some (pw x)) q6 s3 (R.fb F3 b3 b5) (bN hr1 (F3.2 dr b4)) z3 z4 B2 (by simp only[cF];omega) (by simp only[cF];omega) with ⟨s4,y1,y2,y3⟩ | ⟨ρ',s4,y1,y2,y3⟩
    ·exact .inl ⟨s4,y1,y2,F3.trans y3⟩
    ·exact .inr ⟨ρ',s4,y1,y2,F3.trans y3⟩
theorem Aa{d dr:Nat}{lr:Pt->Nat}{rf:Pt->Wv}{s:Pt}{st:Hs}(hT:T.length<=100)(hE:∀x∈T,∀o,E x o↔o∈rd x)(hsub:∀a∈T,∀p∈rd a,p∈T)(hr:∀a∈T,(rd a).Nodup)(hk:∀x∈rk,∀o,E x o->o∈rk)(hs:s∈T)(ns:s∉rk)(R:LD T d lr rd st)(hd:bV st[dr]? =some (dF rk rf)) :
  ∃(v:Bool)(st':Hs),e_ [.ref d,.ref dr,pw s] st= .ok (.bl v) st'/\(v=true↔yc E s s)/\Gr st st':=by
 obtain⟨s1,hs1⟩:∃s1,st++[Ob.bq []]=s1:=⟨_,rfl⟩
 obtain⟨s2,hs2⟩:∃s2,s1++[Ob.lst [pw s]]=s2:=⟨_,rfl⟩
 have l1:s1.length=st.length+1:=by rw[<-hs1];simp
 have G1:Gr st s1:=by rw[<-hs1];exact Gr.push
 have G2:Gr s1 s2:=by rw[<-hs2];exact Gr.push
 have c2:s2[st.length]? =some (.bq (sF [])):=G2.get (by rw[<-hs1];exact bM)
 have a2:s2[s1.length]? =some (.lst ([s].map pw)):=by rw[<-hs2];exact bM
 have dl:=gK R.dc
 have rl:=gK hd
 have F2:Fb st.length st s2:=Fb.gr (au _) (G1.trans G2)
 have b5:∀p∈T,lr p < st.length:=λp hp=>bE (R.ls p hp)
 have run:∀{z:Rs},(aA (jN gW (fi (aa 4)) bb) (aY (gC (.bl false)))) [some (.ref d),some (.ref dr),some (pw s),some (.ref st.length),some (.ref s1.length),none,none] s2=z->e8 [some (.ref d),some (.ref dr),some (pw s),none,none,none,none] st=z:=λ{z} hz=>by
  have f1:aO 3 gQ [some (.ref d),some (.ref dr),some (pw s),none,none,none,none] st= .nx [some (.ref d),some (.ref dr),some (pw s),some (.ref st.length),none,none,none] s1:=by rw[<-hs1];rfl
  have f2:aO 4 (dR (af (aa 2) aq)) [some (.ref d),some (.ref dr),some (pw s),some (.ref st.length),none,none,none] s1= .nx [some (.ref d),some (.ref dr),some (pw s),some (.ref st.length),some (.ref s1.length),none,none] s2:=by simp[hs2]
  unfold e8
  rw[ba,f1,bH,ba,f2,bH]
  exact hz
 rcases sT (d:=d) (b:=st.length) hT hE hsub hr hk hs ns (by omega) (au _) (by omega) dl rl b5 gW [] [s] none none s2 (R.fb F2 dl b5) (bN hd (F2.2 dr rl)) c2 a2 Bv.start (by unfold gW;simp only[cG,jK];omega) (by simp only[cG,jK];omega) with ⟨s4,y1,y2,y3⟩ | ⟨ρ',s4,y1,y2,y3⟩
 ·refine⟨true,s4,lF (n:=7) (g:=e8) (run ?_),⟨λ_=>y2,λ_=>rfl⟩,(F2.trans y3).OP⟩
  rw[ba]
  unfold jN
  rw[y1]
  rfl
 ·refine⟨false,s4,lF (n:=7) (g:=e8) (run ?_),⟨λz=>(by cases z),λz=>absurd z y2⟩,(F2.trans y3).OP⟩
  rw[ba]
  unfold jN
  rw[y1]
  rfl
end
inductive ye(E:Pt->Pt->Prop):List Pt->Wv->Prop
 | nil:ye E [] .bg
 | here {x:Pt} {r:List Pt}:yc E x x->ye E (x::r) (pw x)
 | next {x:Pt} {r:List Pt} {w:Wv}:¬yc E x x->ye E r w->ye E (x::r) w
theorem ye.one{E:Pt->Pt->Prop}{T:List Pt}{v w:Wv}(h:ye E T v)(k:ye E T w):v=w:=by
 induction h with
 | nil=>cases k;rfl
 | here p=>
  cases k with
  | here _=>rfl
  | next n _=>exact absurd p n
 | next n _ ih=>
  cases k with
  | here p=>exact absurd p n
  | next _ k=>exact ih k
theorem ye.kind{E:Pt->Pt->Prop}{T:List Pt}{w:Wv}(h:ye E T w):w= .bg\/∃p,w=pw p:=by
 induction h with
 | nil=>exact .inl rfl
 | here _=>exact .inr ⟨_,rfl⟩
 | next _ _ ih=>exact ih
theorem ye.ne{E:Pt->Pt->Prop}{T:List Pt}{v w:Wv}{st:Hs}(h:ye E T v)(k:ye E T w):yk v w st= .ok (.bl false) st:=by
 rw[h.one k]
 rcases k.kind with rfl | ⟨p,rfl⟩
 ·exact G7 rfl rfl (by simp[b_])
 ·exact G7 (d:=.tuple [.int p.1,.int p.2]) rfl rfl (by simp[b_,ni])
section
variable {T rk:List Pt} {rd:Pt->List Pt} {E:Pt->Pt->Prop}
theorem By{d dr:Nat}{sh bk:Option Wv}{lr:Pt->Nat}{rf:Pt->Wv}(hT:T.length<=100)(hE:∀x∈T,∀o,E x o↔o∈rd x)(hsub:∀a∈T,∀p∈rd a,p∈T)(hr:∀a∈T,(rd a).Nodup)(hk:∀x∈rk,∀o,E x o->o∈rk)(nr:∀x∈rk,¬yc E x x) :
  ∀(rest:List Pt)(o4:Option Wv)(st:Hs),(∀x∈rest,x∈T)->LD T d lr rd st->bV st[dr]? =some (dF rk rf)->
  ∃w st',Gr st st'/\ye E rest w/\((∃q,du 4 aG (rest.map pw) [sh,bk,some (.ref d),some (.ref dr),o4] st= .nx [sh,bk,some (.ref d),some (.ref dr),q] st'/\w= .bg)\/du 4 aG (rest.map pw) [sh,bk,some (.ref d),some (.ref dr),o4] st= .rt w st')
 | [],o4,st,_,_,_=>⟨.bg,st,Gr.refl,.nil,.inl ⟨o4,rfl,rfl⟩⟩
 | x::r,o4,st,hx,R,hd=>by
  have mx:=hx x aB
  have i1:=yd (q:=x) (neg:=true) hd
  have t1:aQ (ag (iM true) (aa 4) (aa 3)) [sh,bk,some (.ref d),some (.ref dr),some (pw x)] st= .ok (!decide (x∈rk)) st:=by
   simp only[kC,ir,cN,cQ,cL,cM,a_,nU,i1,dU,nH]
   by_cases c:x∈rk
   ·rw[decide_eq_true c];rfl
   ·rw[decide_eq_false c];rfl
  have XN:∀{s1:Hs},Gr st s1->¬yc E x x->aG [sh,bk,some (.ref d),some (.ref dr),some (pw x)] st= .nx [sh,bk,some (.ref d),some (.ref dr),some (pw x)] s1->∃w st',Gr st st'/\ye E (x::r) w/\((∃q,du 4 aG ((x::r).map pw) [sh,bk,some (.ref d),some (.ref dr),o4] st= .nx [sh,bk,some (.ref d),some (.ref dr),q] st'/\w= .bg)\/du 4 aG ((x::r).map pw) [sh,bk,some (.ref d),some (.ref dr),o4] st= .rt w st'):=λ{s1} G n run=>by
   have R1:LD T d lr rd s1:=R.fb (Fb.gr (au _) G) (gK R.dc) λp hp=>bE (R.ls p hp)
   obtain⟨w,s2,G2,f2,e2⟩:=By (sh:=sh) (bk:=bk) (dr:=dr) (rf:=rf) hT hE hsub hr hk nr r (some (pw x)) s1 (λy hy=>hx y (aF _ hy)) R1 (bN hd (G.2 _ (gK hd)))
   have u:du 4 aG ((x::r).map pw) [sh,bk,some (.ref d),some (.ref dr),o4] st=du 4 aG (r.map pw) [sh,bk,some (.ref d),some (.ref dr),some (pw x)] s1:=by
    rw[a6]
    conv=>lhs;unfold du
    rw[show([sh,bk,some (.ref d),some (.ref dr),o4]:bF).set 4 (some (pw x))=[sh,bk,some (.ref d),some (.ref dr),some (pw x)] from rfl,run]
   rw[u]
   exact⟨w,s2,G.trans G2,.next n f2,e2⟩
  by_cases c:x∈rk
  ·refine XN Gr.refl (nr x c) ?_
   unfold aG
   rw[nT,qu,t1,decide_eq_true c]
   rfl
  ·obtain⟨v,s1,e1,iff,G1⟩:=Aa (rf:=rf) (st:=st) hT hE hsub hr hk mx c R hd
   have t2:nP (aQ (ag (iM true) (aa 4) (aa 3))) (fi (ay 3 e_ (af (aa 2) (af (aa 3) (af (aa 4) aq))))) [sh,bk,some (.ref d),some (.ref dr),some (pw x)] st= .ok v s1:=by
    rw[qu,t1,decide_eq_false c]
    show fi (ay 3 e_ (af (aa 2) (af (aa 3) (af (aa 4) aq)))) [sh,bk,some (.ref d),some (.ref dr),some (pw x)] st= .ok v s1
    simp[e1]
   cases v with
   | false=>
    refine XN G1 (λz=>absurd (iff.mpr z) (by decide)) ?_
    unfold aG
    rw[nT,t2]
    rfl
   | true=>
    refine⟨pw x,s1,G1,.here (iff.mp rfl),.inr ?_⟩
    rw[a6]
    unfold du
    rw[show([sh,bk,some (.ref d),some (.ref dr),o4]:bF).set 4 (some (pw x))=[sh,bk,some (.ref d),some (.ref dr),some (pw x)] from rfl]
    have run:aG [sh,bk,some (.ref d),some (.ref dr),some (pw x)] st= .rt (pw x) s1:=by
     unfold aG
     rw[nT,t2]
     rfl
    rw[run]
theorem Ab{d:Nat}{sh bk:Wv}{lr:Pt->Nat}{st s1:Hs}(nd:T.Nodup)(hT:T.length<=100)(hE:∀x o,E x o↔o∈rd x)(hsub:∀a∈T,∀p∈rd a,p∈T)(hr:∀a∈T,(rd a).Nodup)
  (run:eZ [sh,bk] st= .ok (.ref d) s1)(G1:Gr st s1)(ld:st.length<=d)(hd:s1[d]? =some (.bq (dF T λp=> .ref (lr p))))(hl:∀p∈T,s1[lr p]? =some (.lst ((rd p).map pw))) :
  ∃w st',iW [sh,bk] st= .ok w st'/\ye E T w/\Gr st st':=by
 obtain⟨dr,rk,rf,s2,e2,h2,n2,od,G2,l2⟩:=Hr (st:=s1) nd hT hd hl hsub hr
 have dl:=bE hd
 have dn:d≠dr:=by omega
 have hd2:=G2.get hd
 have F3:Fb d s2 (s2.set d (.fH (dF T λp=> .ref (lr p)))):=Fb.set (au _)
 have ne:∀p∈T,lr p≠d:=λp hp z=>by
  have:=hl p hp
  rw[z,hd] at this
  cases this
 have R3:LD T d lr rd (s2.set d (.fH (dF T λp=> .ref (lr p)))):=⟨zV (aP hd2),λp hp=>by rw[aC (aH (ne p hp))];exact G2.get (hl p hp)⟩
 have r3:bV (s2.set d (.fH (dF T λp=> .ref (lr p))))[dr]? =some (dF rk rf):=j9 (by rw[aC dn];exact h2)
 have od':∀(i:Nat)(h:i < rk.length),∀o,E rk[i] o->o∈rk.take i:=λi h o e=>od i h o ((hE _ _).mp e)
 have hk:∀x∈rk,∀o,E x o->o∈rk:=λx hx o e=>by
  obtain⟨i,h,q⟩:=List.mem_iff_getElem.mp hx
  rw[<-q] at e
  exact Bs (od' i h o e)
 obtain⟨w,s4,G4,f4,e4⟩:=By (sh:=some sh) (bk:=some bk) (d:=d) (dr:=dr) (rf:=rf) hT (λx _=>hE x) hsub hr hk (Hl n2 od') T none _ (λ_ h=>h) R3 r3
 have FG:Gr st s4:=by
  refine⟨aW G1.1 (aW G2.1 (aW F3.1 G4.1)),λk hk=>?_⟩
  have:=G1.1
  have:=G2.1
  rw[G4.2 k (by simp;omega),F3.2 k (by omega),G2.2 k (by omega),G1.2 k hk]
 have R4:∀{z:Rs},aA (gR 2 (gS 4 (aa 2) aG)) (aY (gC .bg)) [some sh,some bk,some (.ref d),some (.ref dr),none] s2=z->fc [some sh,some bk,none,none,none] st=z:=λ{z} hz=>by
  have f1:aO 2 (ay 2 eZ (af (aa 0) (af (aa 1) aq))) [some sh,some bk,none,none,none] st= .nx [some sh,some bk,some (.ref d),none,none] s1:=by simp[run]
  have f2:aO 3 (ay 1 jl (af (aa 2) aq)) [some sh,some bk,some (.ref d),none,none] s1= .nx [some sh,some bk,some (.ref d),some (.ref dr),none] s2:=by simp[e2]
  unfold fc
  rw[ba,f1,bH,ba,f2,bH]
  exact hz
 rcases e4 with ⟨q,e4,rfl⟩ | e4
 ·have fz:s4[d]? =some (.fH (dF T λp=> .ref (lr p))):=G4.get (aP hd2)
  have th:=Bu (i:=2) (j:=4) (gb:=aG) (ρ:=[some sh,some bk,some (.ref d),some (.ref dr),none]) (st:=s2) rfl hd2 e4 fz
  refine⟨.bg,s4.set d (.bq (dF T λp=> .ref (lr p))),lF (n:=5) (g:=fc) (R4 ?_),f4,Gr.Hg ld FG⟩
  rw[ba,th]
  rfl
 ·have th:=RW (i:=2) (j:=4) (gb:=aG) (ρ:=[some sh,some bk,some (.ref d),some (.ref dr),none]) (st:=s2) rfl hd2 e4
  refine⟨w,s4,lF (n:=5) (g:=fc) (R4 ?_),f4,FG⟩
  rw[ba,th]
  rfl
end
theorem KD{ws us:List Wv}{lo hi:Option Int}{st:Hs}(h:¬pM ws.length lo hi)(h2:w4 ws lo hi=us):xl (.tup ws) lo hi st= .ok (.tup us) st:=by
 show(if pM ws.length lo hi then Re.ok (Wv.tup ws) st else Pc (.tup ws) lo hi st)=_
 rw[if_neg h]
 show(if pM ws.length lo hi then Re.bad else Re.ok (Wv.tup (w4 ws lo hi)) st)=_
 rw[if_neg h,h2]
theorem Bz:∀n:Nat,jB (aM n (.bl true))=some (aM n true)
 | 0=>rfl
 | n+1=>by
  rw[iL]
  unfold jB
  rw[Bz n]
  rfl
theorem KG{l n:Nat}{st:Hs}(h:ao st l=some (aM n (.bl true))):Fe [.ref l] st= .ok (.bl true) st:=by
 show(match ao st l with | some ws=>(match jB ws with | some bs=>Re.ok (Wv.bl (bs.all id)) st | none=> .bad) | none=> .bad)=_
 rw[h]
 dsimp only
 rw[Bz]
 dsimp only
 congr 2
 rw[List.all_eq_true]
 intro x hx
 exact(List.mem_replicate.mp hx).2
theorem Dk{cs:ip}{gt:GT}{ge:GE}{ρ:bF}{ws:List Wv}{st:Hs}(h1:∀v∈ws,∀s,gt (some v::eD cs ρ) s= .ok true s)(h2:∀v∈ws,∀s,ge (some v::eD cs ρ) s= .ok (.bl true) s)(hl:ws.length < lim) :
  dZ cs gt ge ρ (none,ws) st= .ok (.ref st.length) (st++[.lst (aM ws.length (.bl true))]):=by
 rw[fX (w:=(none,ws)) (t:=λ_=>true) (f:=λ_=> .bl true) trivial (λv hv acc=>h1 v hv _) (λv hv _ acc=>h2 v hv _) hl]
 have e:((ws.filter λ_=>true).map λ_=>Wv.bl true)=aM ws.length (Wv.bl true):=by
  rw[List.filter_eq_self.mpr (λ_ _=>rfl),List.map_const']
 show Re.ok _ (st++[.lst ((ws.filter λ_=>true).map λ_=>Wv.bl true)])=_
 rw[e]
theorem tup_is{ws:List Wv}{st:Hs}:nQ pf nW [.tup ws,.ty "tuple"] st= .ok (.bl true) st:=rfl
theorem int_is{i:Int}{st:Hs}:nQ pf nW [.int i,.ty "int"] st= .ok (.bl true) st:=rfl
theorem OV{i:Int}{st:Hs}:nQ pf nW [.int i,.ty "bool"] st= .ok (.bl false) st:=rfl
theorem Hu{ws:List Wv}{st:Hs}:nq [.tup ws] st= .ok (.int ws.length) st:=rfl
theorem Hv{i:Int}{st:Hs}:ji [.int i] st= .ok (.bl true) st:=by
 unfold ji df nX
 simp[int_is,OV]
theorem oe{l:List Int}{n:Nat}(hn:l.length=n)(hl:n<=10)(st:Hs):a8 [tI l,.int (n:Nat)] st= .ok (.bl true) (st++[.lst (aM n (.bl true))]):=by
 subst hn
 have c:=Dk (cs:=[]) (gt:=iI) (ge:=fk) (ρ:=[some (tI l),some (.int (l.length:Nat))]) (ws:=l.map Wv.int) (st:=st) (λ_ _ _=>rfl) (λv hv s=>by
  obtain⟨i,_,rfl⟩:=List.mem_map.mp hv
  unfold fk
  simp[Hv]) (by rw[bc];unfold lim;omega)
 rw[bc] at c
 have q:=KG (st:=st++[.lst (aM l.length (.bl true))]) (l:=st.length) cA
 unfold a8 df iD
 unfold tI at c ⊢
 simp[tup_is,Hu,c,q]
instance {a b:Int}:Decidable (kE a b):=by unfold kE;infer_instance
instance {a b c d:Int}:Decidable (fm a b c d):=by unfold fm;infer_instance
theorem Hw{a b:Int}{st:Hs}:dH [.tup [.int a,.int b]] st= .ok (.bl (decide (kE a b))) st:=by
 have a0:aU (.tup [.int a,.int b]) (.int 0) st= .ok (.int a) st:=c9 rfl
 have a1:aU (.tup [.int a,.int b]) (.int 1) st= .ok (.int b) st:=c9 rfl
 unfold dH df nZ kE
 by_cases c1:0<=a
 ·by_cases c2:a < 99
  ·by_cases c3:0<=b
   ·by_cases c4:b < 26<;>(simp[a0,a1,c1,c2,c3,c4];try omega)
   ·simp[a0,a1,c1,c2,c3]
  ·(simp[a0,a1,c1,c2];try omega)
 ·simp[a0,a1,c1]
theorem R6{a b c d:Int}{st:Hs}:fA [.tup [.int a,.int b,.int c,.int d]] st= .ok (.bl (decide ((a<=c/\b<=d)/\kE a b/\kE c d))) st:=by
 have x0:aU (.tup [.int a,.int b,.int c,.int d]) (.int 0) st= .ok (.int a) st:=c9 rfl
 have x1:aU (.tup [.int a,.int b,.int c,.int d]) (.int 1) st= .ok (.int b) st:=c9 rfl
 have x2:aU (.tup [.int a,.int b,.int c,.int d]) (.int 2) st= .ok (.int c) st:=c9 rfl
 have x3:aU (.tup [.int a,.int b,.int c,.int d]) (.int 3) st= .ok (.int d) st:=c9 rfl
 have s1:xl (.tup [.int a,.int b,.int c,.int d]) none (some 2) st= .ok (.tup [.int a,.int b]) st:=KD (by show ¬pM 4 none (some 2);decide+kernel) rfl
 have s2:xl (.tup [.int a,.int b,.int c,.int d]) (some 2) none st= .ok (.tup [.int c,.int d]) st:=KD (by show ¬pM 4 (some 2) none;decide+kernel) rfl
 unfold fA df jW
 by_cases c1:a<=c
 ·by_cases c2:b<=d
  ·by_cases c3:kE a b<;>simp[x0,x1,x2,x3,c1,c2,s1,s2,Hw,c3]
  ·simp[x0,x1,x2,x3,c1,c2]
 ·simp[x0,x2,c1]
theorem R9{a b c d:Int}{st:Hs}:iZ [.tup [.int a,.int b,.int c,.int d]] st= .ok (.bl (decide (fm a b c d))) st:=by
 have x0:aU (.tup [.int a,.int b,.int c,.int d]) (.int 0) st= .ok (.int a) st:=c9 rfl
 have x1:aU (.tup [.int a,.int b,.int c,.int d]) (.int 1) st= .ok (.int b) st:=c9 rfl
 have x2:aU (.tup [.int a,.int b,.int c,.int d]) (.int 2) st= .ok (.int c) st:=c9 rfl
 have x3:aU (.tup [.int a,.int b,.int c,.int d]) (.int 3) st= .ok (.int d) st:=c9 rfl
 have cg:=R6 (a:=a) (b:=b) (c:=c) (d:=d) (st:=st)
 unfold iZ df pV
 by_cases q:(a<=c/\b<=d)/\kE a b/\kE c d
 ·rw[decide_eq_true q] at cg
  obtain⟨⟨q1,q2⟩,⟨h1,h2,h3,h4⟩,⟨h5,h6,h7,h8⟩⟩:=q
  have m:b8 (.int (c - a+1)) (.int (d - b+1)) st= .ok (.int ((c - a+1) * (d - b+1))) st:=oW (by omega) (by omega)
  have hm:iw [.tup [.int a,.int b,.int c,.int d]] st= .ok (.int ((c - a+1) * (d - b+1))) st:=by
   unfold iw df mi
   simp[x0,x1,x2,x3,m]
  have e:decide (fm a b c d)=decide ((c - a+1) * (d - b+1)<=300):=decide_eq_decide.mpr ⟨λz=>z.2.2.2.2.2.2,λz=>⟨h1,q1,h6,h3,q2,h8,z⟩⟩
  rw[e]
  simp[cg,hm]
 ·rw[decide_eq_false q] at cg
  have e:decide (fm a b c d)=false:=decide_eq_false λ⟨h1,h2,h3,h4,h5,h6,_⟩=>q ⟨⟨h2,h5⟩,⟨h1,by omega,h4,by omega⟩,⟨by omega,h3,by omega,h6⟩⟩
  rw[e]
  simp[cg]
inductive It
 | at' (p:Int×Int)
 | part (a b c d:Int) (p:Int×Int)
def It.w:It->Wv
 | .at' p=> .tup [.str "at",pw p]
 | .part a b c d p=> .tup [.str "part",.tup [.int a,.int b,.int c,.int d],pw p]
def KH(r b:Int)(n:Nat):List (Int×Int):=(eL n).map λk:Nat=>(r,b+k)
def nJ(a b:Int)(m n:Nat):List (Int×Int):=(eL m).flatMap λk:Nat=>KH (a+k) b n
theorem OW{r b:Int}{n:Nat}:pe r b n=(KH r b n).map pw:=by unfold pe KH;rw[mr];rfl
theorem BA{a b:Int}{m n:Nat}:jr a b m n=(nJ a b m n).map pw:=by
 unfold jr nJ
 rw[List.map_flatMap,List.flatMap_def]
 simp only[OW]
def DC(p q:Int×Int):Bool:=lexLe [p.1,p.2] [q.1,q.2]
theorem R_{p q:Int×Int}{st:Hs}:oLe (pw p) (pw q) st= .ok (.bl (DC p q)) st:=rfl
def It.ps:It->List (Int×Int)
 | .at' p=>[p]
 | .part a b c d p=>(nJ a b (c+1 - a).toNat (d+1 - b).toNat).filter λq=>DC q p
theorem uS{a b:Int}{m n:Nat}:(nJ a b m n).length=m * n:=by
 have:=congrArg f9 (BA (a:=a) (b:=b) (m:=m) (n:=n))
 rw[uQ,bc] at this
 exact this.symm
theorem ij{t:Wv->Bool}{u:Int×Int->Bool}(h:∀p,t (pw p)=u p):∀l:List (Int×Int),(l.map pw).filter t=(l.filter u).map pw
 | []=>rfl
 | p::r=>by
  rw[a6,rG,rG,h p,ij h r]
  split<;>rfl
def Hx:Wv->Int×Int
 | .tup [.int x,.int y]=>(x,y)
 | _=>(0,0)
theorem LM{a b c d:Int}{p:Pt}{st:Hs}:ml [tI [a,b,c,d],pw p] st= .ok (.bl (decide ((a<=p.1/\p.1<=c)/\b<=p.2/\p.2<=d))) st:=by
 have x0:aU (.tup [.int a,.int b,.int c,.int d]) (.int 0) st= .ok (.int a) st:=c9 rfl
 have x1:aU (.tup [.int a,.int b,.int c,.int d]) (.int 1) st= .ok (.int b) st:=c9 rfl
 have x2:aU (.tup [.int a,.int b,.int c,.int d]) (.int 2) st= .ok (.int c) st:=c9 rfl
 have x3:aU (.tup [.int a,.int b,.int c,.int d]) (.int 3) st= .ok (.int d) st:=c9 rfl
 have y0:aU (pw p) (.int 0) st= .ok (.int p.1) st:=c9 rfl
 have y1:aU (pw p) (.int 1) st= .ok (.int p.2) st:=c9 rfl
 unfold ml df sJ tI
 by_cases c1:a<=p.1
 ·by_cases c2:p.1<=c
  ·by_cases c3:b<=p.2
   ·by_cases c4:p.2<=d<;>simp[x0,x1,x2,x3,y0,y1,c1,c2,c3,c4]
   ·simp[x0,x1,x2,x3,y0,y1,c1,c2,c3]
  ·simp[x0,x1,x2,x3,y0,y1,c1,c2]
 ·simp[x0,x1,x2,x3,y0,y1,c1]
theorem LN{a b c d:Int}{p:Pt}{st:Hs}:fF [tI [a,b,c,d],pw p] st= .ok (.bl (decide ((a<=p.1/\p.1<=c)/\b<=p.2/\p.2<=d))) st:=LM
theorem VV{a b c d:Int}{st:Hs}:cJ [tI [a,b,c,d]] st= .ok (.bl (decide (fm a b c d))) st:=by
 have x0:aU (.tup [.int a,.int b,.int c,.int d]) (.int 0) st= .ok (.int a) st:=c9 rfl
 have x1:aU (.tup [.int a,.int b,.int c,.int d]) (.int 1) st= .ok (.int b) st:=c9 rfl
 have x2:aU (.tup [.int a,.int b,.int c,.int d]) (.int 2) st= .ok (.int c) st:=c9 rfl
 have x3:aU (.tup [.int a,.int b,.int c,.int d]) (.int 3) st= .ok (.int d) st:=c9 rfl
 have c0:aQ (cU oLe oLe oLe (gC (.int 0)) (ag aU (aa 0) (gC (.int 0))) (ag aU (aa 0) (gC (.int 2))) (gC (.int 98))) [some (tI [a,b,c,d])] st= .ok (decide (0<=a/\a<=c/\c<=98)) st:=by
  unfold cU tI
  by_cases q1:0<=a
  ·by_cases q2:a<=c
   ·by_cases q3:c<=98<;>simp[x0,x2,q1,q2,q3]
   ·simp[x0,x2,q1,q2]
  ·simp[x0,x2,q1]
 have c1:aQ (cU oLe oLe oLe (gC (.int 0)) (ag aU (aa 0) (gC (.int 1))) (ag aU (aa 0) (gC (.int 3))) (gC (.int 25))) [some (tI [a,b,c,d])] st= .ok (decide (0<=b/\b<=d/\d<=25)) st:=by
  unfold cU tI
  by_cases q1:0<=b
  ·by_cases q2:b<=d
   ·by_cases q3:d<=25<;>simp[x1,x3,q1,q2,q3]
   ·simp[x1,x3,q1,q2]
  ·simp[x1,x3,q1]
 by_cases q0:0<=a/\a<=c/\c<=98
 ·rw[decide_eq_true q0] at c0
  by_cases q1:0<=b/\b<=d/\d<=25
  ·rw[decide_eq_true q1] at c1
   have m:b8 (.int (c - a+1)) (.int (d - b+1)) st= .ok (.int ((c - a+1) * (d - b+1))) st:=oW (by omega) (by omega)
   have e:decide (fm a b c d)=decide ((c - a+1) * (d - b+1)<=300):=decide_eq_decide.mpr ⟨λz=>z.2.2.2.2.2.2,λz=>⟨q0.1,q0.2.1,q0.2.2,q1.1,q1.2.1,q1.2.2,z⟩⟩
   rw[e]
   unfold cJ df eI
   unfold tI at c0 c1 ⊢
   simp only[a6,pB] at c0 c1 ⊢
   generalize aQ (cU oLe oLe oLe (gC (.int 0)) (ag aU (aa 0) (gC (.int 0))) (ag aU (aa 0) (gC (.int 2))) (gC (.int 98)))=t0 at c0 ⊢
   generalize aQ (cU oLe oLe oLe (gC (.int 0)) (ag aU (aa 0) (gC (.int 1))) (ag aU (aa 0) (gC (.int 3))) (gC (.int 25)))=t1 at c1 ⊢
   simp[c0,c1,x0,x1,x2,x3,m]
  ·rw[decide_eq_false q1] at c1
   rw[show decide (fm a b c d)=false from decide_eq_false λz=>q1 ⟨z.2.2.2.1,z.2.2.2.2.1,z.2.2.2.2.2.1⟩]
   unfold cJ df eI
   unfold tI at c0 c1 ⊢
   simp only[a6,pB] at c0 c1 ⊢
   generalize aQ (cU oLe oLe oLe (gC (.int 0)) (ag aU (aa 0) (gC (.int 0))) (ag aU (aa 0) (gC (.int 2))) (gC (.int 98)))=t0 at c0 ⊢
   generalize aQ (cU oLe oLe oLe (gC (.int 0)) (ag aU (aa 0) (gC (.int 1))) (ag aU (aa 0) (gC (.int 3))) (gC (.int 25)))=t1 at c1 ⊢
   simp[c0,c1]
 ·rw[decide_eq_false q0] at c0
  rw[show decide (fm a b c d)=false from decide_eq_false λz=>q0 ⟨z.1,z.2.1,z.2.2.1⟩]
  unfold cJ df eI
  unfold tI at c0 ⊢
  simp only[a6,pB] at c0 ⊢
  generalize aQ (cU oLe oLe oLe (gC (.int 0)) (ag aU (aa 0) (gC (.int 0))) (ag aU (aa 0) (gC (.int 2))) (gC (.int 98)))=t0 at c0 ⊢
  simp[c0]
def It.ok:It->Bool
 | .at' p=>decide (kE p.1 p.2)
 | .part a b c d p=>decide (fm a b c d)&&decide ((a<=p.1/\p.1<=c)/\b<=p.2/\p.2<=d)
def It.hold:It->Pt->Bool
 | .at' p,q=>decide (p=q)
 | .part a b c d p,q=>(decide (fm a b c d)&&decide ((a<=p.1/\p.1<=c)/\b<=p.2/\p.2<=d))&&(decide ((a<=q.1/\q.1<=c)/\b<=q.2/\q.2<=d)&&DC q p)
theorem LO{x y:S}{st:Hs}:oEq (.tup [.str x]) (.tup [.str y]) st= .ok (.bl (x == y)) st:=by
 show Re.ok (Wv.bl (b_ (.tuple [.str x]) (.tuple [.str y]))) st=_
 simp[b_,ni]
theorem OX{p q:Pt}{st:Hs}:oEq (pw p) (pw q) st= .ok (.bl (decide (p=q))) st:=by
 obtain⟨a,b⟩:=p
 obtain⟨c,d⟩:=q
 show Re.ok (Wv.bl (b_ (.tuple [.int a,.int b]) (.tuple [.int c,.int d]))) st=_
 congr 2
 simp only[b_,ni,Prod.mk.injEq]
 rw[Bx]
 simp
theorem KI{it:It}{st:Hs}:∃st',gZ [it.w] st= .ok (.bl it.ok) st'/\Gr st st':=by
 have pa:(("part":PySem.Str) == "at")=false:=by decide
 cases it with
 | at' p=>
  have r:=oe (l:=[p.1,p.2]) (n:=2) rfl (by omega) st
  have g1:Gr st (st++[.lst (aM 2 (.bl true))]):=Gr.push
  generalize st++[.lst (aM 2 (.bl true))]=s1 at r g1
  have s1':xl (.tup [.str "at",pw p]) none (some 1) st= .ok (.tup [.str "at"]) st:=KD (by show ¬pM 2 none (some 1);decide+kernel) rfl
  have x1:∀st:Hs,aU (.tup [.str "at",pw p]) (.int 1) st= .ok (pw p) st:=λ_=>c9 rfl
  have pg:dH [pw p] s1= .ok (.bl (decide (kE p.1 p.2))) s1:=Hw
  have r':a8 [pw p,.int 2] st= .ok (.bl true) s1:=r
  refine⟨s1,?_,g1⟩
  unfold gZ df mV It.w It.ok
  simp[tup_is,s1',LO,Hu,x1,r',pg]
 | part a b c d p=>
  have r:=oe (l:=[a,b,c,d]) (n:=4) rfl (by omega) st
  have g1:Gr st (st++[.lst (aM 4 (.bl true))]):=Gr.push
  generalize st++[.lst (aM 4 (.bl true))]=s1 at r g1
  have r2:=oe (l:=[p.1,p.2]) (n:=2) rfl (by omega) s1
  have g2:Gr s1 (s1++[.lst (aM 2 (.bl true))]):=Gr.push
  generalize s1++[.lst (aM 2 (.bl true))]=s2 at r2 g2
  have r2':a8 [pw p,.int 2] s1= .ok (.bl true) s2:=r2
  have r':a8 [tI [a,b,c,d],.int 4] st= .ok (.bl true) s1:=r
  have ar:iZ [tI [a,b,c,d]] s1= .ok (.bl (decide (fm a b c d))) s1:=R9
  have wi:=LM (a:=a) (b:=b) (c:=c) (d:=d) (p:=p) (st:=s2)
  have pt:∃s3,i5 [tI [a,b,c,d],pw p] st= .ok (.bl (decide (fm a b c d)&&decide ((a<=p.1/\p.1<=c)/\b<=p.2/\p.2<=d))) s3/\Gr st s3:=by
   by_cases q:fm a b c d
   ·rw[decide_eq_true q] at ar ⊢
    rw[Bool.true_and]
    generalize decide ((a<=p.1/\p.1<=c)/\b<=p.2/\p.2<=d)=z at wi ⊢
    refine⟨s2,?_,g1.trans g2⟩
    unfold i5 df mS
    simp[r',ar,r2',wi]
   ·rw[decide_eq_false q] at ar ⊢
    rw[KW]
    refine⟨s1,?_,g1⟩
    unfold i5 df mS
    simp[r',ar]
  obtain⟨s3,pt,g3⟩:=pt
  have sl:xl (.tup [.str "part",tI [a,b,c,d],pw p]) none (some 1) st= .ok (.tup [.str "part"]) st:=KD (by show ¬pM 3 none (some 1);decide+kernel) rfl
  have x1:∀st:Hs,aU (.tup [.str "part",tI [a,b,c,d],pw p]) (.int 1) st= .ok (tI [a,b,c,d]) st:=λ_=>c9 rfl
  have x2:∀st:Hs,aU (.tup [.str "part",tI [a,b,c,d],pw p]) (.int 2) st= .ok (pw p) st:=λ_=>c9 rfl
  refine⟨s3,?_,g3⟩
  have e:(It.part a b c d p).ok=(decide (fm a b c d)&&decide ((a<=p.1/\p.1<=c)/\b<=p.2/\p.2<=d)):=rfl
  rw[e]
  generalize (decide (fm a b c d)&&decide ((a<=p.1/\p.1<=c)/\b<=p.2/\p.2<=d))=z at pt ⊢
  show gZ [.tup [.str "part",tI [a,b,c,d],pw p]] st=_
  unfold gZ df mV
  simp[tup_is,sl,LO,Hu,x1,x2,pt,pa]
theorem holds{it:It}{q:Pt}{st:Hs}:c7 [it.w,pw q] st= .ok (.bl (it.hold q)) st:=by
 have pa:(("part":PySem.Str) == "at")=false:=by decide
 cases it with
 | at' p=>
  have x0:∀st:Hs,aU (.tup [.str "at",pw p]) (.int 0) st= .ok (.str "at") st:=λ_=>c9 rfl
  have x1:∀st:Hs,aU (.tup [.str "at",pw p]) (.int 1) st= .ok (pw p) st:=λ_=>c9 rfl
  have e:=OX (p:=p) (q:=q) (st:=st)
  show c7 [.tup [.str "at",pw p],pw q] st= .ok (.bl (decide (p=q))) st
  generalize decide (p=q)=z at e ⊢
  unfold c7 df iY
  simp[x0,x1,e]
 | part a b c d p=>
  have x0:∀st:Hs,aU (.tup [.str "part",tI [a,b,c,d],pw p]) (.int 0) st= .ok (.str "part") st:=λ_=>c9 rfl
  have x1:∀st:Hs,aU (.tup [.str "part",tI [a,b,c,d],pw p]) (.int 1) st= .ok (tI [a,b,c,d]) st:=λ_=>c9 rfl
  have x2:∀st:Hs,aU (.tup [.str "part",tI [a,b,c,d],pw p]) (.int 2) st= .ok (pw p) st:=λ_=>c9 rfl
  have ar:=VV (a:=a) (b:=b) (c:=c) (d:=d) (st:=st)
  have w1:=LN (a:=a) (b:=b) (c:=c) (d:=d) (p:=p) (st:=st)
  have w2:=LN (a:=a) (b:=b) (c:=c) (d:=d) (p:=q) (st:=st)
  have le:=R_ (p:=q) (q:=p) (st:=st)
  show c7 [.tup [.str "part",tI [a,b,c,d],pw p],pw q] st= .ok (.bl ((decide (fm a b c d)&&decide ((a<=p.1/\p.1<=c)/\b<=p.2/\p.2<=d))&&(decide ((a<=q.1/\q.1<=c)/\b<=q.2/\q.2<=d)&&DC q p))) st
  generalize decide (fm a b c d)=z1 at ar ⊢
  generalize decide ((a<=p.1/\p.1<=c)/\b<=p.2/\p.2<=d)=z2 at w1 ⊢
  generalize decide ((a<=q.1/\q.1<=c)/\b<=q.2/\q.2<=d)=z3 at w2 ⊢
  generalize DC q p=z4 at le ⊢
  unfold c7 df iY
  cases z1<;>cases z2<;>cases z3<;>simp[x0,x1,x2,pa,ar,w1,w2,le]
theorem Dl{a b:Int}{m n:Nat}{q:Pt}:q∈nJ a b m n↔(a<=q.1/\q.1 < a+m)/\b<=q.2/\q.2 < b+n:=by
 unfold nJ KH
 rw[List.mem_flatMap]
 constructor
 ·rintro⟨k,hk,h⟩
  obtain⟨j,hj,rfl⟩:=List.mem_map.mp h
  rw[List.mem_range] at hk hj
  dsimp only
  omega
 ·rintro⟨⟨h1,h2⟩,h3,h4⟩
  refine⟨(q.1 - a).toNat,List.mem_range.mpr (by omega),List.mem_map.mpr ⟨(q.2 - b).toNat,List.mem_range.mpr (by omega),u7 ?_ ?_⟩⟩
  ·dsimp only;omega
  ·dsimp only;omega
theorem yf{it:It}{q:Pt}(hq:kE q.1 q.2):it.hold q=true↔it.ok=true/\q∈it.ps:=by
 cases it with
 | at' p=>
  show decide (p=q)=true↔decide (kE p.1 p.2)=true/\q∈[p]
  rw[decide_eq_true_eq,decide_eq_true_eq,List.mem_singleton]
  constructor
  ·rintro rfl;exact⟨hq,rfl⟩
  ·rintro⟨_,rfl⟩;rfl
 | part a b c d p=>
  show((decide (fm a b c d)&&decide ((a<=p.1/\p.1<=c)/\b<=p.2/\p.2<=d))&&(decide ((a<=q.1/\q.1<=c)/\b<=q.2/\q.2<=d)&&DC q p))=true↔(decide (fm a b c d)&&decide ((a<=p.1/\p.1<=c)/\b<=p.2/\p.2<=d))=true/\q∈(nJ a b (c+1 - a).toNat (d+1 - b).toNat).filter λq=>DC q p
  rw[ng,Dl]
  simp only[ff,decide_eq_true_eq]
  constructor
  ·rintro⟨⟨h1,h2⟩,h3,h4⟩
   unfold fm at h1
   exact⟨⟨h1,h2⟩,⟨by omega,by omega⟩,h4⟩
  ·rintro⟨⟨h1,h2⟩,h3,h4⟩
   have:=h1
   unfold fm at this
   exact⟨⟨h1,h2⟩,⟨by omega,by omega⟩,h4⟩
theorem It.len{it:It}(h:it.ok=true):it.ps.length<=3000:=by
 cases it with
 | at' p=>simp[It.ps]
 | part a b c d p=>
  have h1:fm a b c d:=by
   have h':(decide (fm a b c d)&&decide ((a<=p.1/\p.1<=c)/\b<=p.2/\p.2<=d))=true:=h
   rw[ff] at h'
   exact of_decide_eq_true h'.1
  unfold fm at h1
  have q:=gM (λq=>DC q p) (nJ a b (c+1 - a).toNat (d+1 - b).toNat)
  rw[uS] at q
  have:(c+1 - a).toNat * (d+1 - b).toNat<=99 * 26:=Br (by omega) (by omega)
  exact aW q (by omega)
theorem yg{it:It}(h:it.ok=true){st:Hs}:∃(l:Nat)(st':Hs),dQ [it.w] st= .ok (.ref l) st'/\ao st' l=some (it.ps.map pw)/\Gr st st':=by
 cases it with
 | at' p=>
  refine⟨st.length,st++[.lst [pw p]],?_,cA,Gr.push⟩
  have i0:∀st:Hs,aU (.tup [.str "at",pw p]) (.int 0) st= .ok (.str "at") st:=λ_=>c9 rfl
  have i1:∀st:Hs,aU (.tup [.str "at",pw p]) (.int 1) st= .ok (pw p) st:=λ_=>c9 rfl
  unfold dQ df ic It.w
  simp[i0,i1]
 | part a b c d p=>
  have h1:fm a b c d:=by
   have h':(decide (fm a b c d)&&decide ((a<=p.1/\p.1<=c)/\b<=p.2/\p.2<=d))=true:=h
   rw[ff] at h'
   exact of_decide_eq_true h'.1
  obtain⟨more,e⟩:=sQ (st:=st) h1
  unfold fm at h1
  unfold tI at e
  simp only[a6,pB] at e
  have i0:∀st:Hs,aU (.tup [.str "part",.tup [.int a,.int b,.int c,.int d],pw p]) (.int 0) st= .ok (.str "part") st:=λ_=>c9 rfl
  have i1:∀st:Hs,aU (.tup [.str "part",.tup [.int a,.int b,.int c,.int d],pw p]) (.int 1) st= .ok (.tup [.int a,.int b,.int c,.int d]) st:=λ_=>c9 rfl
  have i2:∀st:Hs,aU (.tup [.str "part",.tup [.int a,.int b,.int c,.int d],pw p]) (.int 2) st= .ok (pw p) st:=λ_=>c9 rfl
  obtain⟨A,eA⟩:∃A,nJ a b (c+1 - a).toNat (d+1 - b).toNat=A:=⟨_,rfl⟩
  have lA:A.length<=99 * 26:=by rw[<-eA,uS];exact Br (by omega) (by omega)
  rw[BA,eA] at e
  obtain⟨s1,hs1⟩:∃s1,st++ .lst (A.map pw)::more=s1:=⟨_,rfl⟩
  have l1:ao s1 st.length=some (A.map pw):=by rw[<-hs1];exact uP
  have g1:Gr st s1:=by rw[<-hs1];exact Gr.app
  rw[hs1] at e
  have q:=fX (cs:=[("item",0)]) (gt:=gD) (ge:=gE) (ρ:=[some (It.part a b c d p).w]) (w:=(some st.length,A.map pw)) (st:=s1) (t:=λv=>DC (Hx v) p) (f:=λv=>v) l1
   (λv hv acc=>by
    obtain⟨x,_,rfl⟩:=List.mem_map.mp hv
    unfold gD It.w
    simp[eD,i2,R_,Hx])
   (λv hv _ acc=>by unfold gE;simp)
   (by show(A.map pw).length < lim;rw[bc];unfold lim;omega)
  have eq2:(((A.map pw).filter λv=>DC (Hx v) p).map λv=>v)=(It.part a b c d p).ps.map pw:=by
   rw[Hy,ij (u:=λx=>DC x p) (λx=>rfl)]
   show _=qd pw ((nJ a b (c+1 - a).toNat (d+1 - b).toNat).filter λq=>DC q p)
   rw[eA]
  rw[show((some st.length,A.map pw):Wk).2=A.map pw from rfl,eq2] at q
  refine⟨s1.length,s1++[.lst ((It.part a b c d p).ps.map pw)],?_,cA,g1.trans Gr.push⟩
  dsimp only[It.w] at q
  have na:(("part":PySem.Str) == "at")=false:=by decide
  unfold dQ df ic
  show _=Re.ok (Wv.ref s1.length) _
  dsimp only[It.w]
  simp[i0,i1,na,e,vY l1,q]
def lN(l:List (Int×Int))(p:Int×Int):List (Int×Int):=if p∈l then l else l++[p]
def Ac(l:List (Int×Int)):List (Int×Int):=l.foldl lN []
theorem Hz{l:List (Int×Int)}{p:Int×Int}:(lN l p).length<=l.length+1:=by
 unfold lN
 split
 ·omega
 ·simp
theorem qf:∀(l acc:List (Int×Int)),(l.foldl lN acc).length<=acc.length+l.length
 | [],acc=>by simp
 | p::r,acc=>by
  rw[rC]
  have:=qf r (lN acc p)
  have:=Hz (l:=acc) (p:=p)
  simp only[cG]
  omega
def dP(l:List (Int×Int)):Ob:=.bq (l.map λp=>(jy p,Wv.bl true))
theorem OY{l:List (Int×Int)}{p:Int×Int}:lU (l.map λp=>(jy p,Wv.bl true)) (jy p) (.bl true)=(lN l p).map λp=>(jy p,Wv.bl true):=by
 have ha:((l.map λp=>(jy p,Wv.bl true)).any λkv=>decide (kv.1=jy p))=decide (p∈l):=by
  rw[Bx]
  simp only[HA,List.mem_map,decide_eq_true_eq]
  constructor
  ·rintro⟨_,⟨q,hq,rfl⟩,e⟩
   rw[<-qU e]
   exact hq
  ·intro h
   exact⟨_,⟨p,h,rfl⟩,rfl⟩
 unfold lU lN
 rw[ha]
 by_cases c:p∈l
 ·rw[if_pos (by simpa using c),if_pos c,mr]
  refine wy λq _=>?_
  show(if jy q=jy p then(jy q,Wv.bl true) else(jy q,Wv.bl true))=_
  split<;>rfl
 ·rw[if_neg (by simpa using c),if_neg c,ju]
  rfl
theorem put{st:Hs}{d:Nat}{l:List (Int×Int)}{p:Int×Int}(h:st[d]? =some (dP l))(hl:l.length < lim):putD (.ref d) (pw p) (.bl true) st=some (st.set d (dP (lN l p))):=by
 unfold putD
 unfold dP at h ⊢
 simp only[h]
 have kt:lW (pw p)=some (jy p):=rfl
 simp only[kt]
 rw[if_pos (by simpa using hl),OY]
theorem LP{st:Hs}{d:Nat}{T:List Pt}{f:Pt->Wv}(h:st[d]? =some (.bq (dF T f))):lY [.ref d] st= .ok (.ref st.length) (st++[.lst (T.map pw)]):=by
 have:=qV T
 rw[<-Bt (f:=f)] at this
 unfold lY
 simp only[h,this]
theorem HB{gb:GS}{i l d:Nat}{ps acc:List (Int×Int)}{st:Hs}{ρ:bF}(hb:∀p ρ' st',(∃o,ρ'=ρ.set i o)->gb (ρ'.set i (some (pw p))) st'=match putD (.ref d) (pw p) (.bl true) st' with | some rL=> .nx (ρ'.set i (some (pw p))) rL | none=> .bad)
  (hd:st[d]? =some (dP acc))(hl:ao st l=some (ps.map pw))(hn:acc.length+ps.length < lim)(hdl:l≠d)(hi:∃o,ρ=ρ.set i o) :
  ∃ρ' st',forL i gb l (ps.map pw) (ps.map pw) ρ st= .nx ρ' st'/\(∃o,ρ'=ρ.set i o)/\st'[d]? =some (dP (ps.foldl lN acc))/\bA d st st':=by
 obtain⟨ρ',st',e,⟨h1,h2,h3⟩,_⟩:=iu (i:=i) (gb:=gb) (l:=l) (all:=ps.map pw) pw ps (λpre ρ' st'=>(∃o,ρ'=ρ.set i o)/\st'[d]? =some (dP (pre.foldl lN acc))/\bA d st st')
  (λa pre post ρ1 st1 hf hP h1=>by
   obtain⟨⟨o,ho⟩,q2,q3⟩:=hP
   have ln:=qf pre acc
   have hf':=congrArg f9 hf
   rw[cF,cG] at hf'
   have pt:=put (p:=a) q2 (by omega)
   refine⟨ρ1.set i (some (pw a)),st1.set d (dP (lN (pre.foldl lN acc) a)),?_,?_,⟨some (pw a),by rw[ho,Bw]⟩,?_,q3.trans bA.set⟩
   ·rw[hb a ρ1 st1 ⟨o,ho⟩,pt]
   ·exact(bA.set (l:=d)).lst h1 hdl
   ·rw[aP q2,List.foldl_append]
    rfl)
  ps [] ρ st rfl ⟨hi,hd,bA.refl⟩ hl
 exact⟨ρ',st',e,h1,h2,h3⟩
theorem VW{it:It}{d i3:Option Wv}{reads:Option Wv}{D:Nat}{acc:List (Int×Int)}{st:Hs}(h:it.ok=true)(hD:st[D]? =some (dP acc))(hn:acc.length<=400000) :
  ∃o st',eW [reads,some (.ref D),some it.w,i3] st= .nx [reads,some (.ref D),some it.w,o] st'/\st'[D]? =some (dP (it.ps.foldl lN acc))/\bA D st st':=by
 obtain⟨l,s1,e1,l1,g1⟩:=yg h (st:=st)
 have XO:=g1.get hD
 have ne:l≠D:=λc=>by
  subst c
  unfold ao at l1
  rw[XO] at l1
  cases l1
 obtain⟨ρ',s2,e2,⟨o,ho⟩,d2,k2⟩:=HB (gb:=hG) (i:=3) (l:=l) (d:=D) (ps:=it.ps) (acc:=acc) (st:=s1) (ρ:=[reads,some (.ref D),some it.w,i3])
  (λp ρ' st' hr=>by
   obtain⟨o,rfl⟩:=hr
   unfold hG dg
   simp<;>cases putD (Wv.ref D) (pw p) (Wv.bl true) st'<;>rfl)
  XO l1 (by have:=it.len h;unfold lim;omega) ne ⟨i3,rfl⟩
 refine⟨o,s2,?_,d2,g1.keep.trans k2⟩
 rw[ho] at e2
 unfold eW
 simp[e1,jO l1,e2]
theorem Ad:∀{its:List It},(∀it∈its,it.ok=true)->(its.flatMap It.ps).length<=3000 * its.length
 | [],_=>by simp
 | it::r,h=>by
  have h1:=it.len (h it aB)
  have h2:=Ad (its:=r) λx hx=>h x (aF _ hx)
  rw[List.flatMap_cons,cF,cG]
  omega
theorem BB{l:List (Int×Int)}:(Ac l).length<=l.length:=by
 have:=qf l []
 unfold Ac
 simpa using this
theorem OZ{its pre post:List It}(h:∀it∈its,it.ok=true)(hl:its.length<=63)(e:its=pre++post):(Ac (pre.flatMap It.ps)).length<=400000:=by
 have q1:=BB (l:=pre.flatMap It.ps)
 have q2:=Ad (its:=pre) λx hx=>h x (by rw[e];exact fP _ hx)
 have q3:=congrArg f9 e
 rw[cF] at q3
 omega
theorem HC{pre:List It}{it:It}:Ac ((pre++[it]).flatMap It.ps)=it.ps.foldl lN (Ac (pre.flatMap It.ps)):=by
 unfold Ac
 rw[List.flatMap_append,List.foldl_append]
 simp
theorem yh{q:Pt}:∀(l acc:List Pt),q∈l.foldl lN acc↔q∈acc\/q∈l
 | [],acc=>by simp
 | p::r,acc=>by
  rw[rC,yh r]
  unfold lN
  split
  ·rename_i h
   constructor
   ·rintro(a | a)
    ·exact .inl a
    ·exact .inr (aF _ a)
   ·rintro(a | a)
    ·exact .inl a
    ·rcases List.mem_cons.mp a with rfl | a
     ·exact .inl h
     ·exact .inr a
  ·rw[List.mem_append,List.mem_singleton,G_,or_assoc]
theorem BC:∀(l acc:List Pt),acc.Nodup->(l.foldl lN acc).Nodup
 | [],acc,h=>h
 | p::r,acc,h=>by
  rw[rC]
  refine BC r _ ?_
  unfold lN
  split
  ·exact h
  ·rename_i n
   rw[m_]
   exact⟨h,by simp,λa ha b hb e=>n (by rw[List.mem_singleton.mp hb] at e;exact e ▸ ha)⟩
theorem yi{its:List It}(h:∀it∈its,it.ok=true)(hl:its.length<=63){st:Hs}{l:Nat}(hL:ao st l=some (its.map It.w)):∃(l':Nat)(st':Hs),c_ [.ref l] st= .ok (.ref l') st'/\ao st' l'=some ((Ac (its.flatMap It.ps)).map pw)/\Gr st st':=by
 obtain⟨s0,hs0⟩:∃s0,st++[Ob.bq []]=s0:=⟨_,rfl⟩
 have g0:Gr st s0:=by rw[<-hs0];exact Gr.push
 have d0:s0[st.length]? =some (dP (Ac (([]:List It).flatMap It.ps))):=by rw[<-hs0];exact bM
 have ll:l < st.length:=by
  unfold ao at hL
  by_cases c:l < st.length
  ·exact c
  ·rw[vO (by omega)] at hL;cases hL
 obtain⟨ρ',s1,e1,⟨o2,o3,rfl,d1,g1⟩,_⟩:=iu (i:=2) (gb:=eW) (l:=l) (all:=its.map It.w) It.w its (λpre ρ st'=>∃o2 o3,ρ=[some (.ref l),some (.ref st.length),o2,o3]/\st'[st.length]? =some (dP (Ac (pre.flatMap It.ps)))/\Gr st st')
  (λa pre post ρ st' hf hP hl'=>by
   obtain⟨o2,o3,rfl,d1,g1⟩:=hP
   obtain⟨o,s2,e,d2,k⟩:=VW (it:=a) (i3:=o3) (reads:=some (.ref l)) (h a (by rw[hf];simp)) d1 (OZ h hl hf) (d:=none)
   refine⟨_,s2,e,k.lst hl' (by omega),_,_,rfl,?_,g1.jP (au _) k⟩
   rw[d2,HC])
  its [] [some (.ref l),some (.ref st.length),none,none] s0 rfl ⟨none,none,rfl,d0,g0⟩ (g0.lst hL)
 refine⟨s1.length,s1++[.lst ((Ac (its.flatMap It.ps)).map pw)],?_,cA,g1.trans Gr.push⟩
 have ld:=LP (T:=Ac (its.flatMap It.ps)) (f:=λ_=> .bl true) d1
 have nt:∀(ρ:bF),gQ ρ st= .ok (.ref st.length) s0:=λ_=>by rw[<-hs0];rfl
 unfold c_ df jZ
 simp[nt,jO (g0.lst hL),e1,ld]
theorem sU{α:Type}{ck:Hs->Prop}{gt:Wv->Hs->Re Bool}{ge:Wv->Hs->Re Wv}{rr:Nat}(f:α->Wv)(t:α->Bool)(s0:Hs)(hck:∀st,bA rr s0 st->ck st)(he:∀a st,ge (f a) st= .ok (f a) st) :
  ∀(ws:List α),(∀a∈ws,∀st,∃st',gt (f a) st= .ok (t a) st'/\Gr st st')->∀(acc:List Wv)(st:Hs),bA rr s0 st->st[rr]? =some (.lst acc)->acc.length+ws.length < lim->
   ∃st',iF ck gt ge rr (ws.map f) st=some st'/\st'[rr]? =some (.lst (acc++(ws.filter t).map f))/\bA rr st st'
 | [],_,acc,st,_,hg,_=>⟨st,rfl,by simpa using hg,bA.refl⟩
 | a::r,h,acc,st,hk,hg,hl=>by
  have hl':acc.length+(r.length+1) < lim:=hl
  obtain⟨s1,e1,g1⟩:=h a aB st
  have Po:=g1.get hg
  cases ht:t a with
  | false=>
   obtain⟨s2,e2,g2,K2⟩:=sU f t s0 hck he r (λa ha=>h a (aF _ ha)) acc s1 (hk.trans g1.keep) Po (by omega)
   refine⟨s2,?_,by rw[jb (by simp[ht])];exact g2,g1.keep.trans K2⟩
   rw[a6,iF,e1,ht]
   dsimp only
   rw[if_pos (hck _ (hk.trans g1.keep))]
   exact e2
  | true=>
   have K1:bA rr st (s1.set rr (.lst (acc++[f a]))):=g1.keep.trans bA.set
   obtain⟨s2,e2,g2,K2⟩:=sU f t s0 hck he r (λa ha=>h a (aF _ ha)) (acc++[f a]) (s1.set rr (.lst (acc++[f a]))) (hk.trans K1) (aP Po) (by simp;omega)
   refine⟨s2,?_,by rw[ja ht];simpa using g2,K1.trans K2⟩
   rw[a6,iF,e1,ht]
   dsimp only
   rw[he]
   dsimp only
   rw[Bm Po (by omega)]
   dsimp only
   rw[if_pos (hck _ (hk.trans K1))]
   exact e2
theorem yj{β:Type}{ck:Hs->Prop}{gt:Wv->Hs->Re Bool}{ge:Wv->Hs->Re Wv}{rr:Nat}(v:β->Wv)(s0:Hs)(hck:∀st,bA rr s0 st->ck st)(ht:∀a st,gt a st= .ok true st) :
  ∀(ws:List Wv),(∀a∈ws,∀st,bA rr s0 st->∃b st',ge a st= .ok (v b) st'/\Gr st st')->∀(acc:List Wv)(st:Hs),bA rr s0 st->st[rr]? =some (.lst acc)->acc.length+ws.length < lim->
   ∃(bs:List β)(st':Hs),iF ck gt ge rr ws st=some st'/\st'[rr]? =some (.lst (acc++bs.map v))/\bA rr st st'/\bs.length=ws.length
 | [],_,acc,st,_,hg,_=>⟨[],st,rfl,by simpa using hg,bA.refl,rfl⟩
 | a::r,h,acc,st,hk,hg,hl=>by
  have hl':acc.length+(r.length+1) < lim:=hl
  obtain⟨b,s1,e1,g1⟩:=h a aB st hk
  have Po:=g1.get hg
  have K1:bA rr st (s1.set rr (.lst (acc++[v b]))):=g1.keep.trans bA.set
  obtain⟨bs,s2,e2,g2,K2,l2⟩:=yj v s0 hck ht r (λa ha=>h a (aF _ ha)) (acc++[v b]) (s1.set rr (.lst (acc++[v b]))) (hk.trans K1) (aP Po) (by simp;omega)
  refine⟨b::bs,s2,?_,by simpa using g2,K1.trans K2,by simp[l2]⟩
  rw[iF,ht]
  dsimp only
  rw[e1]
  dsimp only
  rw[Bm Po (by omega)]
  dsimp only
  rw[if_pos (hck _ (hk.trans K1))]
  exact e2
theorem wB{β:Type}{cs:ip}{gt:GT}{ge:GE}{ρ:bF}{w:Wk}{st:Hs}(v:β->Wv)(hck:∀s,Gr st s->kO w s)(ht:∀a s,gt (some a::eD cs ρ) s= .ok true s)(h:∀a∈w.2,∀s,Gr st s->∃b s',ge (some a::eD cs ρ) s= .ok (v b) s'/\Gr s s')(hl:w.2.length < lim) :
  ∃(bs:List β)(st':Hs),dZ cs gt ge ρ w st= .ok (.ref st.length) st'/\st'[st.length]? =some (.lst (bs.map v))/\Gr st st'/\bs.length=w.2.length:=by
 obtain⟨bs,s1,e1,h1,K1,l1⟩:=yj (ck:=kO w) (gt:=λv=>gt (some v::eD cs ρ)) (ge:=λv=>ge (some v::eD cs ρ)) (rr:=st.length) v (st++[.lst []]) (λs K=>hck s (Gr.push.jP (au _) K)) ht w.2 (λa ha s K=>h a ha s (Gr.push.jP (au _) K)) [] (st++[.lst []]) bA.refl bM (by simpa using hl)
 refine⟨bs,s1,?_,by simpa using h1,Gr.push.jP (au _) K1,l1⟩
 unfold dZ
 rw[e1]
theorem KJ{α:Type}{cs:ip}{gt:GT}{ge:GE}{ρ:bF}{o:Option Nat}{ws:List α}{st:Hs}(f:α->Wv)(t:α->Bool)(hck:∀s,Gr st s->kO (o,ws.map f) s)(he:∀a s,ge (some (f a)::eD cs ρ) s= .ok (f a) s)(h:∀a∈ws,∀s,∃s',gt (some (f a)::eD cs ρ) s= .ok (t a) s'/\Gr s s')(hl:ws.length < lim) :
  ∃st',dZ cs gt ge ρ (o,ws.map f) st= .ok (.ref st.length) st'/\st'[st.length]? =some (.lst ((ws.filter t).map f))/\Gr st st':=by
 obtain⟨s1,e1,h1,K1⟩:=sU (ck:=kO (o,ws.map f)) (gt:=λv=>gt (some v::eD cs ρ)) (ge:=λv=>ge (some v::eD cs ρ)) (rr:=st.length) f t (st++[.lst []]) (λs K=>hck s (Gr.push.jP (au _) K)) he ws h [] (st++[.lst []]) bA.refl bM (by simpa using hl)
 refine⟨s1,?_,by simpa using h1,Gr.push.jP (au _) K1⟩
 unfold dZ
 dsimp only
 rw[e1]
theorem set_same{st:Hs}{l:Nat}{o:Ob}(h:st[l]? =some o):st.set l o=st:=zo λj=>by
 by_cases e:l=j
 ·subst e;rw[aP h,h]
 ·rw[aC e]
theorem Sa{l:Nat}{kvs:Ks}{a b:Int}{v:Wv}{st:Hs}(h:bV st[l]? =some kvs)(e:en kvs (ky a b)=some v):N4 (.ref l) (tI [a,b]) st= .ok v st:=by
 have hk:lW (tI [a,b])=some (ky a b):=rfl
 unfold N4 getD
 unfold bV at h
 split at h
 ·rename_i k' q
  cases h
  dsimp only
  rw[q,hk]
  dsimp only
  rw[e]
 ·rename_i k' q
  cases h
  dsimp only
  rw[q,hk]
  dsimp only
  rw[e]
 ·cases h
def tp(kvs:Ks)(p:Pt):Bool:=RT ((en kvs (jy p)).getD .bg)
theorem BD:∀ps:List Pt,nC (ps.map jy)=some ps
 | []=>rfl
 | p::r=>by
  rw[a6]
  show(match nC (r.map jy) with | some l=>some ((p.1,p.2)::l) | none=>none)=_
  rw[BD r]
def Sb(kvs:Ks)(ps:List Pt):Prop:=kvs.map (·.1)=ps.map jy/\ps.Nodup/\∀p∈ps,kE p.1 p.2
theorem Dm{d:Nat}{kvs:Ks}{o:Ob}{st:Hs}(h:st[d]? =some (.bq kvs)):nB d (st.set d (.fH kvs)++[o])=st++[o]:=by
 have lt:=bE h
 have e:(st.set d (.fH kvs)++[o])[d]? =some (.fH kvs):=b9 (aP h)
 unfold nB
 rw[e]
 dsimp only
 rw[Ky _ _ (by simpa using lt),Bw,set_same h]
def tW(kvs:Ks):Wv->Bool
 | .tup [.int a,.int b]=>tp kvs (a,b)
 | _=>false
theorem KL{kvs:Ks}{ps:List Pt}:((ps.map pw).filter (tW kvs)).map id=(ps.filter (tp kvs)).map pw:=by
 rw[List.map_id,List.filter_map]
 rfl
theorem sV{d:Nat}{kvs:Ks}{ps:List Pt}{st:Hs}(h:st[d]? =some (.bq kvs))(hk:Sb kvs ps)(hC:∀k v,en kvs k=some v->Cn v)(hl:ps.length < 64) :
  ∃(l:Nat)(st':Hs),cD [.ref d] st= .ok (.ref l) st'/\Gr st st'/\ao st' l=some ((di (ps.filter (tp kvs))).map pw)/\st'[l]? =some (.lst ((di (ps.filter (tp kvs))).map pw))/\st.length<=l:=by
 have kw:xy (.ref d) st= .ok (none,ps.map pw) (st.set d (.fH kvs)):=by
  show(match st[d]? with
   | some (.bq kvs)=>(match eE (qd (λx:List L2.Key×Wv=>x.1) kvs) with | some ws=>Re.ok ((none,ws):Wk) (st.set d (.fH kvs)) | none=> .bad)
   | some (.fH kvs)=>(match eE (qd (λx:List L2.Key×Wv=>x.1) kvs) with | some ws=> .ok (none,ws) st | none=> .bad)
   | _=> .bad)=_
  rw[h]
  dsimp only
  rw[hk.1,qV]
 have o1:oQ ([some (Wv.ref d)]:bF)[0]? st=some d:=by
  show(match st[d]? with | some (.bq _)=>some d | _=>none)=_
  rw[h]
 have hf:∀(acc:List Wv),bV (st.set d (.fH kvs)++[.lst acc])[d]? =some kvs:=λacc=>by rw[b9 (aP h)];rfl
 have cp:=fX (cs:=[("sheet",0)]) (gt:=bT) (ge:=cW) (ρ:=[some (.ref d)]) (w:=(none,ps.map pw)) (st:=st.set d (.fH kvs)) (t:=tW kvs) (f:=id) trivial
  (λv hv acc=>by
   obtain⟨p,_,rfl⟩:=List.mem_map.mp hv
   have e:=yb (p:=p.1) (q:=p.2) (hf acc) (hC _)
   have e':dO [.ref d,pw p] (st.set d (.fH kvs)++[.lst acc])= .ok (.bl (tW kvs (pw p))) (st.set d (.fH kvs)++[.lst acc]):=e
   generalize tW kvs (pw p)=b at e' ⊢
   unfold bT
   simp[eD,e'])
  (λv hv _ acc=>rfl) (by rw[bc];unfold lim;omega)
 rw[show((none,ps.map pw):Wk).2=ps.map pw from rfl,KL] at cp
 have te:gU 0 (bO [("sheet",0)] (gn (aa 0)) bT cW) [some (.ref d)] st= .ok (.ref st.length) (st++[.lst ((ps.filter (tp kvs)).map pw)]):=by
  have gk:bO [("sheet",0)] (gn (aa 0)) bT cW [some (.ref d)] st= .ok (.ref st.length) (st.set d (.fH kvs)++[.lst ((ps.filter (tp kvs)).map pw)]):=by
   rw[rA] at cp
   simp[gn,kw,cp]
  unfold gU
  rw[o1]
  dsimp only
  rw[gk]
  dsimp only
  rw[Dm h]
 have l1:ao (st++[.lst ((ps.filter (tp kvs)).map pw)]) st.length=some ((ps.filter (tp kvs)).map pw):=cA
 have g1:Gr st (st++[.lst ((ps.filter (tp kvs)).map pw)]):=Gr.push
 have n1:bV (st++[.lst ((ps.filter (tp kvs)).map pw)])[st.length]? =none:=by rw[bM];rfl
 have z1:st.length < (st++[Ob.lst ((ps.filter (tp kvs)).map pw)]).length:=by simp
 generalize st++[.lst ((ps.filter (tp kvs)).map pw)]=s1 at te l1 g1 n1 z1
 have sr:qr [.ref st.length] s1= .ok (.ref s1.length) (s1++[.lst ((di (ps.filter (tp kvs))).map pw)]):=by
  show(match bV s1[st.length]? with
   | some kvs=>(match nC (qd (λx:List L2.Key×Wv=>x.1) kvs) with | some ps=>if ps.length < 64 then Re.ok (Wv.ref s1.length) (s1++[Ob.lst ((di ps).map pw)]) else .bad | none=> .bad)
   | none=>lV [.ref st.length] s1)=_
  rw[n1]
  exact RM l1 (Nat.lt_of_le_of_lt (gM _ _) hl)
 refine⟨s1.length,_,?_,g1.trans Gr.push,cA,bM,by omega⟩
 unfold cD df gX
 simp[te,sr]
section
variable {B:List Pt} {wd:Pt->S} {ww:Pt->Wv} {its:Pt->List It}
def ent(wd:Pt->S)(ww:Pt->Wv)(its:Pt->List It)(p:Pt):Wv:=.tup [.str (wd p),ww p,.tup ((its p).map It.w)]
def uT(B:List Pt)(wd:Pt->S)(p:Pt):Bool:=decide (p∈B)&&(wd p == "worth")
def BE(T:List Pt)(its:Pt->List It)(p:Pt):List Pt:=(Ac (((its p).filter It.ok).flatMap It.ps)).filter λq=>decide (q∈T)
theorem VX{p:Pt}{st:Hs}:aU (ent wd ww its p) (.int 0) st= .ok (.str (wd p)) st:=c9 rfl
theorem Sd{p:Pt}{st:Hs}:aU (ent wd ww its p) (.int 2) st= .ok (.tup ((its p).map It.w)) st:=c9 rfl
theorem LQ{i j bk:Nat}{ρ:bF}{p:Pt}{st:Hs}(hi:ρ[i]? =some (some (pw p)))(hj:ρ[j]? =some (some (.ref bk)))(hb:bV st[bk]? =some (dF B (ent wd ww its))) :
  nP (aQ (ag (iM false) (aa i) (aa j))) (aQ (ag oEq (ag aU (bX (aa j) (aa i)) (gC (.int 0))) (gC (.str "worth")))) ρ st= .ok (uT B wd p) st:=by
 have i1:=yd (q:=p) (neg:=false) hb
 unfold uT
 by_cases c:p∈B
 ·rw[decide_eq_true c] at i1 ⊢
  have g:=t7 (l:=bk) (i:=j) (j:=i) hj hi hb c
  have e0:=VX (wd:=wd) (ww:=ww) (its:=its) (p:=p) (st:=st)
  have t1:aQ (ag (iM false) (aa i) (aa j)) ρ st= .ok true st:=by
   simp only[kC,ir,cN,hi,hj,cM,a_,nU,i1,dU]
   rfl
  rw[qu,t1]
  show aQ (ag oEq (ag aU (bX (aa j) (aa i)) (gC (.int 0))) (gC (.str "worth"))) ρ st=_
  rw[kC,ir,ir,g]
  simp[e0]
 ·rw[decide_eq_false c] at i1 ⊢
  have t1:aQ (ag (iM false) (aa i) (aa j)) ρ st= .ok false st:=by
   simp only[kC,ir,cN,hi,hj,cM,a_,nU,i1,dU]
   rfl
  rw[qu,t1]
  rfl
theorem KN{T:List Pt}{sh:Option Wv}{bk d:Nat}{f:Pt->Wv}{p:Pt}{o4:Option Wv}{st:Hs}(hT:T.length < 64)(hd:st[d]? =some (.bq (dF T f)))(hp:p∈T)(hB:p∈B)(hb:bV st[bk]? =some (dF B (ent wd ww its)))(hi:(its p).length<=63) :
  ∃o lp st',dI [sh,some (.ref bk),some (.ref d),some (pw p),o4] st= .nx [sh,some (.ref bk),some (.ref d),some (pw p),o] st'/\st'[d]? =some (.bq (dF T (sR f p (.ref lp))))/\st'[lp]? =some (.lst ((BE T its p).map pw))/\lp≠d/\bA d st st':=by
 have g:=t7 (l:=bk) (i:=1) (j:=3) (ρ:=[sh,some (.ref bk),some (.ref d),some (pw p),o4]) rfl rfl hb hB
 obtain⟨s1,e1,h1,G1⟩:=KJ (cs:=[]) (gt:=eY) (ge:=hI) (ρ:=[sh,some (.ref bk),some (.ref d),some (pw p),o4]) (o:=none) (ws:=its p) (st:=st) It.w It.ok (λ_ _=>trivial) (λa s=>rfl) (λa _ s=>by
  obtain⟨s',e,G⟩:=KI (it:=a) (st:=s)
  refine⟨s',?_,G⟩
  generalize a.ok=z at e ⊢
  unfold eY
  simp[e]) (by unfold lim;omega)
 have f1:aO 4 (bO [] (cP (ag aU (bX (aa 1) (aa 3)) (gC (.int 2)))) eY hI) [sh,some (.ref bk),some (.ref d),some (pw p),o4] st= .nx [sh,some (.ref bk),some (.ref d),some (pw p),some (.ref st.length)] s1:=by
  rw[uK,zD,vX,ir,g]
  simp only[a_,nU,e_c,Sd,dU,GZ,e1]
  rfl
 have ok:∀it∈(its p).filter It.ok,it.ok=true:=λit h=>(List.mem_filter.mp h).2
 obtain⟨l2,s2,e2,h2,G2⟩:=yi ok (aW (gM _ _) hi) (bY h1)
 have hd1:=G1.get hd
 have hd2:=G2.get hd1
 have ul:(Ac (((its p).filter It.ok).flatMap It.ps)).length<=3000 * 63:=by
  have q1:=BB (l:=((its p).filter It.ok).flatMap It.ps)
  have q2:=Ad ok
  have q3:=gM It.ok (its p)
  omega
 obtain⟨U,hU⟩:∃U,Ac (((its p).filter It.ok).flatMap It.ps)=U:=⟨_,rfl⟩
 have eR:BE T its p=U.filter λq=>decide (q∈T):=by unfold BE;rw[hU]
 rw[hU] at h2 ul
 have q:=fX (cs:=[("reads",2)]) (gt:=eX) (ge:=dq) (ρ:=[sh,some (.ref bk),some (.ref d),some (pw p),some (.ref st.length)]) (w:=(some l2,U.map pw)) (st:=s2) (t:=λv=>decide (Hx v∈T)) (f:=λv=>v) h2
  (λv hv acc=>by
   obtain⟨x,_,rfl⟩:=List.mem_map.mp hv
   have i1:=yd (q:=x) (neg:=false) (st:=s2++[.lst acc]) (j9 (b9 hd2))
   show aQ (ag (iM false) (aa 0) (aa 1)) [some (pw x),some (.ref d)] (s2++[.lst acc])= .ok (decide (x∈T)) (s2++[.lst acc])
   simp only[kC,ir,cN,cQ,cL,cM,a_,nU,i1,dU,nH]
   cases decide (x∈T)<;>rfl)
  (λv hv _ acc=>by unfold dq;simp)
  (by show(U.map pw).length < lim;rw[bc];unfold lim;omega)
 have eq2:(((U.map pw).filter λv=>decide (Hx v∈T)).map λv=>v)=(BE T its p).map pw:=by
  rw[Hy,ij (u:=λx=>decide (x∈T)) (λx=>rfl),eR]
 rw[show((some l2,U.map pw):Wk).2=U.map pw from rfl,eq2] at q
 have Se:(s2++[.lst ((BE T its p).map pw)])[d]? =some (.bq (dF T f)):=b9 hd2
 have XQ:(s2++[.lst ((BE T its p).map pw)])[s2.length]? =some (.lst ((BE T its p).map pw)):=bM
 have K3:bA d st (s2++[.lst ((BE T its p).map pw)]):=(G1.trans (G2.trans Gr.push)).keep
 have nd:s2.length≠d:=by have:=bE hd2;omega
 generalize s2++[.lst ((BE T its p).map pw)]=s3 at q Se XQ K3
 have pd:=mv (q:=p) (v:=.ref s2.length) Se (by rw[mw];omega)
 rw[wz hp] at pd
 refine⟨some (.ref st.length),s2.length,s3.set d (.bq (dF T (sR f p (.ref s2.length)))),?_,aP Se,by rw[aC nd.symm];exact XQ,nd,K3.trans bA.set⟩
 have f2:dg (bO [("reads",2)] (cP (ay 1 c_ (af (aa 4) aq))) eX dq) (aa 2) (aa 3) [sh,some (.ref bk),some (.ref d),some (pw p),some (.ref st.length)] s1= .nx [sh,some (.ref bk),some (.ref d),some (pw p),some (.ref st.length)] (s3.set d (.bq (dF T (sR f p (.ref s2.length))))):=by
  have c:bO [("reads",2)] (cP (ay 1 c_ (af (aa 4) aq))) eX dq [sh,some (.ref bk),some (.ref d),some (pw p),some (.ref st.length)] s1= .ok (.ref s2.length) s3:=by
   rw[zD,vX]
   simp[e2,vY h2,q]
  unfold dg
  rw[c]
  simp only[cN,cQ,cL,cM,dj]
  rw[pd]
 unfold dI
 rw[ba,f1,bH]
 exact f2
theorem Ae{sh bk:Nat}{kvs:Ks}{ps T:List Pt}{st:Hs}(hs:st[sh]? =some (.bq kvs))(hk:Sb kvs ps)(hC:∀k v,en kvs k=some v->Cn v)(hl:ps.length < 64)(hb:bV st[bk]? =some (dF B (ent wd ww its)))(hi:∀p,(its p).length<=63)(eT:T=(di (ps.filter (tp kvs))).filter (uT B wd)) :
  ∃(d:Nat)(lr:Pt->Nat)(st':Hs),eZ [.ref sh,.ref bk] st= .ok (.ref d) st'/\Gr st st'/\st.length<=d/\st'[d]? =some (.bq (dF T λp=> .ref (lr p)))/\∀p∈T,st'[lr p]? =some (.lst ((BE T its p).map pw)):=by
 obtain⟨s1,hs1⟩:∃s1,st++[Ob.bq []]=s1:=⟨_,rfl⟩
 have G1:Gr st s1:=by rw[<-hs1];exact Gr.push
 have d1:s1[st.length]? =some (.bq []):=by rw[<-hs1];exact bM
 obtain⟨l2,s2,e2,G2,Pp,_,_⟩:=sV (G1.get hs) hk hC hl
 have bl:=gK hb
 have hfl:(di (ps.filter (tp kvs))).length<=ps.length:=by rw[(fW _).length_eq];exact gM _ _
 have hfn:(di (ps.filter (tp kvs))).Nodup:=(fW _).nodup_iff.mpr (hk.2.1.filter _)
 generalize di (ps.filter (tp kvs))=F at e2 Pp hfl hfn eT
 have d2:=G2.get d1
 have kb:∀{s:Hs},bA st.length s2 s->bV s[bk]? =some (dF B (ent wd ww its)):=λ{s} K=>bN hb (by rw[K.2 bk (by have:=G1.1;have:=G2.1;omega) (by omega),G2.2 bk (by have:=G1.1;omega),G1.2 bk bl])
 have ne2:l2≠st.length:=λz=>by
  unfold ao at Pp
  rw[z,d2] at Pp
  cases Pp
 obtain⟨ρ3,s3,e3,⟨o3,f3,rfl,h3,K3⟩,_⟩:=iu (i:=3) (gb:=dJ) (l:=l2) (all:=F.map pw) pw F (λpre ρ s=>∃o3 f,ρ=[some (.ref sh),some (.ref bk),some (.ref st.length),o3,none]/\s[st.length]? =some (.bq (dF (pre.filter (uT B wd)) f))/\bA st.length s2 s)
  (λa pre post ρ s hf hP hL=>by
   obtain⟨o3,f,rfl,hd,K⟩:=hP
   have t:=LQ (i:=3) (j:=1) (ρ:=[some (.ref sh),some (.ref bk),some (.ref st.length),some (pw a),none]) (p:=a) rfl rfl (kb K)
   have rn:([some (.ref sh),some (.ref bk),some (.ref st.length),o3,none]:bF).set 3 (some (pw a))=[some (.ref sh),some (.ref bk),some (.ref st.length),some (pw a),none]:=rfl
   rw[rn]
   cases c:uT B wd a with
   | false=>
    refine⟨_,s,?_,hL,some (pw a),f,rfl,?_,K⟩
    ·unfold dJ
     rw[nT,t,c]
     rfl
    ·rw[zY,jb (by simp[c])]
     simpa using hd
   | true=>
    have ln:(pre.filter (uT B wd)).length<=pre.length:=gM _ _
    have fl:=congrArg f9 hf
    rw[cF,cG] at fl
    have na:a∉pre.filter (uT B wd):=λz=>by
     rw[hf,m_] at hfn
     exact hfn.2.2 a (List.mem_filter.mp z).1 a aB rfl
    have XR:(s++[Ob.lst []])[st.length]? =some (.bq (dF (pre.filter (uT B wd)) f)):=b9 hd
    have pd:=mv (q:=a) (v:=.ref s.length) XR (by rw[mw];omega)
    rw[nh na] at pd
    refine⟨_,(s++[Ob.lst []]).set st.length (.bq (dF (pre.filter (uT B wd)++[a]) (sR f a (.ref s.length)))),?_,?_,some (pw a),sR f a (.ref s.length),rfl,?_,K.trans (bA.push.trans bA.set)⟩
    ·unfold dJ
     rw[nT,t,c]
     have kt:∀(g h:GS)(ρ:bF),Re.a9 ρ (.ok true s) (S_ g h ρ)=g ρ s:=λg h ρ=>by simp
     rw[kt]
     unfold dg
     have ll:∀ρ:bF,dR aq ρ s= .ok (.ref s.length) (s++[.lst []]):=λρ=>by simp
     rw[ll]
     simp only[cN,cQ,cL,cM,dj]
     rw[pd]
    ·exact(bA.push.trans bA.set:bA st.length s _).lst hL ne2
    ·rw[aP XR,zY,ja c]
     rfl)
  F [] [some (.ref sh),some (.ref bk),some (.ref st.length),none,none] s2 rfl ⟨none,λ_=> .bg,rfl,d2,bA.refl⟩ Pp
 rw[<-eT] at h3
 have lT:T.length < 64:=by
  rw[eT]
  exact Nat.lt_of_le_of_lt (aW (gM _ _) hfl) hl
 have ld:=LP h3
 obtain⟨s4,Kz⟩:∃s4,s3++[Ob.lst (T.map pw)]=s4:=⟨_,rfl⟩
 have G4:Gr s3 s4:=by rw[<-Kz];exact Gr.push
 have L4:ao s4 s3.length=some (T.map pw):=by rw[<-Kz];exact cA
 have h4:=G4.get h3
 have dl3:=bE h3
 rw[Kz] at ld
 obtain⟨ρ5,s5,e5,⟨o5,o6,f5,rfl,h5,K5,q5⟩,_⟩:=iu (i:=3) (gb:=dI) (l:=s3.length) (all:=T.map pw) pw T (λpre ρ s=>∃o3 o4 f,ρ=[some (.ref sh),some (.ref bk),some (.ref st.length),o3,o4]/\s[st.length]? =some (.bq (dF T f))/\bA st.length s4 s/\∀p∈pre,∃l,f p= .ref l/\l≠st.length/\s[l]? =some (.lst ((BE T its p).map pw)))
  (λa pre post ρ s hf hP hL=>by
   obtain⟨o3,o4,f,rfl,hd,K,q⟩:=hP
   have ha:a∈T:=by rw[hf];simp
   have hB:a∈B:=by
    have:=ha
    rw[eT] at this
    have:=(List.mem_filter.mp this).2
    unfold uT at this
    rw[ff] at this
    exact of_decide_eq_true this.1
   obtain⟨o,lp,s',e,h',hp,np,K'⟩:=KN (sh:=some (.ref sh)) (o4:=o4) lT hd ha hB (kb (K3.trans (G4.keep.trans K))) (hi a)
   refine⟨_,s',e,K'.lst hL (by omega),some (pw a),o,_,rfl,h',K.trans K',λp Pe=>?_⟩
   by_cases c:p=a
   ·subst c
    exact⟨lp,by unfold sR;rw[if_pos rfl],np,hp⟩
   ·obtain⟨l,e1,e2,e3⟩:=q p (by rcases List.mem_append.mp Pe with z | z;exact z;exact absurd (List.mem_singleton.mp z) c)
    exact⟨l,by unfold sR;rw[if_neg c];exact e1,e2,by rw[K'.2 l (bE e3) e2];exact e3⟩)
  T [] [some (.ref sh),some (.ref bk),some (.ref st.length),o3,none] s4 rfl ⟨o3,none,f3,rfl,h4,bA.refl,(λ_ h=>by cases h)⟩ L4
 let lr:Pt->Nat:=λp=>match f5 p with | .ref l=>l | _=>0
 have e6:dF T f5=dF T λp=> .ref (lr p):=jv λp hp=>by
  obtain⟨l,e1,_⟩:=q5 p hp
  show f5 p= .ref (match f5 p with | .ref l=>l | _=>0)
  rw[e1]
 refine⟨st.length,lr,s5,lF (n:=5) (g:=gF) ?_,?_,au _,by rw[h5,e6],λp hp=>?_⟩
 ·have f1:aO 2 gQ [some (.ref sh),some (.ref bk),none,none,none] st= .nx [some (.ref sh),some (.ref bk),some (.ref st.length),none,none] s1:=by rw[<-hs1];rfl
  have f2:jL 3 (ay 1 cD (af (aa 0) aq)) dJ [some (.ref sh),some (.ref bk),some (.ref st.length),none,none] s1= .nx [some (.ref sh),some (.ref bk),some (.ref st.length),o3,none] s3:=by
   simp[e2,jO Pp,e3]
  have Zo:jL 3 (a7 lY (af (aa 2) aq)) dI [some (.ref sh),some (.ref bk),some (.ref st.length),o3,none] s3= .nx [some (.ref sh),some (.ref bk),some (.ref st.length),o5,o6] s5:=by
   simp[ld,jO L4,e5]
  show gF [some (.ref sh),some (.ref bk),none,none,none] st=_
  unfold gF
  rw[ba,f1,bH,ba,f2,bH,ba,Zo,bH]
  rfl
 ·exact(G1.trans G2).jP (au _) (K3.trans (G4.keep.trans K5))
 ·obtain⟨l,e1,_,e3⟩:=q5 p hp
  have:lr p=l:=by show(match f5 p with | .ref l=>l | _=>0)=l;rw[e1]
  rw[this]
  exact e3
end
def LR(p:Pt):PyData:=.tuple [.int p.1,.int p.2]
theorem wC{st:Hs}{n:Nat}:∀acc:List Pt,lM (bJ st (n+2)) (acc.map pw)=some (acc.map LR)
 | []=>rfl
 | l::r=>by
  rw[a6]
  unfold lM
  rw[wC r]
  rfl
theorem BF{p q:Pt}:b_ (LR p) (LR q)=decide (p=q):=by
 obtain⟨a,b⟩:=p
 obtain⟨c,d⟩:=q
 show b_ (.tuple [.int a,.int b]) (.tuple [.int c,.int d])=_
 simp only[b_,ni,Prod.mk.injEq]
 rw[Bx]
 simp
theorem HD{neg:Bool}{st:Hs}{k:Nat}{acc:List Pt}(h:ao st k=some (acc.map pw))(q:Pt):nu neg (pw q) (.ref k) st= .ok (.bl (decide (q∈acc) != neg)) st:=by
 have d1:bJ st 20 (.ref k)=some (.list (acc.map LR)):=by rw[G8 (n:=19) h,wC];rfl
 have d2:bJ st 20 (pw q)=some (LR q):=rfl
 have e:((acc.map LR).any λz=>b_ z (LR q))=decide (q∈acc):=by
  rw[Bx,HA,decide_eq_true_eq]
  constructor
  ·rintro⟨z,hz,e⟩
   obtain⟨m,hm,rfl⟩:=List.mem_map.mp hz
   rw[BF] at e
   rw[<-of_decide_eq_true e]
   exact hm
  ·intro hm
   exact⟨_,List.mem_map.mpr ⟨q,hm,rfl⟩,by rw[BF];simp⟩
 unfold nu
 rw[d1,d2]
 dsimp only
 rw[e]
theorem ne_nil{st:Hs}{k:Nat}{acc:List Pt}(h:ao st k=some (acc.map pw)):yk (.ref k) (.ref st.length) (st++[.lst []])= .ok (.bl (!acc.isEmpty)) (st++[.lst []]):=by
 have d1:bJ (st++[.lst []]) 20 (.ref k)=some (.list (acc.map LR)):=by rw[G8 (n:=19) (Gr.push.lst h),wC];rfl
 have d2:bJ (st++[.lst []]) 20 (.ref st.length)=some (.list []):=by rw[G8 (n:=19) cA];rfl
 unfold yk
 rw[d1,d2]
 dsimp only
 cases acc with
 | nil=>simp[b_,ni]
 | cons a r=>simp[b_,ni]
theorem BG:∀bs:List Bool,jB (bs.map Wv.bl)=some bs
 | []=>rfl
 | b::r=>by rw[a6];show(match jB (r.map Wv.bl) with | some l=>some (b::l) | none=>none)=_;rw[BG r]
theorem KO{st:Hs}{bs:List Bool}:zu [.ref st.length] (st++[.lst (bs.map Wv.bl)])= .ok (.bl (bs.any id)) (st++[.lst (bs.map Wv.bl)]):=by
 show(match ao (st++[.lst (bs.map Wv.bl)]) st.length with | some ws=>(match jB ws with | some bs=>Re.ok (Wv.bl (bs.any id)) (st++[Ob.lst _]) | none=> .bad) | none=> .bad)=_
 rw[cA]
 dsimp only
 rw[BG]
def O_:Wv->It
 | .tup [.str _,p]=> .at' (Hx p)
 | .tup [.str _,.tup [.int a,.int b,.int c,.int d],p]=> .part a b c d (Hx p)
 | _=> .at' (0,0)
theorem LS{it:It}:O_ it.w=it:=by cases it<;>rfl
section
variable {B:List Pt} {wd:Pt->S} {ww:Pt->Wv} {its:Pt->List It}
def rh(its:Pt->List It)(x o:Pt):Bool:=(its x).any λit=>it.hold o
theorem Sf{ρ:bF}{bk:Nat}{x y:Pt}{st:Hs}(h1:ρ[1]? =some (some (.ref bk)))(h6:ρ[6]? =some (some (pw x)))(h7:ρ[7]? =some (some (pw y)))(hb:bV st[bk]? =some (dF B (ent wd ww its)))(hB:x∈B)(hi:(its x).length<=63) :
  ∃st',fi (a7 zu (af (bO [("other",7)] (cP (ag aU (bX (aa 1) (aa 6)) (gC (.int 2)))) dt cK) aq)) ρ st= .ok (rh its x y) st'/\Gr st st':=by
 have g:=t7 (l:=bk) (i:=1) (j:=6) h1 h6 hb hB
 have cr:eD [("other",7)] ρ=[some (pw y)]:=by simp[eD,h7]
 have q:=fX (cs:=[("other",7)]) (gt:=dt) (ge:=cK) (ρ:=ρ) (w:=(none,(its x).map It.w)) (st:=st) (t:=λ_=>true) (f:=λv=> .bl ((O_ v).hold y)) trivial
  (λv hv acc=>rfl)
  (λv hv _ acc=>by
   obtain⟨it,_,rfl⟩:=List.mem_map.mp hv
   have h:=holds (it:=it) (q:=y) (st:=st++[.lst acc])
   rw[cr,LS]
   generalize it.hold y=z at h ⊢
   unfold cK
   simp[h])
  (by show((its x).map It.w).length < lim;rw[bc];unfold lim;omega)
 have e:(((its x).map It.w).filter λ_=>true).map (λv=>Wv.bl ((O_ v).hold y))=((its x).map λit=>it.hold y).map Wv.bl:=by
  rw[List.filter_eq_self.mpr (λ_ _=>rfl),mr,mr]
  refine wy λit _=>?_
  show Wv.bl ((O_ it.w).hold y)=_
  rw[LS]
  rfl
 rw[show((none,(its x).map It.w):Wk).2=(its x).map It.w from rfl,e] at q
 have an:=KO (st:=st) (bs:=(its x).map λit=>it.hold y)
 have ea:((its x).map λit=>it.hold y).any id=rh its x y:=by rw[List.any_map];rfl
 rw[ea] at an
 have gr:Gr st (st++[.lst (((its x).map λit=>it.hold y).map Wv.bl)]):=Gr.push
 generalize st++[.lst (((its x).map λit=>it.hold y).map Wv.bl)]=s1 at q an gr
 refine⟨s1,?_,gr⟩
 have c:bO [("other",7)] (cP (ag aU (bX (aa 1) (aa 6)) (gC (.int 2)))) dt cK ρ st= .ok (.ref st.length) s1:=by
  rw[zD,vX,ir,g]
  simp only[a_,nU,e_c,Sd,dU,GZ,q]
 generalize rh its x y=z at an ⊢
 generalize bO [("other",7)] (cP (ag aU (bX (aa 1) (aa 6)) (gC (.int 2)))) dt cK=gc at c ⊢
 simp[c,an]
theorem sW{sh pl:Option Wv}{bk lt lm lw b:Nat}{x:Pt}{all:List Wv}(n1:lm≠lw)(b0:lt < b)(b1:b<=lm)(b2:b<=lw)(b3:bk < b)(hB:x∈B)(hi:(its x).length<=63):∀(rest met row:List Pt)(o7:Option Wv)(st:Hs),bV st[bk]? =some (dF B (ent wd ww its))->st[lm]? =some (.lst (met.map pw))->st[lw]? =some (.lst (row.map pw))->ao st lt=some all->rest.Nodup->met.length+rest.length < 900->row.length+rest.length < 900->
  ∃q7 st',forL 7 bu lt all (rest.map pw) [sh,some (.ref bk),some (.ref lt),pl,some (.ref lm),some (.ref lw),some (pw x),o7] st= .nx [sh,some (.ref bk),some (.ref lt),pl,some (.ref lm),some (.ref lw),some (pw x),q7] st'/\st'[lm]? =some (.lst ((met++rest.filter λo=> !decide (o∈met)&&rh its x o).map pw))/\st'[lw]? =some (.lst ((row++rest.filter λo=> !decide (o∈met)&&rh its x o).map pw))/\Fb b st st'
 | [],met,row,o7,st,hb,hm,hr,hl,nd,l1,l2=>⟨o7,st,rfl,by simpa using hm,by simpa using hr,Fb.refl⟩
 | y::r,met,row,o7,st,hb,hm,hr,hl,nd,l1,l2=>by
  obtain⟨VR,RZ⟩:=List.nodup_cons.mp nd
  simp only[cG] at l1 l2
  obtain⟨ρ,hρ⟩:∃ρ:bF,[sh,some (.ref bk),some (.ref lt),pl,some (.ref lm),some (.ref lw),some (pw x),some (pw y)]=ρ:=⟨_,rfl⟩
  have i1:=HD (neg:=true) (bY hm) y
  have t1:aQ (ag (nu true) (aa 7) (aa 4)) ρ st= .ok (!decide (y∈met)) st:=by
   rw[<-hρ]
   simp only[kC,ir,cN,cQ,cL,cM,a_,nU,i1,dU,nH]
   cases decide (y∈met)<;>rfl
  obtain⟨s1,t2,G1⟩:=Sf (ρ:=ρ) (y:=y) (by rw[<-hρ];rfl) (by rw[<-hρ];rfl) (by rw[<-hρ];rfl) hb hB hi
  have F1:Fb b st s1:=Fb.gr (by have:=bE hm;omega) G1
  have Ht:∀{ρ':bF}{st':Hs},bu ρ st= .nx ρ' st'->ao st' lt=some all->forL 7 bu lt all ((y::r).map pw) [sh,some (.ref bk),some (.ref lt),pl,some (.ref lm),some (.ref lw),some (pw x),o7] st=forL 7 bu lt all (r.map pw) ρ' st':=λ{ρ' st'} hz hl'=>by
   rw[a6]
   conv=>lhs;unfold forL
   rw[show([sh,some (.ref bk),some (.ref lt),pl,some (.ref lm),some (.ref lw),some (pw x),o7]:bF).set 7 (some (pw y))=ρ from hρ,hz]
   simp only[if_pos hl']
  have BH:∀{s:Hs},Fb b st s->ao s lt=some all:=λ{s} F=>by unfold ao at hl ⊢;rw[F.2 lt b0];exact hl
  have skip:∀{s:Hs},Gr st s->(!decide (y∈met)&&rh its x y)=false->bu ρ st= .nx ρ s->∃q7 st',forL 7 bu lt all ((y::r).map pw) [sh,some (.ref bk),some (.ref lt),pl,some (.ref lm),some (.ref lw),some (pw x),o7] st= .nx [sh,some (.ref bk),some (.ref lt),pl,some (.ref lm),some (.ref lw),some (pw x),q7] st'/\st'[lm]? =some (.lst ((met++(y::r).filter λo=> !decide (o∈met)&&rh its x o).map pw))/\st'[lw]? =some (.lst ((row++(y::r).filter λo=> !decide (o∈met)&&rh its x o).map pw))/\Fb b st st':=λ{s} G kf run=>by
   have F:Fb b st s:=Fb.gr (by have:=bE hm;omega) G
   obtain⟨q7,s3,e3,m3,r3,F3⟩:=sW (sh:=sh) (pl:=pl) n1 b0 b1 b2 b3 hB hi r met row (some (pw y)) s (bN hb (F.2 bk b3)) (G.get hm) (G.get hr) (BH F) RZ (by omega) (by omega)
   rw[Ht run (BH F),<-hρ,jb (by rw[kf];decide)]
   exact⟨q7,s3,e3,m3,r3,F.trans F3⟩
  by_cases c:y∈met
  ·refine skip Gr.refl (by rw[decide_eq_true c];rfl) ?_
   unfold bu
   rw[nT,qu,t1,decide_eq_true c]
   rfl
  ·have ta:nP (aQ (ag (nu true) (aa 7) (aa 4))) (fi (a7 zu (af (bO [("other",7)] (cP (ag aU (bX (aa 1) (aa 6)) (gC (.int 2)))) dt cK) aq))) ρ st= .ok (rh its x y) s1:=by
    rw[qu,t1,decide_eq_false c]
    exact t2
   cases k:rh its x y with
   | false=>
    refine skip G1 (by rw[k,D5]) ?_
    unfold bu
    rw[nT,ta,k]
    rfl
   | true=>
    have hm1:=G1.get hm
    have hr1:=G1.get hr
    have XS:=app_list (go:=aa 4) (ga:=aa 7) (ρ:=ρ) (v:=pw y) (st:=s1) (s1:=s1) (by rw[<-hρ];simp) hm1 (by rw[<-hρ];simp) (by rw[bc];unfold lim;omega)
    obtain⟨s2,hs2⟩:∃s2,s1.set lm (.lst (met.map pw++[pw y]))=s2:=⟨_,rfl⟩
    rw[hs2] at XS
    have hr2:s2[lw]? =some (.lst (row.map pw)):=by rw[<-hs2,aC n1];exact hr1
    have XT:=app_list (go:=aa 5) (ga:=aa 7) (ρ:=ρ) (v:=pw y) (st:=s2) (s1:=s2) (by rw[<-hρ];simp) hr2 (by rw[<-hρ];simp) (by rw[bc];unfold lim;omega)
    obtain⟨s3,Pd⟩:∃s3,s2.set lw (.lst (row.map pw++[pw y]))=s3:=⟨_,rfl⟩
    rw[Pd] at XT
    have F3:Fb b st s3:=by rw[<-Pd,<-hs2];exact F1.trans ((Fb.set b1).trans (Fb.set b2))
    have run:bu ρ st= .nx ρ s3:=by
     unfold bu
     rw[nT,ta,k,dj,RD,ba,XS,bH]
     exact XT
    have W0:s3[lm]? =some (.lst ((met++[y]).map pw)):=by rw[<-Pd,aC (aH n1),<-hs2,ju];exact aP hm1
    have Zp:s3[lw]? =some (.lst ((row++[y]).map pw)):=by rw[<-Pd,ju];exact aP hr2
    have fl:(y::r).filter (λo=> !decide (o∈met)&&rh its x o)=y::r.filter (λo=> !decide (o∈met++[y])&&rh its x o):=by
     rw[ja (by simp[c,k])]
     congr 1
     refine Hq λo ho=>?_
     have:o≠y:=λz=>VR (z ▸ ho)
     simp[this]
    obtain⟨q7,s4,e4,m4,r4,F4⟩:=sW (sh:=sh) (pl:=pl) n1 b0 b1 b2 b3 hB hi r (met++[y]) (row++[y]) (some (pw y)) s3 (bN hb (F3.2 bk b3)) W0 Zp (BH F3) RZ (by simp;omega) (by simp;omega)
    rw[Ht run (BH F3),<-hρ,fl]
    exact⟨q7,s4,e4,by rw[m4];simp,by rw[r4];simp,F3.trans F4⟩
variable {T:List Pt} {E:Pt->Pt->Prop}
theorem uU{sh pl:Option Wv}{bk lt lm lw b:Nat}{s:Pt}(hT:T.length<=100)(nd:T.Nodup)(hE:∀a o,E a o↔o∈T/\rh its a o=true)(O0:∀p∈T,p∈B)(hi:∀p,(its p).length<=63)(hs:s∈T)(n1:lm≠lw)(b0:lt < b)(b1:b<=lm)(b2:b<=lw)(b3:bk < b) :
  ∀(N:Nat)(met row:List Pt)(o6 o7:Option Wv)(st:Hs),bV st[bk]? =some (dF B (ent wd ww its))->st[lm]? =some (.lst (met.map pw))->st[lw]? =some (.lst (row.map pw))->ao st lt=some (T.map pw)->Dv E T s met row->row.length+(T.length - met.length) < N->row.length+(T.length - met.length)<=400->
  ∃q6 q7 met' st',uE (aQ (ag yk (aa 5) (dR aq))) fG N [sh,some (.ref bk),some (.ref lt),pl,some (.ref lm),some (.ref lw),o6,o7] st= .nx [sh,some (.ref bk),some (.ref lt),pl,some (.ref lm),some (.ref lw),q6,q7] st'/\st'[lm]? =some (.lst (met'.map pw))/\Dv E T s met' []/\Fb b st st'
 | 0,met,row,o6,o7,st,hb,hm,hr,hl,D,hN,_=>absurd hN (vm _)
 | N+1,met,row,o6,o7,Pq,hb0,hm0,hr0,Zq,D,hN,hA=>by
  have ne:=ne_nil (bY hr0)
  obtain⟨st,hst⟩:∃st,Pq++[Ob.lst []]=st:=⟨_,rfl⟩
  have G0:Gr Pq st:=by rw[<-hst];exact Gr.push
  have F0:Fb b Pq st:=Fb.gr (by have:=bE hm0;omega) G0
  rw[hst] at ne
  have tr:aQ (ag yk (aa 5) (dR aq)) [sh,some (.ref bk),some (.ref lt),pl,some (.ref lm),some (.ref lw),o6,o7] Pq= .ok (!row.isEmpty) st:=by
   have ll:∀ρ:bF,dR aq ρ Pq= .ok (.ref Pq.length) st:=λρ=>by rw[<-hst];simp
   simp only[kC,ir,cN,cQ,cL,cM,a_,nU,ll,ne,dU,nH]
  have hb:=bN hb0 (F0.2 bk b3)
  have hm:=G0.get hm0
  have hr:=G0.get hr0
  have hl:=G0.lst Zq
  rcases OT row with rfl | ⟨rw',x,rfl⟩
  ·refine⟨o6,o7,met,st,?_,hm,D,F0⟩
   unfold uE
   rw[tr]
   rfl
  ·rw[OU] at hr D hN hA tr
   have lc:(rw'++[x]).length=rw'.length+1:=by simp
   have hN:rw'.length+1+(T.length - met.length) < N+1:=lc ▸ hN
   have hA:rw'.length+1+(T.length - met.length)<=400:=lc ▸ hA
   have hx:x∈T:=by
    rcases D.sub x (by simp) with z | z
    ·rw[z];exact hs
    ·exact D.yo x z
   have sl:=my D.nd D.yo
   have po:nE (aa 5) [sh,some (.ref bk),some (.ref lt),pl,some (.ref lm),some (.ref lw),o6,o7] st= .ok (pw x) (st.set lw (.lst (rw'.map pw))):=by
    unfold nE
    simp only[cN,cQ,cL,cM,a_]
    unfold J1
    dsimp only
    rw[hr]
    simp
   obtain⟨s1,hs1⟩:∃s1,st.set lw (.lst (rw'.map pw))=s1:=⟨_,rfl⟩
   rw[hs1] at po
   have F1:Fb b st s1:=by rw[<-hs1];exact Fb.set b2
   have r1:s1[lw]? =some (.lst (rw'.map pw)):=by rw[<-hs1];exact aP hr
   have m1:s1[lm]? =some (.lst (met.map pw)):=by rw[<-hs1,aC (aH n1)];exact hm
   have l1:ao s1 lt=some (T.map pw):=by unfold ao at hl ⊢;rw[F1.2 lt b0];exact hl
   obtain⟨q7,s3,e3,m3,r3,F3⟩:=sW (sh:=sh) (pl:=pl) (all:=T.map pw) (x:=x) n1 b0 b1 b2 b3 (O0 x hx) (hi x) T met rw' o7 s1 (bN hb (F1.2 bk b3)) m1 r1 l1 nd (by omega) (by omega)
   have D2:=D.turn nd hE
   have VU:=my D2.nd D2.yo
   simp only[cF] at VU
   have XU:=F0.trans (F1.trans F3)
   have body:fG [sh,some (.ref bk),some (.ref lt),pl,some (.ref lm),some (.ref lw),o6,o7] st= .nx [sh,some (.ref bk),some (.ref lt),pl,some (.ref lm),some (.ref lw),some (pw x),q7] s3:=by
    have f1:aO 6 (nE (aa 5)) [sh,some (.ref bk),some (.ref lt),pl,some (.ref lm),some (.ref lw),o6,o7] st= .nx [sh,some (.ref bk),some (.ref lt),pl,some (.ref lm),some (.ref lw),some (pw x),o7] s1:=by
     rw[uK,po]
     rfl
    unfold fG
    rw[ba,f1,bH,uM]
    simp only[cN,cQ,cL,cM,dj,jO l1]
    exact e3
   have hl3:ao s3 lt=some (T.map pw):=by unfold ao at l1 ⊢;rw[F3.2 lt b0];exact l1
   obtain⟨Zr,Zs,met',s4,e4,m4,D4,F4⟩:=uU (sh:=sh) (pl:=pl) hT nd hE O0 hi hs n1 b0 b1 b2 b3 N _ _ (some (pw x)) q7 s3 (bN hb0 (XU.2 bk b3)) m3 r3 hl3 D2 (by simp only[cF];omega) (by simp only[cF];omega)
   refine⟨Zr,Zs,met',s4,?_,m4,D4,XU.trans F4⟩
   conv=>lhs;unfold uE
   rw[tr]
   have ne':(!(rw'++[x]).isEmpty)=true:=by simp
   rw[ne']
   simp only[dj,if_true]
   rw[body]
   exact e4
theorem uV{sh:Option Wv}{bk lt b:Nat}(hT:T.length<=100)(nd:T.Nodup)(hE:∀a o,E a o↔o∈T/\rh its a o=true)(O0:∀p∈T,p∈B)(hi:∀p,(its p).length<=63)(b0:lt < b)(b3:bk < b) :
  ∀(rest:List Pt)(o3 o4 o5 o6 o7:Option Wv)(st:Hs),(∀x∈rest,x∈T)->b<=st.length->bV st[bk]? =some (dF B (ent wd ww its))->ao st lt=some (T.map pw)->
  ∃w st',ye E rest w/\Fb b st st'/\((∃ρ',forL 3 bw lt (T.map pw) (rest.map pw) [sh,some (.ref bk),some (.ref lt),o3,o4,o5,o6,o7] st= .nx ρ' st'/\w= .bg)\/forL 3 bw lt (T.map pw) (rest.map pw) [sh,some (.ref bk),some (.ref lt),o3,o4,o5,o6,o7] st= .rt w st')
 | [],o3,o4,o5,o6,o7,st,_,_,_,_=>⟨.bg,st,.nil,Fb.refl,.inl ⟨_,rfl,rfl⟩⟩
 | s::r,o3,o4,o5,o6,o7,st,hx,hl,hb,hL=>by
  have hs:=hx s aB
  obtain⟨s1,hs1⟩:∃s1,st++[Ob.lst []]=s1:=⟨_,rfl⟩
  obtain⟨s2,hs2⟩:∃s2,s1++[Ob.lst [pw s]]=s2:=⟨_,rfl⟩
  have z1:s1.length=st.length+1:=by rw[<-hs1];simp
  have G1:Gr st s1:=by rw[<-hs1];exact Gr.push
  have G2:Gr s1 s2:=by rw[<-hs2];exact Gr.push
  have m2:s2[st.length]? =some (.lst (([]:List Pt).map pw)):=G2.get (by rw[<-hs1];exact bM)
  have r2:s2[s1.length]? =some (.lst ([s].map pw)):=by rw[<-hs2];exact bM
  have F2:Fb b st s2:=Fb.gr hl (G1.trans G2)
  obtain⟨q6,q7,met,s4,e4,m4,D4,F4⟩:=uU (sh:=sh) (pl:=some (pw s)) hT nd hE O0 hi hs (by omega) b0 hl (by omega) b3 gW [] [s] o6 o7 s2 (bN hb (F2.2 bk b3)) m2 r2 (by unfold ao at hL ⊢;rw[F2.2 lt b0];exact hL) Dv.start (by unfold gW;simp only[cG,jK];omega) (by simp only[cG,jK];omega)
  have F:=F2.trans F4
  have i1:=HD (neg:=false) (bY m4) s
  have body:∀{z:Rs},jz (aQ (ag (nu false) (aa 3) (aa 4))) (aY (aa 3)) bt [sh,some (.ref bk),some (.ref lt),some (pw s),some (.ref st.length),some (.ref s1.length),q6,q7] s4=z->bw [sh,some (.ref bk),some (.ref lt),some (pw s),o4,o5,o6,o7] st=z:=λ{z} hz=>by
   have f1:aO 4 (dR aq) [sh,some (.ref bk),some (.ref lt),some (pw s),o4,o5,o6,o7] st= .nx [sh,some (.ref bk),some (.ref lt),some (pw s),some (.ref st.length),o5,o6,o7] s1:=by simp[hs1]
   have f2:aO 5 (dR (af (aa 3) aq)) [sh,some (.ref bk),some (.ref lt),some (pw s),some (.ref st.length),o5,o6,o7] s1= .nx [sh,some (.ref bk),some (.ref lt),some (pw s),some (.ref st.length),some (.ref s1.length),o6,o7] s2:=by simp[hs2]
   have f3:jN gW (aQ (ag yk (aa 5) (dR aq))) fG [sh,some (.ref bk),some (.ref lt),some (pw s),some (.ref st.length),some (.ref s1.length),o6,o7] s2= .nx [sh,some (.ref bk),some (.ref lt),some (pw s),some (.ref st.length),some (.ref s1.length),q6,q7] s4:=e4
   unfold bw
   rw[ba,f1,bH,ba,f2,bH,ba,f3,bH]
   exact hz
  have t:aQ (ag (nu false) (aa 3) (aa 4)) [sh,some (.ref bk),some (.ref lt),some (pw s),some (.ref st.length),some (.ref s1.length),q6,q7] s4= .ok (decide (s∈met)) s4:=by
   simp only[kC,ir,cN,cQ,cL,cM,a_,nU,i1,dU,nH]
   cases decide (s∈met)<;>rfl
  have XW:ao s4 lt=some (T.map pw):=by unfold ao at hL ⊢;rw[F.2 lt b0];exact hL
  have dm:=D4.fin s
  by_cases c:s∈met
  ·refine⟨pw s,s4,.here (dm.mp c),F,.inr ?_⟩
   have run:bw [sh,some (.ref bk),some (.ref lt),some (pw s),o4,o5,o6,o7] st= .rt (pw s) s4:=body (by rw[nT,t,decide_eq_true c];rfl)
   rw[a6]
   unfold forL
   rw[show([sh,some (.ref bk),some (.ref lt),o3,o4,o5,o6,o7]:bF).set 3 (some (pw s))=[sh,some (.ref bk),some (.ref lt),some (pw s),o4,o5,o6,o7] from rfl,run]
  ·have run:bw [sh,some (.ref bk),some (.ref lt),some (pw s),o4,o5,o6,o7] st= .nx [sh,some (.ref bk),some (.ref lt),some (pw s),some (.ref st.length),some (.ref s1.length),q6,q7] s4:=body (by rw[nT,t,decide_eq_false c];rfl)
   obtain⟨w,s5,f5,F5,e5⟩:=uV (sh:=sh) hT nd hE O0 hi b0 b3 r (some (pw s)) (some (.ref st.length)) (some (.ref s1.length)) q6 q7 s4 (λy hy=>hx y (aF _ hy)) (aW hl F.1) (bN hb (F.2 bk b3)) XW
   have u:forL 3 bw lt (T.map pw) ((s::r).map pw) [sh,some (.ref bk),some (.ref lt),o3,o4,o5,o6,o7] st=forL 3 bw lt (T.map pw) (r.map pw) [sh,some (.ref bk),some (.ref lt),some (pw s),some (.ref st.length),some (.ref s1.length),q6,q7] s4:=by
    rw[a6]
    conv=>lhs;unfold forL
    rw[show([sh,some (.ref bk),some (.ref lt),o3,o4,o5,o6,o7]:bF).set 3 (some (pw s))=[sh,some (.ref bk),some (.ref lt),some (pw s),o4,o5,o6,o7] from rfl,run]
    simp only[if_pos XW]
   rw[u]
   exact⟨w,s5,.next (λz=>c (dm.mpr z)) f5,F.trans F5,e5⟩
theorem KP{sh bk:Nat}{kvs:Ks}{ps:List Pt}{st:Hs}(hs:st[sh]? =some (.bq kvs))(hk:Sb kvs ps)(hC:∀k v,en kvs k=some v->Cn v)(hl:ps.length < 64)(hb:bV st[bk]? =some (dF B (ent wd ww its)))(hi:∀p,(its p).length<=63)(eT:T=(di (ps.filter (tp kvs))).filter (uT B wd))(hE:∀a o,E a o↔o∈T/\rh its a o=true) :
  ∃w st',lB [.ref sh,.ref bk] st= .ok w st'/\ye E T w/\Gr st st':=by
 have pm:=fW ps
 have e1:di (ps.filter (tp kvs))=(di ps).filter (tp kvs):=rZ ((fW _).trans (pm.symm.filter _)) (oO _) ((oO ps).sublist List.filter_sublist)
 have VY:T=(di ps).filter λp=>uT B wd p&&tp kvs p:=by rw[eT,e1,List.filter_filter]
 have dw:bV st[sh]? =some kvs:=j9 hs
 have sr:qr [.ref sh] st= .ok (.ref st.length) (st++[.lst ((di ps).map pw)]):=by
  show(match bV st[sh]? with
   | some kvs=>(match nC (qd (λx:List L2.Key×Wv=>x.1) kvs) with | some ps=>if ps.length < 64 then Re.ok (Wv.ref st.length) (st++[Ob.lst ((di ps).map pw)]) else .bad | none=> .bad)
   | none=>lV [.ref sh] st)=_
  rw[dw]
  dsimp only
  rw[hk.1,BD]
  dsimp only
  rw[if_pos hl]
 have l1:ao (st++[.lst ((di ps).map pw)]) st.length=some ((di ps).map pw):=cA
 have G1:Gr st (st++[.lst ((di ps).map pw)]):=Gr.push
 generalize st++[.lst ((di ps).map pw)]=s1 at sr l1 G1
 have hs1:=G1.get hs
 have hb1:=bN hb (G1.2 bk (gK hb))
 have cp:=fX (cs:=[("sheet",0),("book",1)]) (gt:=eJ) (ge:=jn) (ρ:=[some (.ref sh),some (.ref bk),none,none,none,none,none,none]) (w:=(some st.length,(di ps).map pw)) (st:=s1) (t:=λv=>uT B wd (Hx v)&&tp kvs (Hx v)) (f:=λv=>v) l1
  (λv hv acc=>by
   obtain⟨p,hp,rfl⟩:=List.mem_map.mp hv
   have Pe:jy p∈kvs.map (·.1):=by rw[hk.1];exact List.mem_map.mpr ⟨p,pm.mem_iff.mp hp,rfl⟩
   obtain⟨w,ew⟩:=uR Pe
   have Zt:bV (s1++[.lst acc])[sh]? =some kvs:=j9 (b9 hs1)
   have ix:N4 (.ref sh) (pw p) (s1++[.lst acc])= .ok w (s1++[.lst acc]):=Sa (a:=p.1) (b:=p.2) Zt ew
   have is:nQ pf nW [w,.ty "tuple"] (s1++[.lst acc])= .ok (.bl (tp kvs p)) (s1++[.lst acc]):=by
    have e:tp kvs p=RT w:=by show RT ((en kvs (jy p)).getD .bg)=_;rw[ew];rfl
    rw[e]
    exact XE (.inr (hC _ _ ew))
   have hb2:bV (s1++[.lst acc])[bk]? =some (dF B (ent wd ww its)):=bN hb1 (fQ (gK hb1))
   have tt:=LQ (i:=0) (j:=2) (ρ:=[some (pw p),some (.ref sh),some (.ref bk)]) (p:=p) rfl rfl hb2
   have t0:fi (a7 (nQ pf nW) (af (bX (aa 1) (aa 0)) (af (gC (.ty "tuple")) aq))) [some (pw p),some (.ref sh),some (.ref bk)] (s1++[.lst acc])= .ok (tp kvs p) (s1++[.lst acc]):=by
    generalize tp kvs p=z at is ⊢
    simp[bX,ix,is]
   show eJ [some (pw p),some (.ref sh),some (.ref bk)] (s1++[.lst acc])= .ok (uT B wd p&&tp kvs p) (s1++[.lst acc])
   unfold eJ
   rw[qu,t0]
   cases tp kvs p with
   | false=>rw[D5];rfl
   | true=>rw[Bool.and_true];exact tt)
  (λv hv _ acc=>rfl) (by show((di ps).map pw).length < lim;rw[bc,pm.length_eq];unfold lim;omega)
 have eq2:((((di ps).map pw).filter λv=>uT B wd (Hx v)&&tp kvs (Hx v)).map λv=>v)=T.map pw:=by
  rw[Hy,ij (u:=λx=>uT B wd x&&tp kvs x) (λx=>rfl),VY]
 rw[show((some st.length,(di ps).map pw):Wk).2=(di ps).map pw from rfl,eq2] at cp
 obtain⟨s2,hs2⟩:∃s2,s1++[Ob.lst (T.map pw)]=s2:=⟨_,rfl⟩
 rw[hs2] at cp
 have G2:Gr s1 s2:=by rw[<-hs2];exact Gr.push
 have l2:ao s2 s1.length=some (T.map pw):=by rw[<-hs2];exact cA
 have z2:s2.length=s1.length+1:=by rw[<-hs2];simp
 have Zu:T.length<=100:=by
  rw[VY]
  have:=gM (λp=>uT B wd p&&tp kvs p) (di ps)
  rw[pm.length_eq] at this
  omega
 have nd:T.Nodup:=by rw[VY];exact(pm.nodup_iff.mpr hk.2.1).filter _
 have O0:∀p∈T,p∈B:=λp hp=>by
  rw[eT] at hp
  have:=(List.mem_filter.mp hp).2
  unfold uT at this
  rw[ff] at this
  exact of_decide_eq_true this.1
 have bl:=gK hb
 obtain⟨w,s3,f3,F3,e3⟩:=uV (sh:=some (.ref sh)) (bk:=bk) (lt:=s1.length) (b:=s2.length) Zu nd hE O0 hi (by omega) (by have:=G1.1;omega) T none none none none none s2 (λ_ h=>h) (au _) (bN hb1 (G2.2 bk (gK hb1))) l2
 have f1:aO 2 (bO [("sheet",0),("book",1)] (cP (a7 qr (af (aa 0) aq))) eJ jn) [some (.ref sh),some (.ref bk),none,none,none,none,none,none] st= .nx [some (.ref sh),some (.ref bk),some (.ref s1.length),none,none,none,none,none] s2:=by
  simp[sr,vY l1,cp]
 have fo:jL 3 (aa 2) bw [some (.ref sh),some (.ref bk),some (.ref s1.length),none,none,none,none,none] s2=forL 3 bw s1.length (T.map pw) (T.map pw) [some (.ref sh),some (.ref bk),some (.ref s1.length),none,none,none,none,none] s2:=by
  rw[uM]
  simp only[cN,cQ,cL,cM,dj,jO l2]
 refine⟨w,s3,lF (n:=8) (g:=jo) ?_,f3,(G1.trans G2).trans F3.OP⟩
 show jo [some (.ref sh),some (.ref bk),none,none,none,none,none,none] st= .rt w s3
 unfold jo
 rw[ba,f1,bH,ba,fo]
 rcases e3 with ⟨ρ',e3,rfl⟩ | e3
 ·rw[e3]
  rfl
 ·rw[e3]
  rfl
end
theorem Af{a b k:Int}{st:Hs}:cR [tI [a,b],.int k] st= .ok (pw (a+k.fdiv 4,b+k.fmod 4)) st:=by
 have f4:bB (.int k) (.int 4) st= .ok (.int (k.fdiv 4)) st:=gw ⟨by decide,by decide+kernel⟩
 have m4:oMod (.int k) (.int 4) st= .ok (.int (k.fmod 4)) st:=gT (by decide)
 unfold cR df p_ tI
 simp[Tv,Tw,f4,m4]
theorem HE{a b s:Int}{st:Hs}:∃(it:It)(st':Hs),dA [.int s,tI [a,b]] st= .ok it.w st'/\Gr st st':=by
 have f8:∀st:Hs,bB (.int s) (.int 8) st= .ok (.int (s.fdiv 8)) st:=λ_=>gw ⟨by decide,by decide+kernel⟩
 have XX:bB (.int s) (.int 96) st= .ok (.int (s.fdiv 96)) st:=gw ⟨by decide,by decide+kernel⟩
 have Sg:bB (.int s) (.int 288) st= .ok (.int (s.fdiv 288)) st:=gw ⟨by decide,by decide+kernel⟩
 have LU:bB (.int s) (.int 1152) st= .ok (.int (s.fdiv 1152)) st:=gw ⟨by decide,by decide+kernel⟩
 have LV:bB (.int s) (.int 3456) st= .ok (.int (s.fdiv 3456)) st:=gw ⟨by decide,by decide+kernel⟩
 have m3:∀(i:Int)(st:Hs),oMod (.int i) (.int 3) st= .ok (.int (i.fmod 3)) st:=λ_ _=>gT (by decide)
 have m4:∀(i:Int)(st:Hs),oMod (.int i) (.int 4) st= .ok (.int (i.fmod 4)) st:=λ_ _=>gT (by decide)
 have m8:∀(i:Int)(st:Hs),oMod (.int i) (.int 8) st= .ok (.int (i.fmod 8)) st:=λ_ _=>gT (by decide)
 have TC:∀(i:Int)(st:Hs),oMod (.int i) (.int 12) st= .ok (.int (i.fmod 12)) st:=λ_ _=>gT (by decide)
 have Pn:=λst:Hs=>Af (a:=a) (b:=b) (k:=(s.fdiv 8).fmod 12) (st:=st)
 obtain⟨p,hp⟩:∃p:Pt,(a+((s.fdiv 8).fmod 12).fdiv 4,b+((s.fdiv 8).fmod 12).fmod 4)=p:=⟨_,rfl⟩
 simp only[hp] at Pn
 have VZ:∀st:Hs,aU (tI [a,b]) (.int 0) st= .ok (.int a) st:=λ_=>c9 rfl
 have XY:∀st:Hs,aU (tI [a,b]) (.int 1) st= .ok (.int b) st:=λ_=>c9 rfl
 by_cases c1:s.fmod 8 < 4
 ·refine⟨.at' p,st,?_,Gr.refl⟩
  unfold dA df fZ It.w
  simp[f8,TC,m8,Pn,c1]
 ·by_cases c2:s.fmod 8=4
  ·refine⟨.at' (a - 1 - (s.fdiv 8).fmod 3,27),st,?_,Gr.refl⟩
   unfold dA df fZ It.w
   simp[f8,TC,m8,m3,Pn,c2,VZ]
  ·have Zv:(s.fmod 8 == 4)=false:=by simpa using c2
   obtain⟨x,hx⟩:∃x,a+(s.fdiv 96).fmod 3=x:=⟨_,rfl⟩
   obtain⟨y,hy⟩:∃y,b+(s.fdiv 288).fmod 4=y:=⟨_,rfl⟩
   obtain⟨z,hz⟩:∃z,x+(s.fdiv 1152).fmod 3=z:=⟨_,rfl⟩
   obtain⟨u,hu⟩:∃u,y+(s.fdiv 3456).fmod 3=u:=⟨_,rfl⟩
   have j0:∀st:Hs,aU (.tup [.int x,.int y,.int z,.int u]) (.int 0) st= .ok (.int x) st:=λ_=>c9 rfl
   have j1:∀st:Hs,aU (.tup [.int x,.int y,.int z,.int u]) (.int 1) st= .ok (.int y) st:=λ_=>c9 rfl
   have j2:∀st:Hs,aU (.tup [.int x,.int y,.int z,.int u]) (.int 2) st= .ok (.int z) st:=λ_=>c9 rfl
   have j3:∀st:Hs,aU (.tup [.int x,.int y,.int z,.int u]) (.int 3) st= .ok (.int u) st:=λ_=>c9 rfl
   by_cases c3:s.fmod 8=5
   ·obtain⟨v,e,hv⟩:=uO (st:=st) (ws:=[.tup [.int (z+1),.int y,.int x,.int u],.tup [.int x,.int y,.int z,.int 26],.tup [.int 0,.int 0,.int 98,.int 25]]) (d:=(s.fdiv 8).fmod 3) (j8 _ (by decide)) (by simpa using lC (s.fdiv 8) (by decide))
    have k:∃a' b' c' d':Int,v= .tup [.int a',.int b',.int c',.int d']:=by
     simp at hv
     rcases hv with rfl | rfl | rfl<;>exact⟨_,_,_,_,rfl⟩
    obtain⟨a',b',c',d',rfl⟩:=k
    have g1:Gr st (st++[.lst [.tup [.int (z+1),.int y,.int x,.int u],.tup [.int x,.int y,.int z,.int 26],.tup [.int 0,.int 0,.int 98,.int 25]]]):=Gr.push
    refine⟨.part a' b' c' d' p,_,?_,g1⟩
    unfold dA df fZ It.w
    simp[f8,TC,m8,m3,m4,Pn,c3,VZ,XY,XX,Sg,LU,LV,hx,hy,hz,hu,j0,j1,j2,j3,e]
   ·have Zw:(s.fmod 8 == 5)=false:=by simpa using c3
    refine⟨.part x y z u p,st,?_,Gr.refl⟩
    unfold dA df fZ It.w
    simp[f8,TC,m8,m3,m4,Pn,c1,Zv,Zw,VZ,XY,XX,Sg,LU,LV,hx,hy,hz,hu]
theorem O1{l:Nat}{ws:List Wv}{st:Hs}(h:ao st l=some ws):lE [.ref l] st= .ok (.int ws.length) st:=by
 have n:bV st[l]? =none:=by
  unfold ao at h
  unfold bV
  split at h<;>simp_all
 show(match bV st[l]? with | some kvs=>Re.ok (Wv.int kvs.length) st | none=>nq [.ref l] st)=_
 rw[n]
 exact Bl h
theorem KQ{l:Nat}{ns:List Int}{ρ:bF}{st:Hs}(h:ao st l=some (ns.map Wv.int))(hn:ns.length<=63)(hρ:ρ[0]? =some (some (.ref l))) :
  ∃(n:Int)(st':Hs),a7 xj (af (bO [("script",0)] (vG (af (a7 lE (af (aa 0) aq)) aq)) mZ kD) aq) ρ st= .ok (.int n) st'/\Gr st st':=by
 have cr:eD [("script",0)] ρ=[some (.ref l)]:=by simp[eD,hρ]
 have ln:lE [.ref l] st= .ok (.int (ns.length:Nat)) st:=by have:=O1 h;rw[bc] at this;exact this
 have c1:dE ((ns.length:Nat):Int):=zF (by omega) (by omega)
 obtain⟨bs,s1,e1,h1,G1,_⟩:=wB (cs:=[("script",0)]) (gt:=mZ) (ge:=kD) (ρ:=ρ) (w:=(none,bZ 0 ns.length)) (st:=st) Wv.int (λ_ _=>trivial) (λ_ _=>rfl) (λv hv s G=>by
  obtain⟨k,rfl,k0,k1⟩:=vZ hv
  have ix:=C_ (G.lst h) (zO k0 (by omega))
  obtain⟨x,hx⟩:∃x,ns.getD k.toNat 0=x:=⟨_,rfl⟩
  rw[hx] at ix
  have m2:b8 (.int 2) (.int k) s= .ok (.int (2 * k)) s:=oW (by decide) (by decide)
  have md:oMod (.int x) (.int Bq) s= .ok (.int (x.fmod Bq)) s:=gT (by unfold Bq;decide+kernel)
  obtain⟨y,hy⟩:∃y,x.fmod Bq=y:=⟨_,rfl⟩
  rw[hy] at md
  have mm:b8 (.int (2 * k+1)) (.int y) s= .ok (.int ((2 * k+1) * y)) s:=oW (by omega) (by omega)
  refine⟨(2 * k+1) * y,s,?_,Gr.refl⟩
  rw[cr]
  unfold kD
  simp[m2,zP,ix,md,mm]) (by show(bZ 0 ns.length).length < lim;rw[bQ];unfold lim;omega)
 refine⟨bs.sum,s1,?_,G1⟩
 have sm:=LH (bY h1)
 have rg:=zE (st:=st) c1
 rw[Fw] at rg
 simp[hρ,ln,rg,e1,sm]
theorem BI{wd:Pt->S}{ww:Pt->Wv}{its:Pt->List It}{q:Pt}{x:S}{v:Wv}{l:List It}:sR (ent wd ww its) q (.tup [.str x,v,.tup (l.map It.w)])=ent (λp=>if p=q then x else wd p) (λp=>if p=q then v else ww p) (λp=>if p=q then l else its p):=by
 funext p
 unfold sR ent
 by_cases c:p=q
 ·simp[c]
 ·simp[c]
def BJ(n:Nat)(o:Option Ob):Prop:=∃(B:List Pt)(wd:Pt->S)(ww:Pt->Wv)(its:Pt->List It),o=some (.bq (dF B (ent wd ww its)))/\(∀p,(its p).length<=63)/\B.length<=n
theorem BJ.put{n d:Nat}{st:Hs}{q:Pt}{x:S}{v:Wv}{l:List It}(h:BJ n st[d]?)(hn:n < 900)(hl:l.length<=63):∃st',putD (.ref d) (pw q) (.tup [.str x,v,.tup (l.map It.w)]) st=some st'/\BJ (n+1) st'[d]?/\bA d st st':=by
 obtain⟨B,wd,ww,its,e,hi,hB⟩:=h
 have pd:=mv (q:=q) (v:=.tup [.str x,v,.tup (l.map It.w)]) e (by rw[mw];omega)
 have hi':∀p,(if p=q then l else its p).length<=63:=λp=>by split;exact hl;exact hi p
 refine⟨_,pd,?_,bA.set⟩
 rw[aP e]
 by_cases c:q∈B
 ·rw[wz c,BI]
  exact⟨B,_,_,_,rfl,hi',by omega⟩
 ·rw[nh c,BI]
  exact⟨B++[q],_,_,_,rfl,hi',by simp;omega⟩
theorem BJ.le{n m:Nat}{o:Option Ob}(h:BJ n o)(k:n<=m):BJ m o:=by
 obtain⟨B,wd,ww,its,e,hi,hB⟩:=h
 exact⟨B,wd,ww,its,e,hi,by omega⟩
theorem Dp{d n:Nat}{a b N t k:Int}{sc sh:Option Wv}{o6 o7 o8 o9:Option Wv}{st:Hs}(h:BJ n st[d]?)(hn:n < 900)(t0:0<=t/\t < 3)(k0:0<=k/\k < 12) :
  ∃O2 O3 O4 st',jq [sc,sh,some (tI [a,b]),some (.int N),some (.int t),some (.ref d),some (.int k),o7,o8,o9] st= .nx [sc,sh,some (tI [a,b]),some (.int N),some (.int t),some (.ref d),some (.int k),O2,O3,O4] st'/\BJ (n+1) st'[d]?/\bA d st st':=by
 have dl:d < st.length:=by obtain⟨_,_,_,_,e,_⟩:=h;exact bE e
 have Zx:∀st:Hs,b8 (.int 40) (.int t) st= .ok (.int (40 * t)) st:=λ_=>oW (by decide) (by decide)
 have Zy:∀st:Hs,b8 (.int 99) (.int t) st= .ok (.int (99 * t)) st:=λ_=>oW (by decide) (by decide)
 obtain⟨s,s0,es⟩:=mixed (c:=N+t) (k:=40 * t+k) (st:=st) (by omega) (by omega)
 have XZ:∀(i:Int)(st:Hs),oMod (.int i) (.int 4) st= .ok (.int (i.fmod 4)) st:=λ_ _=>gT (by decide)
 have md5:∀(i:Int)(st:Hs),oMod (.int i) (.int 5) st= .ok (.int (i.fmod 5)) st:=λ_ _=>gT (by decide)
 have V3:∀(i:Int)(st:Hs),oMod (.int i) (.int 12) st= .ok (.int (i.fmod 12)) st:=λ_ _=>gT (by decide)
 have f4:∀(i:Int)(st:Hs),bB (.int i) (.int 4) st= .ok (.int (i.fdiv 4)) st:=λ_ _=>gw ⟨by decide,by decide+kernel⟩
 have X0:∀(i:Int)(st:Hs),bB (.int i) (.int 20) st= .ok (.int (i.fdiv 20)) st:=λ_ _=>gw ⟨by decide,by decide+kernel⟩
 have r0:0<=s.fmod 4:=j8 _ (by decide)
 have r1:s.fmod 4 < 4:=lC _ (by decide)
 -- the draws
 obtain⟨bs,s1,e1,h1,G1,l1⟩:=wB (cs:=[("number",3),("k",6),("turn",4)]) (gt:=qc) (ge:=mY) (ρ:=[sc,sh,some (tI [a,b]),some (.int N),some (.int t),some (.ref d),some (.int k),some (.int s),o8,o9]) (w:=(none,bZ 0 (s.fmod 4).toNat)) (st:=st) Wv.int (λ_ _=>trivial) (λ_ _=>rfl) (λv hv s' G=>by
  obtain⟨j,rfl,j0,j1⟩:=vZ hv
  obtain⟨x,_,ex⟩:=mixed (c:=N+k) (k:=99 * t+j) (st:=s') (by omega) (by omega)
  refine⟨x.fdiv 4,s',?_,Gr.refl⟩
  unfold mY
  simp[eD,Zy,ex,f4]) (by show(bZ 0 (s.fmod 4).toNat).length < lim;rw[bQ];unfold lim;omega)
 have bl:bs.length<=4:=by rw[l1];show(bZ 0 (s.fmod 4).toNat).length<=4;rw[bQ];omega
 have L1:=bY h1
 -- the items
 obtain⟨is,s2,e2,h2,G2,l2⟩:=wB (cs:=[("spot",2)]) (gt:=qb) (ge:=mX) (ρ:=[sc,sh,some (tI [a,b]),some (.int N),some (.int t),some (.ref d),some (.int k),some (.int s),some (.ref st.length),o9]) (w:=(some st.length,bs.map Wv.int)) (st:=s1) It.w (λs' G=>G.lst L1) (λ_ _=>rfl) (λv hv s' G=>by
  obtain⟨x,_,rfl⟩:=List.mem_map.mp hv
  obtain⟨it,s'',e,G'⟩:=HE (a:=a) (b:=b) (s:=x) (st:=s')
  refine⟨it,s'',?_,G'⟩
  unfold mX
  simp[eD,e]) (by show(bs.map Wv.int).length < lim;rw[bc];unfold lim;omega)
 have il:is.length<=63:=by rw[l2];show(bs.map Wv.int).length<=63;rw[bc];omega
 have tc:qo [.ref s1.length] s2= .ok (.tup (is.map It.w)) s2:=by
  show(match ao s2 s1.length with | some ws=>Re.ok (Wv.tup ws) s2 | none=> .bad)=_
  rw[bY h2]
 have G:=G1.trans G2
 have hB2:BJ n s2[d]?:=by rw[G.2 d dl];exact h
 obtain⟨ρ,hρ⟩:∃ρ:bF,[sc,sh,some (tI [a,b]),some (.int N),some (.int t),some (.ref d),some (.int k),some (.int s),some (.ref st.length),some (.tup (is.map It.w))]=ρ:=⟨_,rfl⟩
 have ak:=λst:Hs=>Af (a:=a) (b:=b) (k:=k) (st:=st)
 have as:=λst:Hs=>Af (a:=a) (b:=b) (k:=(s.fdiv 20).fmod 12) (st:=st)
 obtain⟨pq,hpq⟩:∃pq:Pt,(a+((s.fdiv 20).fmod 12).fdiv 4,b+((s.fdiv 20).fmod 12).fmod 4)=pq:=⟨_,rfl⟩
 simp only[hpq] at as
 have Zz:aO 7 (ay 2 cb (af (ag cu (aa 3) (aa 4)) (af (ag cu (ag b8 (gC (.int 40)) (aa 4)) (aa 6)) aq))) [sc,sh,some (tI [a,b]),some (.int N),some (.int t),some (.ref d),some (.int k),o7,o8,o9] st= .nx [sc,sh,some (tI [a,b]),some (.int N),some (.int t),some (.ref d),some (.int k),some (.int s),o8,o9] st:=by
  simp[Zx,es]
 have rg:=zE (st:=st) (j:=s.fmod 4) (zF (by omega) (by omega))
 have ZA:aO 8 (bO [("number",3),("k",6),("turn",4)] (vG (af (ag oMod (aa 7) (gC (.int 4))) aq)) qc mY) [sc,sh,some (tI [a,b]),some (.int N),some (.int t),some (.ref d),some (.int k),some (.int s),o8,o9] st= .nx [sc,sh,some (tI [a,b]),some (.int N),some (.int t),some (.ref d),some (.int k),some (.int s),some (.ref st.length),o9] s1:=by
  simp[XZ,rg,e1]
 have ZC:aO 9 (a7 qo (af (bO [("spot",2)] (cP (aa 8)) qb mX) aq)) [sc,sh,some (tI [a,b]),some (.int N),some (.int t),some (.ref d),some (.int k),some (.int s),some (.ref st.length),o9] s1= .nx ρ s2:=by
  rw[<-hρ]
  simp[vY L1,e2,tc]
 have run:∀{z:Rs},(jz (aQ (ag oEq (ag oMod (ag bB (aa 7) (gC (.int 4))) (gC (.int 5))) (gC (.int 0)))) (dg (eh (af (gC (.str "waits")) (af (ay 2 cR (af (aa 2) (af (ag oMod (ag bB (aa 7) (gC (.int 20))) (gC (.int 12))) aq))) (af (aa 9) aq)))) (aa 5) (ay 2 cR (af (aa 2) (af (aa 6) aq)))) (jz (aQ (ag oLt (ag oMod (ag bB (aa 7) (gC (.int 4))) (gC (.int 5))) (gC (.int 4)))) (dg (eh (af (gC (.str "worth")) (af (ag aU (dR (af (gC (.int 0)) (af (gC .bg) (af (gC (.str "a")) (af (eh (af (gC (.str "fault")) (af (gC (.str "kind")) aq))) aq))))) (ag oMod (ag bB (aa 7) (gC (.int 20))) (gC (.int 4)))) (af (aa 9) aq)))) (aa 5) (ay 2 cR (af (aa 2) (af (aa 6) aq)))) bt)) ρ s2=z->jq [sc,sh,some (tI [a,b]),some (.int N),some (.int t),some (.ref d),some (.int k),o7,o8,o9] st=z:=λ{z} hz=>by
  unfold jq
  rw[ba,Zz,bH,ba,ZA,bH,ba,ZC,bH]
  exact hz
 obtain⟨c,hc⟩:∃c,(s.fdiv 4).fmod 5=c:=⟨_,rfl⟩
 by_cases c0:c=0
 ·obtain⟨s3,pd,V4,K3⟩:=BJ.put (q:=(a+k.fdiv 4,b+k.fmod 4)) (x:="waits") (v:=pw pq) (l:=is) hB2 hn il
  refine⟨some (.int s),some (.ref st.length),some (.tup (is.map It.w)),s3,run ?_,V4,G.keep.trans K3⟩
  rw[<-hρ]
  subst c0
  simp[f4,md5,hc,X0,V3,as,ak,dg,pd]
 ·have X1:(c == 0)=false:=by simpa using c0
  by_cases c4:c < 4
  ·obtain⟨v,ev,_⟩:=uO (st:=s2) (ws:=[.int 0,.bg,.str "a",.tup [.str "fault",.str "kind"]]) (d:=(s.fdiv 20).fmod 4) (j8 _ (by decide)) (by simpa using lC (s.fdiv 20) (by decide))
   have G3:Gr s2 (s2++[.lst [.int 0,.bg,.str "a",.tup [.str "fault",.str "kind"]]]):=Gr.push
   obtain⟨s2',KC⟩:∃s2',s2++[Ob.lst [.int 0,.bg,.str "a",.tup [.str "fault",.str "kind"]]]=s2':=⟨_,rfl⟩
   rw[KC] at G3 ev
   obtain⟨s3,pd,V4,K3⟩:=BJ.put (st:=s2') (q:=(a+k.fdiv 4,b+k.fmod 4)) (x:="worth") (v:=v) (l:=is) (by rw[G3.2 d (by have:=G.1;omega)];exact hB2) hn il
   refine⟨some (.int s),some (.ref st.length),some (.tup (is.map It.w)),s3,run ?_,V4,G.keep.trans (G3.keep.trans K3)⟩
   rw[<-hρ]
   simp[f4,md5,hc,X1,c4,X0,XZ,KC,ev,ak,dg,pd]
  ·refine⟨some (.int s),some (.ref st.length),some (.tup (is.map It.w)),s2,run ?_,hB2.le (by omega),G.keep⟩
   rw[<-hρ]
   simp[f4,md5,hc,X1,c4]
theorem O5{d:Nat}{a b N t:Int}{sc sh:Option Wv}{o6 o7 o8 o9:Option Wv}{st:Hs}(h:BJ 0 st[d]?)(t0:0<=t/\t < 3) :
  ∃Sh O2 O3 O4 st',du 6 jq (bZ 0 12) [sc,sh,some (tI [a,b]),some (.int N),some (.int t),some (.ref d),o6,o7,o8,o9] st= .nx [sc,sh,some (tI [a,b]),some (.int N),some (.int t),some (.ref d),Sh,O2,O3,O4] st'/\BJ 12 st'[d]?/\bA d st st':=by
 obtain⟨ρ1,s1,e1,Sh,O2,O3,O4,rfl,hB,K⟩:=mP (i:=6) (gb:=jq) (λn ρ s=>∃o6 o7 o8 o9:Option Wv,ρ=[sc,sh,some (tI [a,b]),some (.int N),some (.int t),some (.ref d),o6,o7,o8,o9]/\BJ n s[d]?/\bA d st s)
  (bZ 0 12) 0 [sc,sh,some (tI [a,b]),some (.int N),some (.int t),some (.ref d),o6,o7,o8,o9] st ⟨o6,o7,o8,o9,rfl,h,bA.refl⟩ (λk w hw ρ s hP=>by
   obtain⟨o6,o7,o8,o9,rfl,hB,K⟩:=hP
   have hj:k < 12:=by
    have q:=(List.getElem?_eq_some_iff.mp hw).1
    rw[bQ] at q
    exact q
   rw[kn hj] at hw
   cases hw
   obtain⟨p7,p8,p9,s',e,ZD,K'⟩:=Dp (a:=a) (b:=b) (N:=N) (t:=t) (k:=0+(k:Int)) (sc:=sc) (sh:=sh) (o6:=none) (o7:=o7) (o8:=o8) (o9:=o9) hB (by omega) t0 (by omega)
   exact⟨_,s',e,_,_,_,_,rfl,ZD,K.trans K'⟩)
 rw[bQ] at hB
 exact⟨Sh,O2,O3,O4,s1,e1,by simpa using hB,K⟩
theorem turn{d:Nat}{a b N t:Int}{kvs:Ks}{ps:List Pt}{sc:Option Wv}{o5 o6 o7 o8 o9:Option Wv}{st:Hs}(hs:st[d]? =some (.bq kvs))(hk:Sb kvs ps)(hC:∀k v,en kvs k=some v->Cn v)(hl:ps.length < 64)(t0:0<=t/\t < 3) :
  ∃ZE Sh O2 O3 O4 st',mq [sc,some (.ref d),some (tI [a,b]),some (.int N),some (.int t),o5,o6,o7,o8,o9] st= .nx [sc,some (.ref d),some (tI [a,b]),some (.int N),some (.int t),ZE,Sh,O2,O3,O4] st'/\Gr st st':=by
 obtain⟨s1,hs1⟩:∃s1,st++[Ob.bq []]=s1:=⟨_,rfl⟩
 have G1:Gr st s1:=by rw[<-hs1];exact Gr.push
 have d1:s1[st.length]? =some (.bq []):=by rw[<-hs1];exact bM
 obtain⟨p6,p7,p8,p9,s2,e2,hB,K2⟩:=O5 (d:=st.length) (a:=a) (b:=b) (N:=N) (t:=t) (sc:=sc) (sh:=some (.ref d)) (o6:=o6) (o7:=o7) (o8:=o8) (o9:=o9) (st:=s1) ⟨[],λ_=>"",λ_=> .bg,λ_=>[],d1,by simp,by simp⟩ t0
 have G2:Gr st s2:=G1.jP (au _) K2
 obtain⟨B,wd,ww,its,eB,hi,_⟩:=hB
 have hb:=j9 eB
 have hs2:=G2.get hs
 have pm:=fW (ps.filter (tp kvs))
 obtain⟨T,eT⟩:∃T,T=(di (ps.filter (tp kvs))).filter (uT B wd):=⟨_,rfl⟩
 have nd:T.Nodup:=by rw[eT];exact(pm.nodup_iff.mpr (hk.2.1.filter _)).filter _
 have mT:∀p∈T,p∈ps:=λp hp=>by
  rw[eT] at hp
  exact(List.mem_filter.mp (pm.mem_iff.mp (List.mem_filter.mp hp).1)).1
 have lT:T.length<=100:=by
  rw[eT]
  have q1:=gM (uT B wd) (di (ps.filter (tp kvs)))
  have q2:=gM (tp kvs) ps
  rw[pm.length_eq] at q1
  omega
 have hE:∀x o,(o∈T/\rh its x o=true)↔o∈BE T its x:=λx o=>by
  unfold BE rh
  rw[ng,decide_eq_true_eq,and_comm]
  refine and_congr_left λho=>?_
  unfold Ac
  rw[yh,HA]
  constructor
  ·rintro⟨it,h1,h2⟩
   obtain⟨k1,k2⟩:=(yf (hk.2.2 o (mT o ho))).mp h2
   exact .inr (List.mem_flatMap.mpr ⟨it,List.mem_filter.mpr ⟨h1,k1⟩,k2⟩)
  ·rintro(h | h)
   ·cases h
   ·obtain⟨it,h1,h2⟩:=List.mem_flatMap.mp h
    obtain⟨k1,k2⟩:=List.mem_filter.mp h1
    exact⟨it,k1,(yf (hk.2.2 o (mT o ho))).mpr ⟨k2,h2⟩⟩
 obtain⟨dd,lr,s3,e3,G3,ld,Se,hl3⟩:=Ae (T:=T) hs2 hk hC hl hb hi eT
 obtain⟨w,s4,e4,f4,G4⟩:=Ab (T:=T) (rd:=BE T its) (E:=λx o=>o∈T/\rh its x o=true) nd lT hE (λa _ p hp=>of_decide_eq_true (List.mem_filter.mp hp).2) (λa _=>(BC _ _ Ay).filter _) e3 G3 ld Se hl3
 obtain⟨v,s5,e5,f5,G5⟩:=KP (T:=T) (E:=λx o=>o∈T/\rh its x o=true) (G4.get hs2) hk hC hl (bN hb (G4.2 _ (gK hb))) hi eT λ_ _=>Iff.rfl
 have ne:=f4.ne f5 (st:=s5)
 refine⟨some (.ref st.length),p6,p7,p8,p9,s5,?_,G2.trans (G4.trans G5)⟩
 have f1:aO 5 gQ [sc,some (.ref d),some (tI [a,b]),some (.int N),some (.int t),o5,o6,o7,o8,o9] st= .nx [sc,some (.ref d),some (tI [a,b]),some (.int N),some (.int t),some (.ref st.length),o6,o7,o8,o9] s1:=by rw[<-hs1];rfl
 have c12:dE 12:=zF (by decide) (by decide)
 have f2:kN 6 (af (gC (.int 12)) aq) jq [sc,some (.ref d),some (tI [a,b]),some (.int N),some (.int t),some (.ref st.length),o6,o7,o8,o9] s1= .nx [sc,some (.ref d),some (tI [a,b]),some (.int N),some (.int t),some (.ref st.length),p6,p7,p8,p9] s2:=by
  simp[c12,e2]
 unfold mq
 rw[ba,f1,bH,ba,f2,bH]
 simp[e4,e5,ne]
theorem law_true:∀ns:List Int,ns.length<=63->∃st,F_law [.ref 0] [.sX ns]= .ok (.bl true) st:=by
 intro ns hn
 have l0:ao [Ob.sX ns] 0=some (ns.map Wv.int):=rfl
 obtain⟨a,b,kvs,d,s1,e1,h1,hs,hk,G1,_⟩:=cells l0 hn (dp:=1) (by decide)
 have l1:=G1.lst l0
 obtain⟨a',b',s2,e2,_,more,em⟩:=spot l1
 have G2:Gr s1 s2:=by rw[em];exact Gr.app
 obtain⟨N,s3,e3,G3⟩:=KQ (l:=0) (ρ:=[some (.ref 0),some (.ref d),some (tI [a',b']),none,none,none,none,none,none,none]) (G2.lst l1) hn rfl
 have h3:=(G2.trans G3).get h1
 have hC:∀k v,en kvs k=some v->Cn v:=λk v e=>hk.val e
 obtain⟨js,j1,j2,j3,j4,j5⟩:=hk
 have pk:Sb kvs (js.map (gp a b)):=by
  refine⟨by rw[j1,mr];rfl,?_,λp hp=>?_⟩
  ·rw[List.nodup_iff_pairwise_ne,AZ]
   exact(List.nodup_iff_pairwise_ne.mp j2).imp λhne e=>hne (Hk (by rw[e]))
  ·obtain⟨j,hj,rfl⟩:=List.mem_map.mp hp
   exact RU hs (j3 j hj)
 obtain⟨ρ4,s4,e4,o4,o5,o6,o7,o8,o9,rfl,G4⟩:=mP (i:=4) (gb:=mq) (λn ρ s=>∃o4 o5 o6 o7 o8 o9:Option Wv,ρ=[some (.ref 0),some (.ref d),some (tI [a',b']),some (.int N),o4,o5,o6,o7,o8,o9]/\Gr s3 s)
  (bZ 0 3) 0 [some (.ref 0),some (.ref d),some (tI [a',b']),some (.int N),none,none,none,none,none,none] s3 ⟨none,none,none,none,none,none,rfl,Gr.refl⟩ (λk w hw ρ s hP=>by
   obtain⟨o4,o5,o6,o7,o8,o9,rfl,G⟩:=hP
   have hj:k < 3:=by
    have q:=(List.getElem?_eq_some_iff.mp hw).1
    rw[bQ] at q
    exact q
   rw[kn hj] at hw
   cases hw
   obtain⟨p5,p6,p7,p8,p9,s',e,G'⟩:=turn (a:=a') (b:=b') (N:=N) (t:=0+(k:Int)) (sc:=some (.ref 0)) (o5:=o5) (o6:=o6) (o7:=o7) (o8:=o8) (o9:=o9) (G.get h3) pk hC (by rw[bc];omega) (by omega)
   exact⟨_,s',e,_,_,_,_,_,_,rfl,G.trans G'⟩)
 have c3:dE 3:=zF (by decide) (by decide)
 have f1:aO 1 (ay 2 eO (af (aa 0) (af (gC (.int 1)) aq))) [some (.ref 0),none,none,none,none,none,none,none,none,none] [.sX ns]= .nx [some (.ref 0),some (.ref d),none,none,none,none,none,none,none,none] s1:=by
  have Ny:eO [.ref 0,.int 1] [.sX ns]= .ok (.ref d) s1:=e1
  simp[Ny]
 have f2:aO 2 (ay 1 cV (af (aa 0) aq)) [some (.ref 0),some (.ref d),none,none,none,none,none,none,none,none] s1= .nx [some (.ref 0),some (.ref d),some (tI [a',b']),none,none,none,none,none,none,none] s2:=by simp[e2]
 have f3:aO 3 (a7 xj (af (bO [("script",0)] (vG (af (a7 lE (af (aa 0) aq)) aq)) mZ kD) aq)) [some (.ref 0),some (.ref d),some (tI [a',b']),none,none,none,none,none,none,none] s2= .nx [some (.ref 0),some (.ref d),some (tI [a',b']),some (.int N),none,none,none,none,none,none] s3:=by
  rw[uK,e3]
  rfl
 have f4:kN 4 (af (gC (.int 3)) aq) mq [some (.ref 0),some (.ref d),some (tI [a',b']),some (.int N),none,none,none,none,none,none] s3= .nx [some (.ref 0),some (.ref d),some (tI [a',b']),some (.int N),o4,o5,o6,o7,o8,o9] s4:=by
  simp[c3,e4]
 refine⟨s4,lF (n:=10) (g:=ya) ?_⟩
 show ya [some (.ref 0),none,none,none,none,none,none,none,none,none] [.sX ns]=_
 unfold ya
 rw[ba,f1,bH,ba,f2,bH,ba,f3,bH,ba,f4,bH]
 rfl
end K31
namespace PySem.W.Fast
def tw14328210063849397709:=()
def tw10735768142124867750:=()
def tw7718178162633483487:=()
def tw6934144182598421941:=()
def tw2287254487684860254:=()
def tw758332466385520289:=()
def tw13422827796665830612:=()
def tw10540366881033045516:=()
def tw14910405205601193305:=()
def tw6733717659027377526:=()
def tw8792715550588267168:=()
def tw6976453336877810686:=()
def tw11302423827873286826:=()
def tw14961783625121638677:=()
def tw9442230689698930491:=()
def tw17704432266827324234:=()
def tw10060737618244763847:=()
def tw7299609965509747573:=()
def tw8134226957435150146:=()
def tw16751300243365347177:=()
def tw1243410851287724737:=()
def tw6382051908135968951:=()
def tw17678766325726075683:=()
def tw12184127012457922747:=()
def tw8782751266061249688:=()
def tw13411544383573905007:=()
def tw16641662483833056143:=()
def tw10338562369259747468:=()
def tw12980901669954557001:=()
def tw7473651713278735596:=()
def tw5108507645815364:=()
def tw9294963283016091216:=()
def tw9994559802288844897:=()
def tw9955687914085085621:=()
def tw5306511739998327900:=()
def tw1068403353335147764:=()
def tw551008807414936329:=()
def tw9839373014032749321:=()
def tw12386121559619391830:=()
def tw3352637181215472696:=()
def tw12719237050933102048:=()
def tw13011766324293201585:=()
def tw14390379461553241943:=()
def tw6717558739606150824:=()
def tw13229177190079519560:=()
def tw1768628665026334577:=()
def tw6316488991189839697:=()
def tw11666110150851308201:=()
def tw15371303911891504439:=()
def tw8492055753863043189:=()
def tw316029789208189004:=()
def tw12368717461065816420:=()
def tw13019196798278638783:=()
def tw4513767169649242224:=()
def tw18035490687389467811:=()
def tw7308040999328474393:=()
def tw12744214822220739265:=()
def tw12447100021939246222:=()
def tw14201400370177933735:=()
def tw7453517409449392779:=()
def tw1873173838340188105:=()
def tw14176206687511477321:=()
def tw10189967023325157500:=()
def tw3201883789116897129:=()
def tw14255332398569178493:=()
def tw664264245997803965:=()
def tw2213465783227209332:=()
def tw5201380238044209639:=()
def tw13204677601209380504:=()
def tw15981244387815230082:=()
def tw637472780477310342:=()
def tw14564126910485697137:=()
def tw12685174325602376618:=()
def tw1015243502111956675:=()
def tw8428885773414430178:=()
def tw8246737675435348714:=()
def tw700751663729728417:=()
def tw3836760765661511409:=()
def tw18428253820645364815:=()
def tw907279844540651365:=()
def tw3456477584030960725:=()
def tw4987655878939733687:=()
def tw1890664362610417441:=()
def tw12089849939595727466:=()
def tw12903064325445637747:=()
def tw6062351658865021558:=()
def tw14392094153334365636:=()
def tw3963891454867171634:=()
def tw6505326587515962502:=()
def tw12167139136655798768:=()
def tw2118226539892624527:=()
def tw5396562677196209236:=()
def tw18094938546503937882:=()
def tw8357235644997155911:=()
def tw8011291426670218172:=()
def tw12010291462183166232:=()
def tw220709366618959643:=()
def tw1629427911049610341:=()
def tw12341055126675588517:=()
def tw11159664408870840228:=()
def tw3009266218669725131:=()
def tw14425427123363997547:=()
def tw13957839152367102344:=()
def tw11849849958818658040:=()
def tw13711797317079460334:=()
def tw11715376839693502382:=()
def tw6798692549982521210:=()
def tw2548118243944042307:=()
def tw9220509615940518184:=()
def tw327050309788067480:=()
def tw2288123573891331401:=()
def tw11132904974925021010:=()
def tw7749106062691084425:=()
def tw14701133937600669074:=()
def tw16133370017777728117:=()
def tw4277667052742374973:=()
def tw13098568310787672871:=()
def tw5467448491343032144:=()
def tw14338050513601359375:=()
def tw7423275629371977662:=()
def tw1251456944978145440:=()
def tw12434763929636918958:=()
def tw12188719302419625967:=()
def tw17586356108429003701:=()
def tw8793096776408516171:=()
def tw16153793620818900254:=()
def tw11148985316698578403:=()
def tw16620519754942005070:=()
def tw713797369003678298:=()
def tw14578692135012690110:=()
def tw18247411330925558286:=()
def tw13150632534111292944:=()
def tw13116065961377388459:=()
def tw10426482026293647848:=()
def tw350699138607823978:=()
def tw10674914512056234329:=()
def tw14890752353121103900:=()
def tw997334702476378121:=()
def tw17365101820602188092:=()
def tw3431851737155310720:=()
def tw2842728146884527563:=()
def tw12074626713514141815:=()
def tw1972104647086070539:=()
def tw14047206659468094796:=()
def tw4539966579096463252:=()
def tw17384689154350275499:=()
def tw3022383388470119466:=()
def tw15227576229920457999:=()
def tw12183075252743706847:=()
def tw13878919016429591146:=()
def tw10938936428434517010:=()
def tw9079910006284292722:=()
def tw13943877322317846089:=()
def tw8666175046124425619:=()
def tw1595528434050676960:=()
def tw17655696149050054994:=()
def tw8655737587791132906:=()
def tw5054822421640354381:=()
def tw6006016610552591702:=()
end PySem.W.Fast
namespace K31
open PySem PySem.W PyProof.Rows
set_option maxHeartbeats 0 in
open_top head for PySem.Challenge.rw_onelook_k31_who_reads_round
open PySem J
open PySem.W (nsIn mg_of mg_none_of)
open L2 (defScope defBody defArgs FnScope CX0 FnOk XK Hp)
set_option autoImplicit true in
theorem all_mk {l:PySem.W.OpenLaw} {w:World} {K:PySem.W.Frag} {h:Heap} {mg:Str → Option Value} {fa:Addr} (X:K.In h) (G:h.Ns mainGlobals mg) (hfa:mg "law" = some (.ref fa))
        {tk0 ZF ZG:Tok}
    (d1:J.bh K "_law_cell_at" gy)
    (d2:J.bh K "_law_spot" jE)
    (d3:J.bh K "_law_digit" iN)
    (d4:J.bh K "_law_area" jF)
    (d5:J.bh K "_law_pins" jG)
    (d6:J.bh K "_law_number" hV)
    (d7:J.bh K "_law_place" iO)
    (d8:J.bh K "_law_leaf" jH)
    (d9:J.bh K "_law_formula" gz)
    (V5:J.bh K "_law_content" gB)
    (V6:J.bh K "_law_mixed" iP)
    (V8:J.bh K "_law_stream" hX)
    (V9:J.bh K "_law_cells" iQ)
    (V_:J.bh K "has_formula" hZ)
    (V':J.bh K "formula_places" eP)
    (Wa:J.bh K "is_whole" k6)
    (Wb:J.bh K "is_number_row" fO)
    (Wc:J.bh K "is_place" k7)
    (Wd:J.bh K "has_corners" h_)
    (We:J.bh K "area_many" jI)
    (Wf:J.bh K "is_area" mQ)
    (Wg:J.bh K "within" oZ)
    (Wh:J.bh K "is_part" mR)
    (Wi:J.bh K "is_item" mU)
    (Wj:J.bh K "places_between" eQ)
    (Wl:J.bh K "item_places" ib)
    (Wm:J.bh K "places_read" ie)
    (Wn:J.bh K "cells_read" iS)
    (Wo:J.bh K "readers_of" iT)
    (Wq:J.bh K "readied_readers" d_)
    (Ws:J.bh K "ranks_of" k_)
    (Wt:J.bh K "comes_back" iU)
    (Wu:J.bh K "round_read" iV)
    (Ww:J.bh K "_law_inside" ig)
    (Wx:J.bh K "_law_is_area" gJ)
    (Wy:J.bh K "_law_holds" iX)
    (Wz:J.bh K "_law_due" lz)
    (WA:J.bh K "_law_at" mW)
    (WB:J.bh K "_law_item" jJ)
    (WC:J.bh K "law" Bn)
    (z0:nsIn K aaW "len"=some none)
    (z1:nsIn K aaW "tuple"=some none)
    (z2:nsIn K aaW "range"=some none)
    (z3:nsIn K aaW "sum"=some none)
    (z4:nsIn K aaW "isinstance"=some none)
    (z5:nsIn K aaW "sorted"=some none)
    (z6:nsIn K aaW "int"=some none)
    (z7:nsIn K aaW "bool"=some none)
    (z8:nsIn K aaW "all"=some none)
    (z9:nsIn K aaW "list"=some none)
    (WD:nsIn K aaW "any"=some none)
    (v0:nsIn K aaW "ROWS"=some (some (.int 99 tk0)))
    (v1:nsIn K aaW "COLUMNS"=some (some (.int 26 ZF)))
    (v2:nsIn K aaW "MOST_PLACES"=some (some (.int 300 ZG)))
     :
    ∃fd:aaI,(∀(s:aaL)(u:aaM),BindsTo s fd ⟨[u],[]⟩ [("script",u)])/\∀base:Heap,K.In base->base.Ns aaW mg->FnOk l.prog w K mg base (CXJ l.prog w) 12 fa fd ["script"] (spW K 1 F_law):=by
  refine J.Ki X G hfa WC (λ_ _ _ _ _ _ s u=> .of_eq rfl) (λf fd Fu base kb nb=>?_)
  have Z0:=mg_none_of kb nb z0
  have Z1:=mg_none_of kb nb z1
  have Z2:=mg_none_of kb nb z2
  have Z3:=mg_none_of kb nb z3
  have Z4:=mg_none_of kb nb z4
  have Z5:=mg_none_of kb nb z5
  have Z6:=mg_none_of kb nb z6
  have Z7:=mg_none_of kb nb z7
  have Z8:=mg_none_of kb nb z8
  have Z9:=mg_none_of kb nb z9
  have ZH:=mg_none_of kb nb WD
  have V0:=mg_of kb nb v0
  have V1:=mg_of kb nb v1
  have V2:=mg_of kb nb v2
  have TB:TabOk K pf nW OK:=J.OE trivial trivial trivial
  have H1:J.f7 l.prog w K mg base 1 "_law_cell_at" 2 cI:=J.aJ (ps:=["script","k"]) kb nb d1 (J.az (c:=jf) (k:=0) trivial ⟨Z0,trivial⟩ trivial TB trivial trivial trivial) qy rfl sA (λ_ _ _ _ _ _ us hl=>J.ln2 us hl λ_ _=>rfl)
  have H2:J.f7 l.prog w K mg base 2 "_law_spot" 1 cV:=J.aJ (ps:=["script"]) kb nb d2 (J.az (c:=l7) (k:=1) trivial trivial ⟨H1.mono (by decide),trivial⟩ TB trivial trivial trivial) v5 rfl xT (λ_ _ _ _ _ _ us hl=>J.yn us hl λ_=>rfl)
  have H3:J.f7 l.prog w K mg base 1 "_law_digit" 2 av:=J.aJ (ps:=["row","many"]) kb nb d3 (J.az (c:=kT) (k:=0) trivial trivial trivial TB trivial trivial trivial) tK rfl v8 (λ_ _ _ _ _ _ us hl=>J.ln2 us hl λ_ _=>rfl)
  have H4:J.f7 l.prog w K mg base 2 "_law_area" 2 dz:=J.aJ (ps:=["row","spot"]) kb nb d4 (J.az (c:=l9) (k:=1) trivial trivial ⟨H3.mono (by decide),trivial⟩ TB trivial trivial trivial) v9 rfl xU (λ_ _ _ _ _ _ us hl=>J.ln2 us hl λ_ _=>rfl)
  have H5:J.f7 l.prog w K mg base 2 "_law_pins" 2 bR:=J.aJ (ps:=["row","many"]) kb nb d5 (J.az (c:=ma) (k:=1) trivial ⟨Z1,Z2,trivial⟩ ⟨H3.mono (by decide),trivial⟩ TB trivial trivial trivial) v_ rfl xV (λ_ _ _ _ _ _ us hl=>J.ln2 us hl λ_ _=>rfl)
  have H6:J.f7 l.prog w K mg base 2 "_law_number" 1 ft:=J.aJ (ps:=["row"]) kb nb d6 (J.az (c:=jR) (k:=1) trivial trivial ⟨H3.mono (by decide),trivial⟩ TB trivial trivial trivial) sC rfl tL (λ_ _ _ _ _ _ us hl=>J.yn us hl λ_=>rfl)
  have H7:J.f7 l.prog w K mg base 2 "_law_place" 2 dG:=J.aJ (ps:=["row","spot"]) kb nb d7 (J.az (c:=kW) (k:=1) trivial trivial ⟨H3.mono (by decide),trivial⟩ TB trivial trivial trivial) tM rfl wa (λ_ _ _ _ _ _ us hl=>J.ln2 us hl λ_ _=>rfl)
  have H8:J.f7 l.prog w K mg base 3 "_law_leaf" 2 fY:=J.aJ (ps:=["row","spot"]) kb nb d8 (J.az (c:=mf) (k:=2) trivial trivial ⟨H3.mono (by decide),H4.mono (by decide),H5.mono (by decide),H6.mono (by decide),H7.mono (by decide),trivial⟩ TB trivial trivial trivial) wb rfl xW (λ_ _ _ _ _ _ us hl=>J.ln2 us hl λ_ _=>rfl)
  have G9:∀n:Nat,J.f7 l.prog w K mg base (3+n) "_law_formula" 3 (bS n):=λn=>by
    induction n with
    | zero=>exact J.JF (ps:=["row","spot","deep"]) kb nb d9 (λ_ _ _ _ _ _ us hl=>J.Tu us hl λ_ _ _=>rfl)
    | succ n ih=>exact J.hdf kb nb d9 (J.tk (c:=(mh (bS n))) (k:=(3+n)) TB ⟨H3.mo,ih,H8.mo,H4.mo,H5.mo,trivial⟩) (qz (bS n)) (sD (bS n))
  have H9:J.f7 l.prog w K mg base 9 "_law_formula" 3 aS:=(G9 6)
  have Pg:J.f7 l.prog w K mg base 10 "_law_content" 3 dk:=J.aJ (ps:=["row","spot","deep"]) kb nb V5 (J.az (c:=jh) (k:=9) trivial trivial ⟨H3.mono (by decide),H9.mono (by decide),trivial⟩ TB trivial trivial trivial) qA rfl sE (λ_ _ _ _ _ _ us hl=>J.Tu us hl λ_ _ _=>rfl)
  have UN:J.f7 l.prog w K mg base 1 "_law_mixed" 2 cb:=J.aJ (ps:=["cell","k"]) kb nb V6 (J.az (c:=kY) (k:=0) trivial trivial trivial TB trivial trivial trivial) tN rfl wc (λ_ _ _ _ _ _ us hl=>J.ln2 us hl λ_ _=>rfl)
  have ZI:J.f7 l.prog w K mg base 2 "_law_stream" 2 fu:=J.aJ (ps:=["script","k"]) kb nb V8 (J.az (c:=jT) (k:=1) trivial ⟨Z2,Z0,Z3,trivial⟩ ⟨H1.mono (by decide),UN.mono (by decide),trivial⟩ TB trivial trivial trivial) sG rfl tO (λ_ _ _ _ _ _ us hl=>J.ln2 us hl λ_ _=>rfl)
  have ZJ:J.f7 l.prog w K mg base 11 "_law_cells" 2 eO:=J.aJ (ps:=["script","deep"]) kb nb V9 (J.az (c:=kZ) (k:=10) trivial ⟨Z2,trivial⟩ ⟨H2.mono (by decide),Pg.mono (by decide),ZI.mono (by decide),trivial⟩ TB trivial trivial trivial) tP rfl we (λ_ _ _ _ _ _ us hl=>J.ln2 us hl λ_ _=>rfl)
  have ZK:J.f7 l.prog w K mg base 1 "has_formula" 2 dO:=J.aJ (ps:=["sheet","place"]) kb nb V_ (J.az (c:=jV) (k:=0) trivial ⟨Z4,Z1,trivial⟩ trivial TB trivial trivial trivial) sH rfl tQ (λ_ _ _ _ _ _ us hl=>J.ln2 us hl λ_ _=>rfl)
  have ZL:J.f7 l.prog w K mg base 2 "formula_places" 1 cD:=J.aJ (ps:=["sheet"]) kb nb V' (J.az (c:=gY) (k:=1) trivial ⟨Z5,trivial⟩ ⟨ZK.mono (by decide),trivial⟩ TB trivial trivial trivial) oY rfl pT (λ_ _ _ _ _ _ us hl=>J.yn us hl λ_=>rfl)
  have ZM:J.f7 l.prog w K mg base 1 "is_whole" 1 ji:=J.aJ (ps:=["thing"]) kb nb Wa (J.az (c:=nY) (k:=0) trivial ⟨Z4,Z6,Z7,trivial⟩ trivial TB trivial trivial trivial) xX rfl zG (λ_ _ _ _ _ _ us hl=>J.yn us hl λ_=>rfl)
  have X2:J.f7 l.prog w K mg base 2 "is_number_row" 2 a8:=J.aJ (ps:=["thing","many"]) kb nb Wb (J.az (c:=iE) (k:=1) trivial ⟨Z4,Z1,Z8,Z0,trivial⟩ ⟨ZM.mono (by decide),trivial⟩ TB trivial trivial trivial) pU rfl qB (λ_ _ _ _ _ _ us hl=>J.ln2 us hl λ_ _=>rfl)
  have X3:J.f7 l.prog w K mg base 1 "is_place" 1 dH:=J.aJ (ps:=["place"]) kb nb Wc (J.az (c:=n8) (k:=0) ⟨⟨_,V0⟩,⟨_,V1⟩,trivial⟩ trivial trivial TB trivial trivial trivial) xY rfl zH (λ_ _ _ _ _ _ us hl=>J.yn us hl λ_=>rfl)
  have ZN:J.f7 l.prog w K mg base 2 "has_corners" 1 fA:=J.aJ (ps:=["area"]) kb nb Wd (J.az (c:=jX) (k:=1) trivial trivial ⟨X3.mono (by decide),trivial⟩ TB trivial trivial trivial) sI rfl tR (λ_ _ _ _ _ _ us hl=>J.yn us hl λ_=>rfl)
  have ZO:J.f7 l.prog w K mg base 1 "area_many" 1 iw:=J.aJ (ps:=["area"]) kb nb We (J.az (c:=mj) (k:=0) trivial trivial trivial TB trivial trivial trivial) wg rfl xZ (λ_ _ _ _ _ _ us hl=>J.yn us hl λ_=>rfl)
  have ZP:J.f7 l.prog w K mg base 3 "is_area" 1 iZ:=J.aJ (ps:=["area"]) kb nb Wf (J.az (c:=pW) (k:=2) ⟨⟨_,V2⟩,trivial⟩ trivial ⟨ZN.mono (by decide),ZO.mono (by decide),trivial⟩ TB trivial trivial trivial) zI rfl Dd (λ_ _ _ _ _ _ us hl=>J.yn us hl λ_=>rfl)
  have ZQ:J.f7 l.prog w K mg base 1 "within" 2 ml:=J.aJ (ps:=["area","place"]) kb nb Wg (J.az (c:=sL) (k:=0) trivial trivial trivial TB trivial trivial trivial) De rfl Ha (λ_ _ _ _ _ _ us hl=>J.ln2 us hl λ_ _=>rfl)
  have ZR:J.f7 l.prog w K mg base 4 "is_part" 2 i5:=J.aJ (ps:=["area","place"]) kb nb Wh (J.az (c:=pX) (k:=3) trivial trivial ⟨X2.mono (by decide),ZP.mono (by decide),ZQ.mono (by decide),trivial⟩ TB trivial trivial trivial) zJ rfl Df (λ_ _ _ _ _ _ us hl=>J.ln2 us hl λ_ _=>rfl)
  have ZS:J.f7 l.prog w K mg base 5 "is_item" 1 gZ:=J.aJ (ps:=["thing"]) kb nb Wi (J.az (c:=pY) (k:=4) trivial ⟨Z4,Z1,Z0,trivial⟩ ⟨X2.mono (by decide),X3.mono (by decide),ZR.mono (by decide),trivial⟩ TB trivial trivial trivial) zK rfl Dg (λ_ _ _ _ _ _ us hl=>J.yn us hl λ_=>rfl)
  have ZT:J.f7 l.prog w K mg base 1 "places_between" 1 eV:=J.aJ (ps:=["area"]) kb nb Wj (J.az (c:=g_) (k:=0) trivial ⟨Z2,trivial⟩ trivial TB trivial trivial trivial) o_ rfl pZ (λ_ _ _ _ _ _ us hl=>J.yn us hl λ_=>rfl)
  have ZU:J.f7 l.prog w K mg base 2 "item_places" 1 dQ:=J.aJ (ps:=["item"]) kb nb Wl (J.az (c:=jY) (k:=1) trivial trivial ⟨ZT.mono (by decide),trivial⟩ TB trivial trivial trivial) sM rfl tS (λ_ _ _ _ _ _ us hl=>J.yn us hl λ_=>rfl)
  have ZV:J.f7 l.prog w K mg base 3 "places_read" 1 c_:=J.aJ (ps:=["reads"]) kb nb Wm (J.az (c:=j6) (k:=2) trivial ⟨Z9,trivial⟩ ⟨ZU.mono (by decide),trivial⟩ TB trivial trivial trivial) sN rfl tT (λ_ _ _ _ _ _ us hl=>J.yn us hl λ_=>rfl)
  have ZW:J.f7 l.prog w K mg base 6 "cells_read" 2 eZ:=J.aJ (ps:=["sheet","book"]) kb nb Wn (J.az (c:=k8) (k:=5) trivial ⟨Z9,trivial⟩ ⟨ZL.mono (by decide),ZS.mono (by decide),ZV.mono (by decide),trivial⟩ TB trivial trivial trivial) tU rfl wj (λ_ _ _ _ _ _ us hl=>J.ln2 us hl λ_ _=>rfl)
  have ZX:J.f7 l.prog w K mg base 1 "readers_of" 1 gH:=J.aJ (ps:=["reads"]) kb nb Wo (J.az (c:=k9) (k:=0) trivial trivial trivial TB trivial trivial trivial) tV rfl wk (λ_ _ _ _ _ _ us hl=>J.yn us hl λ_=>rfl)
  have ZY:J.f7 l.prog w K mg base 1 "readied_readers" 2 cZ:=J.aJ (ps:=["readers","missing"]) kb nb Wq (J.az (c:=gI) (k:=0) trivial trivial trivial TB trivial trivial trivial) n9 rfl pb (λ_ _ _ _ _ _ us hl=>J.ln2 us hl λ_ _=>rfl)
  have ZZ:J.f7 l.prog w K mg base 2 "ranks_of" 1 jl:=J.aJ (ps:=["reads"]) kb nb Ws (J.az (c:=n_) (k:=1) trivial ⟨Z0,trivial⟩ ⟨ZX.mono (by decide),ZY.mono (by decide),trivial⟩ TB trivial trivial trivial) x8 rfl zL (λ_ _ _ _ _ _ us hl=>J.yn us hl λ_=>rfl)
  have Z_:J.f7 l.prog w K mg base 1 "comes_back" 3 e_:=J.aJ (ps:=["reads","ranks","start"]) kb nb Wt (J.az (c:=lb) (k:=0) trivial trivial trivial TB trivial trivial trivial) tX rfl wo (λ_ _ _ _ _ _ us hl=>J.Tu us hl λ_ _ _=>rfl)
  have Z':J.f7 l.prog w K mg base 7 "round_read" 2 iW:=J.aJ (ps:=["sheet","book"]) kb nb Wu (J.az (c:=lh) (k:=6) trivial trivial ⟨ZW.mono (by decide),ZZ.mono (by decide),Z_.mono (by decide),trivial⟩ TB trivial trivial trivial) tY rfl wq (λ_ _ _ _ _ _ us hl=>J.ln2 us hl λ_ _=>rfl)
  have H34:J.f7 l.prog w K mg base 1 "_law_inside" 2 fF:=J.aJ (ps:=["area","place"]) kb nb Ww (J.az (c:=j7) (k:=0) trivial trivial trivial TB trivial trivial trivial) sO rfl tZ (λ_ _ _ _ _ _ us hl=>J.ln2 us hl λ_ _=>rfl)
  have H35:J.f7 l.prog w K mg base 1 "_law_is_area" 1 cJ:=J.aJ (ps:=["area"]) kb nb Wx (J.az (c:=jm) (k:=0) trivial trivial trivial TB trivial trivial trivial) qC rfl sP (λ_ _ _ _ _ _ us hl=>J.yn us hl λ_=>rfl)
  have H36:J.f7 l.prog w K mg base 2 "_law_holds" 2 c7:=J.aJ (ps:=["item","place"]) kb nb Wy (J.az (c:=lu) (k:=1) trivial trivial ⟨H34.mono (by decide),H35.mono (by decide),trivial⟩ TB trivial trivial trivial) t5 rfl wt (λ_ _ _ _ _ _ us hl=>J.ln2 us hl λ_ _=>rfl)
  have H37:J.f7 l.prog w K mg base 3 "_law_due" 2 lB:=J.aJ (ps:=["sheet","book"]) kb nb Wz (J.az (c:=oa) (k:=2) trivial ⟨Z5,Z4,Z1,ZH,trivial⟩ ⟨H36.mono (by decide),trivial⟩ TB trivial trivial trivial) x9 rfl zM (λ_ _ _ _ _ _ us hl=>J.ln2 us hl λ_ _=>rfl)
  have X4:J.f7 l.prog w K mg base 1 "_law_at" 2 cR:=J.aJ (ps:=["spot","k"]) kb nb WA (J.az (c:=qa) (k:=0) trivial trivial trivial TB trivial trivial trivial) zN rfl Dh (λ_ _ _ _ _ _ us hl=>J.ln2 us hl λ_ _=>rfl)
  have H39:J.f7 l.prog w K mg base 2 "_law_item" 2 dA:=J.aJ (ps:=["stir","spot"]) kb nb WB (J.az (c:=mn) (k:=1) trivial trivial ⟨X4.mono (by decide),trivial⟩ TB trivial trivial trivial) wu rfl x_ (λ_ _ _ _ _ _ us hl=>J.ln2 us hl λ_ _=>rfl)
  exact J.OD Fu (J.az (c:=Hd) (k:=11) trivial ⟨Z3,Z2,Z1,Z0,trivial⟩ ⟨ZJ.mono (by decide),H2.mono (by decide),UN.mono (by decide),Z'.mono (by decide),H37.mono (by decide),H39.mono (by decide),X4.mono (by decide),trivial⟩ TB trivial trivial trivial) OL rfl RN
end K31
open PySem PySem.W PyProof.Rows
set_option maxRecDepth 100000 in
set_option maxHeartbeats 0 in
theorem PySem.Challenge.cw_onelook_k31_who_reads_round_holds : PySem.Challenge.rw_onelook_k31_who_reads_round.Holds := by
  refine K31.head ?_
  k_fill
  refine L2.walk_of (l:=PySem.Challenge.rw_onelook_k31_who_reads_round) (n:=63) (k:=12) (x:="script") (CX:=fun w => J.CXJ PySem.Challenge.rw_onelook_k31_who_reads_round.prog w) (sp:=fun w => J.spW _ 1 K31.F_law) rfl (by decide) rfl ⟨rfl,by decide,by decide⟩ (fun w h Y => PySem.W.kIn_of Y) ?F (fun w H a ns hl hO hS => J.law_sp K31.law_true H a ns hl (J.OnlyT.of hO) hS (J.tb_none ?Ta ?Tb ?Tc ?Td ?Te)) (fun _ _ _ _ _ z => z.elim fun _ y => y.elim fun _ x => x.2)
  case F=>
    intro w mg fa h KX G hmg
    refine' K31.all_mk KX G hmg ?d1 ?d2 ?d3 ?d4 ?d5 ?d6 ?d7 ?d8 ?d9 ?V5 ?V6 ?V8 ?V9 ?V_ ?V' ?Wa ?Wb ?Wc ?Wd ?We ?Wf ?Wg ?Wh ?Wi ?Wj ?Wl ?Wm ?Wn ?Wo ?Wq ?Ws ?Wt ?Wu ?Ww ?Wx ?Wy ?Wz ?WA ?WB ?WC ?z0 ?z1 ?z2 ?z3 ?z4 ?z5 ?z6 ?z7 ?z8 ?z9 ?WD ?v0 ?v1 ?v2
    case d1 | d2 | d3 | d4 | d5 | d6 | d7 | d8 | d9 | V5 | V6 | V8 | V9 | V_ | V' | Wa | Wb | Wc | Wd | We | Wf | Wg | Wh | Wi | Wj | Wl | Wm | Wn | Wo | Wq | Ws | Wt | Wu | Ww | Wx | Wy | Wz | WA | WB | WC=>refine' J.Np ?a ?l ?c ?k;(case a=>k_is);(case l=>k_is);(case c=>k_is);(case k=>k_is)
    case z0 | z1 | z2 | z3 | z4 | z5 | z6 | z7 | z8 | z9 | WD | v0 | v1 | v2=>k_is
  (case Ta=>k_is)
  (case Tb=>k_is)
  (case Tc=>k_is)
  (case Td=>k_is)
  (case Te=>k_is)
