import PyProof.Rows.All
import Wide.All
import OpenK.AllK
import Wide.FinOn
import Lean
import PyProof.EqAt
import PyProof.EqKinds
import PyProof.TupleCall
import PySem.Challenge.RW_onelook_k76_whole_sums_kept
open PySem.Around renaming under_plainId→QE
open Array renaming all_eq_true_iff_forall_mem→PX,getD_eq_getD_getElem?→Qt,getElem?_eq_getElem→Qx,getElem?_toList→Pl,length_toList→Cg
open Bool renaming and_eq_true→dC,eq_iff_iff→zO,false_eq_true→yT,false_ne_true→dN
open PySem.Builtin.Dict renaming updateFrom→Nr
open PySem.Builtin.Dict_items renaming ownedTupleFields→Nb,ownedTupleIsFree→Nd,ownsTuple→Em,pairFromOwner→Nc
open PySem.Builtin.List renaming listFitsIndex→t9,listTooLong→CF
open PySem.Builtin.Slice renaming sliceAdjust→Cv,sliceApplied→LB,slicePlaces→w9
open PySem.Builtin.Str renaming occurrences→mP
open PySem.Builtin.Tuple renaming tupleExact→w_,tupleIsExact→MX,tupleItemsOf→LC
open PySem.Calls renaming Name_function_global→K8,callWith_builtin→mR,evalArgs_plain→mS,spliced_cons→ip,spliced_nil→mQ
open Classical renaming propDecidable→Dx
open PySem.EntryCells renaming newEntry→L3
open PySem.F renaming typeOf_object_class→DA
open False renaming elim→aa
open ForInStep renaming yield→lp
open PySem.Heap.DictOf renaming new→LU
open PySem.Heap renaming MadeExcOf→tG,SameBut→oX,get?_none_of_le→wW,get?_push_of_some→aO,get?_push_size→cq,get?_update_other→pg,get?_update_self→Cz,lt_size→aE,size_push→Eo
open PySem.Heap.SameBut renaming update→tZ
open PySem.Heap.UpToSlots renaming refl→Mv
open Int renaming toNat_natCast→En
open List renaming all_cons→eL,any_cons→fz,append_assoc→xb,append_nil→ei,contains_cons→xu,countP_cons→xy,drop_eq_getElem_cons→pN,drop_length→pO,eq_nil_of_length_eq_zero→De,filterMap_cons→sJ,filter_cons→xf,filter_cons_of_neg→NZ,filter_cons_of_pos→N0,find?_cons→mT,findIdx?_cons→DG,findIdx?_eq_some_iff_getElem→D3,flatten_cons→pk,foldl_cons→CB,getD_eq_getElem?_getD→cL,getElem?_append_left→cu,getElem?_append_right→iq,getElem?_cons_succ→qN,getElem?_cons_zero→jf,getElem?_eq_getElem→bR,getElem?_map→gM,getElem?_replicate→sR,getElem?_set_ne→bE,getElem?_set_self→kZ,getElem_mem→jL,getElem_toArray→xA,length→gL,length_append→dH,length_cons→lb,length_drop→pb,length_map→aA,length_nil→pz,length_replicate→la,length_set→ph,length_singleton→LM,length_take→jz,lookup_cons→jI,map_append→qI,map_congr_left→lu,map_cons→aM,map_drop→FQ,map_map→bS,map_nil→CH,map_set→F',map_take→ya,mem_append_left→sL,mem_append_right→ft,mem_cons_of_mem→aX,mem_cons_self→bp,mem_of_getElem?→sS,mem_of_mem_drop→Jt,mem_of_mem_take→uq,mem_or_eq_of_mem_set→Jx,nil_append→j3,nodup_append→mI,nodup_iff_pairwise_ne→IP,nodup_range→zo,of_mem_zip→yA,range→dX,range'→gw,replicate→aJ,replicate_succ→hU,size_toArray→a6,take_of_length_le→Ig
open PySem.NameKind renaming cell→oH,free→dZ
open Nat renaming le_of_eq→lQ,le_of_lt→ow,le_refl→ak,le_succ→oA,le_trans→bb,lt_irrefl→eK,lt_of_lt_of_le→bN,min_le_right→yB,ne_of_gt→yy,ne_of_lt→a_,sub_self→tF,succ_le_succ→oB,zero_le→bY
open Ne renaming symm→aW
open PySem.Obj renaming data_mapFields→yJ,isFreed_of_fields→Ht,mapFields→lU,mapSeq→dY
open Option renaming map_some→oI
open Or renaming inr→j4
open PySem.PassesOwn renaming leaving→Jj
open PySem.PyData renaming canLayAll0→yP,depthAll→lY,eqv→aV,eqvAll→b6,list→tL,str→jg,strOk→aQ,tuple→j6
open PyProof.Rows renaming callWith_type1→yz,slot_tuple_getitem→sT
open PySem.SeqAt.EqAt renaming int_none→Gw,int_str→Gv,none_int→Gz,none_str→GB,same→GC,str_int→Gx,str_none→Gy
open PySem.Shared renaming TypeIs→oK
open PySem.Str renaming ofString→lO
open True renaming intro→lT
open PySem.Txt renaming slice→j'
open PySem.Value renaming builtin→j8,int→iT,none→bG,ref→aU,str→jY,type→hJ
open PySem renaming Addr→aae,Around→aaf,FuncData→aag,NameKind→aah,Program→aai,Shared→aaj,Value→aak,World→aal,behindInMarks→aam,binaryOp→aan,bootBuiltins→aao,codeAny→aap,compPost→aaq,compareOp→aar,foldedSetIterable→aas,isSubtype_type→aat,mainGlobals→aau,sizeLine→aav,starEach→aaw,wpAny→aax,wpAny_bind→aay,wpAny_dictEntries→aaz,wpAny_holding→aaA,wpAny_mono→aaB,wpAny_newList→aaC,wpAny_newObj_type→aaD,wpAny_pure→aaE,wpAny_truthy_bool→aaF
noncomputable section
set_option Elab.async false
set_option linter.all false
set_option maxRecDepth 100000
namespace L2
open PySem PySem.Spec PyProof.Rows
inductive Key where
 | inl (i:Int) | inr (x:Str) | aL
 deriving DecidableEq
def kO:Key->aak->Bool
 | .inl k,v=>Value.isInt k v
 | .inr x,v=>Value.isStrOf x v
 | .aL,v=>(match v with | .none=>true | _=>false)
def SQ(w:aal):Key->Int
 | .inl k=>hashInt k
 | .inr x=>hashStr w x
 | .aL=>reduceHash 4238894112
theorem b7:∀{k:Key}{v:aak},kO k v=true->(∃i t,k=Key.inl i/\v=iT i t)\/(∃x t,k=Key.inr x/\v=jY x t)\/(k=Key.aL/\v=bG)
 | .inl i,v,h=>by
  obtain⟨t,e⟩:=Value.isInt_shape (k:=i) (v:=v) h
  exact .inl ⟨i,t,rfl,e⟩
 | .inr x,v,h=>by
  obtain⟨t,e⟩:=Value.isStrOf_shape (x:=x) (v:=v) h
  exact .inr (.inl ⟨x,t,rfl,e⟩)
 | .aL,v,h=>by
  cases v<;>first | exact .inr (.inr ⟨rfl,rfl⟩) | (unfold kO at h;cases h)
theorem Ag(i:Int)(t:Tok):kO (.inl i) (.int i t)=true:=by simp[kO,Value.isInt]
theorem Ah(x:Str)(t:Tok):kO (.inr x) (.str x t)=true:=by simp[kO,Value.isStrOf]
theorem KP(a b:Int):decide ((Key.inl a:Key)=Key.inl b)=(a == b):=by
 by_cases e:a=b
 ·subst e;simp
 ·have h:¬(Key.inl a:Key)=Key.inl b:=λq=>e (Key.inl.inj q)
  rw[decide_eq_false h]
  exact(beq_eq_false_iff_ne.mpr e).symm
theorem KQ(a b:Str):decide ((Key.inr a:Key)=Key.inr b)=decide (a=b):=by
 by_cases e:a=b
 ·subst e;simp
 ·have h:¬(Key.inr a:Key)=Key.inr b:=λq=>e (Key.inr.inj q)
  rw[decide_eq_false h,decide_eq_false e]
theorem B8{prog:aai}{w:aal}{A:aaf}{E:aak->aaj->Prop}{s:aaj}{Q:Int->aaj->Prop}(h:Q (reduceHash 4238894112) { s with toks:=s.toks+1 }):aax (model prog w) A (PySem.pyHash .none) Q E s :=
 PySem.W.pyHash_slot (T:="NoneType") rfl F.slot_NoneType_hash F.entry_NoneType_hash (F.args_NoneType_hash_1 _) (beq_builtin_none _) (.inl rfl) (aay (aaE (aay (wpAny_mkInt (aaE ⟨_,_,rfl,h⟩)))))
def aZ(prog:aai)(w:aal):PySem.KeyKind prog w Key where
 is:=kO
 hash:=SQ w
 inj:=λv a b ha hb=>by
  rcases b7 ha with ⟨i,t,rfl,rfl⟩ | ⟨x,t,rfl,rfl⟩ | ⟨rfl,rfl⟩<;>rcases b7 hb with ⟨j,u,rfl,e⟩ | ⟨y,u,rfl,e⟩ | ⟨rfl,e⟩<;>cases e<;>rfl
 byValue:=λk v h=>by
  rcases b7 h with ⟨i,t,rfl,rfl⟩ | ⟨x,t,rfl,rfl⟩ | ⟨rfl,rfl⟩<;>rfl
 pyHash:=λhv h=>by
  rcases b7 hv with ⟨i,t,rfl,rfl⟩ | ⟨x,t,rfl,rfl⟩ | ⟨rfl,rfl⟩
  ·exact wpAny_pyHash_int h
  ·exact wpAny_pyHash_str h
  ·exact B8 h
 eqBool:=λ{A E s a b u v Q} hu hv h=>by
  have no:a≠b->Q false s:=λn=>by rw[decide_eq_false n] at h;exact h
  rcases b7 hu with ⟨i,t,rfl,rfl⟩ | ⟨x,t,rfl,rfl⟩ | ⟨rfl,rfl⟩<;>rcases b7 hv with ⟨j,u,rfl,rfl⟩ | ⟨y,u,rfl,rfl⟩ | ⟨rfl,rfl⟩
  ·rw[KP] at h;exact wpAny_eqBool_int h
  ·exact Gv i t y u _ _ _ _ (no nofun)
  ·exact Gw i t _ _ _ _ (no nofun)
  ·exact Gx x t j u _ _ _ _ (no nofun)
  ·rw[KQ] at h;exact wpAny_eqBool_str h
  ·exact Gy x t _ _ _ _ (no nofun)
  ·exact Gz j u _ _ _ _ (no nofun)
  ·exact GB y u _ _ _ _ (no nofun)
  ·exact GC .none _ _ _ _ (by simpa using h)
 «strs»:=λk x t v h=>by
  rcases b7 h with ⟨i,u,rfl,e⟩ | ⟨y,u,rfl,e⟩ | ⟨rfl,e⟩<;>cases e
  cases v<;>rfl
theorem uH(prog:aai)(w:aal)(i:Int)(t:Tok):(aZ prog w).is (.inl i) (.int i t)=true:=Ag i t
theorem uI(prog:aai)(w:aal)(x:Str)(t:Tok):(aZ prog w).is (.inr x) (.str x t)=true:=Ah x t
inductive V where
 | aL | bl (b:Bool) | int (i:Int) | str (x:Str) | Om (b:Array UInt8) | JD (b:UInt64) | ref (a:aae) | ty (n:String)
 deriving DecidableEq
def RelV:V->aak->Prop
 | .aL,u=>u=bG
 | .bl b,u=>u=Value.bool b
 | .int i,u=>∃t,u=iT i t
 | .str x,u=>∃t,u=jY x t
 | .Om b,u=>∃t,u=Value.bytes b t
 | .JD b,u=>∃t,u=Value.float b t
 | .ref a,u=>u=aU a
 | .ty n,u=>u=hJ n
abbrev Vals:List V->List aak->Prop:=Paired RelV
theorem Vals.length{xs:List V}{us:List aak}(r:Vals xs us):xs.length=us.length:=Paired.length r
theorem Vals.get:∀{xs:List V}{us:List aak}{i:Nat}{x:V},Vals xs us->xs[i]? =some x->∃u,us[i]? =some u/\RelV x u
 | _,_,_,_,.nil,e=>by simp at e
 | _,_,0,_,.cons r _,e=>by simp at e;subst e;exact⟨_,rfl,r⟩
 | _,_,i+1,x,.cons _ t,e=>by
  obtain⟨u,h1,h2⟩:=Vals.get (i:=i) (x:=x) t (by simpa using e)
  exact⟨u,by simpa using h1,h2⟩
theorem Vals.set{x:V}{u:aak}(r:RelV x u):∀{xs:List V}{us:List aak}(i:Nat),Vals xs us->Vals (xs.set i x) (us.set i u)
 | _,_,_,.nil=> .nil
 | _,_,0,.cons _ t=> .cons r t
 | _,_,i+1,.cons q t=> .cons q (Vals.set r i t)
theorem Vals.append:∀{xs ys:List V}{us ws:List aak},Vals xs us->Vals ys ws->Vals (xs++ys) (us++ws)
 | _,_,_,_,.nil,s=>s
 | _,_,_,_,.cons r t,s=> .cons r (Vals.append t s)
theorem Vals.take:∀{xs:List V}{us:List aak}(n:Nat),Vals xs us->Vals (xs.take n) (us.take n)
 | _,_,0,_=> .nil
 | _,_,_+1,.nil=> .nil
 | _,_,n+1,.cons r t=> .cons r (Vals.take n t)
theorem Vals.drop:∀{xs:List V}{us:List aak}(n:Nat),Vals xs us->Vals (xs.drop n) (us.drop n)
 | _,_,0,r=>r
 | _,_,_+1,.nil=> .nil
 | _,_,n+1,.cons _ t=>Vals.drop n t
def lK:Option V->Option aak->Prop
 | some v,some u=>RelV v u
 | none,none=>True
 | _,_=>False
def KV{κ:Type}:List (κ×V)->List (κ×aak)->Prop:=Paired λ(p:κ×V)(q:κ×aak)=>p.1=q.1/\RelV p.2 q.2
def kV:Key->V
 | .inl i=> .int i
 | .inr x=> .str x
 | .aL=> .aL
inductive HO where
  | lst (xs:List V)
  | tup (xs:List V)
  | dK (kvs:List (Key×V)) | dT (kvs:List (List Key×V))
  | set (S:Int->Bool) (n:Nat)
  | ins (C dx:aae) (fs:List (Str×V))
  | own (x:aae)
  | xd (fs:List (Str×V))
  | met (f x:aae)
  | RD (lo hi:Int)
  | fb (o:Obj) (u:HO)
  | jr (ps:Array aak)
  | ext (φ:Heap->Prop)
abbrev Hp:=aae->Option HO
def upd(H:Hp)(a:aae)(o:HO):Hp:=λb=>if b=a then some o else H b
theorem aI{H:Hp}{a:aae}{o:HO}:upd H a o a=some o:=by unfold upd;rw[if_pos rfl]
theorem aw{H:Hp}{a b:aae}{o:HO}(h:b≠a):upd H a o b=H b:=by unfold upd;rw[if_neg h]
theorem OL{H:Hp}{a b:aae}{o u:HO}(h:H a=some o)(h':H b=some u)(d:o≠u):a≠b:=by
 intro e;subst e;rw[h] at h';exact d (Option.some.inj h')
theorem bH{H:Hp}{a b:aae}{o:HO}(h:H a=some o)(h':H b=none):a≠b:=by
 intro e;subst e;rw[h] at h';cases h'
def wU(h:Heap)(a:aae):Prop:=∀o,h.get? a=some o->o.dict=none
theorem wU.new(h:Heap)(us:Array aak):wU (h.push { cls:=.type "tuple",data:=.seq us }) h.objs.size:=λo q=>by
 rw[cq _ rfl] at q
 cases q
 rfl
section
variable (P:aai) (w:aal)
def c9(H:Hp)(h:Heap)(a:aae):HO->Prop
 | .lst xs=>xs.length<=aav/\∃(its:List aak)(n:Nat),Vals xs its/\h.get? a=some { cls:=.type "list",data:=.seq its.toArray n }
 | .tup xs=>xs.length<=aav/\∃its:List aak,Vals xs its/\IsTup h a its.toArray/\wU h a
 | .dK kvs=>kvs.length<=aav/\(a == sysModules)=false/\∃vs,KV kvs vs/\h.DictOf (aZ P w) a vs
 | .dT kvs=>kvs.length<=aav/\(a == sysModules)=false/\∃xs:List (List Key×aae×aak),
   Paired (λ(p:List Key×V)(q:List Key×aae×aak)=>p.1=q.1/\H q.2.1=some (.tup (p.1.map kV))/\RelV p.2 q.2.2) kvs xs/\
   ∃o es ep,h.get? a=some o/\o.ExactDict/\o.data= .dict es ep/\es.toList=xs.map (entryOfKey (tupleKind (aZ P w)))/\(xs.map (·.1)).Nodup
 | .set S n=>h.SetOf (intKind P w) a S n
 | .ins C dx fs=>H dx=some (.own a)/\fs.length<=1000/\dx≠a/\h.get? a=some (PySem.W.instObj C dx)/\
   ∃mA,h.Ns1 dx mA/\(∀f,lK (fs.lookup f) (mA f))/\PySem.Within mA (fs.map (·.1))
 | .own _=>∃o,h.get? a=some o
 | .xd fs=>∃mA,h.Ns1 a mA/\∀f,lK (fs.lookup f) (mA f)
 | .RD lo hi=>∃t u v,h.get? a=some { cls:=.type "range",data:=.fields #[.int lo t,.int hi u,.int 1 v] }
 | .fb o u=>h.get? a=some o/\c9 H h a u
 | .jr ps=>h.get? a=some { cls:=.none,data:=.fields ps }
 | .met f x=>h.get? a=some (PySem.W.methodObj (.ref f) (.ref x))
 | .ext φ=>φ h/\(∃o,h.get? a=some o)/\∀h1 h2:Heap,φ h1->(∀o,h1.get? a=some o->h2.get? a=some o)->φ h2
def jh(H:Hp)(h:Heap):Prop:=∀a o,H a=some o->c9 P w H h a o
end
section
variable {P:aai} {w:aal} {H H':Hp} {h h':Heap} {a:aae} {o:HO}
theorem c9.lt(x:c9 P w H h a o):a < h.objs.size:=by
 cases o with
 | lst xs=>obtain⟨_,_,_,_,e⟩:=x;exact aE e
 | tup xs=>obtain⟨_,_,_,p,_⟩:=x;exact p.lt
 | dK kvs=>obtain⟨_,_,_,_,o,_,_,e,_⟩:=x;exact aE e
 | dT kvs=>obtain⟨_,_,_,_,o,_,_,e,_⟩:=x;exact aE e
 | set S n=>obtain⟨o,_,_,_,e,_⟩:=x;exact aE e
 | ins C dx fs=>obtain⟨_,_,_,e,_⟩:=x;exact aE e
 | own y=>obtain⟨_,e⟩:=x;exact aE e
 | xd fs=>obtain⟨_,⟨_,_,_,e,_⟩,_⟩:=x;exact aE e
 | RD lo hi=>obtain⟨_,_,_,e⟩:=x;exact aE e
 | fb ob u=>obtain⟨e,_⟩:=x;exact aE e
 | jr ps=>exact aE (show h.get? a=some _ from x)
 | met f y=>exact aE (show h.get? a=some _ from x)
 | ext φ=>obtain⟨_,⟨_,e⟩,_⟩:=x;exact aE e
theorem Paired.GD{α β:Type}{F G:α->β->Prop}:∀{l₁:List α}{l₂:List β},Paired F l₁ l₂->(∀a b,F a b->G a b)->Paired G l₁ l₂
 | _,_,.nil,_=> .nil
 | _,_,.cons r t,f=> .cons (f _ _ r) (Paired.GD t f)
theorem c9.stay(x:c9 P w H h a o)(k:∀b u,(b=a\/H b=some (.own a))->h.get? b=some u->h'.get? b=some u)
  (ho:∀b,H b=some (.own a)->H' b=some (.own a))(ht:∀b xs,H b=some (.tup xs)->H' b=some (.tup xs)):c9 P w H' h' a o:=by
 induction o with
 | lst xs=>obtain⟨z,its,n,r,e⟩:=x;exact⟨z,its,n,r,k _ _ (.inl rfl) e⟩
 | tup xs=>obtain⟨z,us,r,⟨ob,e,c⟩,nd⟩:=x;exact⟨z,us,r,⟨ob,k _ _ (.inl rfl) e,c⟩,λo q=>by rw[k _ _ (.inl rfl) e] at q;cases q;exact nd _ e⟩
 | dK kvs=>obtain⟨z,y,vs,r,ob,es,ep,e,c⟩:=x;exact⟨z,y,vs,r,ob,es,ep,k _ _ (.inl rfl) e,c⟩
 | dT kvs=>
  obtain⟨z,y,xs,r,ob,es,ep,e,c⟩:=x
  exact⟨z,y,xs,Paired.GD r λp q z=>⟨z.1,ht _ _ z.2.1,z.2.2⟩,ob,es,ep,k _ _ (.inl rfl) e,c⟩
 | set S n=>obtain⟨ob,es,ep,t,e,c⟩:=x;exact⟨ob,es,ep,t,k _ _ (.inl rfl) e,c⟩
 | ins C dx fs=>
  obtain⟨d,z,ne,e,mA,⟨od,es,ep,e2,c⟩,r⟩:=x
  exact⟨ho _ d,z,ne,k _ _ (.inl rfl) e,mA,⟨od,es,ep,k _ _ (.inr d) e2,c⟩,r⟩
 | own y=>obtain⟨ob,e⟩:=x;exact⟨ob,k _ _ (.inl rfl) e⟩
 | xd fs=>obtain⟨mA,⟨od,es,ep,e,c⟩,r⟩:=x;exact⟨mA,⟨od,es,ep,k _ _ (.inl rfl) e,c⟩,r⟩
 | RD lo hi=>obtain⟨t,u,v,e⟩:=x;exact⟨t,u,v,k _ _ (.inl rfl) e⟩
 | fb ob u ih=>obtain⟨e,q⟩:=x;exact⟨k _ _ (.inl rfl) e,ih q⟩
 | jr ps=>
  have e:h.get? a=some { cls:=.none,data:=.fields ps }:=x
  show h'.get? a=some { cls:=.none,data:=.fields ps }
  exact k a _ (.inl rfl) e
 | met f y=>
  have e:h.get? a=some (PySem.W.methodObj (.ref f) (.ref y)):=x
  show h'.get? a=some (PySem.W.methodObj (.ref f) (.ref y))
  exact k a _ (.inl rfl) e
 | ext φ=>obtain⟨p,⟨o,e⟩,st⟩:=x;exact⟨st _ _ p λo q=>k _ _ (.inl rfl) q,⟨o,k _ _ (.inl rfl) e⟩,st⟩
theorem jh.lt(x:jh P w H h)(e:H a=some o):a < h.objs.size:=(x a o e).lt
theorem jh.fresh(x:jh P w H h)(e:h.objs.size<=a):H a=none:=by
 cases q:H a with
 | none=>rfl
 | some u=>exact absurd (bN (x.lt q) e) (eK _)
theorem jh.kept(x:jh P w H h)(k:∀b u,h.get? b=some u->h'.get? b=some u):jh P w H h':=λa o e=>
 (x a o e).stay (λb u _ q=>k b u q) (λ_ q=>q) λ_ _ q=>q
theorem jh.laid(x:jh P w H h)(k:∀b u,h.get? b=some u->h'.get? b=some u)(hp:h.objs.size<=a)(new:c9 P w (upd H a o) h' a o):jh P w (upd H a o) h':=λb u e=>by
 have hn:=x.fresh hp
 by_cases hb:b=a
 ·subst hb;rw[aI] at e;cases e;exact new
 ·rw[aw hb] at e
  exact(x b u e).stay (λc v _ q=>k c v q) (λc q=>by rw[aw (bH q hn)];exact q) λc xs q=>by rw[aw (bH q hn)];exact q
end
def Rd(H:Hp)(a:aae)(u:HO):Prop:=H a=some u\/∃o,H a=some (.fb o u)
theorem Rd.ok{P:aai}{w:aal}{H:Hp}{h:Heap}{a:aae}{u:HO}(r:Rd H a u)(x:jh P w H h):c9 P w H h a u:=by
 rcases r with r | ⟨o,r⟩
 ·exact x a u r
 ·obtain⟨_,q⟩:=x a _ r
  exact q
def OM:Option HO->Prop
 | some (.lst _)=>True
 | some (.dK _)=>True
 | some (.dT _)=>True
 | some (.set _ _)=>True
 | some (.ins _ _ _)=>True
 | some (.ext _)=>True
 | _=>False
section
variable {P:aai} {w:aal} {H:Hp} {h h':Heap} {x e:aae} {o':HO}
theorem jh.write(ok:jh P w H h)(mu:OM (H x))(he:e=x\/H e=some (.own x))(k:∀b u,b≠e->h.get? b=some u->h'.get? b=some u)(Oo:∃u,h'.get? e=some u)
  (new:c9 P w (upd H x o') h' x o'):jh P w (upd H x o') h':=λb u q=>by
 have ON:∀c y,H c=some (.own y)->c≠x:=λc y r z=>by subst z;rw[r] at mu;exact mu
 have SR:∀c xs,H c=some (.tup xs)->c≠x:=λc xs r z=>by subst z;rw[r] at mu;exact mu
 by_cases hb:b=x
 ·subst hb;rw[aI] at q;cases q;exact new
 ·rw[aw hb] at q
  by_cases KR:b=e
  ·have q':H b=some (.own x):=by
    rcases he with z | z
    ·exact absurd (KR.trans z) hb
    ·rw[KR];exact z
   rw[q] at q';cases q'
   obtain⟨v,hv⟩:=Oo
   exact⟨v,by rw[KR];exact hv⟩
  ·refine(ok b u q).stay (λc v hc r=>k c v ?_ r) (λc r=>by rw[aw (ON c b r)];exact r) λc xs r=>by rw[aw (SR c xs r)];exact r
   rcases hc with rfl | hc
   ·exact KR
   ·rintro rfl
    rcases he with z | z
    ·exact ON c b hc z
    ·rw[hc] at z;cases z;exact hb rfl
end
structure Un(fs ex:List aae)(H H':Hp)(h h':Heap):Prop where
 keep:∀b o,h.get? b=some o->H b=none->b∉fs->b∉ex->h'.get? b=some o
 slot:∀b o,h.get? b=some o->H b=none->b∈fs->b∉ex->∃sl,h'.get? b=some { o with slots:=sl }
 free:∀b o,h.get? b=some o->H b=none->b∉ex->H' b=none
 there:∀b o,h.get? b=some o->b∉ex->∃o',h'.get? b=some o'
 tups:∀b xs,H b=some (.tup xs)->H' b=some (.tup xs)
 jo:∀b o u,H b=some (.fb o u)->H' b=some (.fb o u)
 kF:∀b ps,H b=some (.jr ps)->∃more,H' b=some (.jr (ps++more))
section
variable {fs fs' ex ex':List aae} {H H1 H2:Hp} {h h1 h2 h':Heap} {a x e:aae} {o:HO}
theorem Un.any(u:Un fs ex H H1 h h1){b:aae}{ob:Obj}(q:h.get? b=some ob)(n:H b=none)(hx:b∉ex):∃sl,h1.get? b=some { ob with slots:=sl }:=by
 by_cases hb:b∈fs
 ·exact u.slot b ob q n hb hx
 ·exact⟨ob.slots,u.keep b ob q n hb hx⟩
theorem Un.kept(k:∀b u,h.get? b=some u->h'.get? b=some u):Un fs ex H H h h' :=
 ⟨λb ob q _ _ _=>k b ob q,λb ob q _ _ _=>⟨ob.slots,k b ob q⟩,λ_ _ _ n _=>n,λb ob q _=>⟨ob,k b ob q⟩,λ_ _ q=>q,λ_ _ _ q=>q,λ_ ps q=>⟨#[],by rw[q];simp⟩⟩
theorem Un.refl:Un fs ex H H h h:=Un.kept λ_ _ q=>q
theorem Un.laid(k:∀b u,h.get? b=some u->h'.get? b=some u)(hp:h.objs.size<=a)(hn:H a=none):Un fs ex H (upd H a o) h h' where
 keep:=λb u q _ _ _=>k b u q
 slot:=λb u q _ _ _=>⟨u.slots,k b u q⟩
 free:=λb u q n _=>by rw[aw (a_ (bN (aE q) hp))];exact n
 there:=λb u q _=>⟨u,k b u q⟩
 tups:=λb xs q=>by rw[aw (bH q hn)];exact q
 jo:=λb u xs q=>by rw[aw (bH q hn)];exact q
 kF:=λb ps q=>⟨#[],by rw[aw (bH q hn),q];simp⟩
theorem Un.write(mu:OM (H x))(he:e=x\/H e=some (.own x))(k:∀b u,b≠e->h.get? b=some u->h'.get? b=some u)(Oo:∃u,h'.get? e=some u):Un fs ex H (upd H x o) h h':=by
 have hx:∀b,H b=none->b≠x:=λb n z=>by subst z;rw[n] at mu;exact mu
 have hb:∀b,H b=none->b≠e:=λb n z=>by
  subst z
  rcases he with r | r
  ·exact hx b n r
  ·rw[n] at r;cases r
 have hm:∀b u,H b=some u->¬OM (some u)->b≠x:=λb u q nm z=>by subst z;rw[q] at mu;exact nm mu
 refine⟨λb u q n _ _=>k b u (hb b n) q,λb u q n _ _=>⟨u.slots,k b u (hb b n) q⟩,λb u q n _=>by rw[aw (hx b n)];exact n,λb u q _=>?_,
  λb xs q=>by rw[aw (hm b _ q λz=>z)];exact q,λb u xs q=>by rw[aw (hm b _ q λz=>z)];exact q,λb ps q=>⟨#[],by rw[aw (hm b _ q λz=>z),q];simp⟩⟩
 by_cases KR:b=e
 ·subst KR;exact Oo
 ·exact⟨u,k b u KR q⟩
end
def RE(h:Heap)(H:Hp):List aae:=(dX h.objs.size).filter λa=>(H a).isSome
def sI(h:Heap)(H:Hp):Heap:=PySem.W.hideAll h (RE h H)
theorem Ai(h:Heap)(H:Hp):(sI h H).objs.size=h.objs.size:=PySem.W.hideAll_size _ _
theorem B9{h:Heap}{H:Hp}{b:aae}{o:Obj}(e:h.get? b=some o)(n:H b=none):(sI h H).get? b=some o :=
 PySem.W.hideAll_get _ e λhm=>by
  have q:(H b).isSome=true:=(List.mem_filter.mp hm).2
  rw[n] at q;simp at q
theorem GF{h:Heap}{H:Hp}{b:aae}{o:Obj}(e:(sI h H).get? b=some o):h.get? b=some o/\H b=none:=by
 have e':h.get? b=some o:=PySem.W.of_hideAll (RE h H) e
 refine⟨e',?_⟩
 cases q:H b with
 | none=>rfl
 | some x=>
  have hm:b∈RE h H:=List.mem_filter.mpr ⟨List.mem_range.mpr (aE e'),by simp[q]⟩
  have z:(sI h H).get? b=none:=PySem.W.hideAll_none (RE h H) hm
  rw[z] at e;cases e
structure Mod(K:PySem.W.Frag)(mg:Str->Option aak)(base:Heap):Prop where
 B_:K.In base
 glob:base.Ns aau mg
 blt:∃mb,base.Ns builtinsNs mb/\∀x:Str,x≠"__name__"->mb x=aao x
 nolimit:base.NoLimit
structure Cx where
 prog:aai
 w:aal
 K:PySem.W.Frag
 mg:Str->Option aak
 base:Heap
 A:aaf
 N:List Str
 s₀:aaj
 H₀:Hp
 env:Env
 outer:List Env
 stack:List Env
 ex:List aae
 fn:Str->Bool
 calm:Bool
 pn:List (aae×Obj)
 xe:aak->aaj->Prop
def frs(l:List Env):List aae:=l.filterMap (·.frame)
abbrev Cx.fs(X:Cx):List aae:=frs X.outer
def SU(sc:Scope)(x:Str):Prop:=sc.names.lookup x=some .local\/sc.names.lookup x=some .cell\/sc.names.lookup x=some .free
def Loc(sc:Scope)(x:Str):Prop:=sc.names.lookup x=some .local\/sc.names.lookup x=some .cell
def Look(env:Env)(h:Heap)(m:Str->Option aak)(x:Str)(u:aak):Prop :=
 (env.kindOf x=some .local/\m x=some u)\/((env.kindOf x=some .cell\/env.kindOf x=some .free)/\∃c,env.cells.lookup x=some c/\h.IsCell c (some u))
structure Cx.Ok(X:Cx):Prop where
 mod:Mod X.K X.mg X.base
 kind:X.env.scope.kind= .function
 glob:X.env.globals=aau
 blt:X.env.builtins=builtinsNs
 above:X.s₀.heap.objs.size<=X.env.locals
 inj:∀x y c,X.env.cells.lookup x=some c->X.env.cells.lookup y=some c->x=y
 has:∀x,(X.env.kindOf x=some .cell\/X.env.kindOf x=some .free)->∃c,X.env.cells.lookup x=some c
 Oq:∀x c,X.fn x=true->X.env.cells.lookup x=some c->X.s₀.heap.objs.size<=c
 hd:X.calm=true->X.A.handled=none
 frames:X.A.frames=some X.stack
 stk:X.stack=X.outer\/(X.stack=X.env::X.outer/\X.env.frame=some X.env.locals)
 SV:∀b∈X.ex,b≠X.env.locals/\∀x c,X.env.cells.lookup x=some c->c≠b
 bs:∀b o,X.base.get? b=some o->X.s₀.heap.get? b=some o/\X.H₀ b=none
 BS:X.base.objs.size<=X.s₀.heap.objs.size
 Aj:∀b o,X.base.get? b=some o->b∉X.ex
 Ca:∀b∈X.ex,b∉X.fs
 kY:X.s₀.heap.FunFrames X.base X.outer
 GG:∀b∈X.fs,X.H₀ b=none
structure Inv(X:Cx)(pins:List (aae×Obj))(σ:List (Option V))(H:Hp)(s:aaj):Prop where
 ok:X.Ok
 os:s.os=X.s₀.os
 bare:AllBare s.gens
 base:Un X.fs X.ex X.H₀ H X.s₀.heap s.heap
 loc:∃m,s.heap.Ns X.env.locals m/\∀(i:Nat)(x:Str)(v:V),X.N[i]? =some x->σ[i]? =some (some v)->SU X.env.scope x->∃u,RelV v u/\Look X.env s.heap m x u
 cell:∀x c,X.env.cells.lookup x=some c->∃v,s.heap.IsCell c v
 free:H X.env.locals=none
 hR:∀x c,X.env.cells.lookup x=some c->H c=none
 pin:∀p∈X.pn++pins,s.heap.get? p.1=some p.2/\H p.1=none/\p.1≠X.env.locals/\p.1∉X.fs/\∀v,p.2.data≠.cell v
 hok:jh X.prog X.w H s.heap
 len:σ.length=X.N.length
section
variable {X:Cx} {pins:List (aae×Obj)} {σ:List (Option V)} {H H':Hp} {s:aaj} {h':Heap}
theorem Cx.Ok.OO(ok:X.Ok){b:aae}{o:Obj}(e:X.base.get? b=some o):b∉X.fs:=λhb=>by
 have:=(ok.kY.mem hb).1
 rw[e] at this;cases this
theorem Inv.bs(I:Inv X pins σ H s):∀b o,X.base.get? b=some o->s.heap.get? b=some o/\H b=none:=λb o e=>
 ⟨I.base.keep b o (I.ok.bs b o e).1 (I.ok.bs b o e).2 (I.ok.OO e) (I.ok.Aj b o e),I.base.free b o (I.ok.bs b o e).1 (I.ok.bs b o e).2 (I.ok.Aj b o e)⟩
theorem Inv.bk(I:Inv X pins σ H s):∀b o,X.base.get? b=some o->s.heap.get? b=some o:=λb o e=>(I.bs b o e).1
theorem Inv.mod(I:Inv X pins σ H s):Mod X.K X.mg X.base:=I.ok.mod
theorem Inv.wV(I:Inv X pins σ H s):X.K.In s.heap:=I.ok.mod.B_.keeps I.bk
theorem Inv.lt(I:Inv X pins σ H s):X.env.locals < s.heap.objs.size:=let ⟨_,hn,_⟩:=I.loc;hn.lt
theorem Inv.sz(I:Inv X pins σ H s):X.s₀.heap.objs.size<=s.heap.objs.size:=bb I.ok.above (ow I.lt)
theorem Inv.SX(I:Inv X pins σ H s){a:aae}(h:s.heap.objs.size<=a):a∉X.fs:=λhb=>by
 obtain⟨_,o,ho,_⟩:=I.ok.kY.mem hb
 exact absurd (bN (aE ho) (bb I.sz h)) (eK _)
theorem Inv.GH(I:Inv X pins σ H s):∀x c,X.env.cells.lookup x=some c->c≠X.env.locals:=λx c e z=>by
 obtain⟨v,o,ho,hd⟩:=I.cell x c e
 obtain⟨m,⟨o',es,ep,ho',hd',_⟩,_⟩:=I.loc
 rw[z,ho'] at ho;cases ho;rw[hd'] at hd;cases hd
theorem Inv.kY(I:Inv X pins σ H s):s.heap.FunFrames X.base X.outer:=by
 have all:∀(l:List Env),(∀b∈frs l,b∈X.fs)->X.s₀.heap.FunFrames X.base l->s.heap.FunFrames X.base l:=by
  intro l
  induction l with
  | nil=>intro _ _;trivial
  | cons env r ih=>
   intro hs hl
   obtain⟨hk,⟨L,o,hf,hn,ho,hd⟩,hr⟩:=hl
   have hL:L∈X.fs:=hs L (by unfold frs;rw[sJ,hf];exact bp)
   obtain⟨sl,e⟩:=I.base.slot L o ho (I.ok.GG L hL) hL λz=>I.ok.Ca L z hL
   exact⟨hk,⟨L,_,hf,hn,e,hd⟩,ih (λb hb=>hs b (by unfold frs;rw[sJ,hf];exact aX _ hb)) hr⟩
 exact all X.outer (λ_ hb=>hb) I.ok.kY
theorem Inv.stack(I:Inv X pins σ H s):s.heap.FunFrames X.base X.stack:=by
 rcases I.ok.stk with e | ⟨e,hf⟩
 ·rw[e];exact I.kY
 ·rw[e]
  obtain⟨m,hn,_⟩:=I.loc
  refine .cons (by rw[I.ok.kind];decide) hf hn ?_ I.kY
  exact wW (bb I.ok.BS I.ok.above)
theorem Inv.jx(I:Inv X pins σ H s):∀b∈frs X.stack,b∈X.env.locals::X.fs:=λb hb=>by
 rcases I.ok.stk with e | ⟨e,hf⟩
 ·rw[e] at hb;exact aX _ hb
 ·rw[e] at hb
  unfold frs at hb
  rw[sJ,hf] at hb
  exact hb
theorem Inv.jZ(I:Inv X pins σ H s):∀b∈frs X.stack,H b=none:=λb hb=>by
 rcases List.mem_cons.mp (I.jx b hb) with e | hb
 ·rw[e];exact I.free
 ·obtain⟨_,o,ho,_⟩:=I.ok.kY.mem hb
  exact I.base.free b o ho (I.ok.GG b hb) λz=>I.ok.Ca b z hb
theorem Inv.step{g':Array GenState}{t':Nat}{d':Drawn}{ch:List aae}(I:Inv X pins σ H s)
  (hch:∀b∈ch,(b∈X.ex\/X.s₀.heap.objs.size<=b)/\b≠X.env.locals/\(∀x c,X.env.cells.lookup x=some c->c≠b)/\∀p∈X.pn++pins,p.1≠b)
  (keep:∀b o,b≠X.env.locals->b∉X.fs->b∉ch->s.heap.get? b=some o->H b=none->h'.get? b=some o)
  (slot:∀b o,b≠X.env.locals->b∈X.fs->b∉ch->s.heap.get? b=some o->H b=none->∃sl,h'.get? b=some { o with slots:=sl })(free:∀b o,b∉ch->s.heap.get? b=some o->H b=none->H' b=none)
  (there:∀b o,b∉ch->s.heap.get? b=some o->∃o',h'.get? b=some o')
  (tups:∀b xs,H b=some (.tup xs)->H' b=some (.tup xs))(jo:∀b o u,H b=some (.fb o u)->H' b=some (.fb o u))(kF:∀b ps,H b=some (.jr ps)->∃more,H' b=some (.jr (ps++more)))
  (ns:∀m,s.heap.Ns X.env.locals m->h'.Ns X.env.locals m)(hok:jh X.prog X.w H' h')(hg:AllBare g') :
  Inv X pins σ H' { s with heap:=h',gens:=g',drawn:=d',toks:=t' }:=by
 have Wa:∀b o,X.s₀.heap.get? b=some o->b≠X.env.locals:=λb o e=>a_ (bN (aE e) I.ok.above)
 have RF:∀b o,X.s₀.heap.get? b=some o->b∉X.ex->b∉ch:=λb o e hx hb=>by
  rcases(hch b hb).1 with z | z
  ·exact hx z
  ·exact absurd (bN (aE e) z) (eK _)
 have cellK:∀x c,X.env.cells.lookup x=some c->∀v,s.heap.IsCell c v->h'.IsCell c v:=λx c e v ⟨o,ho,hd⟩=>by
  have KS:c∉ch:=λz=>(hch c z).2.2.1 x c e rfl
  by_cases hc:c∈X.fs
  ·obtain⟨sl,q⟩:=slot c o (I.GH x c e) hc KS ho (I.hR x c e)
   exact⟨_,q,hd⟩
  ·exact⟨o,keep c o (I.GH x c e) hc KS ho (I.hR x c e),hd⟩
 refine⟨I.ok,I.os,hg,⟨λb o e n hb hx=>?_,λb o e n hb hx=>?_,λb o e n hx=>?_,λb o e hx=>?_,λb xs e=>tups b xs (I.base.tups b xs e),λb o xs e=>jo b o xs (I.base.jo b o xs e),λb ps e=>?_⟩,?_,λx c e=>?_,?_,λx c e=>?_,λp hp=>?_,hok,I.len⟩
 ·exact keep b o (Wa b o e) hb (RF b o e hx) (I.base.keep b o e n hb hx) (I.base.free b o e n hx)
 ·obtain⟨sl,e1⟩:=I.base.slot b o e n hb hx
  obtain⟨Xm,e2⟩:=slot b _ (Wa b o e) hb (RF b o e hx) e1 (I.base.free b o e n hx)
  exact⟨Xm,e2⟩
 ·obtain⟨o',e1⟩:=I.base.there b o e hx
  exact free b o' (RF b o e hx) e1 (I.base.free b o e n hx)
 ·obtain⟨o',e1⟩:=I.base.there b o e hx
  exact there b o' (RF b o e hx) e1
 ·obtain⟨m1,e1⟩:=I.base.kF b ps e
  obtain⟨m2,e2⟩:=kF b _ e1
  exact⟨m1++m2,by rw[e2,Array.append_assoc]⟩
 ·obtain⟨m,hn,hl⟩:=I.loc
  refine⟨m,ns m hn,λi x v e1 e2 e3=>?_⟩
  obtain⟨u,r,l⟩:=hl i x v e1 e2 e3
  refine⟨u,r,?_⟩
  rcases l with l | ⟨k,c,e,z⟩
  ·exact .inl l
  ·exact .inr ⟨k,c,e,cellK x c e _ z⟩
 ·obtain⟨v,z⟩:=I.cell x c e
  exact⟨v,cellK x c e v z⟩
 ·obtain⟨m,⟨o,_,_,ho,_⟩,_⟩:=I.loc
  exact free _ o (λz=>(hch _ z).2.1 rfl) ho I.free
 ·obtain⟨v,o,ho,hd⟩:=I.cell x c e
  exact free c o (λz=>(hch c z).2.2.1 x c e rfl) ho (I.hR x c e)
 ·obtain⟨e,n,ne,nf,d⟩:=I.pin p hp
  have KS:p.1∉ch:=λz=>(hch p.1 z).2.2.2 p hp rfl
  exact⟨keep p.1 p.2 ne nf KS e n,free p.1 p.2 KS e n,ne,nf,d⟩
theorem Inv.un{t':Nat}(I:Inv X pins σ H s)(u:Un X.fs [] H H' s.heap h')(hok:jh X.prog X.w H' h'):Inv X pins σ H' { s with heap:=h',toks:=t' }:=by
 obtain⟨m,⟨o,es,ep,ho,r⟩,_⟩:=id I.loc
 obtain⟨sl,hL⟩:=u.any ho I.free (by simp)
 exact I.step (g':=s.gens) (d':=s.drawn) (ch:=[]) (λ_ z=>nomatch z) (λb o _ hb _ e n=>u.keep b o e n hb (by simp)) (λb o _ hb _ e n=>u.slot b o e n hb (by simp)) (λb o _ e n=>u.free b o e n (by simp)) (λb o _ e=>u.there b o e (by simp)) u.tups u.jo u.kF (λm' hm=>by
  obtain⟨o',es',SY,ho',r'⟩:=hm
  rw[ho] at ho';cases ho'
  exact⟨_,es',SY,hL,r'⟩) hok I.bare
theorem Inv.call{g':Array GenState}{t':Nat}{d':Drawn}{ch:List aae}(I:Inv X pins σ H s)(u:Un (frs X.stack) ch H H' s.heap h')(hok:jh X.prog X.w H' h')(hg:AllBare g')
  (hch:∀b∈ch,(b∈X.ex\/X.s₀.heap.objs.size<=b)/\b≠X.env.locals/\(∀x c,X.env.cells.lookup x=some c->c≠b)/\∀p∈X.pn++pins,p.1≠b) :
  Inv X pins σ H' { s with heap:=h',gens:=g',drawn:=d',toks:=t' }:=by
 obtain⟨m,⟨o,es,ep,ho,r⟩,_⟩:=id I.loc
 obtain⟨sl,hL⟩:=u.any ho I.free λz=>(hch _ z).2.1 rfl
 exact I.step (ch:=ch) hch (λb o hL hb hc e n=>u.keep b o e n (λz=>(List.mem_cons.mp (I.jx b z)).elim hL hb) hc) (λb o _ _ hc e n=>u.any e n hc) (λb o hc e n=>u.free b o e n hc) (λb o hc e=>u.there b o e hc) u.tups u.jo u.kF (λm' hm=>by
  obtain⟨o',es',SY,ho',r'⟩:=hm
  rw[ho] at ho';cases ho'
  exact⟨_,es',SY,hL,r'⟩) hok hg
theorem Inv.turned{t':Nat}{it:aae}(I:Inv X pins σ H s)(k:∀b o,b≠it->s.heap.get? b=some o->h'.get? b=some o)(hn:H it=none)(hL:it≠X.env.locals)
  (h1:it∈X.ex\/X.s₀.heap.objs.size<=it)(h2:∀x c,X.env.cells.lookup x=some c->c≠it)(h3:∀p∈X.pn++pins,p.1≠it):Inv X pins σ H { s with heap:=h',toks:=t' }:=by
 have Wb:∀b u,H b=some u->b≠it:=λb u e z=>by rw[z,hn] at e;cases e
 refine I.step (g':=s.gens) (d':=s.drawn) (ch:=[it]) (λb hb=>?_) (λb o _ _ hc e _=>k b o (λz=>hc (by simp[z])) e) (λb o _ _ hc e _=>⟨o.slots,k b o (λz=>hc (by simp[z])) e⟩) (λ_ _ _ _ n=>n)
  (λb o hc e=>⟨o,k b o (λz=>hc (by simp[z])) e⟩) (λ_ _ e=>e) (λ_ _ _ e=>e) (λb ps e=>⟨#[],by rw[e];simp⟩) (λm hm=>?_) (λb u e=>?_) I.bare
 ·have e:b=it:=by simpa using hb
  subst e
  exact⟨h1,hL,h2,h3⟩
 ·obtain⟨o,es,ep,ho,r⟩:=hm
  exact⟨o,es,ep,k _ o (aW hL) ho,r⟩
 ·refine(I.hok b u e).stay (λc v hc q=>k c v ?_ q) (λ_ q=>q) λ_ _ q=>q
  rcases hc with z | z
  ·rw[z];exact Wb b u e
  ·exact Wb c _ z
theorem Inv.tok(I:Inv X pins σ H s)(t:Nat):Inv X pins σ H { s with toks:=t }:=I.un (h':=s.heap) (t':=t) Un.refl I.hok
theorem Inv.kept{t':Nat}(I:Inv X pins σ H s)(k:∀b u,s.heap.get? b=some u->h'.get? b=some u):Inv X pins σ H { s with heap:=h',toks:=t' }:=I.un (Un.kept k) (I.hok.kept k)
theorem Inv.laid{a:aae}{o:HO}{t':Nat}(I:Inv X pins σ H s)(k:∀b u,s.heap.get? b=some u->h'.get? b=some u)(hp:s.heap.objs.size<=a)(new:c9 X.prog X.w (upd H a o) h' a o) :
  Inv X pins σ (upd H a o) { s with heap:=h',toks:=t' }:=I.un (Un.laid k hp (I.hok.fresh hp)) (I.hok.laid k hp new)
theorem Inv.write{x e:aae}{o:HO}{t':Nat}(I:Inv X pins σ H s)(mu:OM (H x))(he:e=x\/H e=some (.own x))(k:∀b u,b≠e->s.heap.get? b=some u->h'.get? b=some u)(Oo:∃u,h'.get? e=some u)
  (new:c9 X.prog X.w (upd H x o) h' x o):Inv X pins σ (upd H x o) { s with heap:=h',toks:=t' }:=I.un (Un.write mu he k Oo) (I.hok.write mu he k Oo new)
theorem Inv.yx{iE:List (aae×Obj)}(I:Inv X pins σ H s)(h:∀p∈iE,s.heap.get? p.1=some p.2/\H p.1=none/\p.1≠X.env.locals/\p.1∉X.fs/\∀v,p.2.data≠.cell v):Inv X iE σ H s :=
 ⟨I.ok,I.os,I.bare,I.base,I.loc,I.cell,I.free,I.hR,λp hp=>(List.mem_append.mp hp).elim (λz=>I.pin p (sL _ z)) (h p),I.hok,I.len⟩
theorem oW{N:List Str}(hN:N.Nodup){i j:Nat}{x:Str}(a:N[i]? =some x)(b:N[j]? =some x):i=j:=by
 obtain⟨h1,e1⟩:=List.getElem?_eq_some_iff.mp a
 obtain⟨h2,e2⟩:=List.getElem?_eq_some_iff.mp b
 exact(List.getElem_inj hN).mp (e1.trans e2.symm)
theorem mM{M:Model}{A:aaf}{E:aak->aaj->Prop}{i:Nat}{x:Str}{v:V}{u:aak}{Q:Unit->aaj->Prop}(I:Inv X pins σ H s)(hN:X.N.Nodup)(hi:X.N[i]? =some x)(hx:Loc X.env.scope x)(r:RelV v u)
  (h:∀s',Inv X pins (σ.set i (some v)) H s'->(∃a,oX a s.heap s'.heap/\(a=X.env.locals\/X.env.cells.lookup x=some a))->Q () s')(hf:X.fn x=true\/X.env.scope.names.lookup x=some .local:=by first | exact .inl rfl | exact .inr rfl | assumption):aax M A (storeName X.env x u) Q E s:=by
 obtain⟨m,hn,hl⟩:=id I.loc
 have hcls:(X.env.scope.kind == .class||(X.env.scope.kind == .module&&X.env.locals != X.env.globals))=false:=by rw[I.ok.kind];rfl
 have OP:i < σ.length:=by rw[I.len];exact(List.getElem?_eq_some_iff.mp hi).1
 have GH:=I.GH
 have tracked:∀{a:aae}{h':Heap},(∃o,s.heap.get? a=some o/\H a=none)->oX a s.heap h'->jh X.prog X.w H h':=λ{a h'} ha hs b ob e=>by
  obtain⟨_,_,hfree⟩:=ha
  refine(I.hok b ob e).stay (λc w' hc q=>(hs.2 c ?_).trans q) (λ_ q=>q) λ_ _ q=>q
  rintro rfl
  rcases hc with rfl | hc
  ·rw[hfree] at e;cases e
  ·rw[hfree] at hc;cases hc
 rcases hx with hk | hk
 ·refine wpAny_storeName_local hk hn (λh' hn' hs=>?_) hcls
  obtain⟨oL,_,_,Wc,_⟩:=id hn
  refine h _ ⟨I.ok,I.os,I.bare,⟨λb o e n hb hx=>?_,λb o e n hb hx=>?_,I.base.free,λb o e hx=>?_,I.base.tups,I.base.jo,I.base.kF⟩,⟨_,hn',λj y v' e1 e2 e3=>?_⟩,λy c e=>?_,I.free,I.hR,λp hp=>?_,tracked ⟨oL,Wc,I.free⟩ hs,by simpa using I.len⟩ ⟨_,hs,.inl rfl⟩
  ·exact(hs.2 b (a_ (bN (aE e) I.ok.above))).trans (I.base.keep b o e n hb hx)
  ·obtain⟨sl,e1⟩:=I.base.slot b o e n hb hx
   exact⟨sl,(hs.2 b (a_ (bN (aE e) I.ok.above))).trans e1⟩
  ·obtain⟨o',e1⟩:=I.base.there b o e hx
   exact⟨o',(hs.2 b (a_ (bN (aE e) I.ok.above))).trans e1⟩
  ·by_cases hj:j=i
   ·subst hj
    rw[hi] at e1;cases e1
    rw[kZ OP] at e2
    cases e2
    exact⟨u,r,.inl ⟨hk,by simp⟩⟩
   ·rw[bE (aW hj)] at e2
    obtain⟨u',r',q⟩:=hl j y v' e1 e2 e3
    refine⟨u',r',?_⟩
    rcases q with ⟨k,e⟩ | ⟨k,c,e,z⟩
    ·refine .inl ⟨k,?_⟩
     have:y≠x:=λe=>hj (oW hN e1 (e ▸ hi))
     simp[this,e]
    ·exact .inr ⟨k,c,e,z.sameBut hs (GH y c e)⟩
  ·obtain⟨w',z⟩:=I.cell y c e
   exact⟨w',z.sameBut hs (GH y c e)⟩
  ·obtain⟨e,n,ne,nf,d⟩:=I.pin p hp
   exact⟨(hs.2 p.1 ne).trans e,n,ne,nf,d⟩
 ·have hfn:X.fn x=true:=by
   rcases hf with z | z
   ·exact z
   ·rw[z] at hk;cases hk
  obtain⟨c,hc⟩:=I.ok.has x (.inl hk)
  obtain⟨w',z⟩:=I.cell x c hc
  refine wpAny_storeName_cell I.ok.kind hk hc z (λh' hc' hs=>?_)
  obtain⟨oc,hoc,S8⟩:=id z
  refine h { s with heap:=h' } ⟨I.ok,I.os,I.bare,⟨λb o e n hb hx=>?_,λb o e n hb hx=>?_,I.base.free,λb o e hx=>?_,I.base.tups,I.base.jo,I.base.kF⟩,⟨m,hn.sameBut hs (aW (GH x c hc)),λj y v' e1 e2 e3=>?_⟩,λy c' e=>?_,I.free,I.hR,λp hp=>?_,tracked ⟨oc,hoc,I.hR x c hc⟩ hs,by simpa using I.len⟩ ⟨c,hs,.inr hc⟩
  ·exact(hs.2 b (a_ (bN (aE e) (I.ok.Oq x c hfn hc)))).trans (I.base.keep b o e n hb hx)
  ·obtain⟨sl,e1⟩:=I.base.slot b o e n hb hx
   exact⟨sl,(hs.2 b (a_ (bN (aE e) (I.ok.Oq x c hfn hc)))).trans e1⟩
  ·obtain⟨o',e1⟩:=I.base.there b o e hx
   exact⟨o',(hs.2 b (a_ (bN (aE e) (I.ok.Oq x c hfn hc)))).trans e1⟩
  ·by_cases hj:j=i
   ·subst hj
    rw[hi] at e1;cases e1
    rw[kZ OP] at e2
    cases e2
    exact⟨u,r,.inr ⟨.inl hk,c,hc,hc'⟩⟩
   ·rw[bE (aW hj)] at e2
    obtain⟨u',r',q⟩:=hl j y v' e1 e2 e3
    refine⟨u',r',?_⟩
    rcases q with q | ⟨k,c',e,z'⟩
    ·exact .inl q
    ·refine .inr ⟨k,c',e,z'.sameBut hs ?_⟩
     rintro rfl
     exact hj (oW hN e1 (I.ok.inj _ _ _ e hc ▸ hi))
  ·by_cases hcc:c'=c
   ·subst hcc;exact⟨_,hc'⟩
   ·obtain⟨w2,z2⟩:=I.cell y c' e
    exact⟨w2,z2.sameBut hs hcc⟩
  ·obtain⟨e,n,ne,nf,d⟩:=I.pin p hp
   refine⟨(hs.2 p.1 ?_).trans e,n,ne,nf,d⟩
   intro q
   rw[q,hoc] at e
   have q':oc=p.2:=Option.some.inj e
   exact d w' (by rw[<-q'];exact S8)
theorem lL{M:Model}{A:aaf}{E:aak->aaj->Prop}{i:Nat}{x:Str}{v:V}{u:aak}{Q:Unit->aaj->Prop}(I:Inv X pins σ H s)(hN:X.N.Nodup)(hi:X.N[i]? =some x)(hx:Loc X.env.scope x)(r:RelV v u)
  (h:∀s',Inv X pins (σ.set i (some v)) H s'->Q () s')(hf:X.fn x=true\/X.env.scope.names.lookup x=some .local:=by first | exact .inl rfl | exact .inr rfl | assumption):aax M A (storeName X.env x u) Q E s :=
 mM I hN hi hx r (λs' I' _=>h s' I') hf
theorem Inv.rl{s':aaj}{ch:List aae}(I:Inv X pins σ H s)(ho:s'.os=s.os)(u:Un (frs X.stack) ch H H' s.heap s'.heap)(hok:jh X.prog X.w H' s'.heap)(hg:AllBare s'.gens)
  (hch:∀b∈ch,(b∈X.ex\/X.s₀.heap.objs.size<=b)/\b≠X.env.locals/\(∀x c,X.env.cells.lookup x=some c->c≠b)/\∀p∈X.pn++pins,p.1≠b):Inv X pins σ H' s':=by
 obtain⟨h',g',d',t',o'⟩:=s'
 have e:o'=s.os:=ho
 subst e
 exact I.call (g':=g') (t':=t') (d':=d') u hok hg hch
end
abbrev XK:=aak->Option aae->Hp->Prop
abbrev St:=List (Option V)
abbrev VK:=V->Hp->Prop
abbrev TE:=St->Hp->VK->Prop
abbrev TT:=St->Hp->(Bool->Hp->Prop)->Prop
abbrev TA:=St->Hp->(List V->Hp->Prop)->Prop
structure Ends where
 nx:St->Hp->Prop
 rt:VK
 bk:St->Hp->Prop:=λ_ _=>False
 ct:St->Hp->Prop:=λ_ _=>False
abbrev TS:=Ends->St->Hp->Prop
def EP(X:Cx)(pins:List (aae×Obj))(σ:St)(Q:VK)(u:aak)(s':aaj):Prop:=∃v H',Inv X pins σ H' s'/\RelV v u/\Q v H'
def TP(X:Cx)(pins:List (aae×Obj))(σ:St)(Q:Bool->Hp->Prop)(b:Bool)(s':aaj):Prop:=∃H',Inv X pins σ H' s'/\Q b H'
def AP(X:Cx)(pins:List (aae×Obj))(σ:St)(Q:List V->Hp->Prop)(us:List aak)(s':aaj):Prop:=∃vs H',Inv X pins σ H' s'/\Vals vs us/\Q vs H'
def SP(X:Cx)(pins:List (aae×Obj))(D:Ends)(f:Flow)(s':aaj):Prop :=
 match f with
 | .next=>∃σ' H',Inv X pins σ' H' s'/\D.nx σ' H'
 | .brk=>∃σ' H',Inv X pins σ' H' s'/\D.bk σ' H'
 | .cont=>∃σ' H',Inv X pins σ' H' s'/\D.ct σ' H'
 | .ret u=>∃v σ' H',Inv X pins σ' H' s'/\RelV v u/\D.rt v H'
def PE(X:Cx)(e:Expr)(t:TE):Prop :=
 ∀(pins:List (aae×Obj))(s:aaj)(σ:St)(H:Hp)(Q:VK),Inv X pins σ H s->t σ H Q->aax (model X.prog X.w) X.A (eval e X.env) (EP X pins σ Q) X.xe s
def PT(X:Cx)(e:Expr)(t:TT):Prop :=
 ∀(pins:List (aae×Obj))(s:aaj)(σ:St)(H:Hp)(Q:Bool->Hp->Prop),Inv X pins σ H s->t σ H Q->aax (model X.prog X.w) X.A (isTrue e X.env (eval e X.env)) (TP X pins σ Q) X.xe s
def PW(X:Cx)(e:Expr)(t:TT):Prop :=
 ∀(whole:Sem aak)(pins:List (aae×Obj))(s:aaj)(σ:St)(H:Hp)(Q:Bool->Hp->Prop),Inv X pins σ H s->t σ H Q->aax (model X.prog X.w) X.A (isTrue e X.env whole) (TP X pins σ Q) X.xe s
def PA(X:Cx)(es:List Expr)(t:TA):Prop :=
 ∀(pos:Pos)(pins:List (aae×Obj))(s:aaj)(σ:St)(H:Hp)(Q:List V->Hp->Prop),Inv X pins σ H s->t σ H Q->aax (model X.prog X.w) X.A (spliced (backTo pos (aaw es X.env))) (AP X pins σ Q) X.xe s
def PS(X:Cx)(st:Stmt)(t:TS):Prop :=
 ∀(pins:List (aae×Obj))(s:aaj)(σ:St)(H:Hp)(D:Ends),Inv X pins σ H s->t D σ H->aax (model X.prog X.w) X.A (exec st X.env) (SP X pins D) X.xe s
def Cb(X:Cx)(st:List Stmt)(t:TS):Prop :=
 ∀(pins:List (aae×Obj))(s:aaj)(σ:St)(H:Hp)(D:Ends),Inv X pins σ H s->t D σ H->aax (model X.prog X.w) X.A (execs st X.env) (SP X pins D) X.xe s
theorem bx{α:Type}{t:Sem α}{Q Q':α->aaj->Prop}{M:Model}{A:aaf}{E:aak->aaj->Prop}{s:aaj}(h:aax M A t Q E s)(hQ:∀a s,Q a s->Q' a s):aax M A t Q' E s:=aaB h hQ λ_ _ x=>x
section
variable {X:Cx}
def S_(i:Nat):TE:=λσ H Q=>∃v,σ[i]? =some (some v)/\Q v H
def tC(v:V):TE:=λ_ H Q=>Q v H
theorem KU{i:Nat}{x:Str}{pos:Pos}(hN:X.N[i]? =some x)(hv:SU X.env.scope x)(hd:(x == ("__debug__":Str))=false:=by decide)(hcd:(x == ("__classdict__":Str))=false:=by decide):PE X (.Name x pos) (S_ i):=by
 intro pins s σ H Q I h
 obtain⟨v,e,h⟩:=h
 obtain⟨m,hn,hl⟩:=I.loc
 obtain⟨u,r,l⟩:=hl i x v hN e hv
 have fin:EP X pins σ Q u s:=⟨v,H,I,r,h⟩
 rcases l with ⟨hk,hm⟩ | ⟨hk,c,hc,hcell⟩
 ·exact wpAny_Name (wpAny_loadName_local I.ok.kind hk hn hm fin) hd
 ·rcases hk with hk | hk
  ·exact wpAny_Name (wpAny_loadName_cell I.ok.kind hk hc hcell fin) hd
  ·exact wpAny_Name (wpAny_loadName_free I.ok.kind hk hc hcell fin hcd) hd
theorem KW{i j pos}:PE X (.Constant (.int i) j pos) (tC (.int i)):=λ_ _ _ H _ I h=>wpAny_Constant_int ⟨.int i,H,I.tok _,⟨_,rfl⟩,h⟩
theorem OQ{b j pos}:PE X (.Constant (.bool b) j pos) (tC (.bl b)):=λ_ _ _ H _ I h=>Constant_bool ⟨.bl b,H,I,rfl,h⟩
theorem KY{j pos}:PE X (.Constant .none j pos) (tC .aL):=λ_ _ _ H _ I h=>Constant_none ⟨.aL,H,I,rfl,h⟩
theorem KZ{x j pos}:PE X (.Constant (.str x) j pos) (tC (.str x)):=λ_ _ _ H _ I h=>Calls.Constant_str ⟨.str x,H,I.tok _,⟨_,rfl⟩,h⟩
def Gl(X:Cx)(x:Str):Prop:=X.env.kindOf x=some .globalImplicit
theorem lM{E:aak->aaj->Prop}{pins:List (aae×Obj)}{s:aaj}{σ:St}{H:Hp}{x:Str}{u:aak}{pos:Pos}{Q:aak->aaj->Prop}(I:Inv X pins σ H s)(hg:Gl X x)(hm:X.mg x=some u)(h:Q u s)
  (hd:(x == ("__debug__":Str))=false:=by decide):aax (model X.prog X.w) X.A (eval (.Name x pos) X.env) Q E s :=
 K8 I.ok.kind hg (Calls.loadGlobal_global (by rw[I.ok.glob];exact I.mod.glob.keeps I.bk) hm h) hd
theorem mO{E:aak->aaj->Prop}{pins:List (aae×Obj)}{s:aaj}{σ:St}{H:Hp}{x:Str}{u:aak}{pos:Pos}{Q:aak->aaj->Prop}(I:Inv X pins σ H s)(hg:Gl X x)(hm:X.mg x=none)(hv:aao x=some u)(h:Q u s)
  (hn:x≠"__name__":=by decide)(hd:(x == ("__debug__":Str))=false:=by decide):aax (model X.prog X.w) X.A (eval (.Name x pos) X.env) Q E s:=by
 obtain⟨mb,h1,h2⟩:=I.mod.blt
 exact K8 I.ok.kind hg (Calls.loadGlobal_builtin (by rw[I.ok.glob];exact I.mod.glob.keeps I.bk) hm (by rw[I.ok.blt];exact h1.keeps I.bk) ((h2 x hn).trans hv) h) hd
theorem gq{x:Str}{v:V}{u:aak}{pos:Pos}(hg:Gl X x)(hm:X.mg x=some u)(r:RelV v u)(hd:(x == ("__debug__":Str))=false:=by decide):PE X (.Name x pos) (tC v) :=
 λ_ _ _ H _ I h=>lM I hg hm ⟨v,H,I,r,h⟩ hd
theorem GJ{x:Str}{v:V}{u:aak}{pos:Pos}(hg:Gl X x)(hm:X.mg x=none)(hv:aao x=some u)(r:RelV v u)(hn:x≠"__name__":=by decide)(hd:(x == ("__debug__":Str))=false:=by decide):PE X (.Name x pos) (tC v) :=
 λ_ _ _ H _ I h=>mO I hg hm hv ⟨v,H,I,r,h⟩ hn hd
variable {a b:Expr} {ta tb:TE} {pos:Pos}
def PC(X:Cx)(op:CmpOp)(a b:Expr)(t:TE):Prop :=
 ∀(pins:List (aae×Obj))(s:aaj)(σ:St)(H:Hp)(Q:VK),Inv X pins σ H s->t σ H Q->
  aax (model X.prog X.w) X.A (eval a X.env) (λv s₁=>aax (model X.prog X.w) X.A (eval b X.env) (λu s₂=>aax (model X.prog X.w) X.A (aar op v u) (EP X pins σ Q) X.xe s₂) X.xe s₁) X.xe s
def tB(t:TE):TT:=λσ H Q=>t σ H λx H1=>∃c,x= .bl c/\Q c H1
theorem Cc{op:CmpOp}{t:TE}(h:PC X op a b t)(h1:aam op b=false:=by first | exact Cd _ (by decide) (by decide) | rfl):PE X (.Compare a [op] [b] pos) t:=λpins s σ H Q I hw=>wpAny_Compare1 (h pins s σ H Q I hw) h1
theorem Ce{op:CmpOp}{t:TE}(h:PC X op a b t)(h1:aam op b=false:=by first | exact Cd _ (by decide) (by decide) | rfl):PT X (.Compare a [op] [b] pos) (tB t):=by
 intro pins s σ H Q I hw
 refine wpAny_isTrue_Compare1 (bx (h pins s σ H _ I hw) λv s1 h1=>bx h1 λu s2 h2=>bx h2 λc s3 ⟨x,H1,I1,r1,q1⟩=>?_) h1
 obtain⟨d,rfl,q⟩:=q1
 cases r1
 exact aaF ⟨H1,I1,q⟩
variable {tA RG:TT} {rest:List Expr}
def Tf(t u:TT):TT:=λσ H Q=>t σ H λc H1=>if c=true then u σ H1 Q else Q false H1
def Xn(t u:TT):TT:=λσ H Q=>t σ H λc H1=>if c=true then Q true H1 else u σ H1 Q
def Th(t:TT):TT:=λσ H Q=>t σ H λc H1=>Q (!c) H1
theorem GK(ha:PT X a tA):PW X (.BoolOp .And [a] pos) tA:=by
 intro wh pins s σ H Q I h
 refine isTrue_and (bx (ha pins s σ H Q I h) λc s1 e=>?_)
 cases c with
 | true=>exact isTrue_and_nil e
 | false=>exact e
theorem K9(ha:PT X a tA):PW X (.BoolOp .Or [a] pos) tA:=by
 intro wh pins s σ H Q I h
 refine isTrue_or (bx (ha pins s σ H Q I h) λc s1 e=>?_)
 cases c with
 | false=>exact isTrue_or_nil e
 | true=>exact e
theorem K_(ha:PT X a tA)(hb:PW X (.BoolOp .And (b::rest) pos) RG):PW X (.BoolOp .And (a::b::rest) pos) (Tf tA RG):=by
 intro wh pins s σ H Q I h
 refine isTrue_and (bx (ha pins s σ H _ I h) λc s1 ⟨H1,I1,q1⟩=>?_)
 cases c with
 | true=>exact hb wh pins s1 σ H1 Q I1 q1
 | false=>exact⟨H1,I1,q1⟩
theorem OR(ha:PT X a tA)(hb:PW X (.BoolOp .Or (b::rest) pos) RG):PW X (.BoolOp .Or (a::b::rest) pos) (Xn tA RG):=by
 intro wh pins s σ H Q I h
 refine isTrue_or (bx (ha pins s σ H _ I h) λc s1 ⟨H1,I1,q1⟩=>?_)
 cases c with
 | true=>exact⟨H1,I1,q1⟩
 | false=>exact hb wh pins s1 σ H1 Q I1 q1
theorem K'(ha:PT X a tA):PT X (.UnaryOp .Not a pos) (Th tA):=by
 intro pins s σ H Q I h
 exact isTrue_not (ha pins s σ H (λc H1=>Q (!c) H1) I h)
def OS(ta tb:TE):TE:=λσ H Q=>ta σ H λx H1=>∃c,x= .bl c/\if c=true then tb σ H1 Q else Q (.bl false) H1
def Ti(ta tb:TE):TE:=λσ H Q=>ta σ H λx H1=>∃c,x= .bl c/\if c=true then Q (.bl true) H1 else tb σ H1 Q
def OT(ta:TE):TE:=λσ H Q=>ta σ H λx H1=>∃c,x= .bl c/\Q (.bl (!c)) H1
theorem La{op}{t:TE}(h:PE X a t):PE X (.BoolOp op [a] pos) t:=λpins s σ H Q I hw=>BoolOp_one (h pins s σ H Q I hw)
theorem Lb(ha:PE X a ta)(hb:PE X (.BoolOp .And (b::rest) pos) tb):PE X (.BoolOp .And (a::b::rest) pos) (OS ta tb):=by
 intro pins s σ H Q I h
 refine BoolOp_and (bx (ha pins s σ H _ I h) λv s1 ⟨x,H1,I1,r1,q1⟩=>?_)
 obtain⟨c,rfl,q1⟩:=q1
 cases r1
 refine aaF ?_
 cases c with
 | true=>exact hb pins s1 σ H1 Q I1 q1
 | false=>exact⟨.bl false,H1,I1,rfl,q1⟩
theorem OU(ha:PE X a ta)(hb:PE X (.BoolOp .Or (b::rest) pos) tb):PE X (.BoolOp .Or (a::b::rest) pos) (Ti ta tb):=by
 intro pins s σ H Q I h
 refine BoolOp_or (bx (ha pins s σ H _ I h) λv s1 ⟨x,H1,I1,r1,q1⟩=>?_)
 obtain⟨c,rfl,q1⟩:=q1
 cases r1
 refine aaF ?_
 cases c with
 | false=>exact hb pins s1 σ H1 Q I1 q1
 | true=>exact⟨.bl true,H1,I1,rfl,q1⟩
theorem Lc(ha:PE X a ta):PE X (.UnaryOp .Not a pos) (OT ta):=by
 intro pins s σ H Q I h
 refine UnaryOp_ (bx (ha pins s σ H _ I h) λv s1 ⟨x,H1,I1,r1,q1⟩=>?_)
 obtain⟨c,rfl,q1⟩:=q1
 cases r1
 exact not_of (aaF ⟨.bl (!c),H1,I1,rfl,q1⟩)
def Xo(t:TT)(ta tb:TE):TE:=λσ H Q=>t σ H λc H1=>if c=true then ta σ H1 Q else tb σ H1 Q
theorem Cf{c:Expr}(hc:PT X c tA)(ha:PE X a ta)(hb:PE X b tb):PE X (.IfExp c a b pos) (Xo tA ta tb):=by
 intro pins s σ H Q I h
 refine wpAny_IfExp (bx (hc pins s σ H _ I h) λd s1 ⟨H1,I1,q1⟩=>?_)
 cases d with
 | true=>exact ha pins s1 σ H1 Q I1 q1
 | false=>exact hb pins s1 σ H1 Q I1 q1
end
def jq(K:PySem.W.Frag)(H:Hp)(a:aae)(xs:List V):Prop :=
 Rd H a (.lst xs)\/
  ∃(o:Obj)(its:Array aak)(n:Nat),K.lookup a=some o/\o.cls= .type "list"/\o.dict=none/\o.data= .seq its n/\its.size<=aav/\Vals xs its.toList
def fm(K:PySem.W.Frag)(H:Hp)(a:aae)(xs:List V):Prop :=
 Rd H a (.tup xs)\/
  ∃(o:Obj)(its:Array aak)(n:Nat),K.lookup a=some o/\o.cls= .type "tuple"/\o.data= .seq its n/\its.size<=aav/\Vals xs its.toList
def Tj:aak->Option V
 | .none=>some .aL
 | .bool b=>some (.bl b)
 | .int i _=>some (.int i)
 | .str x _=>some (.str x)
 | .bytes b _=>some (.Om b)
 | .float b _=>some (.JD b)
 | .ref a=>some (.ref a)
 | .type n=>some (.ty n)
 | _=>none
theorem RelV.abs{x:V}{u:aak}(r:RelV x u):Tj u=some x:=by
 cases x with
 | aL=>cases r;rfl
 | bl _=>cases r;rfl
 | int _=>obtain⟨t,rfl⟩:=r;rfl
 | str _=>obtain⟨t,rfl⟩:=r;rfl
 | Om _=>obtain⟨t,rfl⟩:=r;rfl
 | JD _=>obtain⟨t,rfl⟩:=r;rfl
 | ref _=>cases r;rfl
 | ty _=>cases r;rfl
theorem RelV.inj{x y:V}{u:aak}(r:RelV x u)(q:RelV y u):x=y:=Option.some.inj (r.abs.symm.trans q.abs)
theorem Vals.inj:∀{xs ys:List V}{us:List aak},Vals xs us->Vals ys us->xs=ys
 | _,_,_,.nil,.nil=>rfl
 | _,_,_,.cons r t,.cons r' t'=>by rw[r.inj r',Vals.inj t t']
section
variable {X:Cx} {pins:List (aae×Obj)} {σ:St} {H:Hp} {s:aaj} {a:aae} {xs ys:List V}
theorem jq.of{K:PySem.W.Frag}(h:H a=some (.lst xs)):jq K H a xs:=.inl (.inl h)
theorem fm.of{K:PySem.W.Frag}(h:H a=some (.tup xs)):fm K H a xs:=.inl (.inl h)
theorem Inv.list(I:Inv X pins σ H s)(h:jq X.K H a xs):∃its:List aak,Vals xs its/\PlainL s.heap a its.toArray/\xs.length<=aav:=by
 rcases h with h | ⟨o,its,n,hk,hc,hd,hs,hz,r⟩
 ·obtain⟨z,its,n,r,e⟩:=h.ok I.hok
  exact⟨its,r,⟨_,n,e,rfl,rfl,rfl⟩,z⟩
 ·refine⟨its.toList,r,⟨o,n,I.wV a o hk,hc,hd,by simpa using hs⟩,?_⟩
  have e:=r.length
  simp only[Cg] at e
  omega
theorem Inv.tuple(I:Inv X pins σ H s)(h:fm X.K H a xs):∃its:List aak,Vals xs its/\IsTup s.heap a its.toArray/\xs.length<=aav:=by
 rcases h with h | ⟨o,its,n,hk,hc,hs,hz,r⟩
 ·obtain⟨z,its,r,p,_⟩:=h.ok I.hok
  exact⟨its,r,p,z⟩
 ·refine⟨its.toList,r,⟨o,I.wV a o hk,hc,n,by simpa using hs⟩,?_⟩
  have e:=r.length
  simp only[Cg] at e
  omega
theorem Inv.uJ(I:Inv X pins σ H s)(h:jq X.K H a xs)(h':jq X.K H a ys):xs=ys:=by
 obtain⟨its,r,⟨o,n,e,_,_,d⟩,_⟩:=I.list h
 obtain⟨its',r',⟨o',n',e',_,_,d'⟩,_⟩:=I.list h'
 rw[e] at e';cases e'
 rw[d] at d'
 injection d' with d1 _
 have:its=its':=by simpa using congrArg Array.toList d1
 subst this
 exact r.inj r'
theorem Inv.Ak(I:Inv X pins σ H s)(h:fm X.K H a xs)(h':fm X.K H a ys):xs=ys:=by
 obtain⟨its,r,⟨o,e,_,n,d⟩,_⟩:=I.tuple h
 obtain⟨its',r',⟨o',e',_,n',d'⟩,_⟩:=I.tuple h'
 rw[e] at e';cases e'
 rw[d] at d'
 injection d' with d1 _
 have:its=its':=by simpa using congrArg Array.toList d1
 subst this
 exact r.inj r'
end
abbrev Cx.Tn(X:Cx)(E:aak->aaj->Prop):Cx:={ X with xe:=E }
abbrev Cx.ju(X:Cx):Cx:=X.Tn λ_ _=>False
section
variable {X:Cx} {pins:List (aae×Obj)} {σ:St} {H:Hp} {s:aaj} {E:aak->aaj->Prop}
end
section
variable {X:Cx} {st:Stmt} {rest:List Stmt} {t u:TS} {e:Expr} {te:TE} {pos:Pos}
def JF:TS:=λD σ H=>D.nx σ H
def To(t u:TS):TS:=λD σ H=>t { D with nx:=u D } σ H
theorem GL:Cb X [] JF:=λ_ _ σ H _ I h=>wpAny_execs_nil ⟨σ,H,I,h⟩
theorem Ci(h1:PS X st t)(h2:Cb X rest u):Cb X (st::rest) (To t u):=by
 intro pins s σ H D I h
 refine wpAny_execs_cons (bx (h1 pins s σ H { D with nx:=u D } I h) λf s1 q=>?_)
 cases f with
 | next=>
  obtain⟨σ',H',I',q⟩:=q
  exact h2 pins s1 σ' H' D I' q
 | ret v=>exact q
 | brk=>exact q
 | cont=>exact q
theorem GN(h1:PS X st t):Cb X [st] t:=by
 intro pins s σ H D I h
 refine wpAny_execs_cons (bx (h1 pins s σ H D I h) λf s1 q=>?_)
 cases f with
 | next=>exact wpAny_execs_nil q
 | ret v=>exact q
 | brk=>exact q
 | cont=>exact q
theorem GP:PS X (.Pass pos) JF:=λ_ _ σ H _ I h=>wpAny_Pass ⟨σ,H,I,h⟩
theorem Inv.quiet{pins:List (aae×Obj)}{σ:St}{H:Hp}{s:aaj}(I:Inv X pins σ H s):interactive X.env=false:=by simp[interactive,I.ok.kind]
def OV(te:TE):TS:=λD σ H=>te σ H λ_ H1=>D.nx σ H1
theorem GQ(he:PE X e te)(hs:swapsWith e none pos.line X.env=pure false:=by rfl):PS X (.Expr e pos) (OV te):=by
 intro pins s σ H D I h
 exact wpAny_Expr_any (bx (he pins s σ H _ I h) λv s1 ⟨x,H1,I1,r1,q1⟩=>⟨σ,H1,I1,q1⟩) I.quiet hs
def Tp(te:TE):TS:=λD σ H=>te σ H D.rt
theorem Ld(he:PE X e te):PS X (.Return (some e) pos) (Tp te):=by
 intro pins s σ H D I h
 exact wpAny_Return_some (bx (he pins s σ H _ I h) λv s1 ⟨x,H1,I1,r1,q1⟩=>⟨x,σ,H1,I1,r1,q1⟩)
def OW:TS:=λD _ H=>D.rt .aL H
theorem GR:PS X (.Return none pos) OW:=λ_ _ σ H _ I h=>wpAny_Return_none ⟨.aL,σ,H,I,rfl,h⟩
def Tq(c:TT)(t u:TS):TS:=λD σ H=>c σ H λb H1=>if b=true then t D σ H1 else u D σ H1
theorem OX{c:Expr}{a b:List Stmt}{tc:TT}(hc:PT X c tc)(ha:Cb X a t)(hb:Cb X b u):PS X (.If c a b pos) (Tq tc t u):=by
 intro pins s σ H D I h
 refine wpAny_If (bx (hc pins s σ H _ I h) λd s1 ⟨H1,I1,q1⟩=>?_)
 cases d with
 | true=>exact ha pins s1 σ H1 D I1 q1
 | false=>exact hb pins s1 σ H1 D I1 q1
def Cj:TS:=λ_ _ _=>False
theorem Ck:PS X st Cj:=λ_ _ _ _ _ _ h=>h.elim
theorem Al{sts:List Stmt}:Cb X sts Cj:=λ_ _ _ _ _ _ h=>h.elim
end
abbrev TG:=V->St->Hp->(St->Hp->Prop)->Prop
abbrev JG:=List V->St->Hp->(St->Hp->Prop)->Prop
def PG(X:Cx)(target:Expr)(t:TG):Prop :=
 ∀(pins:List (aae×Obj))(s:aaj)(σ:St)(H:Hp)(v:V)(u:aak)(Q:St->Hp->Prop),Inv X pins σ H s->RelV v u->t v σ H Q->
  aax (model X.prog X.w) X.A (assign target X.env u) (λ_ s'=>∃σ' H',Inv X pins σ' H' s'/\Q σ' H') X.xe s
def OY(X:Cx)(ts:List Expr)(t:JG):Prop :=
 ∀(pins:List (aae×Obj))(s:aaj)(σ:St)(H:Hp)(vs:List V)(us:List aak)(Q:St->Hp->Prop),Inv X pins σ H s->Vals vs us->t vs σ H Q->
  aax (model X.prog X.w) X.A (assignInOrder ((assignEach ts X.env).map (·.2)) us) (λ_ s'=>∃σ' H',Inv X pins σ' H' s'/\Q σ' H') X.xe s
abbrev Le:=V->V->V->Hp->(Hp->Prop)->Prop
def OZ(X:Cx)(t:Le):Prop :=
 ∀(pins:List (aae×Obj))(s:aaj)(σ:St)(H:Hp)(o i v:V)(ov iv u:aak)(Q:Hp->Prop),Inv X pins σ H s->RelV o ov->RelV i iv->RelV v u->t o i v H Q->
  aax (model X.prog X.w) X.A (setItem ov iv u) (λ_ s'=>∃H',Inv X pins σ H' s'/\Q H') X.xe s
section
variable {X:Cx} {pos:Pos}
def uK(i:Nat):TG:=λv σ H Q=>Q (σ.set i (some v)) H
theorem sM{i:Nat}{x:Str}(hN:X.N.Nodup)(hi:X.N[i]? =some x)(hx:Loc X.env.scope x)(hf:X.fn x=true\/X.env.scope.names.lookup x=some .local:=by first | exact .inl rfl | exact .inr rfl | assumption):PG X (.Name x pos) (uK i):=by
 intro pins s σ H v u Q I r h
 exact wpAny_assign_Name (lL I hN hi hx r (λs' I'=>⟨_,H,I',h⟩) hf)
def ao:JG:=λvs σ H Q=>vs=[]/\Q σ H
def ae(t:TG)(u:JG):JG:=λvs σ H Q=>∃v r,vs=v::r/\t v σ H λσ' H'=>u r σ' H' Q
theorem GU:OY X [] ao:=by
 intro pins s σ H vs us Q I r h
 obtain⟨e,h⟩:=h
 subst e
 cases r
 exact assignInOrder_nil ⟨σ,H,I,h⟩
theorem Cm{e:Expr}{es:List Expr}{t:TG}{u:JG}(h1:PG X e t)(h2:OY X es u)
  (hs:(assignEach (e::es) X.env).map (·.2)=assign e X.env::(assignEach es X.env).map (·.2):=by rfl):OY X (e::es) (ae t u):=by
 intro pins s σ H vs us Q I r h
 obtain⟨v,vr,e1,h⟩:=h
 subst e1
 cases r with
 | cons r rr=>
  rw[hs]
  refine assignInOrder_cons (bx (h1 pins s σ H _ _ _ I r h) λ_ s1 ⟨σ1,H1,I1,q1⟩=>?_)
  exact h2 pins s1 σ1 H1 _ _ Q I1 rr q1
def eJ(K:PySem.W.Frag)(n:Nat)(t:JG):TG:=λv σ H Q=>∃a xs,v= .ref a/\fm K H a xs/\xs.length=n/\t xs σ H Q
theorem sN{es:List Expr}{k:Nat}{t:JG}{n:Nat}(hc:X.calm=true)(h:OY X es t)
  (hn:(assignEach es X.env).length=n:=by rfl)(hst:(assignEach es X.env).findIdx? (·.1)=none:=by rfl):PG X (.Tuple es k pos) (eJ X.K n t):=by
 intro pins s σ H v u Q I r hw
 obtain⟨a,xs,e1,hq,hl,hw⟩:=hw
 subst e1
 cases r
 obtain⟨its,rv,ht,hz⟩:=I.tuple hq
 refine assign_Tuple_tuple (I.ok.hd hc) ht (by simp[hn,<-hl,rv.length]) hst λh' hx=>?_
 have I1:Inv X pins σ H { s with heap:=h' }:=I.kept (t':=s.toks) λb o e=>hx b o (a_ (aE e)) e
 exact h pins _ σ H xs _ Q I1 (by simpa using rv) hw
def Tr(to ti:TE)(t:Le):TG:=λv σ H Q=>to σ H λo H1=>ti σ H1 λi H2=>t o i v H2 λH3=>Q σ H3
theorem Lf{o i:Expr}{to ti:TE}{t:Le}(ho:PE X o to)(hi:PE X i ti)(hs:OZ X t)
  (ha:∀v,assign (.Subscript o i pos) X.env v=(do
   let ov <-holding [v] (eval o X.env)
   let iv <-holding [v,ov] (eval i X.env)
   standAt pos
   holding [v,ov,iv] (setItem ov iv v)
   release [v,ov,iv] []):=by intro _;rfl):PG X (.Subscript o i pos) (Tr to ti t):=by
 intro pins s σ H v u Q I r h
 rw[ha]
 refine aay (aaA (bx (ho pins s σ H _ I h) λov s1 ⟨x,H1,I1,r1,q1⟩=>?_))
 refine aay (aaA (bx (hi pins s1 σ H1 _ I1 q1) λiv s2 ⟨y,H2,I2,r2,q2⟩=>?_))
 refine aay (wpAny_standAt (aay (aaA (bx (hs pins s2 σ H2 x y v ov iv u _ I2 r1 r2 r q2) λ_ s3 ⟨H3,I3,q3⟩=>?_))))
 exact wpAny_release ⟨σ,H3,I3,q3⟩
def O0(te:TE)(g:TG):TS:=λD σ H=>te σ H λx H1=>g x σ H1 D.nx
theorem Cn{tg e:Expr}{te:TE}{g:TG}(he:PE X e te)(hg:PG X tg g)(hs:swapsWithSole [tg] e pos.line X.env=pure false:=by rfl)(hw:swappedStores [tg] e X.env=pure none:=by rfl)
  (h1:(assignEach [tg] X.env).map (·.2)=[assign tg X.env]:=by rfl):PS X (.Assign [tg] e pos) (O0 te g):=by
 intro pins s σ H D I h
 refine wpAny_Assign_stores (bx (he pins s σ H _ I h) λv s1 ⟨x,H1,I1,r1,q1⟩=>?_) hs hw
 rw[h1]
 exact bx (hg pins s1 σ H1 x v _ I1 r1 q1) λ_ s2 q=>q
theorem Lg{i:Nat}{x:Str}{e:Expr}{te:TE}{pos':Pos}(hN:X.N.Nodup)(hi:X.N[i]? =some x)(hx:Loc X.env.scope x)(he:PE X e te)(hs:swapsWith e (some (.Name x pos')) pos.line X.env=pure false:=by rfl)(hf:X.fn x=true\/X.env.scope.names.lookup x=some .local:=by first | exact .inl rfl | exact .inr rfl | assumption) :
  PS X (.Assign [.Name x pos'] e pos) (O0 te (uK i)):=by
 intro pins s σ H D I h
 refine wpAny_Assign_Name (bx (he pins s σ H _ I h) λv s1 ⟨y,H1,I1,r1,q1⟩=>?_) hs
 exact lL I1 hN hi hx r1 (λs2 I2=>⟨_,H1,I2,q1⟩) hf
end
section
variable {X:Cx} {pos:Pos}
end
structure It where
 go:Nat->Hp->Prop
 uD:Nat->Hp->V->Hp->Prop
 stop:Nat->Hp->Prop
def dj(X:Cx)(pins:List (aae×Obj))(H:Hp)(b:aae):Prop :=
 H b=none/\b≠X.env.locals/\b∉X.fs/\(b∈X.ex\/X.s₀.heap.objs.size<=b)/\(∀x c,X.env.cells.lookup x=some c->c≠b)/\∀p∈X.pn++pins,p.1≠b
theorem Inv.oY{X:Cx}{pins:List (aae×Obj)}{σ:St}{H H':Hp}{s:aaj}{b:aae}(I:Inv X pins σ H s)(hb:s.heap.objs.size<=b)(hn:H' b=none):dj X pins H' b:=by
 refine⟨hn,yy (bN I.lt hb),I.SX hb,.inr (bb I.sz hb),λx c e z=>?_,λp hp z=>?_⟩
 ·obtain⟨v,q⟩:=I.cell x c e
  exact absurd (bN q.lt (by rw[z];exact hb)) (eK _)
 ·exact absurd (bN (aE (I.pin p hp).1) (by rw[z];exact hb)) (eK _)
structure Turn(P:aai)(w:aal)(K:PySem.W.Frag)(tg:Expr)(J:It)(fp:List aae)(it:aae)(tn:Nat->Heap->Prop):Prop where
 mem:it∈fp
 obj:∀i h,tn i h->∀b∈fp,∃o,h.get? b=some o/\∀v,o.data≠.cell v
 keep:∀i h h',tn i h->(∀b∈fp,∀o,h.get? b=some o->h'.get? b=some o)->tn i h'
 item:∀(X:Cx),X.prog=P->X.w=w->X.K=K->X.calm=true->∀(i:Nat)(pins:List (aae×Obj))(s:aaj)(σ:St)(H:Hp)(E:aak->aaj->Prop),Inv X pins σ H s->(∀b∈fp,dj X pins H b)->tn i s.heap->J.go i H->
  aax (model P w) X.A (pyNext (.ref it)) (λr s1=>∃u,r=some u/\
   aax (model P w) X.A (letOwnedTupleGo tg (.ref it) u) (λ_ s2=>∃x H',Inv X pins σ H' s2/\RelV x u/\J.uD i H x H'/\tn (i+1) s2.heap/\∀b∈fp,H' b=none) E s1) E s
 done:∀(X:Cx),X.prog=P->X.w=w->X.K=K->X.calm=true->∀(i:Nat)(pins:List (aae×Obj))(s:aaj)(σ:St)(H:Hp)(E:aak->aaj->Prop),Inv X pins σ H s->(∀b∈fp,dj X pins H b)->tn i s.heap->J.stop i H->
  aax (model P w) X.A (pyNext (.ref it)) (λr s1=>r=none/\Inv X pins σ H s1) E s
 self:∀(A:aaf)(i:Nat)(s:aaj)(Q:aak->aaj->Prop)(E:aak->aaj->Prop),tn i s.heap->Q (.ref it) s->aax (model P w) A (pyIter (.ref it)) Q E s
abbrev TI:=St->Hp->(It->Hp->Prop)->Prop
def Ts(X:Cx)(pins:List (aae×Obj))(σ:St)(tg:Expr)(R:It->Hp->Prop)(itv:aak)(s2:aaj):Prop :=
 ∃(it:aae)(fp:List aae)(tn:Nat->Heap->Prop)(J:It)(H':Hp),itv= .ref it/\Inv X pins σ H' s2/\Turn X.prog X.w X.K tg J fp it tn/\tn 0 s2.heap/\(∀b∈fp,dj X pins H' b)/\R J H'
def PI(X:Cx)(tg iter:Expr)(wi:TI):Prop :=
 ∀(pins:List (aae×Obj))(s:aaj)(σ:St)(H:Hp)(R:It->Hp->Prop),Inv X pins σ H s->wi σ H R->
  aax (model X.prog X.w) X.A (eval iter X.env) (λv s1=>aax (model X.prog X.w) X.A (pyIter v) (Ts X pins σ tg R) X.xe s1) X.xe s
theorem uL{M:Model}{A:aaf}{E:aak->aaj->Prop}{s:aaj}{tg:Expr}{it:aae}{u:aak}{o:Obj}{n:String}{vs:Array aak}{Q:Unit->aaj->Prop}(ho:s.heap.get? it=some o)(hc:o.cls= .type n)(hd:o.data= .fields vs)
    (hn:["enumerate","zip","dict_itemiterator","dict_reverseitemiterator","odict_iterator","itertools.zip_longest","itertools.pairwise"].contains n=false)(hQ:Q () s):aax M A (letOwnedTupleGo tg (.ref it) u) Q E s:=by
  unfold letOwnedTupleGo
  cases tg<;>first
    | exact aaE hQ
    | (cases u<;>first
        | exact aaE hQ
        | (refine aay (wpAny_load ho ?_)
           rw[hc,hd]
           show aax M A (if(["enumerate","zip","dict_itemiterator","dict_reverseitemiterator","odict_iterator","itertools.zip_longest","itertools.pairwise"].contains n&&vs[0]? == some (rawInt _))=true then _ else _) Q E s
           rw[if_neg (by intro h;rw[hn,Bool.false_and] at h;cases h)]
           exact aaE hQ))
def Tt(K:PySem.W.Frag)(a:aae):It :=
 ⟨λi H=>∃xs x,jq K H a xs/\xs[i]? =some x,λi H x H'=>H'=H/\∀xs,jq K H a xs->xs[i]? =some x,λi H=>∃xs,jq K H a xs/\xs.length<=i⟩
def Wd(K:PySem.W.Frag)(a:aae):It :=
 ⟨λi H=>∃xs x,fm K H a xs/\xs[i]? =some x,λi H x H'=>H'=H/\∀xs,fm K H a xs->xs[i]? =some x,λi H=>∃xs,fm K H a xs/\xs.length<=i⟩
def Lh(lo:Int)(n:Nat):It:=⟨λi _=>i < n,λi H x H'=>H'=H/\x= .int (lo+i),λi _=>n<=i⟩
theorem rn{P:aai}{w:aal}{K:PySem.W.Frag}{tg:Expr}(a it:aae):Turn P w K tg (Tt K a) [it] it (λi h=>h.IsListIter it a i) where
 mem:=by simp
 obj:=λi h st b hb=>by
  have e:b=it:=by simpa using hb
  subst e
  obtain⟨o,e,c,d⟩:=st
  exact⟨o,e,λv z=>by rw[d] at z;cases z⟩
 keep:=λi h h' st k=>st.at λo e=>k it (by simp) o e
 item:=by
  intro X hP hw hK hc i pins s σ H E I hf st hg
  subst hP hw hK
  obtain⟨xs,x,hq,hx⟩:=hg
  obtain⟨its,rv,p,hz⟩:=I.list hq
  obtain⟨u,hu,ru⟩:=rv.get hx
  obtain⟨f0,f1,f2,f3,f4,f5⟩:=hf it (by simp)
  refine wpAny_pyNext_list_item st p.isList (x:=u) (by simpa using hu) λh' st' sb=>?_
  have I1:Inv X pins σ H { s with heap:=h' }:=I.turned (t':=s.toks) (λb o hb e=>(sb.2 b hb).trans e) f0 f1 f3 f4 f5
  obtain⟨o,e,c,d⟩:=id st'
  exact⟨u,rfl,uL (s:={ s with heap:=h' }) e c d (by decide) ⟨x,H,I1,ru,⟨rfl,λys hy=>by rw[I.uJ hy hq];exact hx⟩,st',λb hb=>(hf b hb).1⟩⟩
 done:=by
  intro X hP hw hK hc i pins s σ H E I hf st hg
  subst hP hw hK
  obtain⟨xs,hq,hx⟩:=hg
  obtain⟨its,rv,p,hz⟩:=I.list hq
  obtain⟨f0,f1,f2,f3,f4,f5⟩:=hf it (by simp)
  have hl:=rv.length
  exact wpAny_pyNext_list_end (I.ok.hd hc) st p.isList (by simp;omega) λh' eb=>⟨rfl,I.turned (t':=s.toks) (λb o hb e=>eb b o hb e) f0 f1 f3 f4 f5⟩
 self:=λ_ _ _ _ _ st h=>wpAny_pyIter_listiter st h
theorem wX{P:aai}{w:aal}{K:PySem.W.Frag}{tg:Expr}(a it:aae):Turn P w K tg (Wd K a) [it] it (λi h=>h.IsTupleIter it a i) where
 mem:=by simp
 obj:=λi h st b hb=>by
  have e:b=it:=by simpa using hb
  subst e
  obtain⟨o,e,c,d⟩:=st
  exact⟨o,e,λv z=>by rw[d] at z;cases z⟩
 keep:=λi h h' st k=>st.at λo e=>k it (by simp) o e
 item:=by
  intro X hP hw hK hc i pins s σ H E I hf st hg
  subst hP hw hK
  obtain⟨xs,x,hq,hx⟩:=hg
  obtain⟨its,rv,p,hz⟩:=I.tuple hq
  obtain⟨u,hu,ru⟩:=rv.get hx
  obtain⟨f0,f1,f2,f3,f4,f5⟩:=hf it (by simp)
  refine wpAny_pyNext_tuple_item st (show s.heap.IsTuple a its.toArray from p) (x:=u) (by simpa using hu) λh' st' sb=>?_
  have I1:Inv X pins σ H { s with heap:=h' }:=I.turned (t':=s.toks) (λb o hb e=>(sb.2 b hb).trans e) f0 f1 f3 f4 f5
  obtain⟨o,e,c,d⟩:=id st'
  exact⟨u,rfl,uL (s:={ s with heap:=h' }) e c d (by decide) ⟨x,H,I1,ru,⟨rfl,λys hy=>by rw[I.Ak hy hq];exact hx⟩,st',λb hb=>(hf b hb).1⟩⟩
 done:=by
  intro X hP hw hK hc i pins s σ H E I hf st hg
  subst hP hw hK
  obtain⟨xs,hq,hx⟩:=hg
  obtain⟨its,rv,p,hz⟩:=I.tuple hq
  obtain⟨f0,f1,f2,f3,f4,f5⟩:=hf it (by simp)
  have hl:=rv.length
  exact wpAny_pyNext_tuple_end (I.ok.hd hc) st (show s.heap.IsTuple a its.toArray from p) (by simp;omega) λh' eb=>⟨rfl,I.turned (t':=s.toks) (λb o hb e=>eb b o hb e) f0 f1 f3 f4 f5⟩
 self:=λ_ _ _ _ _ st h=>wpAny_pyIter_tupleiter st h
theorem wY{P:aai}{w:aal}{K:PySem.W.Frag}{tg:Expr}(it:aae)(lo:Int)(n:Nat):Turn P w K tg (Lh lo n) [it] it (λi h=>IsRangeIter h it (lo+(i:Nat) * 1) ((n:Int) - (i:Nat)) 1) where
 mem:=by simp
 obj:=λi h st b hb=>by
  have e:b=it:=by simpa using hb
  subst e
  exact⟨_,st,λv z=>by
   have z':Data.fields _=Data.cell v:=z
   cases z'⟩
 keep:=λi h h' st k=>k it (by simp) _ st
 item:=by
  intro X hP hw hK hc i pins s σ H E I hf st hg
  subst hP hw hK
  obtain⟨f0,f1,f2,f3,f4,f5⟩:=hf it (by simp)
  have W:=Walks.range (prog:=X.prog) (w:=X.w) (I.ok.hd hc) it lo 1 n
  refine W.item i s _ _ hg st λv h' tk hv st' kk=>?_
  obtain⟨t,rfl⟩:=hv
  have I1:Inv X pins σ H { s with heap:=h',toks:=tk }:=I.turned (λb o hb e=>kk b o (by simpa using hb) e) f0 f1 f3 f4 f5
  refine⟨_,rfl,uL (s:={ s with heap:=h',toks:=tk }) (n:="range_iterator") st' rfl rfl (by decide) ⟨.int (lo+i),H,I1,⟨t,?_⟩,⟨rfl,rfl⟩,st',λb hb=>(hf b hb).1⟩⟩
  rw[Int.mul_one]
 done:=by
  intro X hP hw hK hc i pins s σ H E I hf st hg
  subst hP hw hK
  obtain⟨f0,f1,f2,f3,f4,f5⟩:=hf it (by simp)
  exact wpAny_pyNext_range_end (I.ok.hd hc) st (by have:n<=i:=hg;omega) λh' eb=>⟨rfl,I.turned (t':=s.toks) (λb o hb e=>eb b o hb e) f0 f1 f3 f4 f5⟩
 self:=λ_ _ _ _ _ st h=>wpAny_pyIter_rangeiter st h
section
variable {X:Cx} {tg:Expr}
def O1(K:PySem.W.Frag)(tl:TE):TI:=λσ H R=>tl σ H λx H1=>∃a,x= .ref a/\(∃xs,jq K H1 a xs)/\R (Tt K a) H1
theorem GV{l:Expr}{tl:TE}(hl:PE X l tl):PI X tg l (O1 X.K tl):=by
 intro pins s σ H R I h
 refine bx (hl pins s σ H _ I h) λv s1 ⟨x,H1,I1,r1,q1⟩=>?_
 obtain⟨a,e,⟨xs,hq⟩,q⟩:=q1
 subst e
 cases r1
 obtain⟨its,rv,p,hz⟩:=I1.list hq
 refine wpAny_pyIter_list p.isList ?_
 refine⟨s1.heap.objs.size,[s1.heap.objs.size],_,_,H1,rfl,I1.kept (t':=s1.toks) λb o e=>aO _ e,rn a _,⟨_,cq _ rfl,rfl,rfl⟩,λb hb=>?_,q⟩
 have e:b=s1.heap.objs.size:=by simpa using hb
 subst e
 exact I1.oY (ak _) (I1.hok.fresh (ak _))
theorem Co{pins:List (aae×Obj)}{σ:St}{H:Hp}{s:aaj}{R:It->Hp->Prop}{E:aak->aaj->Prop}{lo hi:Int}{t u v:Tok}{tk:Nat}(I:Inv X pins σ H s)(h1:-(2 ^ 62)<=lo)(h2:lo < 2 ^ 62)(h3:-(2 ^ 62)<=hi)(h4:hi < 2 ^ 62)
  (q:R (Lh lo (hi - lo).toNat) H):aax (model X.prog X.w) X.A (pyIter (.ref s.heap.objs.size)) (Ts X pins σ tg R) E { s with heap:=s.heap.push { cls:=.type "range",data:=.fields #[.int lo t,.int hi u,.int 1 v] },toks:=tk }:=by
 refine wpAny_pyIter_range (IsRange.new ..) (small_one h1 h2 h3 h4) ?_
 have I1:Inv X pins σ H { s with heap:=s.heap.push { cls:=.type "range",data:=.fields #[.int lo t,.int hi u,.int 1 v] },toks:=tk }:=I.kept λb o e=>aO _ e
 refine⟨(s.heap.push { cls:=.type "range",data:=.fields #[.int lo t,.int hi u,.int 1 v] }).objs.size,[(s.heap.push { cls:=.type "range",data:=.fields #[.int lo t,.int hi u,.int 1 v] }).objs.size],_,_,H,rfl,
  I1.kept (t':=tk) λb o e=>aO _ e,wY _ lo (hi - lo).toNat,?_,λb hb=>?_,q⟩
 ·have e1:lo+((0:Nat):Int) * 1=lo:=by simp
  have e2:(((hi - lo).toNat:Nat):Int) - ((0:Nat):Int)=Builtin.Range.rangeSize lo hi 1:=by rw[rangeSize_one];split<;>omega
  show IsRangeIter _ _ (lo+((0:Nat):Int) * 1) ((((hi - lo).toNat:Nat):Int) - ((0:Nat):Int)) 1
  rw[e1,e2]
  exact cq _ rfl
 ·have e:b=(s.heap.push { cls:=.type "range",data:=.fields #[.int lo t,.int hi u,.int 1 v] }).objs.size:=by simpa using hb
  subst e
  exact I1.oY (ak _) (I1.hok.fresh (ak _))
def O2(ta:TA):TI:=λσ H R=>ta σ H λvs H1=>∃j:Int,vs=[.int j]/\-(2 ^ 62)<=j/\j < 2 ^ 62/\R (Lh 0 j.toNat) H1
theorem rp{a:Expr}{ta:TA}{p pos:Pos}(hg:Gl X "range")(hm:X.mg "range"=none)(ha:PA X [a] ta)(hs:aaw [a] X.env=[(false,eval a X.env)]:=by rfl):PI X tg (.Call (.Name "range" p) [a] [] pos) (O2 ta):=by
 intro pins s σ H R I h
 refine Call_ (mO I hg hm boot_range (yz (bx (ha pos pins s σ H _ I h) λus s1 ⟨vs,H1,I1,r1,q1⟩=>?_) hs rfl))
 obtain⟨j,e,q1,q2,q⟩:=q1
 subst e
 cases r1 with
 | cons r rr=>
  cases rr
  obtain⟨t,rfl⟩:=r
  exact call_range_1 (Co I1 (by omega) (by omega) q1 q2 (by simpa using q))
def Tu(wi:TI)(g:TG)(tb:TS):TS:=λD σ H=>wi σ H λJ H1=>∃W:Nat->Nat->St->Hp->Prop,(∃m,W 0 m σ H1)/\∀i m σ H,W i m σ H->
 (J.stop i H/\D.nx σ H)\/(J.go i H/\∃N:St->Hp->Prop,(∀σ' H',N σ' H'->∃m',m' < m/\W (i+1) m' σ' H')/\∀x H',J.uD i H x H'->g x σ H' λσ2 H2=>tb { D with nx:=N,ct:=N,bk:=D.nx } σ2 H2)
def dG(fp:List aae)(h:Heap):List (aae×Obj):=fp.filterMap λb=>(h.get? b).map λo=>(b,o)
theorem fq{fp:List aae}{h:Heap}{b:aae}{o:Obj}(hb:b∈fp)(e:h.get? b=some o):(b,o)∈dG fp h:=List.mem_filterMap.mpr ⟨b,hb,by rw[e];rfl⟩
theorem Am{fp:List aae}{h:Heap}{p:aae×Obj}(hp:p∈dG fp h):p.1∈fp/\h.get? p.1=some p.2:=by
 obtain⟨b,hb,e⟩:=List.mem_filterMap.mp hp
 cases q:h.get? b with
 | none=>rw[q] at e;cases e
 | some o=>
  rw[q] at e
  have e':(b,o)=p:=Option.some.inj e
  subst e'
  exact⟨hb,q⟩
theorem Inv.pinned{pins:List (aae×Obj)}{σ:St}{H:Hp}{s:aaj}{fp:List aae}(I:Inv X pins σ H s)(hf:∀b∈fp,dj X pins H b)(ho:∀b∈fp,∃o,s.heap.get? b=some o/\∀v,o.data≠.cell v):Inv X (pins++dG fp s.heap) σ H s :=
 I.yx λp hp=>(List.mem_append.mp hp).elim (λz=>I.pin p (ft _ z)) λz=>by
  obtain⟨hb,e⟩:=Am z
  obtain⟨f0,f1,f2,_⟩:=hf p.1 hb
  obtain⟨o,e',d⟩:=ho p.1 hb
  rw[e] at e';cases e'
  exact⟨e,f0,f1,f2,d⟩
theorem Inv.jy{pins pl:List (aae×Obj)}{σ:St}{H:Hp}{s:aaj}(I:Inv X (pins++pl) σ H s):Inv X pins σ H s:=I.yx λp hp=>I.pin p (ft _ (sL _ hp))
theorem sO{iter:Expr}{body:List Stmt}{wi:TI}{g:TG}{tb:TS}{pos:Pos}(hp:PassesOwn (model X.prog X.w) X.A X.env X.xe)(hc:X.calm=true)(hi:PI X tg iter wi)(hg:PG X tg g)(hb:Cb X body tb)
  (hs:∀x,aas iter X.env x=pure x:=by intro _;rfl):PS X (.For tg iter body [] pos) (Tu wi g tb):=by
 intro pins s σ H D I h
 refine wpAny_For (bx (hi pins s σ H _ I h) λv s1 h1=>bx h1 λitv s2 h2=>?_) hs
 obtain⟨it,fp,tn,J,H2,e,I2,T,st2,f2,W,⟨m0,w0⟩,turn⟩:=h2
 subst e
 -- what stays true of the Li objects through the loop
 have Lj:∀{H':Hp},(∀b∈fp,H' b=none)->∀b∈fp,dj X pins H' b:=λhn b hb=>⟨hn b hb,(f2 b hb).2⟩
 refine codeAny_forLoop_any (λn s'=>∃i σ' H',Inv X pins σ' H' s'/\tn i s'.heap/\(∀b∈fp,H' b=none)/\W i n σ' H') ?_ m0 ⟨0,σ,H2,I2,st2,λb hb=>(f2 b hb).1,w0⟩
 rintro n s3 ⟨i,σ3,H3,I3,st3,We,w3⟩
 rcases turn i n σ3 H3 w3 with ⟨stop,qn⟩ | ⟨go,N,hN,step⟩
 ·refine wpAny_passesOwn hp (bx (T.done X rfl rfl rfl hc i pins s3 σ3 H3 X.xe I3 (Lj We) st3 stop) λr s4 ⟨hr,I4⟩=>?_)
  subst hr
  exact wpAny_execs_nil ⟨σ3,H3,I4,qn⟩
 ·refine wpAny_passesOwn hp (bx (T.item X rfl rfl rfl hc i pins s3 σ3 H3 X.xe I3 (Lj We) st3 go) λr s4 ⟨u,hr,h4⟩=>?_)
  subst hr
  refine wpAny_passesOwn hp (bx h4 λ_ s5 ⟨x,H5,I5,r5,y5,uM,Lk⟩=>?_)
  have Xp:=I5.pinned (Lj Lk) (T.obj _ _ uM)
  refine wpAny_passesOwn hp (bx (hg _ s5 σ3 H5 x u _ Xp r5 (step x H5 y5)) λ_ s6 ⟨σ6,H6,I6,q6⟩=>?_)
  refine wpAny_passesOwn hp (bx (hb _ s6 σ6 H6 _ I6 q6) λf s7 q7=>?_)
  have again:∀{σ7:St}{H7:Hp},Inv X (pins++dG fp s5.heap) σ7 H7 s7->N σ7 H7->∃m,m < n/\∃i σ' H',Inv X pins σ' H' s7/\tn i s7.heap/\(∀b∈fp,H' b=none)/\W i m σ' H':=λ{σ7 H7} I7 n7=>by
   obtain⟨m',hm,w7⟩:=hN σ7 H7 n7
   refine⟨m',hm,i+1,σ7,H7,I7.jy,T.keep _ _ _ uM λb hb o e=>(I7.pin (b,o) (ft _ (ft _ (fq hb e)))).1,λb hb=>?_,w7⟩
   obtain⟨o,e,d⟩:=T.obj _ _ uM b hb
   exact(I7.pin (b,o) (ft _ (ft _ (fq hb e)))).2.1
  cases f with
  | next=>obtain⟨σ7,H7,I7,n7⟩:=q7;exact again I7 n7
  | cont=>obtain⟨σ7,H7,I7,n7⟩:=q7;exact again I7 n7
  | brk=>obtain⟨σ7,H7,I7,q7⟩:=q7;exact⟨σ7,H7,I7.jy,q7⟩
  | ret v=>obtain⟨x7,σ7,H7,I7,r7,q7⟩:=q7;exact⟨x7,σ7,H7,I7.jy,r7,q7⟩
end
abbrev R2:=V->V->Hp->VK->Prop
def fu(X:Cx)(f:aak->aak->Sem aak)(r:R2):Prop :=
 ∀(pins:List (aae×Obj))(s:aaj)(σ:St)(H:Hp)(x y:V)(v u:aak)(Q:VK),Inv X pins σ H s->RelV x v->RelV y u->r x y H Q->
  aax (model X.prog X.w) X.A (f v u) (EP X pins σ Q) X.xe s
def Tv(X:Cx)(f:aak->Sem aak)(r:V->Hp->VK->Prop):Prop :=
 ∀(pins:List (aae×Obj))(s:aaj)(σ:St)(H:Hp)(x:V)(v:aak)(Q:VK),Inv X pins σ H s->RelV x v->r x H Q->
  aax (model X.prog X.w) X.A (f v) (EP X pins σ Q) X.xe s
def dM(X:Cx)(f:aak)(r:List V->Hp->VK->Prop):Prop :=
 ∀(pins:List (aae×Obj))(s:aaj)(σ:St)(H:Hp)(xs:List V)(us:List aak)(Q:VK),Inv X pins σ H s->Vals xs us->r xs H Q->
  aax (model X.prog X.w) X.A (call f us) (EP X pins σ Q) X.xe s
def Tw(X:Cx)(r:V->Hp->(Bool->Hp->Prop)->Prop):Prop :=
 ∀(pins:List (aae×Obj))(s:aaj)(σ:St)(H:Hp)(x:V)(v:aak)(Q:Bool->Hp->Prop),Inv X pins σ H s->RelV x v->r x H Q->
  aax (model X.prog X.w) X.A (truthy v) (TP X pins σ Q) X.xe s
def O3(r:R2)(ta tb:TE):TE:=λσ H Q=>ta σ H λx H1=>tb σ H1 λy H2=>r x y H2 Q
def Xq(r:V->Hp->VK->Prop)(ta:TE):TE:=λσ H Q=>ta σ H λx H1=>r x H1 Q
def rI(C:Int->Int->Prop)(g:Int->Int->V):R2:=λx y H Q=>∃i j,x= .int i/\y= .int j/\C i j/\Q (g i j) H
def JH(g:Int->Int->V):R2:=λx y H Q=>∃i j,x= .int i/\y= .int j/\Q (g i j) H
def rU(g:Int->V):V->Hp->VK->Prop:=λx H Q=>∃i,x= .int i/\Q (g i) H
section
variable {X:Cx} {a b c:Expr} {ta tb tc:TE} {pos:Pos}
theorem Ll(ha:PE X a ta)(hb:PE X b tb){pins:List (aae×Obj)}{s:aaj}{σ:St}{H:Hp}{R:V->V->Hp->Prop}(I:Inv X pins σ H s)
  (h:ta σ H λx H1=>tb σ H1 λy H2=>R x y H2){Q:aak->aaj->Prop}{f:aak->aak->Sem aak}
  (hf:∀v u s2 x y H2,Inv X pins σ H2 s2->RelV x v->RelV y u->R x y H2->aax (model X.prog X.w) X.A (f v u) Q X.xe s2) :
  aax (model X.prog X.w) X.A (eval a X.env) (λv s₁=>aax (model X.prog X.w) X.A (eval b X.env) (λu s₂=>aax (model X.prog X.w) X.A (f v u) Q X.xe s₂) X.xe s₁) X.xe s:=by
 refine bx (ha pins s σ H _ I h) λv s1 ⟨x,H1,I1,r1,q1⟩=>?_
 refine bx (hb pins s1 σ H1 _ I1 q1) λu s2 ⟨y,H2,I2,r2,q2⟩=>?_
 exact hf v u s2 x y H2 I2 r1 r2 q2
theorem O4{op:Operator}{r:R2}(ho:fu X (aan op) r)(ha:PE X a ta)(hb:PE X b tb):PE X (.BinOp a op b pos) (O3 r ta tb):=by
 intro pins s σ H Q I h
 exact wpAny_BinOp (Ll ha hb I h λv u s2 x y H2 I2 rx ry q=>ho pins s2 σ H2 x y v u Q I2 rx ry q)
theorem O5{op:UnaryOp}{r:V->Hp->VK->Prop}(ho:Tv X (unaryOp op) r)(ha:PE X a ta):PE X (.UnaryOp op a pos) (Xq r ta):=by
 intro pins s σ H Q I h
 exact UnaryOp_ (bx (ha pins s σ H _ I h) λv s1 ⟨x,H1,I1,r1,q1⟩=>ho pins s1 σ H1 x v Q I1 r1 q1)
theorem RH{f:aak->aak->Sem aak}{C:Int->Int->Prop}{g:Int->Int->Int}
  (rule:∀(i j:Int)(t u:Tok)(s:aaj)(Q:aak->aaj->Prop)(E:aak->aaj->Prop),C i j->Q (.int (g i j) s.toks) { s with toks:=s.toks+1 }->aax (model X.prog X.w) X.A (f (.int i t) (.int j u)) Q E s) :
  fu X f (rI C λi j=> .int (g i j)):=by
 intro pins s σ H x y v u Q I rx ry h
 obtain⟨i,j,rfl,rfl,hc,q⟩:=h
 obtain⟨t,rfl⟩:=rx
 obtain⟨t',rfl⟩:=ry
 exact rule i j t t' s _ _ hc ⟨.int (g i j),H,I.tok _,⟨_,rfl⟩,q⟩
theorem O6{f:aak->aak->Sem aak}{g:Int->Int->Int}
  (rule:∀(i j:Int)(t u:Tok)(s:aaj)(Q:aak->aaj->Prop)(E:aak->aaj->Prop),Q (.int (g i j) s.toks) { s with toks:=s.toks+1 }->aax (model X.prog X.w) X.A (f (.int i t) (.int j u)) Q E s) :
  fu X f (JH λi j=> .int (g i j)):=by
 intro pins s σ H x y v u Q I rx ry h
 obtain⟨i,j,rfl,rfl,q⟩:=h
 obtain⟨t,rfl⟩:=rx
 obtain⟨t',rfl⟩:=ry
 exact rule i j t t' s _ _ ⟨.int (g i j),H,I.tok _,⟨_,rfl⟩,q⟩
theorem GW{f:aak->aak->Sem aak}{g:Int->Int->Bool}
  (rule:∀(i j:Int)(t u:Tok)(s:aaj)(Q:aak->aaj->Prop)(E:aak->aaj->Prop),Q (.bool (g i j)) s->aax (model X.prog X.w) X.A (f (.int i t) (.int j u)) Q E s) :
  fu X f (JH λi j=> .bl (g i j)):=by
 intro pins s σ H x y v u Q I rx ry h
 obtain⟨i,j,rfl,rfl,q⟩:=h
 obtain⟨t,rfl⟩:=rx
 obtain⟨t',rfl⟩:=ry
 exact rule i j t t' s _ _ ⟨.bl (g i j),H,I,rfl,q⟩
def Tz(i j:Int):Prop:=0<=j/\j<=1000000/\i.natAbs < 2 ^ 64
theorem Ln:fu X (aan .Add) (JH λi j=> .int (i+j)):=O6 λ_ _ _ _ _ _ _ q=>add_int q
theorem Lo:fu X (aan .Sub) (JH λi j=> .int (i - j)):=O6 λ_ _ _ _ _ _ _ q=>sub_int q
theorem Lp:fu X (aan .Pow) (rI Tz λi j=> .int (i ^ j.toNat)):=RH λ_ _ _ _ _ _ _ hc q=>pow_int_small hc.1 hc.2.1 hc.2.2 q
theorem Xr{f:aak->Sem aak}{g:Int->Int}
  (rule:∀(i:Int)(t:Tok)(s:aaj)(Q:aak->aaj->Prop)(E:aak->aaj->Prop),Q (.int (g i) s.toks) { s with toks:=s.toks+1 }->aax (model X.prog X.w) X.A (f (.int i t)) Q E s) :
  Tv X f (rU λi=> .int (g i)):=by
 intro pins s σ H x v Q I rx h
 obtain⟨i,rfl,q⟩:=h
 obtain⟨t,rfl⟩:=rx
 exact rule i t s _ _ ⟨.int (g i),H,I.tok _,⟨_,rfl⟩,q⟩
theorem Lq:Tv X (unaryOp .USub) (rU λi=> .int (-i)):=Xr λ_ _ _ _ _ q=>neg_int q
end
section
variable {X:Cx} {a b c:Expr} {ta tb tc:TE} {pos:Pos}
theorem sP{pins:List (aae×Obj)}{σ:St}{H:Hp}{s:aaj}{Q:VK}{k k':Bool}(I:Inv X pins σ H s)(q:Q (.bl k) H)(e:k=k'):EP X pins σ Q (.bool k') s:=by
 subst e
 exact⟨.bl k,H,I,rfl,q⟩
theorem O7:fu X (aar .Lt) (JH λi j=> .bl (decide (i < j))):=GW λ_ _ _ _ _ _ _ q=>lt_int q
theorem O8:fu X (aar .LtE) (JH λi j=> .bl (decide (i<=j))):=GW λ_ _ _ _ _ _ _ q=>le_int q
theorem O9:fu X (aar .Gt) (JH λi j=> .bl (decide (j < i))):=GW λ_ _ _ _ _ _ _ q=>gt_int q
theorem O_:fu X (aar .GtE) (JH λi j=> .bl (decide (j<=i))):=GW λ_ _ _ _ _ _ _ q=>ge_int q
theorem An:fu X (aar .Lt) (λx y H Q=>∃i j,x= .str i/\y= .str j/\Q (.bl (decide (i.cps.toList < j.cps.toList))) H):=by
 intro pins s σ H x y v u Q I rx ry h
 obtain⟨i,j,rfl,rfl,q⟩:=h
 obtain⟨t,rfl⟩:=rx
 obtain⟨t',rfl⟩:=ry
 exact lt_str (sP I q rfl)
theorem Ao:fu X (aar .In) (λx y H Q=>∃i j,x= .str i/\y= .str j/\Q (.bl (!(mP j i 0 j.length 1).isEmpty)) H):=by
 intro pins s σ H x y v u Q I rx ry h
 obtain⟨i,j,rfl,rfl,q⟩:=h
 obtain⟨t,rfl⟩:=rx
 obtain⟨t',rfl⟩:=ry
 exact in_str (sP I q rfl)
theorem Lr:fu X (aar .Is) (λx y H Q=>y= .aL/\Q (.bl (decide (x= .aL))) H):=by
 intro pins s σ H x y v u Q I rx ry h
 obtain⟨rfl,q⟩:=h
 cases ry
 refine is_none_gen (sP I q ?_)
 cases x<;>first
  | (cases rx;rfl)
  | (obtain⟨t,rfl⟩:=rx;rfl)
theorem GX:fu X (aar .IsNot) (λx y H Q=>y= .aL/\Q (.bl (!decide (x= .aL))) H):=by
 intro pins s σ H x y v u Q I rx ry h
 obtain⟨rfl,q⟩:=h
 cases ry
 refine isnot_none_gen (sP I q ?_)
 cases x<;>first
  | (cases rx;rfl)
  | (obtain⟨t,rfl⟩:=rx;rfl)
theorem GY{op:CmpOp}{r:R2}(ho:fu X (aar op) r)(ha:PE X a ta)(hb:PE X b tb)(hm:aam op b=false):PE X (.Compare a [op] [b] pos) (O3 r ta tb):=by
 intro pins s σ H Q I h
 exact wpAny_Compare1 (Ll ha hb I h λv u s2 x y H2 I2 rx ry q=>ho pins s2 σ H2 x y v u Q I2 rx ry q) hm
def JJ(t:TE):TT:=λσ H Q=>t σ H λx H'=>∃k,x= .bl k/\Q k H'
theorem GZ{op:CmpOp}{r:R2}(ho:fu X (aar op) r)(ha:PE X a ta)(hb:PE X b tb)(hm:aam op b=false):PT X (.Compare a [op] [b] pos) (JJ (O3 r ta tb)):=by
 intro pins s σ H Q I h
 refine wpAny_isTrue_Compare1 (bx (ha pins s σ H _ I h) λv s1 ⟨x,H1,I1,r1,q1⟩=>bx (hb pins s1 σ H1 _ I1 q1) λu s2 ⟨y,H2,I2,r2,q2⟩=>
  bx (ho pins s2 σ H2 x y v u _ I2 r1 r2 q2) λc s3 ⟨z,H3,I3,r3,k,e,q3⟩=>?_) hm
 subst e
 cases r3
 exact aaF ⟨H3,I3,q3⟩
def wZ(r r':R2)(ta tb tc:TE):TE:=λσ H Q=>ta σ H λx H1=>tb σ H1 λy H2=>r x y H2 λz H3=>∃k,z= .bl k/\
 (if k=true then tc σ H3 λw' H4=>r' y w' H4 Q else Q (.bl false) H3)
theorem Cp{op op':CmpOp}{r r':R2}(ho:fu X (aar op) r)(ho':fu X (aar op') r')(ha:PE X a ta)(hb:PE X b tb)(hc:PE X c tc)
  (hm:lastMarks [op,op'] [b,c]=false:=by with_unfolding_all rfl):PE X (.Compare a [op,op'] [b,c] pos) (wZ r r' ta tb tc):=by
 intro pins s σ H Q I h
 refine Compare_chain (bx (ha pins s σ H _ I h) λv s1 ⟨x,H1,I1,r1,q1⟩=>chain_link (bx (hb pins s1 σ H1 _ I1 q1) λu s2 ⟨y,H2,I2,r2,q2⟩=>
  bx (ho pins s2 σ H2 x y v u _ I2 r1 r2 q2) λd s3 ⟨z,H3,I3,r3,k,e,q3⟩=>?_)) hm
 subst e
 cases r3
 refine aaF ?_
 cases k with
 | false=>exact ite_ff ⟨.bl false,H3,I3,rfl,q3⟩
 | true=>exact ite_tt (chain_last (bx (hc pins s3 σ H3 _ I3 q3) λw' s4 ⟨z',H4,I4,r4,q4⟩=>ho' pins s4 σ H4 y z' u w' Q I4 r2 r4 q4))
theorem Cq{op op':CmpOp}{r r':R2}(ho:fu X (aar op) r)(ho':fu X (aar op') r')(ha:PE X a ta)(hb:PE X b tb)(hc:PE X c tc)
  (hm:lastMarks [op,op'] [b,c]=false:=by with_unfolding_all rfl):PT X (.Compare a [op,op'] [b,c] pos) (JJ (wZ r r' ta tb tc)):=by
 intro pins s σ H Q I h
 refine isTrue_chain (bx (ha pins s σ H _ I h) λv s1 ⟨x,H1,I1,r1,q1⟩=>test_link (bx (hb pins s1 σ H1 _ I1 q1) λu s2 ⟨y,H2,I2,r2,q2⟩=>
  bx (ho pins s2 σ H2 x y v u _ I2 r1 r2 q2) λd s3 ⟨z,H3,I3,r3,k,e,q3⟩=>?_)) hm
 subst e
 cases r3
 refine aaF ?_
 cases k with
 | false=>
  obtain⟨k',e',q'⟩:=q3
  cases e'
  exact ite_ff ⟨H3,I3,q'⟩
 | true=>
  refine ite_tt (test_last (bx (hc pins s3 σ H3 _ I3 q3) λw' s4 ⟨z',H4,I4,r4,q4⟩=>bx (ho' pins s4 σ H4 y z' u w' _ I4 r2 r4 q4) λd' s5 ⟨z2,H5,I5,r5,k2,e2,q5⟩=>?_))
  subst e2
  cases r5
  exact aaF ⟨H5,I5,q5⟩
def O'(K:PySem.W.Frag)(x:V)(H:Hp)(k:Bool):Prop :=
 match x with
 | .aL=>k=false
 | .bl b=>k=b
 | .int i=>k=(i != 0)
 | .str y=>y.length<=aav/\k=((y.length:Int) != 0)
 | .Om y=>y.size<=aav/\k=((y.size:Int) != 0)
 | .ref p=>(∃xs,jq K H p xs/\k= !xs.isEmpty)\/(∃xs,fm K H p xs/\k= !xs.isEmpty)\/∃kvs,H p=some (.dK kvs)/\k= !kvs.isEmpty
 | _=>False
theorem w4{κ:Type}{kvs:List (κ×V)}{vs:List (κ×aak)}(r:KV kvs vs):(!vs.isEmpty)= !kvs.isEmpty:=by
 cases r<;>rfl
theorem oZ{xs:List V}{its:List aak}(r:Vals xs its):(!its.toArray.isEmpty)= !xs.isEmpty:=by
 cases r<;>simp
theorem k_:(aav:Nat) < 2 ^ 63:=by rw[sizeLine_eq];decide
theorem Ls:Tw X (λx H Q=>∃k,O' X.K x H k/\Q k H):=by
 intro pins s σ H x v Q I rx h
 obtain⟨k,e,q⟩:=h
 have hl:=k_
 have hs:aav=16777216:=sizeLine_eq
 cases x with
 | aL=>
  cases rx
  have e':k=false:=e
  subst e'
  exact truthy_none ⟨H,I,q⟩
 | bl b=>
  cases rx
  have e':k=b:=e
  subst e'
  exact aaF ⟨H,I,q⟩
 | int i=>
  obtain⟨t,rfl⟩:=rx
  have e':k=(i != 0):=e
  subst e'
  exact PySem.P.truthy_int ⟨H,I,q⟩
 | str y=>
  obtain⟨t,rfl⟩:=rx
  obtain⟨hy,e'⟩:y.length<=aav/\k=((y.length:Int) != 0):=e
  subst e'
  exact PySem.P.truthy_str (by omega) ⟨H,I.tok _,q⟩
 | Om y=>
  obtain⟨t,rfl⟩:=rx
  obtain⟨hy,e'⟩:y.size<=aav/\k=((y.size:Int) != 0):=e
  subst e'
  exact PySem.W.truthy_bytes (by omega) ⟨H,I.tok _,q⟩
 | ref p=>
  cases rx
  have e':(∃xs,jq X.K H p xs/\k= !xs.isEmpty)\/(∃xs,fm X.K H p xs/\k= !xs.isEmpty)\/∃kvs,H p=some (.dK kvs)/\k= !kvs.isEmpty:=e
  rcases e' with ⟨xs,hx,e'⟩ | ⟨xs,hx,e'⟩ | ⟨kvs,hx,e'⟩
  ·subst e'
   obtain⟨its,r,pl,hz⟩:=I.list hx
   have hlen:=r.length
   exact wpAny_truthy_list pl.isList (by simp only[a6];omega) ⟨H,I.tok _,by rw[oZ r];exact q⟩
  ·subst e'
   obtain⟨its,r,pl,hz⟩:=I.tuple hx
   have hlen:=r.length
   exact truthy_tuple pl (by simp only[a6];omega) ⟨H,I.tok _,by rw[oZ r];exact q⟩
  ·subst e'
   obtain⟨hz,hS,vs,r,m⟩:kvs.length<=aav/\(p == sysModules)=false/\∃vs,KV kvs vs/\s.heap.DictOf (aZ X.prog X.w) p vs:=I.hok p _ hx
   have hlen:kvs.length=vs.length:=Paired.length r
   exact wpAny_truthy_dict hS m (by omega) ⟨H,I.tok _,by rw[w4 r];exact q⟩
 | _=>exact(show False from e).elim
theorem Cr(ha:PE X a ta)(he:∀whole,isTrue a X.env whole=(do let v <-whole;standAt a.pos;holding [v] (truthy v))) :
  PT X a (λσ H Q=>ta σ H λx H'=>∃k,O' X.K x H' k/\Q k H'):=by
 intro pins s σ H Q I h
 exact isTrue_plain (bx (ha pins s σ H _ I h) λv s1 ⟨x,H1,I1,r1,q1⟩=>Ls pins s1 σ H1 x v Q I1 r1 q1) (he _)
theorem w5:fu X (aan .Add) (λx y H Q=>∃i j,x= .str i/\y= .str j/\i.length+j.length<=aav/\Q (.str (i++j)) H):=by
 intro pins s σ H x y v u Q I rx ry h
 obtain⟨i,j,rfl,rfl,hz,q⟩:=h
 obtain⟨t,rfl⟩:=rx
 obtain⟨t',rfl⟩:=ry
 exact add_str (λt' tk=>⟨.str (i++j),H,I.tok _,⟨_,rfl⟩,q⟩) hz
theorem vals1{x:V}{us:List aak}(r:Vals [x] us):∃u,us=[u]/\RelV x u:=by
 cases r with
 | cons r1 r2=>cases r2;exact⟨_,rfl,r1⟩
theorem vals2{x y:V}{us:List aak}(r:Vals [x,y] us):∃u w',us=[u,w']/\RelV x u/\RelV y w':=by
 cases r with
 | cons r1 r2=>
  cases r2 with
  | cons r3 r4=>cases r4;exact⟨_,_,rfl,r1,r3⟩
theorem Cs:dM X (.builtin "abs") (λxs H Q=>∃i,xs=[.int i]/\Q (.int (if i < 0 then -i else i)) H):=by
 intro pins s σ H xs us Q I r h
 obtain⟨i,rfl,q⟩:=h
 obtain⟨u,rfl,t,rfl⟩:=vals1 r
 exact call_abs_int λu tk=>⟨.int (if i < 0 then -i else i),H,I.tok _,⟨_,rfl⟩,q⟩
theorem Ap(hc:X.calm=true):dM X (.builtin "max") (λxs H Q=>∃i j,xs=[.int i,.int j]/\Q (.int (if j > i then j else i)) H):=by
 intro pins s σ H xs us Q I r h
 obtain⟨i,j,rfl,q⟩:=h
 obtain⟨u,w',rfl,⟨t,rfl⟩,⟨t',rfl⟩⟩:=vals2 r
 refine max_two_ints (I.ok.hd hc) λh' tk k=>⟨_,H,I.kept k,?_,q⟩
 by_cases hj:j > i
 ·rw[if_pos hj,if_pos hj];exact⟨_,rfl⟩
 ·rw[if_neg hj,if_neg hj];exact⟨_,rfl⟩
theorem Aq(hc:X.calm=true):dM X (.builtin "min") (λxs H Q=>∃i j,xs=[.int i,.int j]/\Q (.int (if j < i then j else i)) H):=by
 intro pins s σ H xs us Q I r h
 obtain⟨i,j,rfl,q⟩:=h
 obtain⟨u,w',rfl,⟨t,rfl⟩,⟨t',rfl⟩⟩:=vals2 r
 refine min_two_ints (I.ok.hd hc) λh' tk k=>⟨_,H,I.kept k,?_,q⟩
 by_cases hj:j < i
 ·rw[if_pos hj,if_pos hj];exact⟨_,rfl⟩
 ·rw[if_neg hj,if_neg hj];exact⟨_,rfl⟩
end
section
variable {prog:aai} {w:aal} {A:aaf} {E:aak->aaj->Prop} {s:aaj} {K:PySem.W.Frag} {x dx C f:aae} {mA:Str->Option aak} {name:Str} {v:aak}
end
theorem lK.some_of{v:V}{o:Option aak}(r:lK (some v) o):∃u,o=some u/\RelV v u:=by
 cases o with
 | none=>exact(show False from r).elim
 | some u=>exact⟨u,rfl,r⟩
section
variable {P:aai} {w:aal} {H H':Hp} {h h':Heap} {a C dx:aae} {fs fs':List (Str×V)}
end
section
variable {X:Cx} {pins:List (aae×Obj)} {σ:St} {H:Hp} {s:aaj} {a C dx:aae} {fs:List (Str×V)} {f:Str} {v:V} {A:aaf} {E:aak->aaj->Prop}
end
section
variable {X:Cx} {o e value:Expr} {f:Str} {pos pos' tpos:Pos} {ta tv:TE}
end
section
variable {X:Cx} {pins:List (aae×Obj)} {σ:St} {H:Hp} {s:aaj} {A:aaf} {E:aak->aaj->Prop} {Q:aak->aaj->Prop} {c:aak} {b:Bool}
end
structure fc(k:Nat)(A:aaf):Prop where
 hd:A.handled=none
 dp:A.depth+3 * k+5 < recursionLimit
 un:A.units+16 * k+200 < cLine
theorem fc.mono{j k:Nat}{A:aaf}(r:fc k A)(h:j<=k):fc j A:=⟨r.hd,by have:=r.dp;omega,by have:=r.un;omega⟩
theorem fc.deeper{k:Nat}{A:aaf}(r:fc (k+1) A)(env:Env):fc k (A.deeper env) :=
 ⟨r.hd,by have:=r.dp;show A.depth+1+3 * k+5 < _;omega,by have:=r.un;show A.units+3+16 * k+200 < _;omega⟩
theorem fc.in1{k:Nat}{A:aaf}(r:fc (k+1) A):fc k A.in1 :=
 ⟨r.hd,by have:=r.dp;show A.depth+3 * k+5 < _;omega,by have:=r.un;show A.units+1+16 * k+200 < _;omega⟩
theorem fc.depth{k:Nat}{A:aaf}(r:fc k A):A.depth < recursionLimit:=by have:=r.dp;omega
def TC:TA:=λ_ H Q=>Q [] H
def Pa(ta:TE)(tr:TA):TA:=λσ H Q=>ta σ H λx H1=>tr σ H1 λxs H2=>Q (x::xs) H2
section
variable {X:Cx} {e:Expr} {es:List Expr} {te:TE} {t:TA} {pos:Pos}
theorem Lu:PA X [] TC:=λ_ _ _ _ H Q I h=>mQ ⟨[],H,I,.nil,h⟩
theorem G0(ha:PE X e te)(hr:PA X es t)(hs:aaw (e::es) X.env=(false,eval e X.env)::aaw es X.env:=by rfl):PA X (e::es) (Pa te t):=by
 intro pos pins s σ H Q I h
 rw[hs]
 show aax _ _ (spliced ((false,eval e X.env)::backTo pos (aaw es X.env))) _ _ s
 refine ip (bx (ha pins s σ H _ I h) λu s1 ⟨x,H1,I1,r1,q1⟩=>?_)
 exact bx (hr pos pins s1 σ H1 _ I1 q1) λus s2 ⟨xs,H2,I2,r2,q2⟩=>⟨x::xs,H2,I2,.cons r1 r2,q2⟩
def TF(t:TA):TE:=λσ H Q=>t σ H λxs H1=>xs.length<=aav/\∀p,H1 p=none->Q (.ref p) (upd H1 p (.tup xs))
def TH(t:TA):TE:=λσ H Q=>t σ H λxs H1=>xs.length<=aav/\∀p,H1 p=none->Q (.ref p) (upd H1 p (.lst xs))
theorem Lw{x1}(h:PA X es t):PE X (.Tuple es x1 pos) (TF t):=by
 intro pins s σ H Q I hq
 refine wpAny_Tuple_spliced (bx (h pos pins s σ H _ I hq) λus s1 ⟨xs,H1,I1,r,z,q⟩=>⟨by rw[<-r.length];exact z,?_⟩)
 have hf:H1 s1.heap.objs.size=none:=I1.hok.fresh (ak _)
 refine⟨.ref s1.heap.objs.size,upd H1 s1.heap.objs.size (.tup xs),I1.laid (t':=s1.toks) (λb u e=>aO _ e) (ak _) ?_,rfl,q _ hf⟩
 exact⟨z,us,r,⟨_,cq _ rfl,rfl,_,rfl⟩,wU.new _ _⟩
theorem Lx(h:PA X es t):PE X (.List es pos) (TH t):=by
 intro pins s σ H Q I hq
 refine wpAny_List_spliced (bx (h pos pins s σ H _ I hq) λus s1 ⟨xs,H1,I1,r,z,q⟩=>⟨by rw[<-r.length];exact z,?_⟩)
 have hf:H1 s1.heap.objs.size=none:=I1.hok.fresh (ak _)
 refine⟨.ref s1.heap.objs.size,upd H1 s1.heap.objs.size (.lst xs),I1.laid (t':=s1.toks) (λb u e=>aO _ e) (ak _) ?_,rfl,q _ hf⟩
 exact⟨z,us,0,r,cq _ rfl⟩
end
abbrev Sp:=List V->Hp->VK->XK->Prop
abbrev BU:=List Env->Hp->aaj->XK->aak->aaj->Prop
structure oa(P:aai)(w:aal)(K:PySem.W.Frag)(mg:Str->Option aak)(base:Heap)(A:aaf)(outer:List Env)(s:aaj)(H:Hp):Prop where
 frames:A.frames=some outer
 mod:Mod K mg base
 bs:∀b o,base.get? b=some o->s.heap.get? b=some o/\H b=none
 BS:base.objs.size<=s.heap.objs.size
 kY:s.heap.FunFrames base outer
 GG:∀b∈frs outer,H b=none
 hok:jh P w H s.heap
 bare:AllBare s.gens
def CE(outer:List Env)(P:aai)(w:aal)(H:Hp)(s:aaj)(Q:VK)(u:aak)(s':aaj):Prop :=
 ∃v H',s'.os=s.os/\AllBare s'.gens/\Un (frs outer) [] H H' s.heap s'.heap/\jh P w H' s'.heap/\RelV v u/\Q v H'
def CR(CX:BU)(outer:List Env)(P:aai)(w:aal)(H:Hp)(s:aaj)(Q:VK)(E:XK)(r:Result)(s':aaj):Prop :=
 match r with
 | .ok (.ret u)=>CE outer P w H s Q u s'
 | .ok _=>False
 | .error e=>CX outer H s E e s'
structure FnOk(P:aai)(w:aal)(K:PySem.W.Frag)(mg:Str->Option aak)(base:Heap)(CX:BU)(k:Nat)(f:aae)(fd:aag)(ps:List Str)(sp:Sp):Prop where
 len:∀vs H Q E,sp vs H Q E->vs.length=ps.length
 run:∀(A:aaf)(outer:List Env)(s:aaj)(H:Hp)(args:Args)(us:List aak)(vs:List V)(Q:VK)(E:XK),fc k A->oa P w K mg base A outer s H->BindsTo s fd args (ps.zip us)->Vals vs us->sp vs H Q E->
  aap (model P w) A (.call (.ref f) args) (CR CX outer P w H s Q E) s
theorem FnOk.mono{P:aai}{w:aal}{K:PySem.W.Frag}{mg:Str->Option aak}{base:Heap}{CX:BU}{j k:Nat}{f:aae}{fd:aag}{ps:List Str}{sp:Sp}(F:FnOk P w K mg base CX j f fd ps sp)(h:j<=k) :
  FnOk P w K mg base CX k f fd ps sp:=⟨F.len,λA outer s H args us vs Q E hr=>F.run A outer s H args us vs Q E (hr.mono h)⟩
theorem oa.in1{P:aai}{w:aal}{K:PySem.W.Frag}{mg:Str->Option aak}{base:Heap}{A:aaf}{outer:List Env}{s:aaj}{H:Hp}(e:oa P w K mg base A outer s H) :
  oa P w K mg base A.in1 outer s H:=⟨e.frames,e.mod,e.bs,e.BS,e.kY,e.GG,e.hok,e.bare⟩
section
variable {X:Cx} {pins:List (aae×Obj)} {σ:St} {H:Hp} {s s':aaj}
theorem Inv.Ly(I:Inv X pins σ H s):oa X.prog X.w X.K X.mg X.base X.A X.stack s H :=
 ⟨I.ok.frames,I.ok.mod,I.bs,bb I.ok.BS I.sz,I.stack,I.jZ,I.hok,I.bare⟩
theorem Inv.after{Q:VK}{u:aak}(I:Inv X pins σ H s)(h:CE X.stack X.prog X.w H s Q u s'):EP X pins σ Q u s':=by
 obtain⟨v,H',os,bare,un,hok,r,q⟩:=h
 obtain⟨hh,g,d,t,os'⟩:=s'
 obtain rfl:os'=s.os:=os
 exact⟨v,H',I.call (h':=hh) (g':=g) (d':=d) (t':=t) (ch:=[]) un hok bare (λb z=>absurd z (by simp)),r,q⟩
end
def Binds(K:PySem.W.Frag)(fd:aag)(ps:List Str)(ds:List aak):Prop :=
 ∀(s:aaj)(us:List aak),K.In s.heap->(us++ds).length=ps.length->BindsTo s fd ⟨us,[]⟩ (ps.zip (us++ds))
theorem Binds.all{K:PySem.W.Frag}{fd:aag}{ps:List Str}(h:∀us:List aak,us.length=ps.length->bindArgs fd ⟨us,[]⟩=pure (ps.zip us)):Binds K fd ps []:=λs us _ hl=>by
 rw[ei] at hl ⊢
 exact .of_eq (h us hl)
section
variable {X:Cx} {CX:BU} {k:Nat} {f C:aae} {fd:aag} {ps:List Str} {sp:Sp} {ZF:List V} {ds:List aak} {E:XK} {x m:Str} {p pos apos:Pos} {e o:Expr} {es:List Expr} {ta:TE} {t:TA}
end
section
variable {X:Cx} {CX:BU} {k:Nat} {f C:aae} {fd:aag} {ps ks:List Str} {sp:Sp} {E:XK} {x m:Str} {p pos apos kpos:Pos} {e o:Expr} {es:List Expr} {kws:List Keyword} {te ta:TE} {t tk:TA} {nm:Option Str}
variable {g:List aak->List aak->List aak} {gV:List V->List V->List V}
end
structure FnScope(N P:List Str)(sc:Scope):Prop where
 kind:sc.kind= .function
 co:sc.isCoroutine=false
 gen:sc.isGenerator=false
 nd:N.Nodup
 pre:N.take P.length=P
 par:∀x∈P,sc.names.lookup x=some .local\/sc.names.lookup x=some .cell
 Lz:∀y∈sc.names,y.2≠.free
theorem rA{kindOf:Str->Option aah}{x:Str}:∀{binds:List (Str×aak)}{m:Str->Option aak},(∀v,(x,v)∉binds)->bindL kindOf binds m x=m x
 | [],_,_=>rfl
 | (n,v)::r,m,h=>by
  unfold bindL
  rw[rA λw hw=>h w (aX _ hw)]
  split
  ·have:x≠n:=by rintro rfl;exact h v bp
   simp[this]
  ·rfl
theorem rB{kindOf:Str->Option aah}{x:Str}:∀{binds:List (Str×aak)}{m:Str->Option aak},(∀v,(x,v)∉binds)->bindC kindOf binds m x=m x
 | [],_,_=>rfl
 | (n,v)::r,m,h=>by
  unfold bindC
  rw[rB λw hw=>h w (aX _ hw)]
  split
  ·rfl
  ·have:x≠n:=by rintro rfl;exact h v bp
   simp[this]
theorem rC{kindOf:Str->Option aah}{x:Str}{v:aak}:∀{P:List Str}{vs:List aak}{i:Nat}{m:Str->Option aak},P.Nodup->P[i]? =some x->vs[i]? =some v->kindOf x=some .local->
  bindL kindOf (P.zip vs) m x=some v
 | [],_,_,_,_,h,_,_=>by simp at h
 | _::_,[],_,_,_,_,h,_=>by simp at h
 | p::P,w::vs,0,m,nd,h1,h2,hk=>by
  simp at h1 h2;subst h1;subst h2
  show bindL kindOf ((p,w)::P.zip vs) m p=_
  unfold bindL
  rw[rA λv hv=>(List.nodup_cons.mp nd).1 (yA hv).1,if_pos hk]
  simp
 | p::P,w::vs,i+1,m,nd,h1,h2,hk=>by
  show bindL kindOf ((p,w)::P.zip vs) m x=_
  unfold bindL
  exact rC (i:=i) (List.nodup_cons.mp nd).2 (by simpa using h1) (by simpa using h2) hk
theorem rD{kindOf:Str->Option aah}{x:Str}{v:aak}:∀{P:List Str}{vs:List aak}{i:Nat}{m:Str->Option aak},P.Nodup->P[i]? =some x->vs[i]? =some v->kindOf x≠some .local->
  bindC kindOf (P.zip vs) m x=some v
 | [],_,_,_,_,h,_,_=>by simp at h
 | _::_,[],_,_,_,_,h,_=>by simp at h
 | p::P,w::vs,0,m,nd,h1,h2,hk=>by
  simp at h1 h2;subst h1;subst h2
  show bindC kindOf ((p,w)::P.zip vs) m p=_
  unfold bindC
  rw[rB λv hv=>(List.nodup_cons.mp nd).1 (yA hv).1,if_neg hk]
  simp
 | p::P,w::vs,i+1,m,nd,h1,h2,hk=>by
  show bindC kindOf ((p,w)::P.zip vs) m x=_
  unfold bindC
  exact rD (i:=i) (List.nodup_cons.mp nd).2 (by simpa using h1) (by simpa using h2) hk
def start(N:List Str)(vs:List V):St:=vs.map some++aJ (N.length - vs.length) none
def qR(CX:BU)(P:aai)(w:aal)(K:PySem.W.Frag)(mg:Str->Option aak)(base:Heap)(N:List Str)(qual:Str)(scope:Scope)(f:aae)(cd:aak)(A:aaf)(outer:List Env)(s:aaj)(H:Hp)(E:XK):Cx where
 prog:=P
 w:=w
 K:=K
 mg:=mg
 base:=base
 A:=A.deeper (envOfC qual scope s.heap.objs.size f cd)
 N:=N
 s₀:=s
 H₀:=H
 env:=envOfC qual scope s.heap.objs.size f cd
 outer:=outer
 stack:=envOfC qual scope s.heap.objs.size f cd::outer
 ex:=[]
 calm:=true
 fn:=λ_=>true
 pn:=[]
 xe:=λe s'=>aax (model P w) (A.deeper (envOfC qual scope s.heap.objs.size f cd)) (leaving (envOfC qual scope s.heap.objs.size f cd) e) (λ_ s''=>CX outer H s E e s'') (λe' s''=>CX outer H s E e' s'') s'
theorem uN{sc:Scope}{n:Nat}{x:Str}(h:sc.names.lookup x=some .cell):∃c,(cellsFrom n sc.names []).lookup x=some c:=by
 have q:=PySem.W.cellsFrom_some sc.names n [] (.inl h)
 exact Option.isSome_iff_exists.mp q
theorem Ar{CX:BU}{P:aai}{w:aal}{K:PySem.W.Frag}{mg:Str->Option aak}{base:Heap}{N ps:List Str}{qual:Str}{scope:Scope}{f:aae}{cd:aak}{A:aaf}{outer:List Env}{s s1:aaj}{H:Hp}{E:XK}{us:List aak}{vs:List V}
  (S:FnScope N ps scope)(hd:A.handled=none)(e0:oa P w K mg base A outer s H)(hl:vs.length=ps.length)(r:Vals vs us)
  (x:InCallC s s.heap.objs.size (bindL (envOfC qual scope s.heap.objs.size f cd).kindOf (ps.zip us) λ_=>none) (cellsFrom (s.heap.objs.size+1) scope.names []) (bindC (envOfC qual scope s.heap.objs.size f cd).kindOf (ps.zip us) λ_=>none) s1) :
  Inv (qR CX P w K mg base N qual scope f cd A outer s H E) [] (start N vs) H s1:=by
 have hpl:ps.length<=N.length:=by have:=congrArg gL S.pre;rw[jz] at this;omega
 obtain⟨h1,tk,rfl,hk⟩:=x.done
 have Pb:∀b:aae,b∉(qR CX P w K mg base N qual scope f cd A outer s H E).ex:=λb z=>absurd (show b∈([]:List aae) from z) (by simp)
 refine⟨⟨e0.mod,S.kind,rfl,rfl,ak _,λy z c h1 h2=>?_,λy hy=>?_,λy c _ h=>?_,λ_=>hd,Around.frames_deeper e0.frames,.inr ⟨rfl,rfl⟩,λb z=>absurd z (Pb b),e0.bs,e0.BS,λb _ _=>Pb b,λb z=>absurd z (Pb b),e0.kY,e0.GG⟩,
  rfl,e0.bare,Un.kept hk,⟨_,x.toInCall.ns,λi y v h1 h2 h3=>?_⟩,λy c h=>⟨_,x.cell y c h⟩,e0.hok.fresh (ak _),λy c h=>?_,λp hp=>absurd (show p∈([]:List (aae×Obj)) from hp) (by simp),e0.hok.kept hk,?_⟩
 ·exact name_of_addr x.apart (PySem.mem_of_lookup h1) (PySem.mem_of_lookup h2)
 ·have hy:scope.names.lookup y=some .cell\/scope.names.lookup y=some .free:=hy
  rcases hy with hy | hy
  ·exact uN hy
  ·exact absurd rfl (S.Lz _ (PySem.mem_of_lookup hy))
 ·exact ow (x.above y c (PySem.mem_of_lookup h))
 ·have hi:i < vs.length:=by
   unfold start at h2
   by_cases hi:i < vs.length
   ·exact hi
   ·rw[iq (by simpa using hi)] at h2
    rw[sR] at h2
    split at h2<;>cases h2
  have ha:vs[i]? =some v:=by
   unfold start at h2
   rw[cu (by simpa using hi),gM] at h2
   cases e:vs[i]? with
   | none=>rw[e] at h2;cases h2
   | some a=>rw[e] at h2;cases h2;rfl
  obtain⟨u,hu,rv⟩:=r.get ha
  have hp:ps[i]? =some y:=by
   rw[<-S.pre,List.getElem?_take_of_lt (by omega)];exact h1
  have Wf:ps.Nodup:=by rw[<-S.pre];exact S.nd.sublist (List.take_sublist _ _)
  refine⟨u,rv,?_⟩
  rcases S.par y (sS hp) with k | k
  ·exact .inl ⟨k,rC Wf hp hu k⟩
  ·obtain⟨c,e⟩:=uN (n:=s.heap.objs.size+1) k
   refine .inr ⟨.inl k,c,e,?_⟩
   have q:=x.cell y c e
   rw[rD Wf hp hu (by show scope.names.lookup y≠_;rw[k];decide)] at q
   exact q
 ·exact e0.hok.fresh (ow (x.above y c (PySem.mem_of_lookup h)))
 ·unfold start
  show _=N.length
  rw[dH,aA,la]
  omega
theorem Pc{CX:BU}{P:aai}{w:aal}{K:PySem.W.Frag}{mg:Str->Option aak}{base:Heap}{k:Nat}{f:aae}{name qual:Str}{params:Arguments}{body:List Stmt}{scope:Scope}{dV kV doc pm cdv ct oc:aak}{an od:Option aae}
  {osl:Array (Option aak)}{N ps:List Str}{sp:Sp}(lk:K.lookup f=some ⟨oc,od,.func (PySem.W.fnOf name qual params body scope dV kV doc pm an cdv ct),osl⟩)(hcd:PySem.W.codeIn K cdv qual=true)(S:FnScope N ps scope)
  (len:∀vs H Q E,sp vs H Q E->vs.length=ps.length)
  (hbody:∀(A:aaf)(outer:List Env)(s:aaj)(H:Hp)(vs:List V)(Q:VK)(E:XK),fc k (A.deeper (envOfC qual scope s.heap.objs.size f cdv))->sp vs H Q E->
   ∃t,Cb (qR CX P w K mg base N qual scope f cdv A outer s H E) body t/\t { nx:=λ_ H'=>Q .aL H',rt:=Q } (start N vs) H) :
  FnOk P w K mg base CX (k+1) f (PySem.W.fnOf name qual params body scope dV kV doc pm an cdv ct) ps sp:=by
 refine⟨len,λA outer s H args us vs Q E hr e0 hb r Ot=>?_⟩
 have hl:=len _ _ _ _ Ot
 have KX:K.In s.heap:=e0.mod.B_.keeps λb o e=>(e0.bs b o e).1
 have lim:s.heap.NoLimit:=e0.mod.nolimit.keeps λb o e=>(e0.bs b o e).1
 have hkind:∀y∈ps.zip us,scope.names.lookup y.1=some .local\/(scope.names.lookup y.1=some .cell/\((cellsFrom (s.heap.objs.size+1) scope.names []).lookup y.1).isSome=true):=λ⟨n,v⟩ hy=>by
  rcases S.par n (yA hy).1 with q | q
  ·exact .inl q
  ·exact .inr ⟨q,PySem.W.cellsFrom_some _ _ _ (.inl q)⟩
 refine codeAny_call_function hr.depth (KX _ _ lk) rfl S.co S.gen rfl (PySem.W.codeRec_of KX hcd) (hb _ _ _ _ ?_)
 refine wpAny_newFunctionEnv_cells S.kind hkind λenv he s1 x=>?_
 subst he
 refine⟨lim.keeps x.toInCall.keep,codeAny_func ?_⟩
 obtain⟨t,ht,hq⟩:=hbody A outer s H vs Q E (hr.deeper _) Ot
 have I:Inv (qR CX P w K mg base N qual scope f cdv A outer s H E) [] (start N vs) H s1:=Ar S hr.hd e0 hl r x
 refine aaB (ht [] s1 (start N vs) H _ I hq) (λfl s' hs=>?_) λe s' hs=>hs
 have fin:∀{σ':St}{H':Hp}{v:V}{u:aak},Inv (qR CX P w K mg base N qual scope f cdv A outer s H E) [] σ' H' s'->RelV v u->Q v H'->CE outer P w H s Q u s' :=
  λ{σ' H' v u} J rv q=>⟨v,H',J.os,J.bare,J.base,J.hok,rv,q⟩
 cases fl with
 | ret u=>
  obtain⟨v,σ',H',J,rv,q⟩:=hs
  exact fin J rv q
 | next=>
  obtain⟨σ',H',J,q⟩:=hs
  exact fin (v:=V.aL) (u:=bG) J rfl q
 | brk=>
  obtain⟨_,_,_,q⟩:=hs
  exact aa q
 | cont=>
  obtain⟨_,_,_,q⟩:=hs
  exact aa q
section
variable {X:Cx} {x:Str} {p pos:Pos} {e:Expr} {es:List Expr} {t:TA} {id T:String} {r:List V->Hp->VK->Prop}
def Wg(r:List V->Hp->VK->Prop)(t:TA):TE:=λσ H Q=>t σ H λvs H1=>r vs H1 Q
theorem Cu(hc:dM X (.builtin id) r)(hg:Gl X x)(hm:X.mg x=none)(hv:aao x=some (.builtin id))(ha:PA X (e::es) t)(hn:x≠"__name__":=by decide)(hdb:(x == ("__debug__":Str))=false:=by decide)
  (he:aaw (e::es) X.env=(false,eval e X.env)::aaw es X.env:=by rfl)(hpl:(backTo pos (aaw es X.env)).any (·.1)=false:=by rfl):PE X (.Call (.Name x p) (e::es) [] pos) (Wg r t):=by
 intro pins s σ H Q I h
 refine wpAny_Call_Name_kw (mO I hg hm hv ?_ hn hdb)
 exact PyProof.Rows.callWith_builtin1 (bx (ha pos pins s σ H _ I h) λus s1 ⟨vs,H1,I1,r1,q1⟩=>hc pins s1 σ H1 vs us Q I1 r1 q1) he hpl
theorem As(hc:dM X (.type T) r)(hg:Gl X x)(hm:X.mg x=none)(hv:aao x=some (.type T))(ha:PA X (e::es) t)(hn:x≠"__name__":=by decide)(hdb:(x == ("__debug__":Str))=false:=by decide)
  (he:aaw (e::es) X.env=(false,eval e X.env)::aaw es X.env:=by rfl)(hpl:(backTo pos (aaw es X.env)).any (·.1)=false:=by rfl):PE X (.Call (.Name x p) (e::es) [] pos) (Wg r t):=by
 intro pins s σ H Q I h
 refine wpAny_Call_Name_kw (mO I hg hm hv ?_ hn hdb)
 exact yz (bx (ha pos pins s σ H _ I h) λus s1 ⟨vs,H1,I1,r1,q1⟩=>hc pins s1 σ H1 vs us Q I1 r1 q1) he hpl
end
end L2
namespace HT
open PySem PyProof.Rows
section
open PySem.SeqAt
open PySem.AutoSeq1 (wpAny_loadPart')
open PySem.MeetsSeq PySem.MeetsSeq2 PySem.MeetsSeq3
end
section
variable {prog:aai} {w:aal} {A:aaf} {E:aak->aaj->Prop} {s:aaj}
theorem G_{t b:aae}{vs ws:List aak}{Q:aak->aaj->Prop}(ht:IsTup s.heap t vs.toArray)(hb:IsTup s.heap b ws.toArray)(hv:vs≠[])
  (h1:ws=[]->Q (.ref t) s)(h2:ws≠[]->Q (.ref s.heap.objs.size) { s with heap:=s.heap.push { cls:=.type "tuple",data:=.seq (vs++ws).toArray } })
  (hsz:vs.length+ws.length<=aav):aax (model prog w) A (aan .Add (.ref t) (.ref b)) Q E s:=by
 obtain⟨⟨cls,dd,data,sl⟩,ho,hc,n,hd⟩:=id ht
 obtain⟨⟨TJ,dd2,data2,sl2⟩,ho2,hc2,n2,hd2⟩:=id hb
 simp only at hc hd hc2 hd2
 subst hc hd hc2 hd2
 have e:vs.toArray++ws.toArray=(vs++ws).toArray:=by simp
 by_cases hw:ws=[]
 ·exact concat_meets ⟨_,ho,rfl⟩ ⟨_,ho2,rfl⟩ noFill_tuple_add seq_tuple_add PySem.F.slot_tuple_add PySem.F.entry_tuple_add (PySem.F.args_tuple_add_2 _ _)
   (tuple_addW1 t b vs.toArray ws.toArray n n2 dd dd2 sl sl2 (by simpa using hv) (by simp[hw])) ⟨ho,ho2,h1 hw⟩
 ·refine concat_meets ⟨_,ho,rfl⟩ ⟨_,ho2,rfl⟩ noFill_tuple_add seq_tuple_add PySem.F.slot_tuple_add PySem.F.entry_tuple_add (PySem.F.args_tuple_add_2 _ _)
   (tuple_addW2 t b vs.toArray ws.toArray n n2 dd dd2 sl sl2 (by simpa using hv) (by simpa using hw) (by rw[a6,a6];exact hsz)) ⟨ho,ho2,?_⟩
  rw[e]
  exact h2 hw
def c7(n d:Nat):Option Int->Nat
 | none=>d
 | some v=>if v < 0 then(v+(n:Int)).toNat else min v.toNat n
theorem LA(n d:Nat)(hd:d<=n)(o:Option Int):c7 n d o<=n:=by
 cases o with
 | none=>exact hd
 | some v=>
  show(if v < 0 then(v+(n:Int)).toNat else min v.toNat n)<=n
  by_cases hv:v < 0
  ·rw[if_pos hv];omega
  ·rw[if_neg hv];exact yB _ _
theorem yC(v:Int)(n d:Nat):(if v < 0 then max (v+(n:Int)) 0 else min v (n:Int))=((c7 n d (some v):Nat):Int):=by
 show(if v < 0 then max (v+(n:Int)) 0 else min v (n:Int))=(((if v < 0 then(v+(n:Int)).toNat else min v.toNat n):Nat):Int)
 by_cases hv:v < 0
 ·simp only[if_pos hv];omega
 ·simp only[if_neg hv];omega
theorem w6(lo hi:Option Int)(n:Nat):Cv lo hi 1 (n:Int)=(((c7 n 0 lo:Nat):Int),((c7 n n hi:Nat):Int)):=by
 have h1:¬((1:Int) < 0):=by omega
 unfold Cv
 simp only[h1,if_false]
 refine Prod.ext ?_ ?_
 ·cases lo with
  | none=>rfl
  | some v=>exact yC v n 0
 ·cases hi with
  | none=>rfl
  | some v=>exact yC v n n
theorem w8(i j:Nat):w9 (i:Int) (j:Int) 1=j - i:=by
 unfold w9
 have h1:(1:Int) > 0:=by omega
 simp only[h1,if_true,Int.ediv_one]
 split<;>omega
theorem o_{v:aak}{o:Option Int}{Q:Option Int->aaj->Prop}(p:IsPart v o)(h:Q o s):aax (model prog w) A (Builtin.Slice.slicePartIndex v) Q E s:=by
 cases p with
 | none=>exact slicePart_none h
 | int i t=>exact slicePart_int h
theorem iF{sl:aae}{vl vu:aak}{lo hi:Option Int}{n:Nat}{Q:Int×Int×Nat->aaj->Prop}(hs:s.heap.IsSliceOf sl vl vu .none)(pl:IsPart vl lo)(pu:IsPart vu hi)
  (h:Q (((c7 n 0 lo:Nat):Int),1,c7 n n hi - c7 n 0 lo) s):aax (model prog w) A (LB (.ref sl) (pure (n:Int))) Q E s:=by
 obtain⟨os,hos,hcs,hds⟩:=id hs
 unfold LB Builtin.Slice.sliceFields
 refine aay (aay (wpAny_field hos hds (x:=vl) rfl (aay (wpAny_field hos hds (x:=vu) rfl (aay (wpAny_field hos hds (x:=.none) rfl (aaE ?_)))))))
 refine aay (slicePart_none ?_)
 show aax _ _ (if((1:Int) == 0)=true then _ else _) _ _ s
 rw[if_neg (by decide)]
 refine aay (o_ pl (aay (o_ pu (aay (aaE ?_)))))
 show aax _ _ (match Cv lo hi 1 (n:Int) with | (lo,hi)=>pure (lo,(1:Int),w9 lo hi 1)) _ _ s
 rw[w6 lo hi n]
 show aax _ _ (pure (((c7 n 0 lo:Nat):Int),(1:Int),w9 ((c7 n 0 lo:Nat):Int) ((c7 n n hi:Nat):Int) 1)) _ _ s
 rw[w8]
 exact aaE h
theorem Cw(xs:Array aak)(i k:Nat):((dX k).filterMap λ(m:Nat)=>xs[((i:Int)+(m:Int) * 1).toNat]?).toArray=((xs.toList.drop i).take k).toArray:=by
 have e:(λ(m:Nat)=>xs[((i:Int)+(m:Int) * 1).toNat]?)=λm=>xs[i+m]?:=by
  funext m
  have:((i:Int)+(m:Int) * 1).toNat=i+m:=by omega
  rw[this]
 rw[e]
 have:=pick_run xs i k
 rw[List.filterMap_map] at this
 have e2:((λx=>xs[x]?) ∘ λx=>i+x)=λm=>xs[i+m]?:=rfl
 rw[e2] at this
 rw[this]
theorem lN{t sl:aae}{items:Array aak}{vl vu:aak}{lo hi:Option Int}{Q:aak->aaj->Prop}(ht:IsTup s.heap t items)(hs:s.heap.IsSliceOf sl vl vu .none)(pl:IsPart vl lo)(pu:IsPart vu hi)
  (hw:¬(c7 items.size 0 lo=0/\c7 items.size items.size hi=items.size))
  (h:Q (.ref s.heap.objs.size) { s with heap:=s.heap.push { cls:=.type "tuple",data:=.seq ((items.toList.drop (c7 items.size 0 lo)).take (c7 items.size items.size hi - c7 items.size 0 lo)).toArray } })
  (hsz:items.size<=aav):aax (model prog w) A (getItem (.ref t) (.ref sl)) Q E s:=by
 have yD:sizeOk (.seq ((items.toList.drop (c7 items.size 0 lo)).take (c7 items.size items.size hi - c7 items.size 0 lo)).toArray):=by
  show((items.toList.drop (c7 items.size 0 lo)).take (c7 items.size items.size hi - c7 items.size 0 lo)).toArray.size<=aav
  rw[a6,jz,pb,Cg]
  omega
 have hj:c7 items.size items.size hi<=items.size:=LA _ _ (ak _) hi
 obtain⟨os,hos,hcs,hds⟩:=id hs
 have Xs:s.TypeIs (.ref sl) "slice":=⟨os,hos,hcs⟩
 unfold getItem
 try with_reducible refine aaA ?_
 first | refine aay (aaE ?_) | skip
 refine aay (wpAny_sequenceKey ht.typeIs (by decide) ?_)
 refine aay (wpAny_callSpecial?_slot (name:=lO "__getitem__") ht.typeIs sT
  (wpAny_call_entry sT ht.typeIs entry_tuple_getitem ?_ (args_tuple_getitem _ _)))
 show aax _ _ (LC (.ref t) >>= _) _ _ s
 refine aay (tupleItemsOf_ ht ?_)
 refine aay (wpAny_typeOf Xs ?_)
 rw[if_pos (by decide)]
 refine aay (iF hs pl pu ?_)
 have hno:¬((((c7 items.size 0 lo:Nat):Int) == 0&&(1:Int) == 1&&(c7 items.size items.size hi - c7 items.size 0 lo) == items.size)=true):=by
  intro q
  rw[dC,dC] at q
  have q1:((c7 items.size 0 lo:Nat):Int)=0:=eq_of_beq q.1.1
  have q2:c7 items.size items.size hi - c7 items.size 0 lo=items.size:=eq_of_beq q.2
  exact hw ⟨by omega,by omega⟩
 show aax _ _ (if(((c7 items.size 0 lo:Nat):Int) == 0&&(1:Int) == 1&&(c7 items.size items.size hi - c7 items.size 0 lo) == items.size)=true then _ else _) _ _ s
 rw[if_neg hno,Cw]
 first
  | exact aay (m:=w_ _) (aaD (aaE ⟨_,rfl,aaE h⟩) yD)
  | exact aay (m:=w_ _) (aaD (aay (aaE (aaE ⟨_,rfl,aaE h⟩))) yD)
  | exact aay (aay (m:=w_ _) (aaD (aaE (aaE ⟨_,rfl,aaE h⟩)) yD))
  | exact aay (aay (m:=w_ _) (aaD (aaE ⟨_,rfl,aaE h⟩) yD))
end
end HT
namespace L2
open PySem PySem.Spec PyProof.Rows
abbrev TO:=St->Hp->(Option Int->Hp->Prop)->Prop
def PO(X:Cx)(e:Option Expr)(t:TO):Prop :=
 ∀(pins:List (aae×Obj))(s:aaj)(σ:St)(H:Hp)(Q:Option Int->Hp->Prop),Inv X pins σ H s->t σ H Q->
  aax (model X.prog X.w) X.A (evalPart e X.env) (λu s'=>∃o H',Inv X pins σ H' s'/\IsPart u o/\Q o H') X.xe s
def Ha:TO:=λ_ H Q=>Q none H
def Pd(t:TE):TO:=λσ H Q=>t σ H λx H1=>∃i,x= .int i/\Q (some i) H1
section
variable {X:Cx} {e:Expr} {te:TE} {lo hi:Option Expr} {tl th:TO} {pos p2:Pos}
theorem Hd:PO X none Ha:=by
 intro pins s σ H Q I h
 rw[evalPart_none]
 exact aaE ⟨none,H,I,.none,h⟩
theorem Hf(h:PE X e te):PO X (some e) (Pd te):=by
 intro pins s σ H Q I hw
 rw[evalPart_some]
 refine bx (h pins s σ H _ I hw) λu s1 ⟨x,H1,I1,r1,q1⟩=>?_
 obtain⟨i,rfl,q⟩:=q1
 obtain⟨t,rfl⟩:=r1
 exact⟨some i,H1,I1,.int i t,q⟩
def Gh(X:Cx)(r:V->Option Int->Option Int->Hp->VK->Prop):Prop :=
 ∀(pins:List (aae×Obj))(s:aaj)(σ:St)(H:Hp)(x:V)(v vl vu:aak)(lo hi:Option Int)(sl:aae)(Q:VK),Inv X pins σ H s->RelV x v->s.heap.IsSliceOf sl vl vu .none->IsPart vl lo->IsPart vu hi->r x lo hi H Q->
  ∃T id,typeLookup (.type T) "__getitem__"=pure (some (.builtin id))/\s.TypeIs v T/\aax (model X.prog X.w) X.A (getItem v (.ref sl)) (EP X pins σ Q) X.xe s
theorem Gh.or{r r':V->Option Int->Option Int->Hp->VK->Prop}(h:Gh X r)(h':Gh X r'):Gh X (λx lo hi H Q=>r x lo hi H Q\/r' x lo hi H Q):=by
 intro pins s σ H x v vl vu lo hi sl Q I rx hs pl pu q
 rcases q with q | q
 ·exact h pins s σ H x v vl vu lo hi sl Q I rx hs pl pu q
 ·exact h' pins s σ H x v vl vu lo hi sl Q I rx hs pl pu q
def Xt(r:V->Option Int->Option Int->Hp->VK->Prop)(te:TE)(tl th:TO):TE:=λσ H Q=>te σ H λx H1=>tl σ H1 λl H2=>th σ H2 λu H3=>r x l u H3 Q
theorem pe{r:V->Option Int->Option Int->Hp->VK->Prop}(hr:Gh X r)(he:PE X e te)(hl:PO X lo tl)(hu:PO X hi th):PE X (.Subscript e (.Slice lo hi none p2) pos) (Xt r te tl th):=by
 intro pins s σ H Q I h
 refine Subscript_ (bx (he pins s σ H _ I h) λv s1 ⟨x,H1,I1,r1,q1⟩=>?_)
 refine wpAny_Slice (bx (hl pins s1 σ H1 _ I1 q1) λvl s2 ⟨l,H2,I2,pl,q2⟩=>bx (hu pins s2 σ H2 _ I2 q2) λvu s3 ⟨u,H3,I3,pu,q3⟩=>?_)
 rw[evalPart_none]
 refine aaE ?_
 have I4:Inv X pins σ H3 { s3 with heap:=s3.heap.push { cls:=.type "slice",data:=.fields #[vl,vu,.none] } }:=I3.kept (t':=s3.toks) λb ob q=>aO _ q
 obtain⟨T,id,hT,ht,hg⟩:=hr pins { s3 with heap:=s3.heap.push { cls:=.type "slice",data:=.fields #[vl,vu,.none] } } σ H3 x v vl vu l u s3.heap.objs.size Q I4 r1 (Heap.IsSliceOf.new ..) pl pu q3
 show aax (model X.prog X.w) X.A (subscriptTail e (.Slice lo hi none p2) v (.ref s3.heap.objs.size)) (EP X pins σ Q) X.xe { s3 with heap:=s3.heap.push { cls:=.type "slice",data:=.fields #[vl,vu,.none] } }
 exact tail_any (ops:=[.ref s3.heap.objs.size,v]) ht hT hg (by with_unfolding_all rfl)
def qS(xs:List V)(lo hi:Option Int):List V:=(xs.drop (HT.c7 xs.length 0 lo)).take (HT.c7 xs.length xs.length hi - HT.c7 xs.length 0 lo)
theorem nN(xs:List V)(lo hi:Option Int):(qS xs lo hi).length<=xs.length:=by
 unfold qS
 rw[jz,pb]
 omega
def TK(K:PySem.W.Frag):V->Option Int->Option Int->Hp->VK->Prop:=λx lo hi H Q=>∃a xs,x= .ref a/\fm K H a xs/\
 ¬(HT.c7 xs.length 0 lo=0/\HT.c7 xs.length xs.length hi=xs.length)/\∀p,H p=none->Q (.ref p) (upd H p (.tup (qS xs lo hi)))
theorem Cy:Gh X (TK X.K):=by
 intro pins s σ H x v vl vu lo hi sl Q I rx hs pl pu h
 obtain⟨a,xs,rfl,hx,hw,q⟩:=h
 cases rx
 obtain⟨its,r,ht,hz⟩:=I.tuple hx
 have hlen:its.toArray.size=xs.length:=by rw[a6];exact r.length.symm
 refine⟨"tuple",_,PyProof.Rows.slot_tuple_getitem.lookup,ht.typeIs,?_⟩
 refine HT.lN ht hs pl pu (by rw[hlen];exact hw) ?_ (by rw[hlen];exact hz)
 rw[hlen]
 refine⟨.ref s.heap.objs.size,_,I.laid (t':=s.toks) (o:=.tup (qS xs lo hi)) (λb ob q=>aO _ q) (ak _) ?_,rfl,q _ (I.hok.fresh (ak _))⟩
 exact⟨bb (nN xs lo hi) hz,_,(r.drop (HT.c7 xs.length 0 lo)).take (HT.c7 xs.length xs.length hi - HT.c7 xs.length 0 lo),IsTup.new _ _,wU.new _ _⟩
def Pe(K:PySem.W.Frag):R2:=λx y H Q=>∃a b xs ys,x= .ref a/\y= .ref b/\fm K H a xs/\fm K H b ys/\xs≠[]/\xs.length+ys.length<=aav/\
 (ys=[]->Q (.ref a) H)/\(ys≠[]->∀p,H p=none->Q (.ref p) (upd H p (.tup (xs++ys))))
theorem Vals.sU{xs:List V}{us:List aak}(r:Vals xs us):us=[]↔xs=[]:=by
 cases r with
 | nil=>simp
 | cons _ _=>simp
theorem Hg:fu X (aan .Add) (Pe X.K):=by
 intro pins s σ H x y v u Q I rx ry h
 obtain⟨a,b,xs,ys,rfl,rfl,ha,hb,hx,hz,q1,q2⟩:=h
 cases rx
 cases ry
 obtain⟨its,r1,p1,_⟩:=I.tuple ha
 obtain⟨its2,r2,p2,_⟩:=I.tuple hb
 refine HT.G_ p1 p2 (λz=>hx (r1.sU.mp z)) (λz=>⟨.ref a,H,I,rfl,q1 (r2.sU.mp z)⟩) (λz=>?_) (by rw[<-r1.length,<-r2.length];exact hz)
 refine⟨.ref s.heap.objs.size,_,I.laid (t':=s.toks) (o:=.tup (xs++ys)) (λb ob q=>aO _ q) (ak _) ?_,rfl,q2 (λw=>z (r2.sU.mpr w)) _ (I.hok.fresh (ak _))⟩
 exact⟨by rw[dH];exact hz,_,r1.append r2,IsTup.new _ _,wU.new _ _⟩
end
def Au(n:Nat)(i:Int):Option Nat:=if 0<=i then(if i < n then some i.toNat else none) else if -(n:Int)<=i then some (i+n).toNat else none
def pf{α:Type}(xs:List α)(i:Int):Option α:=(Au xs.length i).bind λj=>xs[j]?
theorem yE{n:Nat}{i:Int}{j:Nat}(h:Au n i=some j):seqIndex? i n=some j/\j < n/\-(n:Int)<=i/\i < n:=by
 unfold Au at h
 by_cases h0:0<=i
 ·rw[if_pos h0] at h
  by_cases h1:i < n
  ·rw[if_pos h1] at h
   have e:i.toNat=j:=Option.some.inj h
   exact⟨by rw[seqIndex_of h0 h1,e],by omega,by omega,h1⟩
  ·rw[if_neg h1] at h;cases h
 ·rw[if_neg h0] at h
  by_cases h1:-(n:Int)<=i
  ·rw[if_pos h1] at h
   have e:(i+n).toNat=j:=Option.some.inj h
   exact⟨by rw[seqIndex_neg (by omega) h1,e],by omega,h1,by omega⟩
  ·rw[if_neg h1] at h;cases h
theorem oz{α:Type}{xs:List α}{i:Int}{v:α}(h:pf xs i=some v):∃j,seqIndex? i xs.length=some j/\xs[j]? =some v/\j < xs.length/\-(xs.length:Int)<=i/\i < xs.length:=by
 unfold pf at h
 cases e:Au xs.length i with
 | none=>rw[e] at h;cases h
 | some j=>
  rw[e] at h
  obtain⟨h1,h2,h3,h4⟩:=yE e
  exact⟨j,h1,h,h2,h3,h4⟩
theorem j0{α:Type}{xs:List α}{j:Nat}{v:α}(h:xs[j]? =some v):pf xs (j:Int)=some v:=by
 have hj:j < xs.length:=(List.getElem?_eq_some_iff.mp h).1
 have e:Au xs.length (j:Int)=some j:=by
  unfold Au
  rw[if_pos (by omega),if_pos (by omega)];simp
 unfold pf;rw[e];exact h
def yF(b:Expr):Prop:=∀o i,subscripted b false o i=operate [o,i] (getItem o i)
def Hh(X:Cx)(r:R2):Prop :=
 ∀(value slice:Expr)(pins:List (aae×Obj))(s:aaj)(σ:St)(H:Hp)(x y:V)(v u:aak)(Q:VK),Inv X pins σ H s->RelV x v->RelV y u->r x y H Q->
  subscripted slice false v u=operate [v,u] (getItem v u)->aax (model X.prog X.w) X.A (subscriptTail value slice v u) (EP X pins σ Q) X.xe s
def JK(X:Cx)(id:String)(r:V->List V->Hp->VK->Prop):Prop :=
 ∀(pins:List (aae×Obj))(s:aaj)(σ:St)(H:Hp)(x:V)(xs:List V)(v:aak)(us:List aak)(Q:VK),Inv X pins σ H s->RelV x v->Vals xs us->r x xs H Q->
  aax (model X.prog X.w) X.A (call (.builtin id) (v::us)) (EP X pins σ Q) X.xe s
section
variable {X:Cx} {a b:Expr} {ta tb:TE} {pos:Pos}
theorem Hh.or{r r':R2}(h:Hh X r)(h':Hh X r'):Hh X (λx y H Q=>r x y H Q\/r' x y H Q):=by
 intro value slice pins s σ H x y v u Q I rx ry q hs
 rcases q with q | q
 ·exact h value slice pins s σ H x y v u Q I rx ry q hs
 ·exact h' value slice pins s σ H x y v u Q I rx ry q hs
theorem Pf{r:R2}(hr:Hh X r)(ha:PE X a ta)(hb:PE X b tb)(hs:yF b):PE X (.Subscript a b pos) (O3 r ta tb):=by
 intro pins s σ H Q I h
 exact Subscript_ (Ll ha hb I h λv u s2 x y H2 I2 rx ry q=>hr a b pins s2 σ H2 x y v u Q I2 rx ry q (hs _ _))
def Pg(K:PySem.W.Frag):R2:=λx y H Q=>∃p xs i v,x= .ref p/\y= .int i/\jq K H p xs/\pf xs i=some v/\Q v H
def Ph(K:PySem.W.Frag):R2:=λx y H Q=>∃p xs i v,x= .ref p/\y= .int i/\fm K H p xs/\pf xs i=some v/\Q v H
def Pj:R2:=λx y H Q=>∃z i c,x= .str z/\y= .int i/\z.length<=aav/\pf z.cps.toList i=some c/\Q (.str ⟨#[c]⟩) H
theorem Hi:Hh X (Pg X.K):=by
 intro value slice pins s σ H x y v u Q I rx ry h hs
 obtain⟨p,xs,i,z,rfl,rfl,hq,he,q⟩:=h
 cases rx
 obtain⟨t,rfl⟩:=ry
 obtain⟨its,r,pl,hz⟩:=I.list hq
 obtain⟨j,h1,h2,h3,h4,h5⟩:=oz he
 obtain⟨w,ew,rw'⟩:=r.get h2
 have hl:=r.length
 have hn:=k_
 have fin:EP X pins σ Q w s:=⟨z,H,I,rw',q⟩
 by_cases h0:0<=i
 ·have hj:i.toNat=j:=by
   rw[seqIndex_of h0 h5] at h1
   exact Option.some.inj h1
  exact item_listR pl.isList h0 (by omega) (by rw[hj];simpa using ew) fin hs
 ·have hj:(i+(its.toArray.size:Int)).toNat=j:=by
   rw[seqIndex_neg (by omega) h4] at h1
   rw[a6,<-hl]
   exact Option.some.inj h1
  exact subscriptTail_builtinR (x:=w) pl.isList.typeIs slot_list_getitem.lookup
   (wpAny_getItem_list_neg (Q:=λr s'=>r=w/\EP X pins σ Q r s') pl.isList (by omega) (by rw[a6]<;>omega) (by omega) (by rw[hj];simpa using ew) ⟨rfl,fin⟩) hs
theorem LD:Hh X (Ph X.K):=by
 intro value slice pins s σ H x y v u Q I rx ry h hs
 obtain⟨p,xs,i,z,rfl,rfl,hq,he,q⟩:=h
 cases rx
 obtain⟨t,rfl⟩:=ry
 obtain⟨its,r,pl,hz⟩:=I.tuple hq
 obtain⟨j,h1,h2,h3,h4,h5⟩:=oz he
 obtain⟨w,ew,rw'⟩:=r.get h2
 have hl:=r.length
 have hn:=k_
 have fin:EP X pins σ Q w s:=⟨z,H,I,rw',q⟩
 exact subscriptTail_builtinR (x:=w) pl.typeIs slot_tuple_getitem.lookup
  (getItem_tuple (j:=j) (Q:=λr s'=>r=w/\EP X pins σ Q r s') pl (by omega) (by omega) (by rw[a6,<-hl];exact h1) (by simpa using ew) ⟨rfl,fin⟩) hs
theorem LG:Hh X Pj:=by
 intro value slice pins s σ H x y v u Q I rx ry h hs
 obtain⟨z,i,c,rfl,rfl,hz,he,q⟩:=h
 obtain⟨t,rfl⟩:=rx
 obtain⟨t',rfl⟩:=ry
 obtain⟨j,h1,h2,h3,h4,h5⟩:=oz he
 have hl:z.cps.toList.length=z.length:=by simp[Str.length]
 rw[hl] at h1 h4 h5
 have hn:=k_
 exact tail_any (typeIs_str s z t) slot_str_getitem.lookup (getItem_str (c:=c) (by
  have e1:decide (i < -(2 ^ 63:Int))=false:=decide_eq_false (by omega)
  have e2:decide (i >= 2 ^ 63)=false:=decide_eq_false (by omega)
  rw[e1,e2,Bool.or_false]) (by rw[h1];simpa using h2) ⟨.str ⟨#[c]⟩,H,I.tok _,⟨_,rfl⟩,q⟩) hs
def Wh(K:PySem.W.Frag):R2:=λx y H Q=>Pg K x y H Q\/Ph K x y H Q\/Pj x y H Q
theorem LH:Hh X (Wh X.K):=Hi.or (LD.or LG)
theorem xa(its:List aak)(n j:Nat)(u:aak):dY (·.setIfInBounds j u) { cls:=.type "list",data:=.seq its.toArray n }={ cls:=.type "list",data:=.seq (its.set j u).toArray n }:=by
 simp[dY]
theorem Inv.lst{pins:List (aae×Obj)}{σ:St}{H:Hp}{s:aaj}{p:aae}{xs:List V}(I:Inv X pins σ H s)(h:H p=some (.lst xs)) :
  ∃(its:List aak)(n:Nat),Vals xs its/\s.heap.get? p=some { cls:=.type "list",data:=.seq its.toArray n }/\xs.length<=aav:=by
 obtain⟨z,its,n,r,e⟩:=I.hok p _ h
 exact⟨its,n,r,e,z⟩
theorem Inv.LI{pins:List (aae×Obj)}{σ:St}{H:Hp}{s:aaj}{p:aae}{xs ys:List V}{its its':List aak}{n n':Nat}{f:Obj->Obj}(I:Inv X pins σ H s)(h:H p=some (.lst xs))
  (ho:s.heap.get? p=some { cls:=.type "list",data:=.seq its.toArray n })(hf:f { cls:=.type "list",data:=.seq its.toArray n }={ cls:=.type "list",data:=.seq its'.toArray n' })(r:Vals ys its')(hz:ys.length<=aav)(t:Nat) :
  Inv X pins σ (upd H p (.lst ys)) { s with heap:=s.heap.update p f,toks:=t }:=by
 have e:(s.heap.update p f).get? p=some { cls:=.type "list",data:=.seq its'.toArray n' }:=by
  rw[Cz f ho (by rw[hf]<;>rfl),hf]
 refine I.write (x:=p) (e:=p) (by rw[h];trivial) (.inl rfl) (λb u hb q=>(pg _ _ (aW hb)).trans q) ⟨_,e⟩ ?_
 exact⟨hz,its',n',r,e⟩
def Pk:V->V->V->Hp->(Hp->Prop)->Prop:=λo i v H Q=>∃p xs k j,o= .ref p/\i= .int k/\H p=some (.lst xs)/\Au xs.length k=some j/\Q (upd H p (.lst (xs.set j v)))
theorem set_list:OZ X Pk:=by
 intro pins s σ H o i v ov iv u Q I ro ri rv h
 obtain⟨p,xs,k,j,rfl,rfl,hp,hj,q⟩:=h
 cases ro
 obtain⟨t,rfl⟩:=ri
 obtain⟨its,n,r,ho,hz⟩:=I.lst hp
 obtain⟨h1,h2,h3,h4⟩:=yE hj
 have hl:=r.length
 have hn:=k_
 have I':Inv X pins σ (upd H p (.lst (xs.set j v))) { s with heap:=s.heap.update p (dY (·.setIfInBounds j u)) } :=
  I.LI hp ho (xa its n j u) (r.set rv j) (by rw[ph];exact hz) s.toks
 by_cases h0:0<=k
 ·have hk:k.toNat=j:=by
   rw[seqIndex_of h0 h4] at h1
   exact Option.some.inj h1
  exact PySem.W.ki_setAt ho h0 (by omega) (by rw[a6,<-hl];exact h4) (by rw[hk];exact⟨_,I',q⟩)
 ·have hk:(k+(its.toArray.size:Int)).toNat=j:=by
   rw[seqIndex_neg (by omega) h3] at h1
   rw[a6,<-hl]
   exact Option.some.inj h1
  exact PySem.W.ki_setBack ho (by omega) (by rw[a6,<-hl];exact h3) (by omega) (by rw[hk];exact⟨_,I',q⟩)
theorem sV(lo hi:Option Int)(n:Nat):(sliceBounds lo hi none n).1=((HT.c7 n 0 lo:Nat):Int)/\(sliceBounds lo hi none n).2.1=((HT.c7 n n hi:Nat):Int)/\(sliceBounds lo hi none n).2.2=1:=by
 refine⟨?_,?_,rfl⟩
 ·cases lo with
  | none=>simp[sliceBounds,HT.c7]
  | some i=>
   simp only[sliceBounds,HT.c7,Option.getD_none,show(1:Int) > 0 by decide,if_true]
   by_cases h:i < 0
   ·simp only[h,if_true]<;>omega
   ·simp only[h,if_false]<;>omega
 ·cases hi with
  | none=>simp[sliceBounds,HT.c7]
  | some i=>
   simp only[sliceBounds,HT.c7,Option.getD_none,show(1:Int) > 0 by decide,if_true]
   by_cases h:i < 0
   ·simp only[h,if_true]<;>omega
   ·simp only[h,if_false]<;>omega
theorem qU(its:List aak)(lo hi:Option Int):slicePick its.toArray lo hi none=((its.drop (HT.c7 its.length 0 lo)).take (HT.c7 its.length its.length hi - HT.c7 its.length 0 lo)).toArray:=by
 obtain⟨h1,h2,h3⟩:=sV lo hi its.toArray.size
 unfold slicePick
 rw[h1,h2,h3]
 simp only[sliceRange_one,pick_run,a6]<;>rfl
def TL(K:PySem.W.Frag):V->Option Int->Option Int->Hp->VK->Prop:=λx lo hi H Q=>∃a xs,x= .ref a/\jq K H a xs/\∀p,H p=none->Q (.ref p) (upd H p (.lst (qS xs lo hi)))
theorem Hj:Gh X (TL X.K):=by
 intro pins s σ H x v vl vu lo hi sl Q I rx hs pl pu h
 obtain⟨a,xs,rfl,hx,q⟩:=h
 cases rx
 obtain⟨its,r,ht,hz⟩:=I.list hx
 have hlen:=r.length
 refine⟨"list",_,slot_list_getitem.lookup,ht.isList.typeIs,?_⟩
 refine wpAny_getItem_list_slice ht.isList hs pl pu .none (by simp) ?_ (by rw[a6]<;>omega)
 rw[qU,<-hlen]
 refine⟨.ref s.heap.objs.size,_,I.laid (t':=s.toks) (o:=.lst (qS xs lo hi)) (λb ob q=>aO _ q) (ak _) ?_,rfl,q _ (I.hok.fresh (ak _))⟩
 exact⟨bb (nN xs lo hi) hz,_,0,(r.drop (HT.c7 xs.length 0 lo)).take (HT.c7 xs.length xs.length hi - HT.c7 xs.length 0 lo),cq _ rfl⟩
def ff:V->Bool
 | .aL=>true
 | .bl _=>true
 | .int _=>true
 | .str _=>true
 | _=>false
def uO:V->V->Bool
 | .aL,.aL=>true
 | .bl a,.bl b=>a == b
 | .bl a,.int b=>(if a then 1 else 0) == b
 | .int a,.bl b=>a == (if b then 1 else 0)
 | .int a,.int b=>a == b
 | .str a,.str b=>a == b
 | _,_=>false
theorem LJ{A:aaf}{s:aaj}{y x:V}{u v:aak}(ry:RelV y u)(rx:RelV x v)(fy:ff y=true)(fx:ff x=true):SeqAt.EqAt A s u v (uO y x):=by
 cases y with
 | aL=>
  cases ry
  cases x with
  | aL=>cases rx;exact GC _
  | bl b=>cases rx;exact SeqAt.EqAt.none_bool b
  | int b=>obtain⟨t,rfl⟩:=rx;exact Gz b t
  | str b=>obtain⟨t,rfl⟩:=rx;exact GB b t
  | _=>exact absurd (show false=true from fx) dN
 | bl a=>
  cases ry
  cases x with
  | aL=>cases rx;exact SeqAt.EqAt.bool_none a
  | bl b=>cases rx;exact SeqAt.EqAt.bool_bool a b
  | int b=>obtain⟨t,rfl⟩:=rx;exact SeqAt.EqAt.bool_int a b t
  | str b=>obtain⟨t,rfl⟩:=rx;exact SeqAt.EqAt.bool_str a b t
  | _=>exact absurd (show false=true from fx) dN
 | int a=>
  obtain⟨t',rfl⟩:=ry
  cases x with
  | aL=>cases rx;exact Gw a t'
  | bl b=>cases rx;exact SeqAt.EqAt.int_bool a t' b
  | int b=>obtain⟨t,rfl⟩:=rx;exact SeqAt.EqAt.int_int a t' b t
  | str b=>obtain⟨t,rfl⟩:=rx;exact Gv a t' b t
  | _=>exact absurd (show false=true from fx) dN
 | str a=>
  obtain⟨t',rfl⟩:=ry
  cases x with
  | aL=>cases rx;exact Gy a t'
  | bl b=>cases rx;exact SeqAt.EqAt.str_bool a t' b
  | int b=>obtain⟨t,rfl⟩:=rx;exact Gx a t' b t
  | str b=>obtain⟨t,rfl⟩:=rx;exact SeqAt.EqAt.str_str a t' b t
  | _=>exact absurd (show false=true from fx) dN
 | _=>exact absurd (show false=true from fy) dN
def qV(x:V)(u:aak):Bool:=match u with
 | .none=>uO .aL x
 | .bool b=>uO (.bl b) x
 | .int i _=>uO (.int i) x
 | .str z _=>uO (.str z) x
 | _=>false
theorem pj{x y:V}{u:aak}(r:RelV y u)(f:ff y=true):qV x u=uO y x:=by
 cases y with
 | aL=>cases r;rfl
 | bl b=>cases r;rfl
 | int i=>obtain⟨t,rfl⟩:=r;rfl
 | str z=>obtain⟨t,rfl⟩:=r;rfl
 | _=>exact absurd (show false=true from f) dN
theorem lP{x:V}:∀{xs:List V}{us:List aak},Vals xs us->xs.all ff=true->us.any (qV x)=xs.any λy=>uO y x
 | _,_,.nil,_=>rfl
 | y::xs,u::us,.cons r t,f=>by
  rw[eL,dC] at f
  rw[fz,fz,pj r f.1,lP t f.2]
theorem fS{A:aaf}{s:aaj}{x:V}{v:aak}(rx:RelV x v)(fx:ff x=true):∀{xs:List V}{us:List aak},Vals xs us->xs.all ff=true->∀u∈us,SeqAt.EqAt A s u v (qV x u)
 | _,_,.nil,_=>λu hu=>by cases hu
 | y::xs,u::us,.cons r t,f=>λu' hu=>by
  rw[eL,dC] at f
  rcases List.mem_cons.mp hu with rfl | hu
  ·rw[pj r f.1];exact LJ r rx f.1 fx
  ·exact fS rx fx t f.2 u' hu
def RI(x:V)(xs:List V):Bool:=xs.any λy=>uO y x
def Wi(K:PySem.W.Frag)(neg:Bool):R2:=λx y H Q=>∃p xs,y= .ref p/\(jq K H p xs\/fm K H p xs)/\ff x=true/\xs.all ff=true/\Q (.bl (if neg then !RI x xs else RI x xs)) H
theorem Av:fu X (aar .In) (Wi X.K false):=by
 intro pins s σ H x y v u Q I rx ry h
 obtain⟨p,xs,rfl,hq,fx,fs,q⟩:=h
 cases ry
 rcases hq with hq | hq
 ·obtain⟨its,r,pl,hz⟩:=I.list hq
  refine SeqAt.in_listAt (qV x) pl.isList (λw hw=>fS rx fx r fs w (by simpa using hw)) ⟨.bl _,H,I,rfl,?_⟩
  rw[show its.toArray.any (qV x)=its.any (qV x) by simp,lP r fs]
  exact q
 ·obtain⟨its,r,pl,hz⟩:=I.tuple hq
  refine SeqAt.in_tupleAt (qV x) pl (λw hw=>fS rx fx r fs w (by simpa using hw)) ⟨.bl _,H,I,rfl,?_⟩
  rw[show its.toArray.any (qV x)=its.any (qV x) by simp,lP r fs]
  exact q
theorem sW:fu X (aar .NotIn) (Wi X.K true):=by
 intro pins s σ H x y v u Q I rx ry h
 obtain⟨p,xs,rfl,hq,fx,fs,q⟩:=h
 cases ry
 rcases hq with hq | hq
 ·obtain⟨its,r,pl,hz⟩:=I.list hq
  refine SeqAt.notIn_listAt (qV x) pl.isList (λw hw=>fS rx fx r fs w (by simpa using hw)) ⟨.bl _,H,I,rfl,?_⟩
  rw[show its.toArray.any (qV x)=its.any (qV x) by simp,lP r fs]
  exact q
 ·obtain⟨its,r,pl,hz⟩:=I.tuple hq
  refine SeqAt.notIn_tupleAt (qV x) pl (λw hw=>fS rx fx r fs w (by simpa using hw)) ⟨.bl _,H,I,rfl,?_⟩
  rw[show its.toArray.any (qV x)=its.any (qV x) by simp,lP r fs]
  exact q
theorem sX:fu X (aar .NotIn) (λx y H Q=>∃i j,x= .str i/\y= .str j/\Q (.bl (!(!(mP j i 0 j.length 1).isEmpty))) H):=by
 intro pins s σ H x y v u Q I rx ry h
 obtain⟨i,j,rfl,rfl,q⟩:=h
 obtain⟨t,rfl⟩:=rx
 obtain⟨t',rfl⟩:=ry
 exact notIn_str ⟨.bl _,H,I,rfl,q⟩
theorem sY:dM X (.builtin "len") (λxs H Q=>∃p ys,xs=[.ref p]/\(jq X.K H p ys\/fm X.K H p ys)/\Q (.int ys.length) H):=by
 intro pins s σ H xs us Q I r h
 obtain⟨p,ys,rfl,hq,q⟩:=h
 obtain⟨u,rfl,rx⟩:=vals1 r
 cases rx
 have hn:=k_
 rcases hq with hq | hq
 ·obtain⟨its,r',pl,hz⟩:=I.list hq
  have hlen:=r'.length
  exact Calls.call_len_list pl.isList (by simp only[a6]<;>omega) ⟨.int ys.length,H,I.tok _,⟨s.toks+1,by rw[a6,hlen]⟩,q⟩
 ·obtain⟨its,r',pl,hz⟩:=I.tuple hq
  have hlen:=r'.length
  exact len_tuple pl (by simp only[a6]<;>omega) ⟨.int ys.length,H,I.tok _,⟨s.toks+1,by rw[a6,hlen]⟩,q⟩
theorem sZ:dM X (.builtin "len") (λxs H Q=>∃z,xs=[.str z]/\z.length<=aav/\Q (.int z.length) H):=by
 intro pins s σ H xs us Q I r h
 obtain⟨z,rfl,hz,q⟩:=h
 obtain⟨u,rfl,t,rfl⟩:=vals1 r
 have hn:=k_
 exact len_str (by omega) ⟨.int z.length,H,I.tok _,⟨_,rfl⟩,q⟩
theorem dM.or{f:aak}{r r':List V->Hp->VK->Prop}(h:dM X f r)(h':dM X f r'):dM X f (λxs H Q=>r xs H Q\/r' xs H Q):=by
 intro pins s σ H xs us Q I rs q
 rcases q with q | q
 ·exact h pins s σ H xs us Q I rs q
 ·exact h' pins s σ H xs us Q I rs q
theorem s_:dM X (.type "list") (λxs H Q=>∃p ys,xs=[.ref p]/\(jq X.K H p ys\/fm X.K H p ys)/\∀l,H l=none->Q (.ref l) (upd H l (.lst ys))):=by
 intro pins s σ H xs us Q I r h
 obtain⟨p,ys,rfl,hq,q⟩:=h
 obtain⟨u,rfl,rx⟩:=vals1 r
 cases rx
 have fin:∀(its:List aak),Vals ys its->ys.length<=aav->∀(h':Heap)(c':Nat),(∀b o',s.heap.get? b=some o'->h'.get? b=some o')->
   h'.get? s.heap.objs.size=some { cls:=.type "list",dict:=none,data:=.seq its.toArray c',slots:=#[] }->EP X pins σ Q (.ref s.heap.objs.size) { s with heap:=h' }:=λits r' hz h' c' kp e=>
  ⟨.ref s.heap.objs.size,_,I.laid (t':=s.toks) kp (ak _) (show c9 X.prog X.w _ h' _ (.lst ys) from⟨hz,its,c',r',e⟩),rfl,q _ (I.hok.fresh (ak _))⟩
 rcases hq with hq | hq
 ·obtain⟨its,r',pl,hz⟩:=I.list hq
  have hlen:=r'.length
  obtain⟨o,ho,hc,n,hd⟩:=pl.isList
  exact call_list_seq p (.inl rfl) ho hc hd (λh' c' kp e=>fin its r' hz h' c' kp e) (by simp only[a6]<;>omega)
 ·obtain⟨its,r',pl,hz⟩:=I.tuple hq
  have hlen:=r'.length
  obtain⟨o,ho,hc,n,hd⟩:=pl
  exact call_list_seq p (.inr rfl) ho hc hd (λh' c' kp e=>fin its r' hz h' c' kp e) (by simp only[a6]<;>omega)
theorem qW:dM X (.type "tuple") (λxs H Q=>∃p ys,xs=[.ref p]/\((jq X.K H p ys/\∀l,H l=none->Q (.ref l) (upd H l (.tup ys)))\/(fm X.K H p ys/\Q (.ref p) H))):=by
 intro pins s σ H xs us Q I r h
 obtain⟨p,ys,rfl,h⟩:=h
 obtain⟨u,rfl,rx⟩:=vals1 r
 cases rx
 rcases h with ⟨hq,q⟩ | ⟨hq,q⟩
 ·obtain⟨its,r',pl,hz⟩:=I.list hq
  have hlen:=r'.length
  refine call_tuple_list pl.isList (λh' kp=>?_) (by simp only[a6]<;>omega)
  have I1:Inv X pins σ H { s with heap:=h' }:=I.kept (t':=s.toks) kp
  have I2:Inv X pins σ (upd H h'.objs.size (.tup ys)) { s with heap:=h'.push { cls:=.type "tuple",data:=.seq its.toArray } } :=
   I1.laid (t':=s.toks) (λb o e=>aO _ e) (ak _) (show c9 X.prog X.w _ _ _ (.tup ys) from⟨hz,its,r',IsTup.new _ _,wU.new _ _⟩)
  exact⟨.ref h'.objs.size,_,I2,rfl,q _ (I1.hok.fresh (ak _))⟩
 ·obtain⟨its,r',pl,hz⟩:=I.tuple hq
  exact call_tuple_same pl ⟨.ref p,H,I,rfl,q⟩
def Wj(K:PySem.W.Frag)(T:String)(x:V)(H:Hp):Prop:=match x with
 | .str _=>T="str"
 | .int _=>T="int"
 | .ref p=>(T="list"/\∃xs,jq K H p xs)\/(T="tuple"/\((∃o,K.lookup p=some o/\o.cls= .type "tuple"/\o.dict=none)\/∃xs,H p=some (.tup xs)))\/
   (T="dict"/\((∃kvs,H p=some (.dK kvs))\/∃kvs,H p=some (.dT kvs)))\/(T="set"/\∃S n,H p=some (.set S n))
 | _=>False
theorem LK{pins:List (aae×Obj)}{σ:St}{H:Hp}{s:aaj}{T:String}{x:V}{v:aak}(I:Inv X pins σ H s)(r:RelV x v)(ty:Wj X.K T x H) :
  s.TypeIs v T/\∀a,v= .ref a->∃ob,s.heap.get? a=some ob/\ob.dict=none:=by
 cases x with
 | str z=>
  obtain⟨t,rfl⟩:=r
  cases (show T="str" from ty)
  exact⟨typeIs_str s z t,λ_ e=>nomatch e⟩
 | int i=>
  obtain⟨t,rfl⟩:=r
  cases (show T="int" from ty)
  exact⟨typeIs_int s i t,λ_ e=>nomatch e⟩
 | ref p=>
  cases r
  rcases ty with ⟨rfl,xs,hq⟩ | ⟨rfl,⟨o,hk,hc,hd⟩ | ⟨xs,hk⟩⟩ | ⟨rfl,hk⟩ | ⟨rfl,S,n,hk⟩
  ·obtain⟨its,_,pl,_⟩:=I.list hq
   refine⟨pl.isList.typeIs,λa e=>?_⟩
   cases e
   obtain⟨o,n,e,c,hd,_⟩:=pl
   exact⟨o,e,hd⟩
  ·refine⟨⟨o,I.wV p o hk,hc⟩,λa e=>?_⟩
   cases e
   exact⟨o,I.wV _ o hk,hd⟩
  ·obtain⟨_,_,_,⟨o,e1,e2,_⟩,nd⟩:=I.hok p _ hk
   refine⟨⟨o,e1,e2⟩,λa e=>?_⟩
   cases e
   exact⟨o,e1,nd o e1⟩
  ·have z:∃o,s.heap.get? p=some o/\o.ExactDict:=by
    rcases hk with ⟨kvs,hk⟩ | ⟨kvs,hk⟩
    ·obtain⟨_,_,_,_,o,_,_,e,ex,_⟩:=I.hok p _ hk
     exact⟨o,e,ex⟩
    ·obtain⟨_,_,_,_,o,_,_,e,ex,_⟩:=I.hok p _ hk
     exact⟨o,e,ex⟩
   obtain⟨o,e,ex⟩:=z
   refine⟨⟨o,e,ex.1⟩,λa e2=>?_⟩
   cases e2
   exact⟨o,e,ex.2.1⟩
  ·obtain⟨o,_,_,_,e,ex,_⟩:=I.hok p _ hk
   refine⟨⟨o,e,ex.1⟩,λa e2=>?_⟩
   cases e2
   exact⟨o,e,ex.2.1⟩
 | _=>exact aa ty
def Xu(K:PySem.W.Frag)(T:String)(r:V->List V->Hp->VK->Prop)(to:TE)(t:TA):TE:=λσ H Q=>to σ H λx H1=>Wj K T x H1/\t σ H1 λxs H2=>r x xs H2 Q
variable {o e:Expr} {es:List Expr} {to:TE} {t:TA} {name:Str} {apos cpos:Pos} {T id:String} {r:V->List V->Hp->VK->Prop}
theorem yG(pa:PlainAttrs T)(slot:Slot T name id)(hty:typeOf (.builtin id)=pure (.type "method_descriptor"))(hm:JK X id r)(ho:PE X o to)(ha:PA X (e::es) t)
  (hbase:attributeBase o name X.env (eval o X.env)=eval o X.env:=by rfl)
  (hfew:((backTo cpos (aaw (e::es) X.env)).all (λx=> !x.1)&&(backToKw cpos (keywordEach [] X.env)).all (λx=>x.1.isSome)
   &&decide ((e::es).length+([]:List Keyword).length+(if([]:List Keyword).isEmpty then 0 else 1) < 30))=true:=by rfl)
  (hline:(apos.endLine == cpos.line)=true:=by rfl)(hs:aaw (e::es) X.env=(false,eval e X.env)::aaw es X.env:=by rfl)(hplain:(backTo cpos (aaw es X.env)).any (·.1)=false:=by rfl) :
  PE X (.Call (.Attribute o name apos) (e::es) [] cpos) (Xu X.K T r to t):=by
 intro pins s σ H Q I h
 refine wpAny_Call_method_late hbase hfew hline rfl (bx (ho pins s σ H _ I h) λv s1 ⟨x,H1,I1,r1,ty,q1⟩=>?_)
 obtain⟨h1,h2⟩:=LK I1 r1 ty
 refine⟨T,id,pa,slot,hty,h1,h2,?_⟩
 have hA:=ha cpos pins s1 σ H1 _ I1 q1
 rw[hs] at hA ⊢
 refine mR (by show(false||(backTo cpos (aaw es X.env)).any (·.1))=false;rw[hplain]<;>rfl) (mS ?_)
 exact bx hA λus s2 ⟨vs,H2,I2,r2,q2⟩=>hm pins s2 σ H2 x vs v us Q I2 r1 r2 q2
/- xs.append(e),list.index on a CA tuple .. are JK facts of 06m -/
end
def Wl(X:Cx)(id:String)(r:V->List V->Hp->VK->Prop):Prop :=
 ∀(pins:List (aae×Obj))(s:aaj)(σ:St)(H:Hp)(x:V)(xs:List V)(v:aak)(us:List aak)(Q:VK),Inv X pins σ H s->RelV x v->Vals xs us->r x xs H Q->
  aax (model X.prog X.w) X.A (call (.builtin id) (v::us)) (EP X pins σ Q) X.xe s
theorem Vals.one:∀{x:V}{us:List aak},Vals [x] us->∃u,us=[u]/\RelV x u
 | _,_,.cons r .nil=>⟨_,rfl,r⟩
theorem Vals.eraseIdx:∀{xs:List V}{us:List aak}(i:Nat),Vals xs us->Vals (xs.eraseIdx i) (us.eraseIdx i)
 | _,_,_,.nil=> .nil
 | _,_,0,.cons _ t=>t
 | _,_,i+1,.cons r t=> .cons r (Vals.eraseIdx i t)
theorem Vals.rep{xs:List V}{us:List aak}(h:Vals xs us):∀k:Nat,Vals (aJ k xs).flatten (aJ k us).flatten
 | 0=> .nil
 | k+1=>by
  rw[hU,hU,pk,pk]
  exact Vals.append h (Vals.rep h k)
theorem rE{α:Type}:∀(l:List α)(i:Nat),(l.eraseIdx i).length<=l.length
 | [],_=>ak _
 | _::_,0=>oA _
 | _::r,i+1=>oB (rE r i)
theorem foldl_rep(its:List aak):∀(k:Nat)(acc:List aak),
  List.foldl (λx1 x2=>x1++x2) acc.toArray (aJ k its.toArray)=(acc++(aJ k its).flatten).toArray
 | 0,acc=>by simp
 | k+1,acc=>by
  have e:acc.toArray++its.toArray=(acc++its).toArray:=by simp
  have e2:(acc++its)++(aJ k its).flatten=acc++(aJ (k+1) its).flatten:=by
   rw[hU,pk,xb]
  rw[<-e2,<-foldl_rep its k (acc++its),<-e,hU,CB]
section
variable {X:Cx} {pins:List (aae×Obj)} {σ:St} {H:Hp} {s:aaj} {l b:aae} {xs ys zs:List V}
theorem Inv.LL{its its':List aak}{n:Nat}{f:Array aak->Array aak}{t':Nat}(I:Inv X pins σ H s)(hH:H l=some (.lst xs))
  (e:s.heap.get? l=some { cls:=.type "list",data:=.seq its.toArray n })(hf:f its.toArray=its'.toArray)(hv:Vals ys its')(hz:ys.length<=aav) :
  Inv X pins σ (upd H l (.lst ys)) { s with heap:=s.heap.update l (dY f),toks:=t' }:=by
 have q:=PySem.IsL.update e f
 rw[hf] at q
 refine I.write (x:=l) (e:=l) (by rw[hH];exact trivial) (.inl rfl) (λb' u hb hu=>(pg s.heap (dY f) (aW hb)).trans hu) ⟨_,q⟩ ?_
 exact⟨hz,its',_,hv,q⟩
theorem Inv.Hk{its:List aak}{t':Nat}(I:Inv X pins σ H s)(hv:Vals ys its)(hz:ys.length<=aav) :
  Inv X pins σ (upd H s.heap.objs.size (.lst ys)) { s with heap:=s.heap.push { cls:=.type "list",data:=.seq its.toArray },toks:=t' } :=
 I.laid (λ_ _ q=>aO _ q) (ak _) ⟨hz,its,0,hv,cq _ rfl⟩
theorem Inv.fresh(I:Inv X pins σ H s):H s.heap.objs.size=none:=I.hok.fresh (ak _)
theorem Inv.CC(I:Inv X pins σ H s)(hH:H l=some (.lst xs)):xs.length<=aav/\∃(its:List aak)(n:Nat),Vals xs its/\xs.length=its.length/\s.heap.get? l=some { cls:=.type "list",data:=.seq its.toArray n }:=by
 obtain⟨z,its,n,r,e⟩:=I.hok l _ hH
 exact⟨z,its,n,r,r.length,e⟩
theorem CD{n:Nat}(h:n<=aav):CF n=false:=by
 unfold CF
 exact decide_eq_false (by omega)
end
section
variable {X:Cx}
def Hl:V->List V->Hp->VK->Prop:=λx vs H Q=>∃l xs y,x= .ref l/\vs=[y]/\H l=some (.lst xs)/\xs.length < aav/\Q .aL (upd H l (.lst (xs++[y])))
theorem Aw:Wl X "list.append" Hl:=by
 intro pins s σ H x vs v us Q I rx rv h
 obtain⟨l,xs,y,rfl,rfl,hH,hz,q⟩:=h
 cases rx
 obtain⟨u,rfl,ru⟩:=rv.one
 obtain⟨z,its,n,r,hl,e⟩:=I.CC hH
 refine call_meets F.slot_list_append ⟨_,e,rfl⟩ F.entry_list_append (F.args_list_append_2 _ _) (PySem.list_append l its.toArray n u (by rw[a6];omega)) ⟨e,?_⟩
 refine⟨.aL,_,I.LL (its':=its++[u]) hH e (by simp) (r.append (.cons ru .nil)) ?_,rfl,q⟩
 rw[dH,LM]
 omega
def LN:V->List V->Hp->VK->Prop:=λx vs H Q=>∃l xs i k y,x= .ref l/\vs=[.int i]/\H l=some (.lst xs)/\-(2 ^ 63)<=i/\i < 2 ^ 63/\seqIndex? i xs.length=some k/\xs[k]? =some y/\Q y (upd H l (.lst (xs.eraseIdx k)))
theorem CG:Wl X "list.pop" LN:=by
 intro pins s σ H x vs v us Q I rx rv h
 obtain⟨l,xs,i,k,y,rfl,rfl,hH,h1,h2,hk,hy,q⟩:=h
 cases rx
 obtain⟨u,rfl,ru⟩:=rv.one
 obtain⟨t,rfl⟩:=ru
 obtain⟨z,its,n,r,hl,e⟩:=I.CC hH
 obtain⟨w,hw,rw'⟩:=r.get hy
 refine call_meets F.slot_list_pop ⟨_,e,rfl⟩ F.entry_list_pop (F.args_list_pop_2 _ _)
  (MeetsSeq.list_pop_at l its.toArray n i t k w (fitsIndex_both h1 h2) (by rw[a6,<-hl];exact hk) (by rw[<-Pl];exact hw) (by rw[a6];omega)) ⟨e,?_⟩
 refine⟨y,_,I.LL (its':=its.eraseIdx k) hH e ?_ (r.eraseIdx k) ?_,rw',q⟩
 ·show its.toArray.eraseIdxIfInBounds k=(its.eraseIdx k).toArray
  rw[List.eraseIdxIfInBounds_toArray]
 ·have:=rE xs k
  omega
def TM:R2:=λx y H Q=>∃l k xs,x= .ref l/\y= .int k/\H l=some (.lst xs)/\-(2 ^ 63)<=k/\k < 2 ^ 63/\xs.length * k.toNat<=aav/\
 ∀p,H p=none->Q (.ref p) (upd H p (.lst (aJ k.toNat xs).flatten))
theorem len_rep{α:Type}(xs:List α)(k:Nat):(aJ k xs).flatten.length=k * xs.length:=by
 induction k with
 | zero=>simp
 | succ k ih=>rw[hU,pk,dH,ih,Nat.succ_mul,Nat.add_comm]
theorem LO:fu X (aan .Mult) TM:=by
 intro pins s σ H x y v u Q I rx ry h
 obtain⟨l,k,xs,rfl,rfl,hH,h1,h2,hz,q⟩:=h
 cases rx
 obtain⟨t,rfl⟩:=ry
 obtain⟨z,its,n,r,hl,e⟩:=I.CC hH
 have hlen:its.toArray.size * k.toNat<=aav:=by rw[a6,<-hl];exact hz
 have hcap:¬its.toArray.size * k.toNat > (2 ^ 63 - 1) / 8:=by
  have:(aav:Nat)<=(2 ^ 63 - 1) / 8:=by decide
  omega
 have hfit:¬(!Builtin.List.listFitsIndex k)=true:=by
  rw[fitsIndex_both h1 h2]
  exact dN
 have Pn:¬CF (its.toArray.size * k.toNat)=true:=by
  rw[CD hlen]
  exact dN
 have hnew:List.foldl (λx1 x2=>x1++x2) #[] (aJ (if its.toArray.isEmpty=true then 0 else k.toNat) its.toArray)=(aJ k.toNat its).flatten.toArray:=by
  have f0:∀m:Nat,List.foldl (λx1 x2=>x1++x2) #[] (aJ m its.toArray)=(aJ m its).flatten.toArray:=λm=>by
   have:=foldl_rep its m []
   rw[j3] at this
   exact this
  rw[f0]
  cases its with
  | nil=>simp
  | cons a r'=>rw[if_neg (by simp)]
 refine wpAny_binaryOp_repeat_ref (T:="list") (U:="int") (by decide) ⟨_,e,rfl⟩ (λs'=>typeIs_int s' k t) noFill_list_mul F.fills_int_mul F.slot_int_rmul repeat_list F.slot_int_index.lookup
  (call_meets F.slot_int_rmul (typeIs_int s k t) F.entry_int_rmul (F.args_int_rmul_2 _ _) (int___rmul___int_list k t l its.toArray n)
   ⟨e,rfl,⟨_,e,rfl⟩,call_meets F.slot_list_mul ⟨_,e,rfl⟩ F.entry_list_mul (F.args_list_mul_2 _ _) (AutoListH.list___mul___list_int_3 l its.toArray n k t hfit hcap Pn) ⟨e,?_⟩⟩)
 rw[hnew]
 exact⟨.ref _,_,I.Hk (t':=s.toks) (r.rep k.toNat) (by rw[len_rep,Nat.mul_comm];exact hz),rfl,q _ I.fresh⟩
end
section
variable {prog:aai} {w:aal} {A:aaf} {E:aak->aaj->Prop} {s:aaj}
set_option maxRecDepth 100000 in
end
section
variable {X:Cx}
end
end L2
namespace Att
open PySem PySem.W PySem.Calls PyProof.Rows
theorem og{P:Params}{h:Heap}:∀(ns:List Int)(vs:List aak),WellAll P h vs (ns.map WData.int)->IntsAre vs ns:=by
 intro ns
 induction ns with
 | nil=>
  intro vs w
  rw[CH] at w
  cases w
  exact .nil
 | cons n ns ih=>
  intro vs w
  rw[aM] at w
  cases w with
  | cons a b=>
   cases a
   exact .cons _ _ (ih _ b)
theorem Ax{l:OpenLaw}{n:Nat}(hn:l.most=some n){P:Params}{h:Heap}{args:List WData}{vals:List aak}
  (hpre:l.row.toRowW.claim.pre args=true)(hwl:WellAll P h vals args) :
  ∃a vs ns,vals=[aU a]/\args=[WData.list (ns.map WData.int)]/\h.get? a=some { cls:=.type "list",data:=.seq vs.toArray }/\IntsAre vs ns/\ns.length<=n:=by
 have hsh:WShape.hasAll [] args [.list .int]=true:=(pre_splitW hpre).1
 have hc:l.pre.holds [] { args:=args }=true:=(pre_splitW hpre).2
 obtain⟨d,r,rfl,h1,h2⟩:=hasAllW_cons hsh
 obtain rfl:=hasAllW_nil h2
 obtain⟨xs,rfl,h3⟩:=hasW_list h1
 obtain⟨ns,rfl⟩:=items_int h3
 have hlen:ns.length<=n:=by
  unfold OpenLaw.pre at hc
  have h4:(WTm.not (.lt (.lit (.int (n:Int))) (.len (.arg 0)))).holds [] { args:=[.list (ns.map .int)] }=true:=by
   have h4:=(holds_andW hc).1
   rw[hn] at h4
   exact h4
  have h5:=condW_of h4 (w_not (w_lt w_lit (w_len_list (w_arg rfl))))
  rw[aA] at h5
  refine Nat.le_of_not_lt λq=>?_
  have q':(n:Int) < ((ns.length:Nat):Int):=by omega
  first
   | (rw[decide_eq_true q'] at h5;exact absurd h5 (by decide))
   | (simp at h5;omega)
 cases hwl with
 | cons w1 w2=>
  cases w2
  cases w1 with
  | list ho hall=>exact⟨_,_,ns,rfl,rfl,ho,og ns _ hall,hlen⟩
theorem Ay(l:OpenLaw)(args:List WData):l.row.toRowW.claim.post args (.bool true) args=true :=
 postW_of (r:=l.row.toRowW) (X:=(true == true))
  (show WShape.has [] (.bool true) .bool=true by first | rfl | decide | simp[WShape.has,WShape.arms,WShape.armsAll])
  (show(WTm.eq .res (.lit (.bool true))).value [] { args:=args,res:=some (.bool true),after:=args }=some (.bool (true == true)) from w_eq_bool (w_res rfl) w_lit) rfl
theorem uP{l:OpenLaw}{n:Nat}{q:aai}{loose:List Str}{XP:(Str->Option aak)->Heap->Prop}{YP:aal->Heap->Prop}{d:DefRec}
  (hn:l.most=some n)(hdf:d.params.defaults=[])
  (call:∀(w:aal)(s₀ s₁:aaj)(mg mb:Str->Option aak)(fa:aae)(o:Obj)(pm cd doc:aak)(a:aae)(vs:List aak)(ns:List Int),
   Ground q loose [] XP w s₀ mg mb s₁.heap->YP w s₁.heap->
   s₁.heap.get? fa=some o->o.data= .func (docDef d.name d.params d.body d.scope pm cd doc)->s₁.heap.CodeRec cd d.name->mg d.name=some (.ref fa)->
   s₁.heap.get? a=some { cls:=.type "list",data:=.seq vs.toArray }->IntsAre vs ns->ns.length<=n->s₁.gens=#[]->
   aap (model l.prog w) callerA (.call (.ref fa) ⟨[.ref a],[]⟩) (λr s'=>r= .ok (.ret (.bool true))/\OldK s₁.heap s'.heap/\s'.os=s₁.os/\AllBare s'.gens) s₁) :
  WalkO q loose XP YP l.row.toRowW d [] (λf vs=>PySem.call f vs):=by
 intro w s₀ s₁ mg mb G Y fa o pm cd doc dV kV ho hd hcd hD hmg hg args vals as hpre hlay hrd hwl hlo
 obtain rfl:dV= .none:=Dflts.none hD hdf
 obtain rfl:kV= .none:=Dflts.noKw hD
 obtain⟨a,vs,ns,rfl,rfl,hobj,hints,hlen⟩:=Ax hn hpre hwl
 refine enter_call (codeAny_mono (call w s₀ s₁ mg mb fa o pm cd doc a vs ns G Y ho (fd_plain hd) hcd hmg hobj hints hlen hg) λr s' hq=>?_)
 obtain⟨rfl,h2,h3,h4⟩:=hq
 exact⟨.inl ⟨.bool true,.bool true,[],rfl,λ_=>rfl,.bool true,Ay l _,λ_=>⟨List.Pairwise.nil,λ_ hm=>(nomatch hm)⟩⟩,h2,h3,h4⟩
section
variable {prog:aai} {w:aal} {A:aaf} {E:aak->aaj->Prop} {s:aaj} {K:Frag}
end
end Att
namespace L2
open PySem PySem.Spec PyProof.Rows
theorem rF:∀{vs:List aak}{ns:List Int},IntsAre vs ns->Vals (ns.map V.int) vs
 | _,_,.nil=> .nil
 | _,_,.cons n t h=> .cons ⟨t,rfl⟩ (rF h)
def Hm(H:Hp):Prop:=∀b,H b=none\/∃o xs,H b=some (.fb o (.lst xs))
theorem CI{P:aai}{w:aal}{K:PySem.W.Frag}{mg mb:Str->Option aak}{CX:BU}{k:Nat}{fa a:aae}{fd:aag}{x:Str}{sp:Sp}{s₁:aaj}{vs:List aak}{ns:List Int}
  (KX:K.In s₁.heap)(hns:s₁.heap.Ns aau mg)(hb:s₁.heap.Ns builtinsNs mb)(Xv:∀x:Str,x≠"__name__"->mb x=aao x)(hlim:s₁.heap.NoLimit)(hg:s₁.gens=#[])
  (ha:s₁.heap.get? a=some { cls:=.type "list",data:=.seq vs.toArray })(hi:IntsAre vs ns)(hl:ns.length<=aav)(hr:fc k callerA)
  (F:∀base:Heap,K.In base->base.Ns aau mg->FnOk P w K mg base CX k fa fd [x] sp)(hbind:∀(s:aaj)(u:aak),BindsTo s fd ⟨[u],[]⟩ [(x,u)])
  (Ot:∀H:Hp,Hm H->jq K H a (ns.map V.int)->sp [.ref a] H (λv _=>v= .bl true) λ_ _ _=>False)
  (TN:∀H e s',CX [] H s₁ (λ_ _ _=>False) e s'->False) :
  aap (model P w) callerA (.call (.ref fa) ⟨[.ref a],[]⟩) (λr s'=>r= .ok (.ret (.bool true))/\OldK s₁.heap s'.heap/\s'.os=s₁.os/\AllBare s'.gens) s₁:=by
 have rv:=rF hi
 have TQ:=hi.length
 -- from an abstract heap in which nothing but the script may be tracked
 have core:∀H:Hp,Hm H->jq K H a (ns.map V.int)->jh P w H s₁.heap->(∀b,H b≠none->b=a)->(H a≠none->K.lookup a=none)->
   aap (model P w) callerA (.call (.ref fa) ⟨[.ref a],[]⟩) (λr s'=>r= .ok (.ret (.bool true))/\OldK s₁.heap s'.heap/\s'.os=s₁.os/\AllBare s'.gens) s₁:=by
  intro H hO hS hok hA hK
  have yH:∀{b:aae}{o:Obj},s₁.heap.get? b=some o->H b=none->(sI s₁.heap H).get? b=some o:=λe n=>B9 e n
  have Pb:∀{b:aae}{o:Obj}{es:Array DictEntry}{ep:Nat},s₁.heap.get? b=some o->o.data= .dict es ep->H b=none:=λ{b o es ep} e d=>by
   cases q:H b with
   | none=>rfl
   | some u=>
    have e':b=a:=hA b (by rw[q];simp)
    subst e'
    rw[ha] at e;cases e
    have d':Data.seq vs.toArray _=Data.dict es ep:=d
    cases d'
  have RJ:∀{b:aae}{m:Str->Option aak},s₁.heap.Ns b m->(sI s₁.heap H).Ns b m:=λ{b m} ⟨o,es,ep,e,d,r⟩=>⟨o,es,ep,yH e (Pb e d),d,r⟩
  have Wm:K.In (sI s₁.heap H):=λb o e=>yH (KX b o e) (by
   cases q:H b with
   | none=>rfl
   | some u=>
    have e':b=a:=hA b (by rw[q];simp)
    subst e'
    rw[hK (by rw[q];simp)] at e;cases e)
  have hM:Mod K mg (sI s₁.heap H):=⟨Wm,RJ hns,⟨mb,RJ hb,Xv⟩,let ⟨mc,h1,h2⟩:=hlim;⟨mc,RJ h1,h2⟩⟩
  have e0:oa P w K mg (sI s₁.heap H) callerA [] s₁ H:=⟨rfl,hM,λb o e=>GF e,lQ (Ai _ _),trivial,λb hb=>absurd (show b∈([]:List aae) from hb) (by simp),hok,.of_eq hg⟩
  refine codeAny_mono ((F _ Wm (RJ hns)).run callerA [] s₁ H ⟨[.ref a],[]⟩ [.ref a] [.ref a] _ _ hr e0 (hbind s₁ (.ref a)) (.cons rfl .nil) (Ot H hO hS)) λr s' h=>?_
  cases r with
  | error e=>exact(TN H e s' h).elim
  | ok fl=>
   cases fl with
   | next=>exact aa h
   | brk=>exact aa h
   | cont=>exact aa h
   | ret u=>
    obtain⟨v,H',os,bare,un,TR,r',q⟩:=h
    have q':v= .bl true:=q
    subst q'
    obtain rfl:u=Value.bool true:=r'
    refine⟨rfl,OldK.of_keep λb o e=>?_,os,bare⟩
    cases q:H b with
    | none=>exact un.keep b o e q (by intro z;exact absurd (show b∈([]:List aae) from z) (by simp)) (by simp)
    | some u=>
     rcases hO b with z | ⟨ob,xs,z⟩
     ·rw[q] at z;cases z
     ·have z2:=un.jo b ob _ z
      obtain⟨e1,_⟩:=hok b _ z
      obtain⟨e2,_⟩:=TR b _ z2
      rw[e] at e1;cases e1
      exact e2
 cases hk:K.lookup a with
 | some o=>
  -- the script is one of the CA own objects
  have e:=KX a o hk
  rw[ha] at e
  cases e
  refine core (λ_=>none) (λ_=> .inl rfl) (.inr ⟨_,vs.toArray,_,hk,rfl,rfl,rfl,by rw[a6,TQ];exact hl,by simpa using rv⟩) (λb u z=>by have z':(none:Option HO)=some u:=z;cases z') (λb z=>absurd rfl z) λz=>absurd rfl z
 | none=>
  refine core (λb=>if b=a then some (.fb { cls:=.type "list",data:=.seq vs.toArray } (.lst (ns.map V.int))) else none) (λb=>?_) (.inl (.inr ⟨{ cls:=.type "list",data:=.seq vs.toArray },if_pos rfl⟩)) (λb u z=>?_) (λb z=>?_) λ_=>hk
  ·by_cases hb:b=a
   ·exact .inr ⟨_,_,if_pos hb⟩
   ·exact .inl (if_neg hb)
  ·by_cases hb:b=a
   ·have z':=(if_pos hb).symm.trans z
    cases z'
    subst hb
    exact⟨ha,by rw[aA];exact hl,vs,_,rv,ha⟩
   ·have z':=(if_neg hb).symm.trans z
    cases z'
  ·by_cases hb:b=a
   ·exact hb
   ·exact absurd (if_neg hb) z
abbrev KOf{K:PySem.W.Frag}{h:Heap}(_:K.In h):PySem.W.Frag:=K
theorem walk_of{l:PySem.W.OpenLaw}{n k:Nat}{q:aai}{loose:List Str}{XP:(Str->Option aak)->Heap->Prop}{YP:aal->Heap->Prop}{d:DefRec}{K:Params->PySem.W.Frag}{CX:aal->BU}{sp:aal->Sp}{x:Str}
  (hn:l.most=some n)(hn2:n<=aav)(hdf:d.params.defaults=[])(hr:fc k callerA)
  (hY:∀(w:aal)(h:Heap),YP w h->(K w.params).In h)
  (F:∀(w:aal)(mg:Str->Option aak)(fa:aae)(h:Heap),(K w.params).In h->h.Ns aau mg->mg d.name=some (.ref fa)->
   ∃fd:aag,(∀(s:aaj)(u:aak),BindsTo s fd ⟨[u],[]⟩ [(x,u)])/\
    ∀base:Heap,(K w.params).In base->base.Ns aau mg->FnOk l.prog w (K w.params) mg base (CX w) k fa fd [x] (sp w))
  (Ot:∀(w:aal)(H:Hp)(a:aae)(ns:List Int),ns.length<=n->Hm H->jq (K w.params) H a (ns.map V.int)->sp w [.ref a] H (λv _=>v= .bl true) λ_ _ _=>False)
  (TN:∀(w:aal)(H:Hp)(s:aaj)(e:aak)(s':aaj),CX w [] H s (λ_ _ _=>False) e s'->False) :
  PySem.W.WalkO q loose XP YP l.row.toRowW d [] (λf vs=>PySem.call f vs):=by
 refine Att.uP hn hdf λw s₀ s₁ mg mb fa o pm cd doc a vs ns G Y ho hd hcd hmg hobj hints hlen hg=>?_
 have KX:=hY w _ Y
 obtain⟨fd,hb,hF⟩:=F w mg fa _ KX G.T.g hmg
 exact CI KX G.T.g G.T.b G.T.builtins G.T.nolimit hg hobj hints (bb hlen hn2) hr hF hb (λH hO hS=>Ot w H a ns hlen hO hS) λH e s'=>TN w H s₁ e s'
end L2
/- ZG Xw RK (shape;ZH,My.* are Wn):
   My.ZI: a structure of the addresses Xx your Wq names (classes,Ou);My.Txt K t: a structure (Prop) of the equations over K;
   My.LP:{K} {implicit addresses ..} (e1:nsIn K aau "law"=some (some (.ref f))) (e2:K.lookup f=some ⟨oc,od,.func (fnOf "law" "law" params body scope dV kV doc pm an cdv ct),sl⟩) (e3:codeIn K cdv "law"=true) ..:∃t,My.Txt K t
set_option maxRecDepth 100000 in
set_option maxHeartbeats 0 in
theorem PySem.Challenge.cw_LID_holds:PySem.Challenge.rw_LID.Holds:=by
 w_on;o_law;k_head;(case hw=>w_witness2)
 k_fill
 refine L2.walk_of (l:=PySem.Challenge.rw_LID) (n:=63) (k:=40) (x:="script") (CX:=fun w => ..) (sp:=fun _ => My.sp_law) rfl (by decide) rfl ⟨rfl,by decide,by decide⟩ (fun w h Y => PySem.W.kIn_of Y) ?F ?S ?C
 case F=>
  intro w mg fa h KX G hmg
  have T:∃t,My.Txt (L2.KOf KX) t:=by
   dsimp only[L2.KOf] -- K Xy stand as «<heap const> w.params» for k_is
   refine' My.LP ?e1 ?e2 ?e3 ..
   (case e1=>PySem.W.k_is) -- in the order: a name -> its address -> its object -> its parts
   (case e2=>PySem.W.k_is)
   ..
  obtain⟨t,T⟩:=T
  have e0:=hmg.symm.trans (PySem.W.mg_of KX G T.law)
  cases e0 -- fa is the Ws own address
  exact⟨_,λs u=> .of_eq rfl,λbase kb nb=>My.LQ T kb nb⟩ -- if «.of_eq rfl» comes ZJ early: refine' ⟨_,?b,λbase kb nb=>My.LQ T kb nb⟩;exact λs u=> .of_eq rfl
 case S=>exact λw H a ns hl hO hS=> ..
 case C=>exact ..
(the tactic k_is has no namespace: write k_is) -/
namespace L2
open PySem PySem.Spec PyProof.Rows
def defArgs(s:Stmt):Arguments:=match s with
 | .FunctionDef _ a _ _ _ _ _ _ _ _=>a
 | _=>{ posonlyargs:=[],args:=[],vararg:=none,kwonlyargs:=[],kw_defaults:=[],kwarg:=none,defaults:=[] }
def defBody(s:Stmt):List Stmt:=match s with
 | .FunctionDef _ _ b _ _ _ _ _ _ _=>b
 | _=>[]
def defScope(s:Stmt):Scope:=match s with
 | .FunctionDef _ _ _ _ _ _ sc _ _ _=>sc
 | _=>{ kind:=.function,names:=[],isGenerator:=false,isCoroutine:=false }
abbrev CX0:BU:=λ_ _ _ _ _ _=>False
abbrev E0:XK:=λ_ _ _=>False
structure LR(K:PySem.W.Frag)(x qual:Str)(st:Stmt)(f:aae)(fd:aag):Prop where
 ex:∃(oc:aak)(od:Option aae)(kV doc pm:aak)(an:Option aae)(cdv ct:aak)(osl:Array (Option aak)),
  fd=PySem.W.fnOf x qual (defArgs st) (defBody st) (defScope st) .none kV doc pm an cdv ct/\K.lookup f=some ⟨oc,od,.func fd,osl⟩/\PySem.W.codeIn K cdv qual=true
 kp:PySem.W.keepIn K (.ref f)=true
section
variable {P:aai} {w:aal} {K:PySem.W.Frag} {mg:Str->Option aak} {base:Heap}
theorem LR.binds{x qual:Str}{st:Stmt}{f:aae}{fd:aag}{ps:List Str}(F:LR K x qual st f fd)
  (h:∀(kV doc pm:aak)(an:Option aae)(cdv ct:aak)(us:List aak),us.length=ps.length->bindArgs (PySem.W.fnOf x qual (defArgs st) (defBody st) (defScope st) .none kV doc pm an cdv ct) ⟨us,[]⟩=pure (ps.zip us)):Binds K fd ps []:=by
 obtain⟨oc,od,kV,doc,pm,an,cdv,ct,osl,rfl,lk,hcd⟩:=F.ex
 exact .all (h kV doc pm an cdv ct)
theorem LS{x qual:Str}{st:Stmt}{f:aae}{oc:aak}{od an:Option aae}{osl:Array (Option aak)}{kV doc pm cdv ct:aak}(l:K.lookup f=some ⟨oc,od,.func (PySem.W.fnOf x qual (defArgs st) (defBody st) (defScope st) .none kV doc pm an cdv ct),osl⟩)
  (c:PySem.W.codeIn K cdv qual=true)(k:PySem.W.keepIn K (.ref f)=true):LR K x qual st f (PySem.W.fnOf x qual (defArgs st) (defBody st) (defScope st) .none kV doc pm an cdv ct):=⟨⟨oc,od,kV,doc,pm,an,cdv,ct,osl,rfl,l,c⟩,k⟩
end
section
variable {X:Cx}
end
section
variable {κ : Type} [DecidableEq κ]
def kG(kvs : List (κ×V))(k : κ) : Option V := (kvs.find? λkv=>decide (kv.1=k)).map (·.2)
def putK(kvs : List (κ×V))(k : κ)(v : V) : List (κ×V) :=
 if(kvs.any λkv=>decide (kv.1=k))=true then kvs.map (λkv=>if kv.1=k then(kv.1, v) else kv) else kvs++[(k, v)]
def pv(kvs : List (κ×V))(k : κ) : List (κ×V) := kvs.filter λkv=>decide (kv.1≠k)
theorem lR{p : κ×V}{r : List (κ×V)}{k : κ}(e : p.1=k) : kG (p::r) k=some p.2 := by simp[kG, mT, e]
theorem lS{p : κ×V}{r : List (κ×V)}{k : κ}(e : ¬p.1=k) : kG (p::r) k=kG r k := by simp[kG, mT, e]
theorem uQ(k : κ) : ∀kvs : List (κ×V), (kvs.any λkv=>decide (kv.1=k))=(kG kvs k).isSome
 | []=>rfl
 | p::r=>by
  rw[fz]
  by_cases e : p.1=k
  ·simp only[lR e, decide_eq_true e, Bool.true_or, Option.isSome_some]
  ·rw[lS e, decide_eq_false e, Bool.false_or];exact uQ k r
theorem jA(kvs : List (κ×V))(k : κ)(v : V) : (putK kvs k v).length<=kvs.length+1 := by
 unfold putK
 split
 ·rw[aA];omega
 ·rw[dH, lb, pz];omega
theorem lK.Az{o : Option V}{u : Option aak}(r : lK o u) : o.isSome=u.isSome := by
 cases o with
 | none=>cases u with
  | none=>rfl
  | some _=>exact(show False from r).elim
 | some _=>cases u with
  | none=>exact(show False from r).elim
  | some _=>rfl
theorem lK.getD{o : Option V}{u : Option aak}{d : V}{d' : aak}(r : lK o u)(rd : RelV d d') : RelV (o.getD d) (u.getD d') := by
 cases o with
 | none=>cases u with
  | none=>exact rd
  | some _=>exact(show False from r).elim
 | some _=>cases u with
  | none=>exact(show False from r).elim
  | some _=>exact r
theorem KV.val{kvs : List (κ×V)}{vs : List (κ×aak)}(r : KV kvs vs)(k : κ) : lK (kG kvs k) (valueAt vs k) := by
 unfold KV at r
 induction r with
 | nil=>exact lT
 | @cons p q ps qs h t ih=>
  obtain⟨h1, h2⟩ := h
  by_cases e : p.1=k
  ·have e' : q.1=k := h1.symm.trans e
   have b : valueAt (q::qs) k=some q.2 := by simp[valueAt, mT, e']
   rw[lR e, b];exact h2
  ·have e' : ¬q.1=k := λz=>e (h1.trans z)
   have b : valueAt (q::qs) k=valueAt qs k := by simp[valueAt, mT, e']
   rw[lS e, b];exact ih
theorem KV.any{kvs : List (κ×V)}{vs : List (κ×aak)}(r : KV kvs vs)(k : κ) : (kvs.any λkv=>decide (kv.1=k))=vs.any λkv=>decide (kv.1=k) := by
 unfold KV at r
 induction r with
 | nil=>rfl
 | cons h t ih=>rw[fz, fz, ih, h.1]
theorem KV.repl{kvs : List (κ×V)}{vs : List (κ×aak)}(r : KV kvs vs)(k : κ){y : V}{u : aak}(ry : RelV y u) :
  KV (kvs.map λkv=>if kv.1=k then(kv.1, y) else kv) (vs.map λkv=>if kv.1=k then(kv.1, u) else kv) := by
 unfold KV at r ⊢
 induction r with
 | nil=>exact .nil
 | @cons p q ps qs h t ih=>
  rw[aM, aM]
  refine .cons ?_ ih
  obtain⟨h1, h2⟩ := h
  by_cases e : p.1=k
  ·rw[if_pos e, if_pos (h1.symm.trans e)];exact⟨h1, ry⟩
  ·rw[if_neg e, if_neg (λz=>e (h1.trans z))];exact⟨h1, h2⟩
theorem KV.put{kvs : List (κ×V)}{vs : List (κ×aak)}(r : KV kvs vs)(k : κ){y : V}{u : aak}(ry : RelV y u) : KV (putK kvs k y) (stored vs k u) := by
 unfold putK stored
 rw[r.any k]
 by_cases e : (vs.any λkv=>decide (kv.1=k))=true
 ·rw[if_pos e, if_pos e];exact r.repl k ry
 ·rw[if_neg e, if_neg e];exact Paired.snoc r ⟨rfl, ry⟩
theorem KV.keys{kvs : List (κ×V)}{vs : List (κ×aak)}(r : KV kvs vs) : kvs.map (·.1)=vs.map (·.1) := by
 unfold KV at r
 induction r with
 | nil=>rfl
 | cons h t ih=>rw[aM, aM, ih, h.1]
theorem KV.length{kvs : List (κ×V)}{vs : List (κ×aak)}(r : KV kvs vs) : kvs.length=vs.length := Paired.length r
end
theorem pA{P : aai}{w : aal}{k : Key}{u : aak}(r : RelV (kV k) u) : (aZ P w).is k u=true := by
 cases k with
 | inl i=>obtain⟨t, e⟩ := (show ∃t, u=iT i t from r);subst e;exact uH P w i t
 | inr x=>obtain⟨t, e⟩ := (show ∃t, u=jY x t from r);subst e;exact uI P w x t
 | aL=>rw[show u=bG from r];rfl
theorem rG{P : aai}{w : aal} : ∀{ks : List Key}{us : List aak}, Vals (ks.map kV) us->ItemsAre (aZ P w) ks us
 | [], _, r=>by rw[CH] at r;cases r;exact .nil
 | k::ks, _, r=>by
  rw[aM] at r
  cases r with
  | cons h t=>exact .cons (pA h) (rG t)
abbrev KT(H : Hp) : List (List Key×V)->List (List Key×aae×aak)->Prop := Paired λp q=>p.1=q.1/\H q.2.1=some (.tup (p.1.map kV))/\RelV p.2 q.2.2
theorem KT.val{H : Hp}{kvs : List (List Key×V)}{xs : List (List Key×aae×aak)}(r : KT H kvs xs)(k : List Key) : lK (kG kvs k) ((atKey xs k).map (·.2)) := by
 induction r with
 | nil=>exact lT
 | @cons p q ps qs h t ih=>
  obtain⟨h1, _, h2⟩ := h
  by_cases e : p.1=k
  ·have e' : q.1=k := h1.symm.trans e
   have b : atKey (q::qs) k=some q.2 := by simp[atKey, mT, e']
   rw[lR e, b];exact h2
  ·have e' : ¬q.1=k := λz=>e (h1.trans z)
   have b : atKey (q::qs) k=atKey qs k := by simp[atKey, mT, e']
   rw[lS e, b];exact ih
theorem KT.repl{H : Hp}{kvs : List (List Key×V)}{xs : List (List Key×aae×aak)}(r : KT H kvs xs)(k : List Key){y : V}{u : aak}(ry : RelV y u) :
  KT H (kvs.map λkv=>if kv.1=k then(kv.1, y) else kv) (xs.map (putAt k u)) := by
 induction r with
 | nil=>exact .nil
 | @cons p q ps qs h t ih=>
  rw[aM, aM]
  refine .cons ?_ ih
  obtain⟨h1, h2, h3⟩ := h
  unfold putAt
  by_cases e : p.1=k
  ·rw[if_pos e, if_pos (h1.symm.trans e)];exact⟨h1, h2, ry⟩
  ·rw[if_neg e, if_neg (λz=>e (h1.trans z))];exact⟨h1, h2, h3⟩
theorem KT.put{H : Hp}{kvs : List (List Key×V)}{xs : List (List Key×aae×aak)}(r : KT H kvs xs)(k : List Key){b : aae}{y : V}{u : aak}(hb : H b=some (.tup (k.map kV)))(ry : RelV y u) :
  KT H (putK kvs k y) (storedH xs k b u) := by
 have e : (kvs.any λkv=>decide (kv.1=k))=(atKey xs k).isSome := by
  rw[uQ, (r.val k).Az, Option.isSome_map]
 unfold putK storedH
 rw[e]
 by_cases q : (atKey xs k).isSome=true
 ·rw[if_pos q, if_pos q];exact r.repl k ry
 ·rw[if_neg q, if_neg q];exact Paired.snoc r ⟨rfl, hb, ry⟩
theorem KT.keeps{H H' : Hp}{kvs : List (List Key×V)}{xs : List (List Key×aae×aak)}(r : KT H kvs xs)(ht : ∀b ys, H b=some (.tup ys)->H' b=some (.tup ys)) : KT H' kvs xs :=
 Paired.GD r λ_ _ z=>⟨z.1, ht _ _ z.2.1, z.2.2⟩
section
variable {P : aai} {w : aal} {H : Hp} {h : Heap} {a : aae}
theorem JL{u : HO}(ok : jh P w H h)(e : Rd H a u) : c9 P w H h a u := e.ok ok
theorem pB{kvs : List (Key×V)}(ok : jh P w H h)(e : Rd H a (.dK kvs)) : kvs.length<=aav/\(a == sysModules)=false/\∃vs, KV kvs vs/\h.DictOf (aZ P w) a vs :=
 show c9 P w H h a (.dK kvs) from JL ok e
theorem JM{kvs : List (Key×V)}(ok : jh P w H h)(e : H a=some (.dK kvs)) : kvs.length<=aav/\(a == sysModules)=false/\∃vs, KV kvs vs/\h.DictOf (aZ P w) a vs := pB ok (.inl e)
theorem pC{ks : List Key}(ok : jh P w H h)(e : H a=some (.tup (ks.map kV))) : (tupleKind (aZ P w)).is h ks a := by
 obtain⟨_, its, r, ⟨o, h1, h2, n, h3⟩, _⟩ := (show c9 P w H h a (.tup (ks.map kV)) from ok a _ e)
 exact⟨o, its.toArray, n, h1, h2, h3, by simpa using rG r⟩
theorem rH{kvs : List (List Key×V)}(ok : jh P w H h)(e : Rd H a (.dT kvs)) : kvs.length<=aav/\(a == sysModules)=false/\
  ∃xs, KT H kvs xs/\h.DictOfH (tupleKind (aZ P w)) a xs := by
 obtain⟨z, y, xs, r, o, es, ep, h1, h2, h3, h4, h5⟩ := (show c9 P w H h a (.dT kvs) from JL ok e)
 refine⟨z, y, xs, r, o, es, ep, h1, h2, h3, h4, λx hx=>?_, h5⟩
 have all : ∀{l : List (List Key×V)}{m : List (List Key×aae×aak)}, KT H l m->∀x∈m, (tupleKind (aZ P w)).is h x.1 x.2.1 := by
  intro l m q
  induction q with
  | nil=>intro x hx;exact nomatch hx
  | @cons p q ps qs hq t ih=>
   intro x hx
   rcases List.mem_cons.mp hx with e | hx
   ·subst e
    exact pC ok (by rw[<-hq.1];exact hq.2.1)
   ·exact ih x hx
 exact all r x hx
theorem Po{kvs : List (List Key×V)}(ok : jh P w H h)(e : H a=some (.dT kvs)) : kvs.length<=aav/\(a == sysModules)=false/\
  ∃xs, KT H kvs xs/\h.DictOfH (tupleKind (aZ P w)) a xs := rH ok (.inl e)
end
def kH(H : Hp)(a : aae)(y : V)(r : Option V) : Prop :=
 (∃kvs k, Rd H a (.dK kvs)/\y=kV k/\r=kG kvs k)\/∃kvs k b, Rd H a (.dT kvs)/\y= .ref b/\H b=some (.tup (k.map kV))/\r=kG kvs k
def tm(H : Hp)(a : aae)(y v : V)(H' : Hp) : Prop :=
 (∃kvs k, H a=some (.dK kvs)/\y=kV k/\kvs.length < aav/\H'=upd H a (.dK (putK kvs k v)))\/
 ∃kvs k b, H a=some (.dT kvs)/\y= .ref b/\H b=some (.tup (k.map kV))/\kvs.length < aav/\H'=upd H a (.dT (putK kvs k v))
theorem kH.k{H : Hp}{a : aae}{kvs : List (Key×V)}{k : Key}(e : H a=some (.dK kvs)) : kH H a (kV k) (kG kvs k) := .inl ⟨kvs, k, .inl e, rfl, rfl⟩
theorem kH.t{H : Hp}{a b : aae}{kvs : List (List Key×V)}{k : List Key}(e : H a=some (.dT kvs))(eb : H b=some (.tup (k.map kV))) : kH H a (.ref b) (kG kvs k) := .inr ⟨kvs, k, b, .inl e, rfl, eb, rfl⟩
theorem tm.k{H : Hp}{a : aae}{kvs : List (Key×V)}{k : Key}{v : V}(e : H a=some (.dK kvs))(hl : kvs.length < aav) : tm H a (kV k) v (upd H a (.dK (putK kvs k v))) := .inl ⟨kvs, k, e, rfl, hl, rfl⟩
theorem tm.t{H : Hp}{a b : aae}{kvs : List (List Key×V)}{k : List Key}{v : V}(e : H a=some (.dT kvs))(eb : H b=some (.tup (k.map kV)))(hl : kvs.length < aav) :
  tm H a (.ref b) v (upd H a (.dT (putK kvs k v))) := .inr ⟨kvs, k, b, e, rfl, eb, hl, rfl⟩
section
variable {X : Cx} {pins : List (aae×Obj)} {σ : St} {H : Hp} {s : aaj} {a : aae} {y v : V} {u r : aak} {o : Option V} {A : aaf} {E : aak->aaj->Prop}
theorem Inv.big(I : Inv X pins σ H s) : sysModules < s.heap.objs.size := by
 have h : aau < s.heap.objs.size := (I.mod.glob.keeps I.bk).lt
 exact Nat.lt_trans (by decide) h
theorem AA{Q : aak->aaj->Prop}(hu : A.units+1 < cLine)(I : Inv X pins σ H s)(g : kH H a y (some v))(ry : RelV y u)(h : ∀w' s', Inv X pins σ H s'->RelV v w'->Q w' s') :
  aax (model X.prog X.w) A (getItem (.ref a) u) Q E s := by
 rcases g with ⟨kvs, k, e, ey, l⟩ | ⟨kvs, k, b, e, ey, eb, l⟩
 ·subst ey
  obtain⟨z, hd, vs, rel, dd⟩ := pB I.hok e
  obtain⟨w', hw, rw'⟩ := lK.some_of (v := v) (o := valueAt vs k) (by rw[l];exact rel.val k)
  exact wpAny_getItem_of (pA ry) dd.mapOf hw (h w' _ (I.tok _) rw')
 ·subst ey
  cases (show u=aU b from ry)
  obtain⟨z, hd, xs, rel, dd⟩ := rH I.hok e
  obtain⟨w', hw, rw'⟩ := lK.some_of (v := v) (o := (atKey xs k).map (·.2)) (by rw[l];exact rel.val k)
  obtain⟨p, hp, hp2⟩ := Option.map_eq_some_iff.mp hw
  refine wpAny_getItem_heap (tupleKind_room_in1 hu) (pC I.hok eb) dd hp ?_
  rw[hp2]
  exact h w' _ (I.tok _) rw'
theorem oC{h' : Heap}{t' : Nat}{ob : HO}(I : Inv X pins σ H s)(mu : OM (H a))(hs : oX a s.heap h')(he : ∃q, h'.get? a=some q)(new : c9 X.prog X.w (upd H a ob) h' a ob) :
  Inv X pins σ (upd H a ob) { s with heap := h', toks := t' } :=
 I.write (x := a) (e := a) mu (.inl rfl) (λb q hb z=>(hs.2 b hb).trans z) he new
theorem xc{P : aai}{w : aal}{H' : Hp}{h' : Heap}{kvs : List (Key×V)}{vs : List (Key×aak)}(z : kvs.length<=aav)(hd : (a == sysModules)=false)(rel : KV kvs vs)(dd : h'.DictOf (aZ P w) a vs) :
  c9 P w H' h' a (.dK kvs) :=⟨z, hd, vs, rel, dd⟩
theorem AB{H' : Hp}{Q : Unit->aaj->Prop}(hu : A.units+1 < cLine)(I : Inv X pins σ H s)(g : tm H a y v H')(ry : RelV y u)(rv : RelV v r)(h : ∀s', Inv X pins σ H' s'->Q () s') :
  aax (model X.prog X.w) A (setItem (.ref a) u r) Q E s := by
 rcases g with ⟨kvs, k, e, ey, l, eH⟩ | ⟨kvs, k, b, e, ey, eb, l, eH⟩
 ·subst ey eH
  obtain⟨z, hd, vs, rel, dd⟩ := JM I.hok e
  have hz : vs.length<=aav := by rw[<-rel.length];exact z
  have hl : (putK kvs k v).length<=aav := by have := jA kvs k v;omega
  refine wpAny_setItem_pairs (hsz := hz) (pA ry) dd λh' Hn hs=>h _ ?_
  have he : ∃q, h'.get? a=some q := let ⟨q, _, _, hq, _⟩ := Hn;⟨q, hq⟩
  exact oC I (by rw[e];exact lT) hs he (xc hl hd (rel.put k rv) Hn)
 ·subst ey eH
  cases (show u=aU b from ry)
  obtain⟨z, hd, xs, rel, dd⟩ := Po I.hok e
  have hz : xs.length<=aav := by rw[<-Paired.length rel];exact z
  have hl : (putK kvs k v).length<=aav := by have := jA kvs k v;omega
  refine wpAny_setItem_heap (hsz := hz) (tupleKind_room_in1 hu) (pC I.hok eb) dd λh' Hn hs=>h _ ?_
  obtain⟨q, es, ep, hq, h2, h3, h4, _, h5⟩ := Hn
  refine oC I (by rw[e];exact lT) hs ⟨q, hq⟩ ⟨hl, hd, _, (rel.put k eb rv).keeps λc ys ec=>?_, q, es, ep, hq, h2, h3, h4, h5⟩
  rw[aw (OL ec e (λz=>nomatch z))]
  exact ec
end
section
variable {X : Cx} {pins : List (aae×Obj)} {σ : St} {H : Hp} {s : aaj} {a : aae} {kvs : List (Key×V)} {k : Key} {u : aak} {A : aaf} {E : aak->aaj->Prop}
end
def CJ(i : Expr) : Prop := ∀ov iv, subscripted i false ov iv=operate [ov, iv] (getItem ov iv)
theorem yI{prog : aai}{w : aal}{A : aaf}{E : aak->aaj->Prop}{s : aaj}{env : Env}{value slice : Expr}{pos : Pos}{T id : String}{Q : aak->aaj->Prop}
  (hl : typeLookup (.type T) "__getitem__"=pure (some (.builtin id)))(hs : CJ slice)
  (h : aax (model prog w) A (eval value env) (λo s₁=>aax (model prog w) A (eval slice env) (λi s₂=>s₂.TypeIs o T/\aax (model prog w) A (getItem o i) Q E s₂) E s₁) E s) :
  aax (model prog w) A (eval (.Subscript value slice pos) env) Q E s := by
 refine Subscript_ (aaB h (λo s₁ h₁=>aaB h₁ (λi s₂ h₂=>?_) λ_ _ x=>x) λ_ _ x=>x)
 obtain⟨hT, h₂⟩ := h₂
 unfold subscriptTail
 refine aay ?_
 rw[getitemInPython_of_ne hT.not_modules]
 refine aay (wpAny_specialOf hT hl ?_)
 have fin : aax (model prog w) A (subscripted slice false o i) (λr s₃=>aax (model prog w) A (letTemporaryGo value o r >>= λ_=>pure r) Q E s₃) E s₂ := by
  rw[hs o i]
  exact wpAny_operating (aaB h₂ (λr s₃ h₃=>aay (wpAny_letTemporaryGo (aaE h₃))) λ_ _ x=>x)
 first
  | exact aaE (aay fin)
  | exact aay (aaE (aay fin))
  | exact aay fin
theorem uR{X : Cx}{pins : List (aae×Obj)}{σ : St}{H : Hp}{s : aaj}{a : aae}{y : V}{o : Option V}(I : Inv X pins σ H s)(g : kH H a y o) : s.TypeIs (.ref a) "dict" := by
 rcases g with ⟨kvs, k, e, _, _⟩ | ⟨kvs, k, b, e, _, _, _⟩
 ·obtain⟨_, _, vs, _, dd⟩ := pB I.hok e
  exact dd.typeIs
 ·obtain⟨_, _, xs, _, dd⟩ := rH I.hok e
  exact dd.typeIs
def Pp(td ty : TE) : TE := λσ H Q=>td σ H λx H1=>ty σ H1 λy H2=>∃a v, x= .ref a/\kH H2 a y (some v)/\Q v H2
def Pq(td ty tv : TE) : TS := λD σ H=>tv σ H λv H1=>td σ H1 λx H2=>ty σ H2 λy H3=>∃a H4, x= .ref a/\tm H3 a y v H4/\D.nx σ H4
section
variable {X : Cx} {o i e value : Expr} {pos pos' tpos : Pos} {td ty tv : TE}
theorem Ho(hu : X.A.units+1 < cLine)(ho : PE X o td)(hi : PE X i ty)(hs : CJ i) : PE X (.Subscript o i pos) (Pp td ty) := by
 intro pins s σ H Q I h
 refine yI PySem.F.slot_dict_getitem.lookup hs (bx (ho pins s σ H _ I h) λu s1 ⟨x, H1, I1, rx, q1⟩=>bx (hi pins s1 σ H1 _ I1 q1) λiv s2 ⟨y, H2, I2, ry, a, v, ex, g, q2⟩=>?_)
 subst ex
 obtain rfl : u=aU a := rx
 exact⟨uR I2 g, AA hu I2 g ry λw' s3 I3 rw'=>⟨v, H2, I3, rw', q2⟩⟩
theorem Hq(hu : X.A.units+1 < cLine)(ho : PE X o td)(hi : PE X i ty)(hv : PE X value tv)(hs : swapsWith value (some (.Subscript o i pos')) pos.line X.env=pure false) :
  PS X (.Assign [.Subscript o i pos'] value pos) (Pq td ty tv) := by
 intro pins s σ H D I h
 refine wpAny_Assign_Subscript (bx (hv pins s σ H _ I h) λr s1 ⟨v, H1, I1, rv, q1⟩=>bx (ho pins s1 σ H1 _ I1 q1) λu s2 ⟨x, H2, I2, rx, q2⟩=>bx (hi pins s2 σ H2 _ I2 q2) λiv s3 ⟨y, H3, I3, ry, a, H4, ex, g, q3⟩=>?_) hs
 subst ex
 obtain rfl : u=aU a := rx
 exact AB hu I3 g ry rv λs4 I4=>⟨σ, H4, I4, q3⟩
end
theorem CK{P : aai}{w : aal}{H : Hp}(h : Heap)(hb : sysModules < h.objs.size) : c9 P w H (h.push { cls := .type "dict", data := .dict #[] }) h.objs.size (.dK []) :=
 ⟨bY _, beq_eq_false_iff_ne.mpr (aW (a_ hb)), [], .nil, LU h⟩
theorem CL{P : aai}{w : aal}{H : Hp}(h : Heap)(hb : sysModules < h.objs.size) : c9 P w H (h.push { cls := .type "dict", data := .dict #[] }) h.objs.size (.dT []) :=
 ⟨bY _, beq_eq_false_iff_ne.mpr (aW (a_ hb)), [], .nil, _, #[], 0, cq _ rfl, ⟨rfl, rfl, rfl⟩, rfl, rfl, List.nodup_nil⟩
def LV : TE := λ_ H Q=>∀p, H p=none->Q (.ref p) (upd H p (.dK []))
def LW : TE := λ_ H Q=>∀p, H p=none->Q (.ref p) (upd H p (.dT []))
section
variable {X : Cx} {pos : Pos}
theorem CM : PE X (.Dict [] [] pos) LV := λpins s σ H Q I h=>
 wpAny_Dict_empty ⟨.ref s.heap.objs.size, _, I.laid (a := s.heap.objs.size) (o := .dK []) (t' := s.toks) (λ_ _ q=>aO _ q) (ak _) (CK s.heap I.big), rfl, h _ (I.hok.fresh (ak _))⟩
theorem CN : PE X (.Dict [] [] pos) LW := λpins s σ H Q I h=>
 wpAny_Dict_empty ⟨.ref s.heap.objs.size, _, I.laid (a := s.heap.objs.size) (o := .dT []) (t' := s.toks) (λ_ _ q=>aO _ q) (ak _) (CL s.heap I.big), rfl, h _ (I.hok.fresh (ak _))⟩
end
def lh(kvs more : List (Key×V)) : List (Key×V) := more.foldl (λacc kv=>putK acc kv.1 kv.2) kvs
theorem KV.merge : ∀{more : List (Key×V)}{rs : List (Key×aak)}{kvs : List (Key×V)}{vs : List (Key×aak)}, KV more rs->KV kvs vs->KV (lh kvs more) (merged vs rs) := by
 intro more rs kvs vs r
 unfold KV at r
 induction r generalizing kvs vs with
 | nil=>intro q;exact q
 | @cons p q ps qs h t ih=>
  intro r0
  have e : KV (putK kvs p.1 p.2) (stored vs q.1 q.2) := by
   have := r0.put p.1 h.2
   rw[<-h.1];exact this
  exact ih e
structure M1(X : Cx)(o : Expr)(m : Str)(apos : Pos)(e : Expr)(cpos : Pos) : Prop where
 base : attributeBase o m X.env (eval o X.env)=eval o X.env
 few : ((backTo cpos (aaw [e] X.env)).all (λx=> !x.1)&&(backToKw cpos (keywordEach [] X.env)).all (λx=>x.1.isSome)
  &&decide (([e] : List Expr).length+([] : List Keyword).length+(if([] : List Keyword).isEmpty then 0 else 1) < 30))=true
 line : (apos.endLine == cpos.line)=true
 trees : backTo cpos (aaw [e] X.env)=[(false, eval e X.env)]
structure M2(X : Cx)(o : Expr)(m : Str)(apos : Pos)(e f : Expr)(cpos : Pos) : Prop where
 base : attributeBase o m X.env (eval o X.env)=eval o X.env
 few : ((backTo cpos (aaw [e, f] X.env)).all (λx=> !x.1)&&(backToKw cpos (keywordEach [] X.env)).all (λx=>x.1.isSome)
  &&decide (([e, f] : List Expr).length+([] : List Keyword).length+(if([] : List Keyword).isEmpty then 0 else 1) < 30))=true
 line : (apos.endLine == cpos.line)=true
 trees : backTo cpos (aaw [e, f] X.env)=[(false, eval e X.env), (false, eval f X.env)]
def Ov(H : Hp)(a : aae) : Prop := (∃kvs, Rd H a (.dK kvs))\/∃kvs, Rd H a (.dT kvs)
theorem tq{X : Cx}{pins : List (aae×Obj)}{σ : St}{H : Hp}{s : aaj}{a : aae}(I : Inv X pins σ H s)(d : Ov H a) :
  s.TypeIs (.ref a) "dict"/\(∀b, aU a= .ref b->∃ob, s.heap.get? b=some ob/\ob.dict=none)/\(a == sysModules)=false := by
 rcases d with ⟨kvs, e⟩ | ⟨kvs, e⟩
 ·obtain⟨_, hd, vs, _, dd⟩ := pB I.hok e
  refine⟨dd.typeIs, λb q=>?_, hd⟩
  cases q
  obtain⟨ob, _, _, h1, h2, _⟩ := dd
  exact⟨ob, h1, h2.2.1⟩
 ·obtain⟨_, hd, xs, _, dd⟩ := rH I.hok e
  refine⟨dd.typeIs, λb q=>?_, hd⟩
  cases q
  obtain⟨ob, _, _, h1, h2, _⟩ := dd
  exact⟨ob, h1, h2.2.1⟩
section
variable {X : Cx} {pins : List (aae×Obj)} {σ : St} {H : Hp} {s : aaj} {a : aae} {y d : V} {u r : aak} {o : Option V} {A : aaf} {E : aak->aaj->Prop}
theorem LX{Q : aak->aaj->Prop}(hu : A.units+1 < cLine)(I : Inv X pins σ H s)(g : kH H a y o)(ry : RelV y u)(h : ∀w' s', Inv X pins σ H s'->RelV (o.getD .aL) w'->Q w' s') :
  aax (model X.prog X.w) A (call (.builtin "dict.get") [.ref a, u]) Q E s := by
 rcases g with ⟨kvs, k, e, ey, l⟩ | ⟨kvs, k, b, e, ey, eb, l⟩
 ·subst ey
  obtain⟨z, hd, vs, rel, dd⟩ := pB I.hok e
  refine call_meetsIn PySem.F.slot_dict_get dd.typeIs PySem.F.entry_dict_get (PySem.F.args_dict_get_2 _ _) (meets_dict_get (aZ X.prog X.w) a (pA ry) hd) ⟨_, dd.mapOf, h _ _ (I.tok _) ?_⟩
  rw[l]
  exact(rel.val k).getD rfl
 ·subst ey
  cases (show u=aU b from ry)
  obtain⟨z, hd, xs, rel, dd⟩ := rH I.hok e
  refine call_meetsIn PySem.F.slot_dict_get dd.typeIs PySem.F.entry_dict_get (PySem.F.args_dict_get_2 _ _) (meetsH_dict_get (tupleKind (aZ X.prog X.w)) a b hd) ⟨tupleKind_room_in1 hu, k, xs, pC I.hok eb, dd, h _ _ (I.tok _) ?_⟩
  rw[l]
  exact(rel.val k).getD rfl
theorem LY{Q : aak->aaj->Prop}(hu : A.units+1 < cLine)(I : Inv X pins σ H s)(g : kH H a y o)(ry : RelV y u)(rd : RelV d r)(h : ∀w' s', Inv X pins σ H s'->RelV (o.getD d) w'->Q w' s') :
  aax (model X.prog X.w) A (call (.builtin "dict.get") [.ref a, u, r]) Q E s := by
 rcases g with ⟨kvs, k, e, ey, l⟩ | ⟨kvs, k, b, e, ey, eb, l⟩
 ·subst ey
  obtain⟨z, hd, vs, rel, dd⟩ := pB I.hok e
  refine call_meetsIn PySem.F.slot_dict_get dd.typeIs PySem.F.entry_dict_get (PySem.F.args_dict_get_3 _ _ _) (meets_dict_get_default (aZ X.prog X.w) a (pA ry) hd r) ⟨_, dd.mapOf, h _ _ (I.tok _) ?_⟩
  rw[l]
  exact(rel.val k).getD rd
 ·subst ey
  cases (show u=aU b from ry)
  obtain⟨z, hd, xs, rel, dd⟩ := rH I.hok e
  refine call_meetsIn PySem.F.slot_dict_get dd.typeIs PySem.F.entry_dict_get (PySem.F.args_dict_get_3 _ _ _) (meetsH_dict_get_default (tupleKind (aZ X.prog X.w)) a b hd r) ⟨tupleKind_room_in1 hu, k, xs, pC I.hok eb, dd, h _ _ (I.tok _) ?_⟩
  rw[l]
  exact(rel.val k).getD rd
end
def LZ(td ty : TE) : TE := λσ H Q=>td σ H λx H1=>∃a, x= .ref a/\Ov H1 a/\ty σ H1 λy H2=>∃o, kH H2 a y o/\Q (o.getD .aL) H2
def L0(td ty tx : TE) : TE := λσ H Q=>td σ H λx H1=>∃a, x= .ref a/\Ov H1 a/\ty σ H1 λy H2=>tx σ H2 λz H3=>∃o, kH H3 a y o/\Q (o.getD z) H3
section
variable {X : Cx} {o e f : Expr} {apos cpos : Pos} {td ty tx : TE}
theorem CO(hu : X.A.units+1 < cLine)(ho : PE X o td)(he : PE X e ty)(m : M1 X o "get" apos e cpos) : PE X (.Call (.Attribute o "get" apos) [e] [] cpos) (LZ td ty) := by
 intro pins s σ H Q I h
 refine wpAny_Call_method m.base m.few m.line PySem.F.plainAttrs_dict PySem.F.slot_dict_get PySem.F.type_dict_get (bx (ho pins s σ H _ I h) λu s1 ⟨x, H1, I1, rx, a, ex, d, q1⟩=>?_)
 subst ex
 obtain rfl : u=aU a := rx
 obtain⟨t1, t2, _⟩ := tq I1 d
 refine⟨t1, t2, ?_⟩
 rw[m.trees]
 refine mR rfl (mS (ip (bx (he pins s1 σ H1 _ I1 q1) λiv s2 ⟨y, H2, I2, ry, ov, g, q2⟩=>mQ ?_)))
 exact LX hu I2 g ry λw' s3 I3 rw'=>⟨_, H2, I3, rw', q2⟩
theorem CP(hu : X.A.units+1 < cLine)(ho : PE X o td)(he : PE X e ty)(hf : PE X f tx)(m : M2 X o "get" apos e f cpos) : PE X (.Call (.Attribute o "get" apos) [e, f] [] cpos) (L0 td ty tx) := by
 intro pins s σ H Q I h
 refine wpAny_Call_method m.base m.few m.line PySem.F.plainAttrs_dict PySem.F.slot_dict_get PySem.F.type_dict_get (bx (ho pins s σ H _ I h) λu s1 ⟨x, H1, I1, rx, a, ex, d, q1⟩=>?_)
 subst ex
 obtain rfl : u=aU a := rx
 obtain⟨t1, t2, _⟩ := tq I1 d
 refine⟨t1, t2, ?_⟩
 rw[m.trees]
 refine mR rfl (mS (ip (bx (he pins s1 σ H1 _ I1 q1) λiv s2 ⟨y, H2, I2, ry, q2⟩=>
  ip (bx (hf pins s2 σ H2 _ I2 q2) λfv s3 ⟨z, H3, I3, rz, ov, g, q3⟩=>mQ ?_))))
 exact LY hu I3 g ry rz λw' s4 I4 rw'=>⟨_, H3, I4, rw', q3⟩
end
section
variable {X : Cx} {pins : List (aae×Obj)} {σ : St} {H : Hp} {s : aaj} {a : aae} {kvs : List (Key×V)} {A : aaf} {E : aak->aaj->Prop}
end
section
variable {X : Cx} {pins : List (aae×Obj)} {σ : St} {H : Hp} {s : aaj} {a : aae} {y : V} {u : aak} {A : aaf} {E : aak->aaj->Prop}
end
end L2
namespace Att
open PySem PySem.W PySem.Calls PyProof.Rows
end Att
namespace L2
open PySem PySem.Spec PyProof.Rows
section
variable {X : Cx}
end
section
variable {κ : Type} [DecidableEq κ]
theorem AD{p : κ×V}{r : List (κ×V)}{k : κ}(e : p.1=k) : pv (p::r) k=pv r k := by
 unfold pv
 rw[xf, if_neg (by simp[e])]
theorem AE{p : κ×V}{r : List (κ×V)}{k : κ}(e : ¬p.1=k) : pv (p::r) k=p::pv r k := by
 unfold pv
 rw[xf, if_pos (by simp[e])]
end
end L2
set_option maxHeartbeats 4000000
namespace J
open PySem PySem.Spec PyProof.Rows L2
def RL(h base:Heap)(e:aae)(cls a0 fl:aak):Prop :=
 ∃ox us T ot ws,h.get? e=some ox/\(ox.cls=cls/\us[2]? =some bG)/\ox.data= .fields us/\us[1]? =some (.ref T)/\base.get? T=none/\T≠e/\h.get? T=some ot/\ot.data= .fields ws/\ws[3]? =some fl
abbrev Hr(base:Heap)(l:List Env)(e:aae)(cls a0 fl:aak)(h:Heap):Prop:=base.StaysIn h/\base.get? e=none/\h.FunFrames base l/\RL h base e cls a0 fl
def CQ(base:Heap)(l:List Env)(e:aae)(cls a0:aak)(L:aae)(h:Heap):Prop:=Hr base l e cls a0 (rawInt L) h
def tu(base:Heap)(l:List Env)(e:aae)(cls a0:aak)(h:Heap):Prop:=Hr base l e cls a0 .none h
theorem tu.first{base h:Heap}{l:List Env}{e:aae}{cls a0:aak}(x:tu base l e cls a0 h):∃ox us,h.get? e=some ox/\ox.cls=cls/\ox.data= .fields us/\us[2]? =some bG :=
 let ⟨_,_,_,ox,us,_,_,_,g1,g2,g3,_⟩:=x;⟨ox,us,g1,g2.1,g3,g2.2⟩
section
variable {M:Model} {A:aaf} {E:aak->aaj->Prop} {s:aaj} {base:Heap} {env:Env} {outer l:List Env} {L e:aae} {cls a0 nt:aak} {Q:Unit->aaj->Prop}
theorem xg{h h1:Heap}{S:List aae}{ox ob:Obj}{us ws:Array aak}(so:Heap.SlotsOnly S h h1)(hS:S=l.filterMap (·.frame))(fs:h.FunFrames base l)(g1:h.get? e=some ox)(g3:ox.data= .fields us)(st:base.StaysIn h)(ne:base.get? e=none)(sz:1 < us.size)(g2:us[2]? =some bG)
  (d:ob.data= .fields ws)(w3:ws[3]? =some nt)(nf:ob.isFreed=false) :
  Hr base l e ox.cls a0 nt ((h1.push ob).update e (lU (·.setIfInBounds 1 (.ref h1.objs.size))))/\h.UpToSlots ((h1.push ob).update e (lU (·.setIfInBounds 1 (.ref h1.objs.size)))):=by
 have nS:e∉S:=λz=>by
  rw[hS] at z
  obtain⟨_,o2,q2,d2⟩:=fs.mem z
  rw[g1] at q2
  cases q2
  exact d2 us g3
 have q1:h1.get? e=some ox:=(so.2.1 e nS).trans g1
 have lt:e≠h1.objs.size:=a_ (aE q1)
 have Wt:∀b o,b≠e->h1.get? b=some o->((h1.push ob).update e (lU (·.setIfInBounds 1 (.ref h1.objs.size)))).get? b=some o:=λb o n q=>(pg _ _ (aW n)).trans (aO _ q)
 have up:h.UpToSlots ((h1.push ob).update e (lU (·.setIfInBounds 1 (.ref h1.objs.size)))):=λb o q n=>by
  obtain⟨sl,q2⟩:=so.2.2 b o q
  exact⟨sl,Wt b _ (λz=>by rw[z,g1] at q;cases q;exact n us g3) q2⟩
 have stay:base.StaysIn h1:=λb o q=>(so.2.1 b λz=>by
  rw[hS] at z
  rw[(fs.mem z).1] at q
  cases q).trans (st b o q)
 have fresh:base.get? h1.objs.size=none:=by
  cases z:base.get? h1.objs.size with
  | none=>rfl
  | some o=>exact absurd (aE (stay _ _ z)) (eK _)
 have d1:=yJ g3 (·.setIfInBounds 1 (aU h1.objs.size))
 refine⟨⟨λb o q=>Wt b o (λz=>by rw[z,ne] at q;cases q) (stay b o q),ne,fs.of_keeps λb o q n=>?_,_,_,h1.objs.size,ob,ws,Cz _ (aO _ q1) (Ht d1),⟨Obj.cls_mapFields _ _,?_⟩,d1,by simp[sz],fresh,aW lt,?_,d,w3⟩,up⟩
 ·obtain⟨sl,q2⟩:=up b o q n
  exact⟨_,q2,rfl⟩
 ·rw[Array.getElem?_setIfInBounds_ne (by decide)];exact g2
 ·exact(pg _ _ lt).trans (cq _ nf)
theorem CT{ox:Obj}{us:Array aak}{head:aak}{had:Bool}(hfr:A.frames=some (env::outer))(fs:s.heap.FunFrames base (env::outer))(hf:env.frame=some L)(g1:s.heap.get? e=some ox)(st:base.StaysIn s.heap)(ne:base.get? e=none)(g3:ox.data= .fields us)(sz:1 < us.size)(g2:us[2]? =some bG)
  (k:∀h',CQ base (env::outer) e ox.cls a0 L h'->s.heap.UpToSlots h'->Q () { s with heap:=h' }) :
  aax M A (do let a <-frameOf env;let pl <-entryPlaceOf L had;let b <-L3 head a .none (rawInt L) .none pl;setField (.ref e) 1 b) Q E s:=by
 refine aay (wpAny_frameOf_fun hfr fs hf λh1 so=>aay (wpAny_entryPlaceOf λpl pp=>?_))
 have nS:e∉(env::outer).filterMap (·.frame):=λz=>by
  obtain⟨_,o2,q2,d2⟩:=fs.mem z
  rw[g1] at q2
  cases q2
  exact d2 us g3
 have q1:h1.get? e=some ox:=(so.2.1 e nS).trans g1
 simp only[L3,newFields]
 refine aay (aaD (wpAny_setField (aO _ q1) g3 sz ?_) (pp.sizeOk5 _ _ _ _ _))
 obtain⟨m,up⟩:=xg (a0:=a0) (nt:=rawInt L) so rfl fs g1 g3 st ne sz g2 (ob:={ cls:=.type "traceback",dict:=none,data:=.fields ([head,.ref L,.none,rawInt L,.none]++(if pl.isEmpty then aJ 6 bG else pl)).toArray }) rfl (by first | (simp;done) | (rcases pp with rfl | ⟨_,_,_,_,_,_,_,rfl⟩<;>simp)) rfl
 exact k _ m up
theorem L4(hf:env.frame=some L)(x:RL s.heap base e cls a0 (rawInt L))(k:Q () s):aax M A (noteFrame (.ref e) env) Q E s:=by
 obtain⟨ox,us,T,ot,ws,g1,g2,g3,g4,g5,g6,g7,g8,g9⟩:=x
 unfold noteFrame
 simp only[hf]
 refine aay (wpAny_field g1 g3 g4 ?_)
 rw[if_pos (by simp)]
 refine aay (wpAny_field g7 g8 g9 ?_)
 rw[if_pos (by simp)]
 exact aaE k
theorem uS(x:Hr base l e cls a0 nt s.heap)(k:∀h',tu base l e cls a0 h'->s.heap.UpToSlots h'->Q () { s with heap:=h' }):aax M A (setFlight (.ref e) none) Q E s:=by
 obtain⟨x1,x2,x3,ox,us,T,ot,ws,g1,g2,g3,g4,g5,g6,g7,g8,g9⟩:=x
 have sz:3 < ws.size:=(Array.getElem?_eq_some_iff.mp g9).1
 unfold setFlight
 refine aay (wpAny_field g1 g3 g4 ?_)
 rw[if_pos (by simp)]
 refine wpAny_setField g7 g8 sz ?_
 generalize hu:s.heap.update T _=h'
 have ap:∀b,b≠T->h'.get? b=s.heap.get? b:=λb n=>by rw[<-hu];exact pg _ _ (aW n)
 have pl:∀b o,s.heap.get? b=some o->(∀vs,o.data≠.fields vs)->h'.get? b=some o:=λb o q n=>(ap b λz=>by rw[z,g7] at q;cases q;exact n ws g8).trans q
 refine k h' ⟨λb o q=>(ap b λz=>by rw[z,g5] at q;cases q).trans (x1 b o q),x2,x3.of_keeps λb o q n=>⟨o,pl b o q n,rfl⟩,ox,us,T,lU (·.setIfInBounds 3 .none) ot,ws.setIfInBounds 3 .none,(ap e (aW g6)).trans g1,g2,g3,g4,g5,g6,?_,yJ g8 _,?_⟩ λb o q n=>⟨o.slots,pl b o q n⟩
 ·rw[<-hu];exact Cz _ g7 (Ht (yJ g8 _))
 ·simp[sz]
end
structure Lm where
 a:aae
 c:aae
 q:PySem.Str
 xs:List V
inductive Wv where
 | aL
 | bl (b:Bool)
 | int (i:Int)
 | str (x:PySem.Str)
 | tup (ws:List Wv)
 | pD (ws:List Wv)
 | ref (l:Nat)
 | ty (n:String)
 | cls (c:PySem.Str)
 | kI (c:PySem.Str)
 | fn (p:Lm) (ws:List Wv)
inductive Ob where
 | lst (ws:List Wv)
 | tw (ns:List Int)
 | dct (kvs:List (L2.Key×Wv))
 | yK (kvs:List (List L2.Key×Wv))
 | CU (kvs:List (List L2.Key×Wv))
 | AF (kvs:List (L2.Key×Wv))
abbrev Hs:=List Ob
abbrev St:=L2.St
abbrev bA:=List (Option Wv)
abbrev Mp:=List aae
def jB(a C:aae):Heap->Prop:=λh=>∃o,h.get? a=some o/\o.cls= .ref C/\∃vs,o.data= .fields vs
def RM(a C:aae)(u:Option HO):Prop:=∃o vs,u=some (.fb o (.ext (jB a C)))/\o.data= .fields vs/\vs[2]? =some bG
theorem JN{P:aai}{w:aal}{H:Hp}{h:Heap}{a C:aae}(ok:jh P w H h)(x:RM a C (H a)):jB a C h:=let ⟨_,_,e,_⟩:=x;(ok a _ e).2.1
def ClsAt(K:PySem.W.Frag)(c:PySem.Str)(C:aae):Prop:=PySem.W.nsIn K aau c=some (some (.ref C))
def yL(c:aae)(q:PySem.Str):Heap->Prop:=λh=>h.CodeRec (.ref c) q
def dm:List PySem.Str:=["form_of","formula_by","turned","readied_content","ordered"]
def iU(K:PySem.W.Frag)(q:PySem.Str):Option aae:=match PySem.W.tabIn K q with
 | some (_,P)=>if(K.lookup P).isNone=true then some P else none
 | none=>none
def TU(q:PySem.Str):PySem.Str:=(q++".<locals>.")++"<lambda>"
def tD(K:PySem.W.Frag)(H:Hp):Prop:=∀q P,q∈dm->iU K q=some P->∃ps,H P=some (.jr ps)/\TriplesOk ps.toList/\∀pos cv,codeAmong pos ps.toList=some cv->∃c,cv= .ref c/\H c=some (.ext (yL c (TU q)))
theorem tD.keep{K:PySem.W.Frag}{H H':Hp}(t:tD K H)(h1:∀a ps,H a=some (.jr ps)->H' a=some (.jr ps))(h2:∀a φ,H a=some (.ext φ)->H' a=some (.ext φ)):tD K H':=λq P hq hP=>by
 obtain⟨ps,e1,e2,e3⟩:=t q P hq hP
 refine⟨ps,h1 _ _ e1,e2,λpos cv e=>?_⟩
 obtain⟨c,f1,f2⟩:=e3 pos cv e
 exact⟨c,f1,h2 _ _ f2⟩
def TV(K:PySem.W.Frag)(a:aae)(xs:List V):Prop:=∃(o:Obj)(its:Array aak)(n:Nat),K.lookup a=some o/\o.cls= .type "tuple"/\o.data= .seq its n/\its.size<=aav/\Vals xs its.toList
mutual
def ai(K:PySem.W.Frag)(m:Mp)(H:Hp):Wv->V->Prop
 | .aL,v=>v= .aL
 | .bl b,v=>v= .bl b
 | .int i,v=>v= .int i
 | .str x,v=>v= .str x/\aQ x=true
 | .tup ws,v=>∃a xs,v= .ref a/\H a=some (.tup xs)/\ag K m H ws xs
 | .pD ws,v=>∃a xs,v= .ref a/\TV K a xs/\ag K m H ws xs
 | .ref l,v=>∃a,v= .ref a/\m[l]? =some a
 | .ty n,v=>v= .ty n
 | .cls c,v=>∃C,v= .ref C/\ClsAt K c C
 | .kI c,v=>∃a C,v= .ref a/\ClsAt K c C/\RM a C (H a)
 | .fn p ws,v=>v= .ref p.a/\H p.c=some (.ext (yL p.c p.q))/\ag K m H ws p.xs
def ag(K:PySem.W.Frag)(m:Mp)(H:Hp):List Wv->List V->Prop
 | [],xs=>xs=[]
 | w::ws,xs=>∃x r,xs=x::r/\ai K m H w x/\ag K m H ws r
end
structure Ext(K:PySem.W.Frag)(m:Mp)(H:Hp)(m':Mp)(H':Hp):Prop where
 pre:∀(l:Nat)(a:aae),m[l]? =some a->m'[l]? =some a
 tup:∀(a:aae)(xs:List V),H a=some (.tup xs)->H' a=some (.tup xs)
 ext:∀(a:aae)(φ:Heap->Prop),H a=some (.ext φ)->H' a=some (.ext φ)
 fb:∀(a:aae)(o:Obj)(u:HO),H a=some (.fb o u)->H' a=some (.fb o u)
section
variable {K:PySem.W.Frag} {m m1 m2:Mp} {H H1 H2:Hp}
theorem Ext.refl:Ext K m H m H:=⟨λ_ _ h=>h,λ_ _ h=>h,λ_ _ h=>h,λ_ _ _ h=>h⟩
theorem Ext.trans(a:Ext K m H m1 H1)(b:Ext K m1 H1 m2 H2):Ext K m H m2 H2 :=
 ⟨λl x h=>b.pre l x (a.pre l x h),λx xs h=>b.tup x xs (a.tup x xs h),λx φ h=>b.ext x φ (a.ext x φ h),λx o u h=>b.fb x o u (a.fb x o u h)⟩
structure CV(K:PySem.W.Frag)(m:Mp)(H:Hp)(m':Mp)(H':Hp):Prop where
 pre:∀(l:Nat)(a:aae),m[l]? =some a->m'[l]? =some a
 tup:∀(a:aae)(xs:List V),H a=some (.tup xs)->H' a=some (.tup xs)
 ext:∀(a:aae)(φ:Heap->Prop),H a=some (.ext φ)->H' a=some (.ext φ)
 fx:∀(a:aae)(o:Obj)(φ:Heap->Prop),H a=some (.fb o (.ext φ))->H' a=some (.fb o (.ext φ))
theorem Ext.z(e:Ext K m H m1 H1):CV K m H m1 H1:=⟨e.pre,e.tup,e.ext,λa o φ h=>e.fb a o _ h⟩
mutual
theorem ai.jj(e:CV K m H m1 H1):∀(w:Wv)(v:V),ai K m H w v->ai K m1 H1 w v
 | .aL,v,h=>by unfold ai at h ⊢;exact h
 | .bl b,v,h=>by unfold ai at h ⊢;exact h
 | .int i,v,h=>by unfold ai at h ⊢;exact h
 | .str x,v,h=>by unfold ai at h ⊢;exact h
 | .ty n,v,h=>by unfold ai at h ⊢;exact h
 | .cls c,v,h=>by unfold ai at h ⊢;exact h
 | .kI c,v,h=>by
  unfold ai at h ⊢
  obtain⟨a,C,e1,e2,o,vs,e3,e4⟩:=h
  exact⟨a,C,e1,e2,o,vs,e.fx _ _ _ e3,e4⟩
 | .ref l,v,h=>by
  unfold ai at h ⊢
  obtain⟨a,e1,e2⟩:=h
  exact⟨a,e1,e.pre _ _ e2⟩
 | .tup ws,v,h=>by
  unfold ai at h ⊢
  obtain⟨a,xs,e1,e2,e3⟩:=h
  exact⟨a,xs,e1,e.tup _ _ e2,ag.jj e ws xs e3⟩
 | .pD ws,v,h=>by
  unfold ai at h ⊢
  obtain⟨a,xs,e1,e2,e3⟩:=h
  exact⟨a,xs,e1,e2,ag.jj e ws xs e3⟩
 | .fn p ws,v,h=>by
  unfold ai at h ⊢
  obtain⟨e1,e2,e3⟩:=h
  exact⟨e1,e.ext _ _ e2,ag.jj e ws p.xs e3⟩
theorem ag.jj(e:CV K m H m1 H1):∀(ws:List Wv)(xs:List V),ag K m H ws xs->ag K m1 H1 ws xs
 | [],xs,h=>by unfold ag at h ⊢;exact h
 | w::ws,xs,h=>by
  unfold ag at h ⊢
  obtain⟨x,r,e1,e2,e3⟩:=h
  exact⟨x,r,e1,ai.jj e w x e2,ag.jj e ws r e3⟩
end
theorem ai.mono(e:Ext K m H m1 H1)(w:Wv)(v:V)(h:ai K m H w v):ai K m1 H1 w v:=ai.jj e.z w v h
theorem ag.mono(e:Ext K m H m1 H1)(ws:List Wv)(xs:List V)(h:ag K m H ws xs):ag K m1 H1 ws xs:=ag.jj e.z ws xs h
theorem ag.nil:ag K m H [] []:=by unfold ag;rfl
theorem ag.cons{w:Wv}{x:V}{ws:List Wv}{xs:List V}(h:ai K m H w x)(t:ag K m H ws xs):ag K m H (w::ws) (x::xs):=by unfold ag;exact⟨x,xs,rfl,h,t⟩
theorem ag.length:∀{ws:List Wv}{xs:List V},ag K m H ws xs->ws.length=xs.length
 | [],xs,h=>by unfold ag at h;subst h;rfl
 | w::ws,xs,h=>by
  unfold ag at h
  obtain⟨x,r,e1,_,e3⟩:=h
  subst e1
  simp[ag.length e3]
theorem ag.get:∀{ws:List Wv}{xs:List V}{i:Nat}{w:Wv},ag K m H ws xs->ws[i]? =some w->∃x,xs[i]? =some x/\ai K m H w x
 | [],_,i,w,_,e=>by simp at e
 | a::ws,xs,0,w,h,e=>by
  unfold ag at h
  obtain⟨x,r,e1,e2,_⟩:=h
  subst e1
  simp at e
  subst e
  exact⟨x,rfl,e2⟩
 | a::ws,xs,i+1,w,h,e=>by
  unfold ag at h
  obtain⟨x,r,e1,_,e3⟩:=h
  subst e1
  obtain⟨y,f1,f2⟩:=ag.get (i:=i) (w:=w) e3 (by simpa using e)
  exact⟨y,by simpa using f1,f2⟩
theorem ag.append:∀{ws zs:List Wv}{xs ys:List V},ag K m H ws xs->ag K m H zs ys->ag K m H (ws++zs) (xs++ys)
 | [],_,xs,_,h,g=>by unfold ag at h;subst h;exact g
 | w::ws,zs,xs,ys,h,g=>by
  unfold ag at h
  obtain⟨x,r,e1,e2,e3⟩:=h
  subst e1
  exact ag.cons e2 (ag.append e3 g)
theorem ag.set:∀{ws:List Wv}{xs:List V}(i:Nat){w:Wv}{x:V},ag K m H ws xs->ai K m H w x->ag K m H (ws.set i w) (xs.set i x)
 | [],xs,i,w,x,h,_=>by unfold ag at h;subst h;exact ag.nil
 | a::ws,xs,0,w,x,h,g=>by
  unfold ag at h
  obtain⟨y,r,e1,e2,e3⟩:=h
  subst e1
  exact ag.cons g e3
 | a::ws,xs,i+1,w,x,h,g=>by
  unfold ag at h
  obtain⟨y,r,e1,e2,e3⟩:=h
  subst e1
  exact ag.cons e2 (ag.set i e3 g)
theorem ag.drop:∀{ws:List Wv}{xs:List V}(i:Nat),ag K m H ws xs->ag K m H (ws.drop i) (xs.drop i)
 | ws,xs,0,h=>by simpa using h
 | [],xs,i+1,h=>by unfold ag at h;subst h;simpa using ag.nil
 | a::ws,xs,i+1,h=>by
  unfold ag at h
  obtain⟨y,r,e1,e2,e3⟩:=h
  subst e1
  simpa using ag.drop i e3
theorem ag.take:∀{ws:List Wv}{xs:List V}(i:Nat),ag K m H ws xs->ag K m H (ws.take i) (xs.take i)
 | ws,xs,0,h=>by simpa using ag.nil
 | [],xs,i+1,h=>by unfold ag at h;subst h;simpa using ag.nil
 | a::ws,xs,i+1,h=>by
  unfold ag at h
  obtain⟨y,r,e1,e2,e3⟩:=h
  subst e1
  simpa using ag.cons e2 (ag.take i e3)
theorem ag.ints:∀(ns:List Int),ag K m H (ns.map Wv.int) (ns.map V.int)
 | []=>ag.nil
 | n::ns=>ag.cons (by unfold ai;rfl) (ag.ints ns)
end
def uT(K:PySem.W.Frag)(H:Hp)(a:aae)(ns:List Int):Prop :=
 (∃o,H a=some (.fb o (.lst (ns.map V.int))))\/
  ∃(o:Obj)(its:Array aak)(n:Nat),K.lookup a=some o/\o.cls= .type "list"/\o.dict=none/\o.data= .seq its n/\its.size<=aav/\Vals (ns.map V.int) its.toList
def RelK{κ:Type}(K:PySem.W.Frag)(m:Mp)(H:Hp)(kvs:List (κ×Wv))(xs:List (κ×V)):Prop:=kvs.map (·.1)=xs.map (·.1)/\ag K m H (kvs.map (·.2)) (xs.map (·.2))
def qX(K:PySem.W.Frag)(m:Mp)(H:Hp)(a:aae):Ob->Prop
 | .lst ws=>∃xs,H a=some (.lst xs)/\ag K m H ws xs
 | .tw ns=>uT K H a ns
 | .dct kvs=>∃xs,H a=some (.dK xs)/\RelK K m H kvs xs
 | .yK kvs=>∃xs,H a=some (.dT xs)/\RelK K m H kvs xs
 | .CU kvs=>∃o xs,H a=some (.fb o (.dT xs))/\RelK K m H kvs xs
 | .AF kvs=>∃o xs,H a=some (.fb o (.dK xs))/\RelK K m H kvs xs
def Ob.mu:Ob->Bool
 | .tw _=>false
 | _=>true
def Ob.wm:Ob->Bool
 | .tw _=>false
 | .CU _=>false
 | .AF _=>false
 | _=>true
theorem Ob.Pr{o:Ob}(h:o.wm=true):o.mu=true:=by cases o<;>first | rfl | cases h
structure bo(K:PySem.W.Frag)(m:Mp)(st:Hs)(H:Hp):Prop where
 len:m.length=st.length
 obj:∀(l:Nat)(a:aae)(o:Ob),m[l]? =some a->st[l]? =some o->qX K m H a o
 inj:∀(l l':Nat)(a:aae)(o o':Ob),m[l]? =some a->m[l']? =some a->st[l]? =some o->st[l']? =some o'->o.mu=true->o'.mu=true->l=l'
 tab:tD K H
def aj(st:Hs)(l:Nat):Option (List Wv):=match st[l]? with
 | some (.lst ws)=>some ws
 | some (.tw ns)=>some (ns.map Wv.int)
 | _=>none
section
variable {K:PySem.W.Frag} {m:Mp} {H:Hp} {st:Hs}
def Wr(u:Option HO):Prop:=u=none\/(∃ys,u=some (.lst ys))\/(∃ys,u=some (.dK ys))\/∃ys,u=some (.dT ys)
theorem Wr.ne{p a:aae}{u:HO}(hp:Wr (H p))(e:H a=some u)(n1:∀ys,u≠.lst ys)(n2:∀ys,u≠.dK ys)(n3:∀ys,u≠.dT ys):a≠p:=λz=>by
 subst z
 rcases hp with q | ⟨ys,q⟩ | ⟨ys,q⟩ | ⟨ys,q⟩
 ·rw[q] at e;cases e
 ·rw[q] at e;cases e;exact n1 ys rfl
 ·rw[q] at e;cases e;exact n2 ys rfl
 ·rw[q] at e;cases e;exact n3 ys rfl
theorem CY{p a:aae}{o:HO}{xs:List V}(hp:Wr (H p))(h:H a=some (.tup xs)):upd H p o a=some (.tup xs):=by
 rw[aw (hp.ne h (by intro ys z;cases z) (by intro ys z;cases z) (by intro ys z;cases z))];exact h
theorem CZ{p a:aae}{o:HO}{ns:List Int}(hp:Wr (H p))(h:uT K H a ns):uT K (upd H p o) a ns:=by
 rcases h with ⟨o',h⟩ | h
 ·exact .inl ⟨o',by rw[aw (hp.ne h (by intro ys z;cases z) (by intro ys z;cases z) (by intro ys z;cases z))];exact h⟩
 ·exact .inr h
theorem Wr.of{u:Option HO}(h:u=none\/∃ys,u=some (.lst ys)):Wr u:=by
 rcases h with q | q
 ·exact .inl q
 ·exact .inr (.inl q)
theorem Ext.iG{p:aae}{o:HO}(hp:Wr (H p)):Ext K m H m (upd H p o):=⟨λ_ _ h=>h,λ_ _ h=>CY hp h,λa φ h=>by
 rw[aw (hp.ne h (by intro ys z;cases z) (by intro ys z;cases z) (by intro ys z;cases z))]
 exact h,λa o u h=>by
 rw[aw (hp.ne h (by intro ys z;cases z) (by intro ys z;cases z) (by intro ys z;cases z))]
 exact h⟩
theorem Ext.upd{p:aae}{o:HO}(hp:H p=none\/∃ys,H p=some (.lst ys)):Ext K m H m (upd H p o):=Ext.iG (Wr.of hp)
theorem RelK.mono{κ:Type}{m1:Mp}{H1:Hp}{kvs:List (κ×Wv)}{xs:List (κ×V)}(e:Ext K m H m1 H1)(h:RelK K m H kvs xs):RelK K m1 H1 kvs xs:=⟨h.1,ag.mono e _ _ h.2⟩
theorem qX.keep{m1:Mp}{b p:aae}{u:HO}{o:Ob}(ex:Ext K m H m1 (L2.upd H p u))(hp:Wr (H p))(hb:o.mu=true->b≠p)(h:qX K m H b o):qX K m1 (L2.upd H p u) b o:=by
 cases o with
 | lst ws=>
  obtain⟨xs,e1,e2⟩:=h
  exact⟨xs,by rw[aw (hb rfl)];exact e1,ag.mono ex _ _ e2⟩
 | dct kvs=>
  obtain⟨xs,e1,e2⟩:=h
  exact⟨xs,by rw[aw (hb rfl)];exact e1,e2.mono ex⟩
 | yK kvs=>
  obtain⟨xs,e1,e2⟩:=h
  exact⟨xs,by rw[aw (hb rfl)];exact e1,e2.mono ex⟩
 | CU kvs=>
  obtain⟨o,xs,e1,e2⟩:=h
  exact⟨o,xs,by rw[aw (hb rfl)];exact e1,e2.mono ex⟩
 | AF kvs=>
  obtain⟨o,xs,e1,e2⟩:=h
  exact⟨o,xs,by rw[aw (hb rfl)];exact e1,e2.mono ex⟩
 | tw ns=>exact CZ hp h
theorem qX.at{b:aae}{o:Ob}(h:qX K m H b o)(hm:o.mu=true):∃u,H b=some u:=by
 cases o with
 | lst ws=>obtain⟨xs,e1,e2⟩:=h;exact⟨_,e1⟩
 | dct kvs=>obtain⟨xs,e1,e2⟩:=h;exact⟨_,e1⟩
 | yK kvs=>obtain⟨xs,e1,e2⟩:=h;exact⟨_,e1⟩
 | CU kvs=>obtain⟨o,xs,e1,e2⟩:=h;exact⟨_,e1⟩
 | AF kvs=>obtain⟨o,xs,e1,e2⟩:=h;exact⟨_,e1⟩
 | tw ns=>simp[Ob.mu] at hm
theorem qX.wr{b:aae}{o:Ob}(h:qX K m H b o)(hm:o.wm=true):Wr (H b):=by
 cases o with
 | lst ws=>obtain⟨xs,e1,e2⟩:=h;exact .inr (.inl ⟨_,e1⟩)
 | dct kvs=>obtain⟨xs,e1,e2⟩:=h;exact .inr (.inr (.inl ⟨_,e1⟩))
 | yK kvs=>obtain⟨xs,e1,e2⟩:=h;exact .inr (.inr (.inr ⟨_,e1⟩))
 | CU kvs=>cases hm
 | AF kvs=>cases hm
 | tw ns=>cases hm
theorem tD.iG{p:aae}{o:HO}(t:tD K H)(hp:Wr (H p)):tD K (L2.upd H p o):=t.keep
 (λa ps h=>by rw[aw (hp.ne h (by intro ys z;cases z) (by intro ys z;cases z) (by intro ys z;cases z))];exact h)
 λa φ h=>by rw[aw (hp.ne h (by intro ys z;cases z) (by intro ys z;cases z) (by intro ys z;cases z))];exact h
theorem Ext.more{p:aae}:Ext K m H (m++[p]) H:=⟨λl a h=>by
 rw[cu]
 ·exact h
 ·exact(List.getElem?_eq_some_iff.mp h).1,λ_ _ h=>h,λ_ _ h=>h,λ_ _ _ h=>h⟩
theorem bo.fresh{p:aae}{o:HO}(S:bo K m st H)(hp:H p=none):bo K m st (upd H p o) :=
 ⟨S.len,λl a ob h1 h2=>by
  have q:=S.obj l a ob h1 h2
  refine q.keep (Ext.iG (.inl hp)) (.inl hp) λhm=>?_
  obtain⟨u,e⟩:=q.at hm
  exact bH e hp,S.inj,S.tab.iG (.inl hp)⟩
theorem bo.lV{l:Nat}{a:aae}{ws:List Wv}(S:bo K m st H)(h1:m[l]? =some a)(h2:st[l]? =some (.lst ws)):∃xs,H a=some (.lst xs)/\ag K m H ws xs:=S.obj l a _ h1 h2
theorem bo.read{l:Nat}{a:aae}{ws:List Wv}(S:bo K m st H)(h1:m[l]? =some a)(h2:aj st l=some ws):∃xs,jq K H a xs/\ag K m H ws xs:=by
 unfold aj at h2
 cases e:st[l]? with
 | none=>rw[e] at h2;cases h2
 | some o=>
  rw[e] at h2
  cases o with
  | lst zs=>
   cases h2
   obtain⟨xs,e1,e2⟩:=S.lV h1 e
   exact⟨xs,jq.of e1,e2⟩
  | dct kvs=>cases h2
  | yK kvs=>cases h2
  | CU kvs=>cases h2
  | AF kvs=>cases h2
  | tw ns=>
   cases h2
   have q:uT K H a ns:=S.obj l a _ h1 e
   refine⟨ns.map V.int,?_,ag.ints ns⟩
   rcases q with ⟨o,q⟩ | q
   ·exact .inl (.inr ⟨o,q⟩)
   ·exact .inr q
theorem bo.tE{p:aae}{ob:Ob}{u:HO}(S:bo K m st H)(hp:H p=none)(r:qX K (m++[p]) (L2.upd H p u) p ob):bo K (m++[p]) (st++[ob]) (L2.upd H p u):=by
 have ex:Ext K m H (m++[p]) (L2.upd H p u):=Ext.more.trans (Ext.iG (.inl hp))
 have C0:∀(l:Nat)(o:Ob),m[l]? =some p->st[l]? =some o->o.mu=true->False:=λl o h1 h2 hm=>by
  obtain⟨v,e⟩:=(S.obj l p o h1 h2).at hm
  rw[hp] at e;cases e
 have old:∀(l:Nat)(a:aae),(m++[p])[l]? =some a->(l < m.length/\m[l]? =some a)\/(l=m.length/\a=p):=λl a h=>by
  by_cases hl:l < m.length
  ·exact .inl ⟨hl,by rw[cu hl] at h;exact h⟩
  ·have h':=h
   rw[iq (by omega)] at h'
   have z:=List.getElem?_eq_some_iff.mp h'
   have z1:l - m.length < 1:=by simpa using z.1
   refine .inr ⟨by omega,?_⟩
   have e0:l - m.length=0:=by omega
   rw[e0] at h'
   simpa using h'.symm
 have olds:∀(l:Nat)(o:Ob),l < m.length->(st++[ob])[l]? =some o->st[l]? =some o:=λl o hl h=>by
  rw[cu (by rw[<-S.len];exact hl)] at h
  exact h
 refine⟨by simp[S.len],λl a o h1 h2=>?_,λl l' a zs zs' h1 JP h2 h2' k k'=>?_,S.tab.iG (.inl hp)⟩
 ·rcases old l a h1 with ⟨hl,h1⟩ | ⟨hl,rfl⟩
  ·have q:=S.obj l a o h1 (olds l o hl h2)
   refine q.keep ex (.inl hp) λhm=>?_
   obtain⟨v,e⟩:=q.at hm
   exact bH e hp
  ·have e:o=ob:=by
    rw[hl,S.len,iq (ak _),tF] at h2
    simpa using h2.symm
   subst e
   exact r
 ·rcases old l a h1 with ⟨hl,g1⟩ | ⟨hl,ea⟩
  ·rcases old l' a JP with ⟨hl',Ow⟩ | ⟨hl',ea'⟩
   ·exact S.inj l l' a zs zs' g1 Ow (olds l _ hl h2) (olds l' _ hl' h2') k k'
   ·rw[ea'] at g1
    exact(C0 l zs g1 (olds l _ hl h2) k).elim
  ·rcases old l' a JP with ⟨hl',Ow⟩ | ⟨hl',_⟩
   ·rw[ea] at Ow
    exact(C0 l' zs' Ow (olds l' _ hl' h2') k').elim
   ·omega
theorem bo.alloc{p:aae}{ws:List Wv}{xs:List V}(S:bo K m st H)(hp:H p=none)(r:ag K m H ws xs):bo K (m++[p]) (st++[.lst ws]) (upd H p (.lst xs)) :=
 S.tE hp ⟨xs,aI,ag.mono (Ext.more.trans (Ext.iG (.inl hp))) _ _ r⟩
theorem bo.pE{l:Nat}{a:aae}{o0 ob:Ob}{u:HO}(S:bo K m st H)(h1:m[l]? =some a)(h2:st[l]? =some o0)(hw:o0.wm=true)(r:qX K m (L2.upd H a u) a ob):bo K m (st.set l ob) (L2.upd H a u):=by
 have wr:Wr (H a):=(S.obj l a o0 h1 h2).wr hw
 have hm:=Ob.Pr hw
 have ex:Ext K m H m (L2.upd H a u):=Ext.iG wr
 have hl:l < st.length:=(List.getElem?_eq_some_iff.mp h2).1
 have at':∀(k:Nat)(o:Ob),(st.set l ob)[k]? =some o->(k=l/\o=ob)\/(k≠l/\st[k]? =some o):=λk o h=>by
  by_cases e:l=k
  ·subst e
   rw[kZ hl] at h
   exact .inl ⟨rfl,(Option.some.inj h).symm⟩
  ·rw[bE e] at h
   exact .inr ⟨λz=>e z.symm,h⟩
 refine⟨by simp[S.len],λk b o g1 g2=>?_,λk k' b us us' g1 Ow g2 Xz q q'=>?_,S.tab.iG wr⟩
 ·rcases at' k o g2 with ⟨rfl,rfl⟩ | ⟨hk,g2⟩
  ·rw[h1] at g1;cases g1
   exact r
  ·have q:=S.obj k b o g1 g2
   refine q.keep ex wr λho z=>?_
   subst z
   exact hk (S.inj k l b o o0 g1 h1 g2 h2 ho hm)
 ·have back:∀(k:Nat)(o:Ob),(st.set l ob)[k]? =some o->o.mu=true->∃o',st[k]? =some o'/\o'.mu=true:=λk o h ho=>by
   rcases at' k _ h with ⟨rfl,_⟩ | ⟨_,h⟩
   ·exact⟨o0,h2,hm⟩
   ·exact⟨o,h,ho⟩
  obtain⟨u1,e1,f1⟩:=back k us g2 q
  obtain⟨u2,e2,f2⟩:=back k' us' Xz q'
  exact S.inj k k' b u1 u2 g1 Ow e1 e2 f1 f2
theorem bo.write{l:Nat}{a:aae}{ws zs:List Wv}{xs:List V}(S:bo K m st H)(h1:m[l]? =some a)(h2:st[l]? =some (.lst ws))(r:ag K m H zs xs):bo K m (st.set l (.lst zs)) (upd H a (.lst xs)) :=
 S.pE h1 h2 rfl ⟨xs,aI,ag.mono (Ext.iG ((S.obj l a _ h1 h2).wr rfl)) _ _ r⟩
end
structure av(K:PySem.W.Frag)(m:Mp)(H:Hp)(ρ:bA)(σ:St):Prop where
 len:ρ.length=σ.length
 get:∀(i:Nat)(w:Wv),ρ[i]? =some (some w)->∃v,σ[i]? =some (some v)/\ai K m H w v
section
variable {K:PySem.W.Frag} {m m1:Mp} {H H1:Hp} {ρ:bA} {σ:St}
theorem av.mono(R:av K m H ρ σ)(e:Ext K m H m1 H1):av K m1 H1 ρ σ:=⟨R.len,λi w h=>let ⟨v,h1,h2⟩:=R.get i w h;⟨v,h1,ai.mono e _ _ h2⟩⟩
theorem av.set(R:av K m H ρ σ)(i:Nat){w:Wv}{v:V}(h:ai K m H w v):av K m H (ρ.set i (some w)) (σ.set i (some v)):=by
 refine⟨by simp[R.len],λj u e=>?_⟩
 by_cases hj:i=j
 ·subst hj
  have hi:i < ρ.length:=by
   have:=(List.getElem?_eq_some_iff.mp e).1
   simpa using this
  rw[kZ hi] at e
  have e':w=u:=Option.some.inj (Option.some.inj e)
  subst e'
  exact⟨v,by rw[kZ (by rw[<-R.len];exact hi)],h⟩
 ·rw[bE hj] at e
  obtain⟨x,h1,h2⟩:=R.get j u e
  exact⟨x,by rw[bE hj];exact h1,h2⟩
end
inductive Re(α:Type) where
 | ok (a:α) (st:Hs)
 | err (c:PySem.Str) (st:Hs)
 | bad
def Re.bind{α β:Type}(r:Re α)(f:α->Hs->Re β):Re β:=match r with
 | .ok a st=>f a st
 | .err c st=> .err c st
 | .bad=> .bad
inductive Rs where
 | nx (ρ:bA) (st:Hs)
 | rt (w:Wv) (st:Hs)
 | bk (ρ:bA) (st:Hs)
 | ct (ρ:bA) (st:Hs)
 | err (c:PySem.Str) (ρ:bA) (st:Hs)
 | bad
def Re.bx{α:Type}(ρ:bA)(r:Re α)(f:α->Hs->Rs):Rs:=match r with
 | .ok a st=>f a st
 | .err c st=> .err c ρ st
 | .bad=> .bad
def Re.ju{α:Type}(r:Re α):Re α:=match r with
 | .ok a st=> .ok a st
 | _=> .bad
abbrev GE:=bA->Hs->Re Wv
abbrev GT:=bA->Hs->Re Bool
abbrev GA:=bA->Hs->Re (List Wv)
abbrev GS:=bA->Hs->Rs
def uU(P:aai)(w:aal)(outer:List Env)(H:Hp)(s:aaj)(H':Hp)(cls:aak)(e:aak)(s':aaj):Prop :=
 ∃(a:aae)(a0:aak)(B:Heap),e= .ref a/\s'.os=s.os/\AllBare s'.gens/\Un (frs outer) [] H H' s.heap s'.heap/\jh P w H' B/\tu B outer a cls a0 s'.heap/\
  (∀b o,s.heap.get? b=some o->b∉frs outer->∃o',B.get? b=some o'/\(H b=none->o'=o))
def jC(X:Cx)(pins:List (aae×Obj))(H:Hp)(s:aaj)(H':Hp)(cls:aak)(e:aak)(s':aaj):Prop :=
 ∃(a:aae)(a0 nt:aak)(B:Heap)(ch:List aae),e= .ref a/\s'.os=s.os/\AllBare s'.gens/\(∀b∈ch,dj X pins H b)/\Un (frs X.stack) ch H H' s.heap s'.heap/\jh X.prog X.w H' B/\
  (B.StaysIn s'.heap/\B.get? a=none/\s'.heap.FunFrames B X.stack/\RL s'.heap B a cls a0 nt)/\
  (∀b o,s.heap.get? b=some o->b∉frs X.stack->b∉ch->∃o',B.get? b=some o'/\(H b=none->o'=o))
theorem uU.any{X:Cx}{pins:List (aae×Obj)}{H H':Hp}{s s':aaj}{cls e:aak}(f:uU X.prog X.w X.stack H s H' cls e s'):jC X pins H s H' cls e s' :=
 let ⟨a,a0,B,e1,e2,e3,un,hok,fl,uV⟩:=f
 ⟨a,a0,.none,B,[],e1,e2,e3,(λb z=>by cases z),un,hok,fl,λb o q hb _=>uV b o q hb⟩
def xh(X:Cx)(σ:St)(H':Hp)(c:PySem.Str)(e:aak)(s':aaj):Prop :=
 ∃(C:aae)(pins:List (aae×Obj))(Hc:Hp)(sc:aaj),ClsAt X.K c C/\Inv X pins σ Hc sc/\
  (jC X pins Hc sc H' (.ref C) e s'\/(H'=Hc/\∃a args,e= .ref a/\s'.os=sc.os/\s'.gens=sc.gens/\tG sc.heap s'.heap a (.ref C) args))
def Ox(X:Cx)(σ:St)(m:Mp)(H:Hp)(c:PySem.Str)(st:Hs):Prop :=
 ∀(m':Mp)(H':Hp)(e:aak)(s':aaj),Ext X.K m H m' H'->bo X.K m' st H'->xh X σ H' c e s'->X.xe e s'
theorem Ox.mono{X:Cx}{σ:St}{m m1:Mp}{H H1:Hp}{c:PySem.Str}{st:Hs}(h:Ox X σ m H c st)(e:Ext X.K m H m1 H1):Ox X σ m1 H1 c st :=
 λm' H' x s' e' S r=>h m' H' x s' (e.trans e') S r
def ar{α:Type}(X:Cx)(σ:St)(m:Mp)(H:Hp)(r:Re α)(ok:α->Hs->Prop):Prop:=match r with
 | .ok a st=>ok a st
 | .err c st=>Ox X σ m H c st
 | .bad=>False
def pF{α:Type}(r:Re α)(ok:α->Hs->Prop):Prop:=match r with
 | .ok a st=>ok a st
 | _=>False
theorem ar.ju{α:Type}{X:Cx}{σ:St}{m:Mp}{H:Hp}{r:Re α}{ok:α->Hs->Prop}(h:ar X σ m H r.ju ok):pF r ok:=by
 cases r with
 | ok a st=>exact h
 | err c st=>exact h
 | bad=>exact h
theorem ar.bind{α β:Type}{X:Cx}{σ:St}{m:Mp}{H:Hp}{r:Re α}{f:α->Hs->Re β}{ok:β->Hs->Prop}(h:ar X σ m H (r.bind f) ok):ar X σ m H r (λa st=>ar X σ m H (f a st) ok):=by
 cases r with
 | ok a st=>exact h
 | err c st=>exact h
 | bad=>exact h
theorem ar.imp{α:Type}{X:Cx}{σ:St}{m m1:Mp}{H H1:Hp}{r:Re α}{ok ok':α->Hs->Prop}(h:ar X σ m H r ok)(e:Ext X.K m H m1 H1)(k:∀a st,ok a st->ok' a st):ar X σ m1 H1 r ok':=by
 cases r with
 | ok a st=>exact k a st h
 | err c st=>exact Ox.mono (c:=c) (st:=st) h e
 | bad=>exact h
theorem pF.imp{α:Type}{r:Re α}{ok ok':α->Hs->Prop}(h:pF r ok)(k:∀a st,ok a st->ok' a st):pF r ok':=by
 cases r with
 | ok a st=>exact k a st h
 | err c st=>exact h
 | bad=>exact h
def BV(K:PySem.W.Frag)(m:Mp)(H:Hp)(Q:VK)(w:Wv)(st:Hs):Prop:=∀(v:V)(m':Mp)(H':Hp),Ext K m H m' H'->bo K m' st H'->ai K m' H' w v->Q v H'
def XA(K:PySem.W.Frag)(m:Mp)(H:Hp)(Q:Bool->Hp->Prop)(b:Bool)(st:Hs):Prop:=∀(m':Mp)(H':Hp),Ext K m H m' H'->bo K m' st H'->Q b H'
def XB(K:PySem.W.Frag)(m:Mp)(H:Hp)(Q:List V->Hp->Prop)(ws:List Wv)(st:Hs):Prop:=∀(vs:List V)(m':Mp)(H':Hp),Ext K m H m' H'->bo K m' st H'->ag K m' H' ws vs->Q vs H'
abbrev dD(X:Cx)(σ:St)(m:Mp)(H:Hp)(r:Re Wv)(Q:VK):Prop:=ar X σ m H r (BV X.K m H Q)
abbrev iH(X:Cx)(σ:St)(m:Mp)(H:Hp)(r:Re Bool)(Q:Bool->Hp->Prop):Prop:=ar X σ m H r (XA X.K m H Q)
abbrev JQ(X:Cx)(σ:St)(m:Mp)(H:Hp)(r:Re (List Wv))(Q:List V->Hp->Prop):Prop:=ar X σ m H r (XB X.K m H Q)
theorem dD.shift{X:Cx}{σ:St}{m m1:Mp}{H H1:Hp}{r:Re Wv}{Q:VK}(h:dD X σ m H r Q)(e:Ext X.K m H m1 H1):dD X σ m1 H1 r Q:=h.imp e λ_ _ k v m' H' e'=>k v m' H' (e.trans e')
theorem iH.shift{X:Cx}{σ:St}{m m1:Mp}{H H1:Hp}{r:Re Bool}{Q:Bool->Hp->Prop}(h:iH X σ m H r Q)(e:Ext X.K m H m1 H1):iH X σ m1 H1 r Q:=h.imp e λ_ _ k m' H' e'=>k m' H' (e.trans e')
abbrev dE(K:PySem.W.Frag)(m:Mp)(H:Hp)(r:Re Wv)(Q:VK):Prop:=pF r (BV K m H Q)
theorem dE.shift{K:PySem.W.Frag}{m m1:Mp}{H H1:Hp}{r:Re Wv}{Q:VK}(h:dE K m H r Q)(e:Ext K m H m1 H1):dE K m1 H1 r Q:=pF.imp h λ_ _ k v m' H' e'=>k v m' H' (e.trans e')
def aK(X:Cx)(m:Mp)(H:Hp)(r:Rs)(D:Ends):Prop:=match r with
 | .nx ρ st=>∀(σ:St)(m':Mp)(H':Hp),Ext X.K m H m' H'->bo X.K m' st H'->av X.K m' H' ρ σ->D.nx σ H'
 | .rt w st=>∀(v:V)(m':Mp)(H':Hp),Ext X.K m H m' H'->bo X.K m' st H'->ai X.K m' H' w v->D.rt v H'
 | .bk ρ st=>∀(σ:St)(m':Mp)(H':Hp),Ext X.K m H m' H'->bo X.K m' st H'->av X.K m' H' ρ σ->D.bk σ H'
 | .ct ρ st=>∀(σ:St)(m':Mp)(H':Hp),Ext X.K m H m' H'->bo X.K m' st H'->av X.K m' H' ρ σ->D.ct σ H'
 | .err c ρ st=>∀(σ:St)(m':Mp)(H':Hp)(e:aak)(s':aaj),Ext X.K m H m' H'->bo X.K m' st H'->av X.K m' H' ρ σ->xh X σ H' c e s'->X.xe e s'
 | .bad=>False
theorem aK.shift{X:Cx}{m m1:Mp}{H H1:Hp}{r:Rs}{D:Ends}(h:aK X m H r D)(e:Ext X.K m H m1 H1):aK X m1 H1 r D:=by
 cases r with
 | nx ρ st=>exact λσ m' H' e'=>h σ m' H' (e.trans e')
 | rt w st=>exact λv m' H' e'=>h v m' H' (e.trans e')
 | bk ρ st=>exact λσ m' H' e'=>h σ m' H' (e.trans e')
 | ct ρ st=>exact λσ m' H' e'=>h σ m' H' (e.trans e')
 | err c ρ st=>exact λσ m' H' x s' e'=>h σ m' H' x s' (e.trans e')
 | bad=>exact h
theorem aK.cS{α:Type}{X:Cx}{m:Mp}{H:Hp}{ρ:bA}{σ:St}{r:Re α}{f:α->Hs->Rs}{D:Ends}(R:av X.K m H ρ σ)(h:aK X m H (r.bx ρ f) D):ar X σ m H r (λa st=>aK X m H (f a st) D):=by
 cases r with
 | ok a st=>exact h
 | err c st=>exact λm' H' x s' e' S r=>h σ m' H' x s' e' S (R.mono e') r
 | bad=>exact h
def SE(X:Cx)(e:Expr):TE:=λσ H Q=>∀(pins:List (aae×Obj))(s:aaj),Inv X pins σ H s->aax (model X.prog X.w) X.A (eval e X.env) (EP X pins σ Q) X.xe s
def ST(X:Cx)(e:Expr):TT:=λσ H Q=>∀(pins:List (aae×Obj))(s:aaj),Inv X pins σ H s->aax (model X.prog X.w) X.A (isTrue e X.env (eval e X.env)) (TP X pins σ Q) X.xe s
def SA(X:Cx)(es:List Expr):TA:=λσ H Q=>∀(pos:Pos)(pins:List (aae×Obj))(s:aaj),Inv X pins σ H s->aax (model X.prog X.w) X.A (spliced (backTo pos (aaw es X.env))) (AP X pins σ Q) X.xe s
def SS(X:Cx)(st:Stmt):TS:=λD σ H=>∀(pins:List (aae×Obj))(s:aaj),Inv X pins σ H s->aax (model X.prog X.w) X.A (exec st X.env) (SP X pins D) X.xe s
def RN(X:Cx)(st:List Stmt):TS:=λD σ H=>∀(pins:List (aae×Obj))(s:aaj),Inv X pins σ H s->aax (model X.prog X.w) X.A (execs st X.env) (SP X pins D) X.xe s
section
variable {X:Cx}
theorem aG{e:Expr}:PE X e (SE X e):=λpins s _ _ _ I h=>h pins s I
theorem pG{e:Expr}:PT X e (ST X e):=λpins s _ _ _ I h=>h pins s I
theorem jk{es:List Expr}:PA X es (SA X es):=λpos pins s _ _ _ I h=>h pos pins s I
theorem JR{st:Stmt}:PS X st (SS X st):=λpins s _ _ _ I h=>h pins s I
theorem hV{st:List Stmt}:Cb X st (RN X st):=λpins s _ _ _ I h=>h pins s I
end
def JE(X:Cx)(e:Expr)(g:GE):Prop:=∀(ρ:bA)(st:Hs)(σ:St)(H:Hp)(m:Mp)(Q:VK),bo X.K m st H->av X.K m H ρ σ->dD X σ m H (g ρ st) Q->SE X e σ H Q
def JT(X:Cx)(e:Expr)(g:GT):Prop:=∀(ρ:bA)(st:Hs)(σ:St)(H:Hp)(m:Mp)(Q:Bool->Hp->Prop),bo X.K m st H->av X.K m H ρ σ->iH X σ m H (g ρ st) Q->ST X e σ H Q
def JA(X:Cx)(es:List Expr)(g:GA):Prop:=∀(ρ:bA)(st:Hs)(σ:St)(H:Hp)(m:Mp)(Q:List V->Hp->Prop),bo X.K m st H->av X.K m H ρ σ->JQ X σ m H (g ρ st) Q->SA X es σ H Q
def JS(X:Cx)(s:Stmt)(g:GS):Prop:=∀(ρ:bA)(st:Hs)(σ:St)(H:Hp)(m:Mp)(D:Ends),bo X.K m st H->av X.K m H ρ σ->aK X m H (g ρ st) D->SS X s D σ H
def mU(X:Cx)(s:List Stmt)(g:GS):Prop:=∀(ρ:bA)(st:Hs)(σ:St)(H:Hp)(m:Mp)(D:Ends),bo X.K m st H->av X.K m H ρ σ->aK X m H (g ρ st) D->RN X s D σ H
section
variable {X:Cx}
theorem JE.of{e:Expr}{g:GE}{t:TE}(h:PE X e t)(k:∀(ρ:bA)(st:Hs)(σ:St)(H:Hp)(m:Mp)(Q:VK),bo X.K m st H->av X.K m H ρ σ->dD X σ m H (g ρ st) Q->t σ H Q):JE X e g :=
 λρ st σ H m Q S R p pins s I=>h pins s σ H Q I (k ρ st σ H m Q S R p)
theorem JT.of{e:Expr}{g:GT}{t:TT}(h:PT X e t)(k:∀(ρ:bA)(st:Hs)(σ:St)(H:Hp)(m:Mp)(Q:Bool->Hp->Prop),bo X.K m st H->av X.K m H ρ σ->iH X σ m H (g ρ st) Q->t σ H Q):JT X e g :=
 λρ st σ H m Q S R p pins s I=>h pins s σ H Q I (k ρ st σ H m Q S R p)
theorem JA.of{es:List Expr}{g:GA}{t:TA}(h:PA X es t)(k:∀(ρ:bA)(st:Hs)(σ:St)(H:Hp)(m:Mp)(Q:List V->Hp->Prop),bo X.K m st H->av X.K m H ρ σ->JQ X σ m H (g ρ st) Q->t σ H Q):JA X es g :=
 λρ st σ H m Q S R p pos pins s I=>h pos pins s σ H Q I (k ρ st σ H m Q S R p)
theorem JS.of{e:Stmt}{g:GS}{t:TS}(h:PS X e t)(k:∀(ρ:bA)(st:Hs)(σ:St)(H:Hp)(m:Mp)(D:Ends),bo X.K m st H->av X.K m H ρ σ->aK X m H (g ρ st) D->t D σ H):JS X e g :=
 λρ st σ H m D S R p pins s I=>h pins s σ H D I (k ρ st σ H m D S R p)
theorem mU.of{e:List Stmt}{g:GS}{t:TS}(h:Cb X e t)(k:∀(ρ:bA)(st:Hs)(σ:St)(H:Hp)(m:Mp)(D:Ends),bo X.K m st H->av X.K m H ρ σ->aK X m H (g ρ st) D->t D σ H):mU X e g :=
 λρ st σ H m D S R p pins s I=>h pins s σ H D I (k ρ st σ H m D S R p)
theorem JE.go{e:Expr}{g:GE}{ρ:bA}{st:Hs}{σ:St}{H:Hp}{m:Mp}{T:VK}{ok:Wv->Hs->Prop}(h:JE X e g)(S:bo X.K m st H)(R:av X.K m H ρ σ)(p:ar X σ m H (g ρ st) ok)
  (k:∀(w:Wv)(st1:Hs)(v:V)(m1:Mp)(H1:Hp),ok w st1->Ext X.K m H m1 H1->bo X.K m1 st1 H1->ai X.K m1 H1 w v->T v H1):SE X e σ H T :=
 h ρ st σ H m T S R (p.imp Ext.refl λw st1 q v m1 H1 e1 s1 r1=>k w st1 v m1 H1 q e1 s1 r1)
theorem JT.go{e:Expr}{g:GT}{ρ:bA}{st:Hs}{σ:St}{H:Hp}{m:Mp}{T:Bool->Hp->Prop}{ok:Bool->Hs->Prop}(h:JT X e g)(S:bo X.K m st H)(R:av X.K m H ρ σ)(p:ar X σ m H (g ρ st) ok)
  (k:∀(b:Bool)(st1:Hs)(m1:Mp)(H1:Hp),ok b st1->Ext X.K m H m1 H1->bo X.K m1 st1 H1->T b H1):ST X e σ H T :=
 h ρ st σ H m T S R (p.imp Ext.refl λb st1 q m1 H1 e1 s1=>k b st1 m1 H1 q e1 s1)
theorem JA.go{es:List Expr}{g:GA}{ρ:bA}{st:Hs}{σ:St}{H:Hp}{m:Mp}{T:List V->Hp->Prop}{ok:List Wv->Hs->Prop}(h:JA X es g)(S:bo X.K m st H)(R:av X.K m H ρ σ)(p:ar X σ m H (g ρ st) ok)
  (k:∀(ws:List Wv)(st1:Hs)(vs:List V)(m1:Mp)(H1:Hp),ok ws st1->Ext X.K m H m1 H1->bo X.K m1 st1 H1->ag X.K m1 H1 ws vs->T vs H1):SA X es σ H T :=
 h ρ st σ H m T S R (p.imp Ext.refl λw st1 q v m1 H1 e1 s1 r1=>k w st1 v m1 H1 q e1 s1 r1)
end
end J
namespace J
open PySem PySem.Spec PyProof.Rows L2
def lim:Nat:=1000000
theorem fA{n:Nat}(h:n<=lim):n<=aav:=bb h (by unfold lim;rw[sizeLine_eq];decide)
theorem pH{n:Nat}(h:n < lim):n < aav:=bN h (by unfold lim;rw[sizeLine_eq];decide)
def af(i:Nat):GE:=λρ st=>match ρ[i]? with
 | some (some w)=> .ok w st
 | _=> .bad
def gC(w:Wv):GE:=λ_ st=> .ok w st
section
variable {X:Cx}
theorem xi(i:Nat){x:Str}{pos:Pos}(hN:X.N[i]? =some x:=by rfl)(hv:SU X.env.scope x:=by first | exact Or.inl rfl | exact j4 (Or.inl rfl) | exact j4 (j4 rfl))(hd:(x == ("__debug__":Str))=false:=by decide)
  (hcd:(x == ("__classdict__":Str))=false:=by decide):JE X (.Name x pos) (af i):=JE.of (KU hN hv hd hcd) λρ st σ H m Q S R p=>by
 unfold af at p
 cases e:ρ[i]? with
 | none=>rw[e] at p;exact aa p
 | some o=>
  cases o with
  | none=>rw[e] at p;exact aa p
  | some w=>
   rw[e] at p
   obtain⟨v,h1,h2⟩:=R.get i w e
   exact⟨v,h1,p v m H Ext.refl S h2⟩
theorem L5{i:Int}{j pos}:JE X (.Constant (.int i) j pos) (gC (.int i)):=JE.of KW λρ st σ H m Q S R p=>p (.int i) m H Ext.refl S (by unfold ai;rfl)
theorem Pt{b:Bool}{j pos}:JE X (.Constant (.bool b) j pos) (gC (.bl b)):=JE.of OQ λρ st σ H m Q S R p=>p (.bl b) m H Ext.refl S (by unfold ai;rfl)
theorem L6{j pos}:JE X (.Constant .none j pos) (gC .aL):=JE.of KY λρ st σ H m Q S R p=>p .aL m H Ext.refl S (by unfold ai;rfl)
theorem L7{x:PySem.Str}{j pos}(hx:aQ x=true:=by decide+kernel):JE X (.Constant (.str x) j pos) (gC (.str x)):=JE.of KZ λρ st σ H m Q S R p=>p (.str x) m H Ext.refl S (by unfold ai;exact⟨rfl,hx⟩)
theorem C2{x:Str}{i:Int}{t:Tok}{pos:Pos}(hg:Gl X x)(hm:X.mg x=some (.int i t))(hd:(x == ("__debug__":Str))=false:=by decide):JE X (.Name x pos) (gC (.int i)) :=
 JE.of (gq (v:=.int i) hg hm ⟨t,rfl⟩ hd) λρ st σ H m Q S R p=>p (.int i) m H Ext.refl S (by unfold ai;rfl)
theorem C3{x y:Str}{t:Tok}{pos:Pos}(hg:Gl X x)(hm:X.mg x=some (.str y t))(hy:aQ y=true:=by decide+kernel)(hd:(x == ("__debug__":Str))=false:=by decide):JE X (.Name x pos) (gC (.str y)) :=
 JE.of (gq (v:=.str y) hg hm ⟨t,rfl⟩ hd) λρ st σ H m Q S R p=>p (.str y) m H Ext.refl S (by unfold ai;exact⟨rfl,hy⟩)
theorem Pu{x:Str}{T:String}{pos:Pos}(hg:Gl X x)(hm:X.mg x=none)(hv:aao x=some (.type T))(hn:x≠"__name__":=by decide)(hd:(x == ("__debug__":Str))=false:=by decide):JE X (.Name x pos) (gC (.ty T)) :=
 JE.of (GJ (v:=.ty T) hg hm hv rfl hn hd) λρ st σ H m Q S R p=>p (.ty T) m H Ext.refl S (by unfold ai;rfl)
abbrev g_:=Wv->Wv->Hs->Re Wv
def aq(op:g_)(ga gb:GE):GE:=λρ st=>(ga ρ st).bind λx st1=>(gb ρ st1).bind λy st2=>(op x y st2).ju
def yM(X:Cx)(op:g_)(r:R2):Prop:=∀(x y:Wv)(a b:V)(st:Hs)(H:Hp)(m:Mp)(Q:VK),bo X.K m st H->ai X.K m H x a->ai X.K m H y b->dE X.K m H (op x y st) Q->r a b H Q
def jv(X:Cx)(f:aak->aak->Sem aak)(op:g_):Prop:=∃r,fu X f r/\yM X op r
theorem yN{a b:Expr}{ga gb:GE}{op:g_}{r:R2}(h2:yM X op r)(ha:JE X a ga)(hb:JE X b gb){ρ:bA}{st:Hs}{σ:St}{H:Hp}{m:Mp}{Q:VK}(S:bo X.K m st H)(R:av X.K m H ρ σ)(p:dD X σ m H (aq op ga gb ρ st) Q) :
  O3 r (SE X a) (SE X b) σ H Q:=by
 refine ha.go S R (ar.bind p) λx st1 v m1 H1 p1 e1 S1 rx=>?_
 refine hb.go S1 (R.mono e1) ((ar.bind p1).imp e1 λ_ _ q=>q) λy st2 u m2 H2 p2 e2 S2 ry=>?_
 exact h2 x y v u st2 H2 m2 Q S2 (ai.mono e2 _ _ rx) ry (dE.shift (ar.ju p2) (e1.trans e2))
theorem L8{a b:Expr}{ga gb:GE}{o:Operator}{op:g_}{pos:Pos}(ho:jv X (aan o) op)(ha:JE X a ga)(hb:JE X b gb):JE X (.BinOp a o b pos) (aq op ga gb):=by
 obtain⟨r,h1,h2⟩:=ho
 exact JE.of (O4 h1 aG aG) λρ st σ H m Q S R p=>yN h2 ha hb S R p
theorem xj{a b:Expr}{ga gb:GE}{o:CmpOp}{op:g_}{pos:Pos}(ho:jv X (aar o) op)(ha:JE X a ga)(hb:JE X b gb)(hm:aam o b=false):JE X (.Compare a [o] [b] pos) (aq op ga gb):=by
 obtain⟨r,h1,h2⟩:=ho
 exact JE.of (GY h1 aG aG hm) λρ st σ H m Q S R p=>yN h2 ha hb S R p
def C4(w:Wv)(st:Hs):Re Bool:=match w with
 | .bl b=> .ok b st
 | _=> .bad
def cA(g:GE):GT:=λρ st=>(g ρ st).bind C4
theorem lW{σ:St}{m:Mp}{H:Hp}{r:Re Wv}{Q:Bool->Hp->Prop}(p:iH X σ m H (r.bind C4) Q):dD X σ m H r (λx H'=>∃k,x= .bl k/\Q k H'):=by
 cases r with
 | ok w st=>
  cases w with
  | bl b=>
   intro v m' H' e S rw'
   unfold ai at rw'
   exact⟨b,rw',p m' H' e S⟩
  | _=>exact aa p
 | err c st=>exact p
 | bad=>exact p
theorem xk{a b:Expr}{ga gb:GE}{o:CmpOp}{op:g_}{pos:Pos}(ho:jv X (aar o) op)(ha:JE X a ga)(hb:JE X b gb)(hm:aam o b=false):JT X (.Compare a [o] [b] pos) (cA (aq op ga gb)):=by
 obtain⟨r,h1,h2⟩:=ho
 exact JT.of (GZ h1 aG aG hm) λρ st σ H m Q S R p=>yN h2 ha hb S R (lW p)
def pI(op op':g_)(ga gb gc:GE):GE:=λρ st=>(ga ρ st).bind λx st1=>(gb ρ st1).bind λy st2=>(op x y st2).ju.bind λz st3=>match z with
 | .bl true=>(gc ρ st3).bind λu Gi=>(op' y u Gi).ju
 | .bl false=> .ok (.bl false) st3
 | _=> .bad
theorem JU{a b c:Expr}{ga gb gc:GE}{op op':g_}{r r':R2}(h2:yM X op r)(h2':yM X op' r')(ha:JE X a ga)(hb:JE X b gb)(hc:JE X c gc){ρ:bA}{st:Hs}{σ:St}{H:Hp}{m:Mp}{Q:VK}
  (S:bo X.K m st H)(R:av X.K m H ρ σ)(p:dD X σ m H (pI op op' ga gb gc ρ st) Q):wZ r r' (SE X a) (SE X b) (SE X c) σ H Q:=by
 refine ha.go S R (ar.bind p) λx st1 v m1 H1 p1 e1 S1 rx=>?_
 refine hb.go S1 (R.mono e1) ((ar.bind p1).imp e1 λ_ _ q=>q) λy st2 u m2 H2 p2 e2 S2 ry=>?_
 refine h2 x y v u st2 H2 m2 _ S2 (ai.mono e2 _ _ rx) ry (pF.imp (ar.ju (ar.bind p2)) λz st3 p3=>?_)
 intro z' m3 H3 e3 S3 rz
 cases z with
 | bl k=>
  unfold ai at rz
  refine⟨k,rz,?_⟩
  cases k with
  | true=>
   rw[if_pos rfl]
   refine hc.go S3 (R.mono (e1.trans (e2.trans e3))) ((ar.bind p3).imp (e1.trans (e2.trans e3)) λ_ _ q=>q) λq Gi u' m4 H4 p4 e4 S4 rq=>?_
   exact h2' y q u u' Gi H4 m4 Q S4 (ai.mono (e3.trans e4) _ _ ry) rq (dE.shift (ar.ju p4) (e1.trans (e2.trans (e3.trans e4))))
  | false=>
   rw[if_neg dN]
   exact p3 (.bl false) m3 H3 (e1.trans (e2.trans e3)) S3 (by unfold ai;rfl)
 | _=>exact aa p3
theorem C5{a b c:Expr}{ga gb gc:GE}{o o':CmpOp}{op op':g_}{pos:Pos}(ho:jv X (aar o) op)(ho':jv X (aar o') op')(ha:JE X a ga)(hb:JE X b gb)(hc:JE X c gc)
  (hm:lastMarks [o,o'] [b,c]=false:=by with_unfolding_all rfl):JE X (.Compare a [o,o'] [b,c] pos) (pI op op' ga gb gc):=by
 obtain⟨r,h1,h2⟩:=ho
 obtain⟨r',JP,h2'⟩:=ho'
 exact JE.of (Cp h1 JP aG aG aG hm) λρ st σ H m Q S R p=>JU h2 h2' ha hb hc S R p
theorem C6{a b c:Expr}{ga gb gc:GE}{o o':CmpOp}{op op':g_}{pos:Pos}(ho:jv X (aar o) op)(ho':jv X (aar o') op')(ha:JE X a ga)(hb:JE X b gb)(hc:JE X c gc)
  (hm:lastMarks [o,o'] [b,c]=false:=by with_unfolding_all rfl):JT X (.Compare a [o,o'] [b,c] pos) (cA (pI op op' ga gb gc)):=by
 obtain⟨r,h1,h2⟩:=ho
 obtain⟨r',JP,h2'⟩:=ho'
 exact JT.of (Cq h1 JP aG aG aG hm) λρ st σ H m Q S R p=>JU h2 h2' ha hb hc S R (lW p)
def L9(op:Wv->Hs->Re Wv)(ga:GE):GE:=λρ st=>(ga ρ st).bind op
def pJ:Wv->Hs->Re Wv
 | .int i,st=> .ok (.int (-i)) st
 | _,_=> .bad
theorem L_{a:Expr}{ga:GE}{pos:Pos}(ha:JE X a ga):JE X (.UnaryOp .USub a pos) (L9 pJ ga):=by
 refine JE.of (O5 Lq aG) λρ st σ H m Q S R p=>?_
 refine ha.go S R (ar.bind p) λx st1 v m1 H1 p1 e1 S1 rx=>?_
 cases x with
 | int i=>
  unfold ai at rx
  exact⟨i,rx,p1 _ m1 H1 e1 S1 (by unfold ai;rfl)⟩
 | _=>exact aa p1
def SW(X:Cx)(e:Expr):TT:=λσ H Q=>∀(wh:Sem aak)(pins:List (aae×Obj))(s:aaj),Inv X pins σ H s->aax (model X.prog X.w) X.A (isTrue e X.env wh) (TP X pins σ Q) X.xe s
theorem JV{e:Expr}:PW X e (SW X e):=λwh pins s _ _ _ I h=>h wh pins s I
def JW(X:Cx)(e:Expr)(g:GT):Prop:=∀(ρ:bA)(st:Hs)(σ:St)(H:Hp)(m:Mp)(Q:Bool->Hp->Prop),bo X.K m st H->av X.K m H ρ σ->iH X σ m H (g ρ st) Q->SW X e σ H Q
theorem JW.of{e:Expr}{g:GT}{t:TT}(h:PW X e t)(k:∀(ρ:bA)(st:Hs)(σ:St)(H:Hp)(m:Mp)(Q:Bool->Hp->Prop),bo X.K m st H->av X.K m H ρ σ->iH X σ m H (g ρ st) Q->t σ H Q):JW X e g :=
 λρ st σ H m Q S R p wh pins s I=>h wh pins s σ H Q I (k ρ st σ H m Q S R p)
theorem JW.jt{e:Expr}{g:GT}(h:JW X e g):JT X e g:=λρ st σ H m Q S R p pins s I=>h ρ st σ H m Q S R p _ pins s I
def lX(ga gb:GT):GT:=λρ st=>(ga ρ st).bind λb st1=>if b=true then gb ρ st1 else .ok false st1
def L'(ga gb:GT):GT:=λρ st=>(ga ρ st).bind λb st1=>if b=true then .ok true st1 else gb ρ st1
def tH(ga:GT):GT:=λρ st=>(ga ρ st).bind λb st1=> .ok (!b) st1
theorem Hu{a:Expr}{ga:GT}{pos:Pos}(ha:JT X a ga):JW X (.BoolOp .And [a] pos) ga:=JW.of (GK pG) λρ st σ H m Q S R p=>ha ρ st σ H m Q S R p
theorem Ma{a:Expr}{ga:GT}{pos:Pos}(ha:JT X a ga):JW X (.BoolOp .Or [a] pos) ga:=JW.of (K9 pG) λρ st σ H m Q S R p=>ha ρ st σ H m Q S R p
theorem Mb{a b:Expr}{rest:List Expr}{ga gb:GT}{pos:Pos}(ha:JT X a ga)(hb:JW X (.BoolOp .And (b::rest) pos) gb):JW X (.BoolOp .And (a::b::rest) pos) (lX ga gb):=by
 refine JW.of (K_ pG JV) λρ st σ H m Q S R p=>?_
 refine ha.go S R (ar.bind p) λc st1 m1 H1 p1 e1 S1=>?_
 cases c with
 | true=>rw[if_pos rfl] at p1 ⊢;exact hb ρ st1 σ H1 m1 Q S1 (R.mono e1) (iH.shift p1 e1)
 | false=>rw[if_neg dN] at p1 ⊢;exact p1 m1 H1 e1 S1
theorem Pw{a b:Expr}{rest:List Expr}{ga gb:GT}{pos:Pos}(ha:JT X a ga)(hb:JW X (.BoolOp .Or (b::rest) pos) gb):JW X (.BoolOp .Or (a::b::rest) pos) (L' ga gb):=by
 refine JW.of (OR pG JV) λρ st σ H m Q S R p=>?_
 refine ha.go S R (ar.bind p) λc st1 m1 H1 p1 e1 S1=>?_
 cases c with
 | true=>rw[if_pos rfl] at p1 ⊢;exact p1 m1 H1 e1 S1
 | false=>rw[if_neg dN] at p1 ⊢;exact hb ρ st1 σ H1 m1 Q S1 (R.mono e1) (iH.shift p1 e1)
theorem Mc{a:Expr}{ga:GT}{pos:Pos}(ha:JT X a ga):JT X (.UnaryOp .Not a pos) (tH ga):=by
 refine JT.of (K' pG) λρ st σ H m Q S R p=>?_
 exact ha.go S R (ar.bind p) λc st1 m1 H1 p1 e1 S1=>p1 m1 H1 e1 S1
def yO(ga gb:GE):GE:=λρ st=>(ga ρ st).bind λw st1=>match w with
 | .bl true=>gb ρ st1
 | .bl false=> .ok (.bl false) st1
 | _=> .bad
def Px(ga gb:GE):GE:=λρ st=>(ga ρ st).bind λw st1=>match w with
 | .bl true=> .ok (.bl true) st1
 | .bl false=>gb ρ st1
 | _=> .bad
def JX(ga:GE):GE:=λρ st=>(ga ρ st).bind λw st1=>match w with
 | .bl b=> .ok (.bl (!b)) st1
 | _=> .bad
theorem C7{op}{a:Expr}{ga:GE}{pos:Pos}(ha:JE X a ga):JE X (.BoolOp op [a] pos) ga:=JE.of (La aG) λρ st σ H m Q S R p=>ha ρ st σ H m Q S R p
theorem Md{a b:Expr}{rest:List Expr}{ga gb:GE}{pos:Pos}(ha:JE X a ga)(hb:JE X (.BoolOp .And (b::rest) pos) gb):JE X (.BoolOp .And (a::b::rest) pos) (yO ga gb):=by
 refine JE.of (Lb aG aG) λρ st σ H m Q S R p=>?_
 refine ha.go S R (ar.bind p) λx st1 v m1 H1 p1 e1 S1 rx=>?_
 cases x with
 | bl c=>
  unfold ai at rx
  refine⟨c,rx,?_⟩
  cases c with
  | true=>rw[if_pos rfl];exact hb ρ st1 σ H1 m1 Q S1 (R.mono e1) (dD.shift p1 e1)
  | false=>rw[if_neg dN];exact p1 _ m1 H1 e1 S1 (by unfold ai;rfl)
 | _=>exact aa p1
theorem Py{a b:Expr}{rest:List Expr}{ga gb:GE}{pos:Pos}(ha:JE X a ga)(hb:JE X (.BoolOp .Or (b::rest) pos) gb):JE X (.BoolOp .Or (a::b::rest) pos) (Px ga gb):=by
 refine JE.of (OU aG aG) λρ st σ H m Q S R p=>?_
 refine ha.go S R (ar.bind p) λx st1 v m1 H1 p1 e1 S1 rx=>?_
 cases x with
 | bl c=>
  unfold ai at rx
  refine⟨c,rx,?_⟩
  cases c with
  | true=>rw[if_pos rfl];exact p1 _ m1 H1 e1 S1 (by unfold ai;rfl)
  | false=>rw[if_neg dN];exact hb ρ st1 σ H1 m1 Q S1 (R.mono e1) (dD.shift p1 e1)
 | _=>exact aa p1
theorem Me{a:Expr}{ga:GE}{pos:Pos}(ha:JE X a ga):JE X (.UnaryOp .Not a pos) (JX ga):=by
 refine JE.of (Lc aG) λρ st σ H m Q S R p=>?_
 refine ha.go S R (ar.bind p) λx st1 v m1 H1 p1 e1 S1 rx=>?_
 cases x with
 | bl c=>
  unfold ai at rx
  exact⟨c,rx,p1 _ m1 H1 e1 S1 (by unfold ai;rfl)⟩
 | _=>exact aa p1
def AG(gt:GT)(ga gb:GE):GE:=λρ st=>(gt ρ st).bind λb st1=>if b=true then ga ρ st1 else gb ρ st1
theorem Pz{c a b:Expr}{gt:GT}{ga gb:GE}{pos:Pos}(hc:JT X c gt)(ha:JE X a ga)(hb:JE X b gb):JE X (.IfExp c a b pos) (AG gt ga gb):=by
 refine JE.of (Cf pG aG aG) λρ st σ H m Q S R p=>?_
 refine hc.go S R (ar.bind p) λk st1 m1 H1 p1 e1 S1=>?_
 cases k with
 | true=>rw[if_pos rfl] at p1 ⊢;exact ha ρ st1 σ H1 m1 Q S1 (R.mono e1) (dD.shift p1 e1)
 | false=>rw[if_neg dN] at p1 ⊢;exact hb ρ st1 σ H1 m1 Q S1 (R.mono e1) (dD.shift p1 e1)
def ao:GA:=λ_ st=> .ok [] st
def ae(ga:GE)(gr:GA):GA:=λρ st=>(ga ρ st).bind λx st1=>(gr ρ st1).bind λxs st2=> .ok (x::xs) st2
theorem tI:JA X [] ao:=JA.of Lu λρ st σ H m Q S R p=>p [] m H Ext.refl S ag.nil
theorem oD{e:Expr}{es:List Expr}{ga:GE}{gr:GA}(ha:JE X e ga)(hr:JA X es gr)(hs:aaw (e::es) X.env=(false,eval e X.env)::aaw es X.env:=by rfl):JA X (e::es) (ae ga gr):=by
 refine JA.of (G0 aG jk hs) λρ st σ H m Q S R p=>?_
 refine ha.go S R (ar.bind p) λx st1 v m1 H1 p1 e1 S1 rx=>?_
 refine hr.go S1 (R.mono e1) ((ar.bind p1).imp e1 λ_ _ q=>q) λxs st2 vs m2 H2 p2 e2 S2 rs=>?_
 exact p2 (v::vs) m2 H2 (e1.trans e2) S2 (ag.cons (ai.mono e2 _ _ rx) rs)
def eJ(g:GA):GE:=λρ st=>(g ρ st).bind λws st1=>if ws.length<=lim then .ok (.tup ws) st1 else .bad
def eu(g:GA):GE:=λρ st=>(g ρ st).bind λws st1=>if ws.length<=lim then .ok (.ref st1.length) (st1++[.lst ws]) else .bad
theorem Mf{es:List Expr}{g:GA}{x1 pos}(h:JA X es g):JE X (.Tuple es x1 pos) (eJ g):=by
 refine JE.of (Lw jk) λρ st σ H m Q S R p=>?_
 refine h.go S R (ar.bind p) λws st1 vs m1 H1 p1 e1 S1 rs=>?_
 by_cases hl:ws.length<=lim
 ·rw[if_pos hl] at p1
  refine⟨by rw[<-rs.length];exact fA hl,λq hq=>?_⟩
  have e2:Ext X.K m1 H1 m1 (upd H1 q (.tup vs)):=Ext.upd (.inl hq)
  exact p1 (.ref q) m1 _ (e1.trans e2) (S1.fresh hq) (by unfold ai;exact⟨q,vs,rfl,aI,ag.mono e2 _ _ rs⟩)
 ·rw[if_neg hl] at p1;exact aa p1
theorem bo.newest{K:PySem.W.Frag}{m:Mp}{st:Hs}{H:Hp}(S:bo K m st H)(q:aae)(H':Hp):ai K (m++[q]) H' (.ref st.length) (.ref q):=by
 unfold ai
 refine⟨q,rfl,?_⟩
 rw[<-S.len,iq (ak _),tF]
 rfl
theorem iI{m m1:Mp}{H H1:Hp}{st1:Hs}{ws:List Wv}{vs:List V}{Q:VK}(p1:BV X.K m H Q (.ref st1.length) (st1++[.lst ws]))(e1:Ext X.K m H m1 H1)(S1:bo X.K m1 st1 H1)(rs:ag X.K m1 H1 ws vs)(q:aae)(hq:H1 q=none) :
  Q (.ref q) (upd H1 q (.lst vs)) :=
 p1 (.ref q) (m1++[q]) _ (e1.trans (Ext.more.trans (Ext.upd (.inl hq)))) (S1.alloc hq rs) (S1.newest q _)
theorem Mg{es:List Expr}{g:GA}{pos}(h:JA X es g):JE X (.List es pos) (eu g):=by
 refine JE.of (Lx jk) λρ st σ H m Q S R p=>?_
 refine h.go S R (ar.bind p) λws st1 vs m1 H1 p1 e1 S1 rs=>?_
 by_cases hl:ws.length<=lim
 ·rw[if_pos hl] at p1
  exact⟨by rw[<-rs.length];exact fA hl,λq hq=>iI p1 e1 S1 rs q hq⟩
 ·rw[if_neg hl] at p1;exact aa p1
end
section
variable {X:Cx}
theorem fu.or{f:aak->aak->Sem aak}{r r':R2}(h:fu X f r)(h':fu X f r'):fu X f (λx y H Q=>r x y H Q\/r' x y H Q):=by
 intro pins s σ H x y v u Q I rx ry q
 rcases q with q | q
 ·exact h pins s σ H x y v u Q I rx ry q
 ·exact h' pins s σ H x y v u Q I rx ry q
theorem C8:fu X (aan .FloorDiv) (rI (λ_ j=>j≠0/\j.natAbs.log2 < 9000) λi j=> .int (i.fdiv j)):=RH λi j _ _ _ _ _ hc q=>floordiv_int hc.1 q (.inl (PyProof.noPylong_of_log2 hc.2))
theorem Hv:fu X (aan .Mod) (rI (λ_ j=>j≠0) λi j=> .int (i.fmod j)):=RH λi j _ _ _ _ _ hc q=>mod_int' hc q
theorem Hw:fu X (aan .Mult) (rI (λi j=>IntMulOk i j) λi j=> .int (i * j)):=RH λ_ _ _ _ _ _ _ hc q=>mul_int q hc
instance TX{a b:Int}:Decidable (IntMulOk a b):=by unfold IntMulOk;infer_instance
def Mh:g_
 | .int i,.int j,st=> .ok (.int (i - j)) st
 | _,_,_=> .bad
def cT:g_
 | .int i,.int j,st=>if j≠0/\j.natAbs.log2 < 9000 then .ok (.int (i.fdiv j)) st else .bad
 | _,_,_=> .bad
def oMod:g_
 | .int i,.int j,st=>if j≠0 then .ok (.int (i.fmod j)) st else .bad
 | _,_,_=> .bad
def pK:g_
 | .int i,.int j,st=>if 0<=j/\j<=1000000/\i.natAbs < 2 ^ 64 then .ok (.int (i ^ j.toNat)) st else .bad
 | _,_,_=> .bad
def PB:g_
 | .int i,.int j,st=> .ok (.bl (decide (i < j))) st
 | .str i,.str j,st=> .ok (.bl (decide (i.cps.toList < j.cps.toList))) st
 | _,_,_=> .bad
def PD:g_
 | .int i,.int j,st=> .ok (.bl (decide (i<=j))) st
 | _,_,_=> .bad
def Oy:g_
 | .int i,.int j,st=> .ok (.bl (decide (j < i))) st
 | _,_,_=> .bad
def TY:g_
 | .int i,.int j,st=> .ok (.bl (decide (j<=i))) st
 | _,_,_=> .bad
theorem bg{m:Mp}{H:Hp}{i:Int}{a:V}(h:ai X.K m H (.int i) a):a= .int i:=by unfold ai at h;exact h
theorem eM{m:Mp}{H:Hp}{x:PySem.Str}{a:V}(h:ai X.K m H (.str x) a):a= .str x/\aQ x=true:=by unfold ai at h;exact h
theorem mkInt{m:Mp}{H:Hp}{i:Int}:ai X.K m H (.int i) (.int i):=by unfold ai;rfl
theorem iJ{m:Mp}{H:Hp}{i:Bool}:ai X.K m H (.bl i) (.bl i):=by unfold ai;rfl
theorem C9{m:Mp}{H:Hp}:ai X.K m H .aL .aL:=by unfold ai;rfl
theorem mkStr{m:Mp}{H:Hp}{x:PySem.Str}(h:aQ x=true):ai X.K m H (.str x) (.str x):=by unfold ai;exact⟨rfl,h⟩
theorem Mi:jv X (aan .Sub) Mh:=⟨_,Lo,λx y a b st H m Q S rx ry p=>by
 cases x with
 | int i=>
  cases y with
  | int j=>exact⟨i,j,bg rx,bg ry,p _ m H Ext.refl S mkInt⟩
  | _=>exact aa p
 | _=>cases y<;>exact aa p⟩
theorem Hx:jv X (aan .FloorDiv) cT:=⟨_,C8,λx y a b st H m Q S rx ry p=>by
 cases x with
 | int i=>
  cases y with
  | int j=>
   dsimp only[cT] at p
   by_cases c:j≠0/\j.natAbs.log2 < 9000
   ·rw[if_pos c] at p;exact⟨i,j,bg rx,bg ry,c,p _ m H Ext.refl S mkInt⟩
   ·rw[if_neg c] at p;exact aa p
  | _=>exact aa p
 | _=>cases y<;>exact aa p⟩
theorem Mj:jv X (aan .Mod) oMod:=⟨_,Hv,λx y a b st H m Q S rx ry p=>by
 cases x with
 | int i=>
  cases y with
  | int j=>
   dsimp only[oMod] at p
   by_cases c:j≠0
   ·rw[if_pos c] at p;exact⟨i,j,bg rx,bg ry,c,p _ m H Ext.refl S mkInt⟩
   ·rw[if_neg c] at p;exact aa p
  | _=>exact aa p
 | _=>cases y<;>exact aa p⟩
theorem Mk:jv X (aan .Pow) pK:=⟨_,Lp,λx y a b st H m Q S rx ry p=>by
 cases x with
 | int i=>
  cases y with
  | int j=>
   dsimp only[pK] at p
   by_cases c:0<=j/\j<=1000000/\i.natAbs < 2 ^ 64
   ·rw[if_pos c] at p;exact⟨i,j,bg rx,bg ry,c,p _ m H Ext.refl S mkInt⟩
   ·rw[if_neg c] at p;exact aa p
  | _=>exact aa p
 | _=>cases y<;>exact aa p⟩
theorem PF:jv X (aar .Lt) PB:=⟨_,fu.or O7 An,λx y a b st H m Q S rx ry p=>by
 cases x with
 | int i=>
  cases y with
  | int j=>exact .inl ⟨i,j,bg rx,bg ry,p _ m H Ext.refl S iJ⟩
  | _=>exact aa p
 | str i=>
  cases y with
  | str j=>exact .inr ⟨i,j,(eM rx).1,(eM ry).1,p _ m H Ext.refl S iJ⟩
  | _=>exact aa p
 | _=>cases y<;>exact aa p⟩
theorem PH:jv X (aar .LtE) PD:=⟨_,O8,λx y a b st H m Q S rx ry p=>by
 cases x with
 | int i=>
  cases y with
  | int j=>exact⟨i,j,bg rx,bg ry,p _ m H Ext.refl S iJ⟩
  | _=>exact aa p
 | _=>cases y<;>exact aa p⟩
theorem PJ:jv X (aar .Gt) Oy:=⟨_,O9,λx y a b st H m Q S rx ry p=>by
 cases x with
 | int i=>
  cases y with
  | int j=>exact⟨i,j,bg rx,bg ry,p _ m H Ext.refl S iJ⟩
  | _=>exact aa p
 | _=>cases y<;>exact aa p⟩
theorem PK:jv X (aar .GtE) TY:=⟨_,O_,λx y a b st H m Q S rx ry p=>by
 cases x with
 | int i=>
  cases y with
  | int j=>exact⟨i,j,bg rx,bg ry,p _ m H Ext.refl S iJ⟩
  | _=>exact aa p
 | _=>cases y<;>exact aa p⟩
def RO:g_
 | x,.aL,st=> .ok (.bl (match x with | .aL=>true | _=>false)) st
 | _,_,_=> .bad
def C_:g_
 | x,.aL,st=> .ok (.bl (match x with | .aL=>false | _=>true)) st
 | _,_,_=> .bad
theorem JY{m:Mp}{H:Hp}{x:Wv}{a:V}(h:ai X.K m H x a):decide (a=V.aL)=(match x with | .aL=>true | _=>false):=by
 cases x with
 | aL=>unfold ai at h;subst h;rfl
 | bl b=>unfold ai at h;subst h;rfl
 | int b=>unfold ai at h;subst h;rfl
 | str b=>unfold ai at h;obtain⟨h,_⟩:=h;subst h;rfl
 | tup b=>unfold ai at h;obtain⟨q,xs,h,_⟩:=h;subst h;rfl
 | pD b=>unfold ai at h;obtain⟨q,xs,h,_⟩:=h;subst h;rfl
 | ref b=>unfold ai at h;obtain⟨q,h,_⟩:=h;subst h;rfl
 | ty b=>unfold ai at h;subst h;rfl
 | cls b=>unfold ai at h;obtain⟨q,h,_⟩:=h;subst h;rfl
 | kI b=>unfold ai at h;obtain⟨q,C,h,_⟩:=h;subst h;rfl
 | fn fp b=>unfold ai at h;obtain⟨h,_⟩:=h;subst h;rfl
theorem PL:jv X (aar .Is) RO:=⟨_,Lr,λx y a b st H m Q S rx ry p=>by
 cases y with
 | aL=>
  refine⟨by unfold ai at ry;exact ry,?_⟩
  rw[JY rx]
  cases x<;>exact p _ m H Ext.refl S iJ
 | _=>cases x<;>exact aa p⟩
theorem Dd:jv X (aar .IsNot) C_:=⟨_,GX,λx y a b st H m Q S rx ry p=>by
 cases y with
 | aL=>
  refine⟨by unfold ai at ry;exact ry,?_⟩
  rw[JY rx]
  cases x<;>exact p _ m H Ext.refl S iJ
 | _=>cases x<;>exact aa p⟩
theorem tJ{a b:PySem.Str}(ha:aQ a=true)(hb:aQ b=true):aQ (a++b)=true:=by
 unfold aQ at *
 show((a.cps++b.cps).all _)=true
 rw[Array.all_append,ha,hb]
 rfl
def PM(K:PySem.W.Frag):R2:=λx y H Q=>∃l b xs zs,x= .ref l/\y= .ref b/\jq K H l xs/\jq K H b zs/\xs.length+zs.length<=aav/\∀p,H p=none->Q (.ref p) (upd H p (.lst (xs++zs)))
theorem Hy:fu X (aan .Add) (PM X.K):=by
 intro pins s σ H x y v u Q I rx ry h
 obtain⟨l,b,xs,zs,rfl,rfl,hH,hB,hz,q⟩:=h
 cases rx
 cases ry
 obtain⟨its,r,pl,hs⟩:=I.list hH
 obtain⟨its2,r2,XC,hs2⟩:=I.list hB
 have hl:=r.length
 have hl2:=r2.length
 obtain⟨⟨cls,dd,data,sl⟩,ho,hc,n,hd⟩:=id pl.isList
 obtain⟨⟨TJ,dd2,data2,sl2⟩,ho2,hc2,n2,hd2⟩:=id XC.isList
 simp only at hc hd hc2 hd2
 subst hc hd hc2 hd2
 have e:its.toArray++its2.toArray=(its++its2).toArray:=by simp
 refine PySem.concat_meets ⟨_,ho,rfl⟩ ⟨_,ho2,rfl⟩ PySem.noFill_list_add PySem.seq_list_add PySem.F.slot_list_add PySem.F.entry_list_add (PySem.F.args_list_add_2 _ _) (list_addW l b its.toArray its2.toArray n n2 dd dd2 sl sl2 (by simp;omega)) ⟨ho,ho2,?_⟩
 rw[e]
 exact⟨.ref _,_,I.Hk (t':=s.toks) (r.append r2) (by rw[dH];omega),rfl,q _ I.fresh⟩
def PN(K:PySem.W.Frag):R2:=λx y H Q=>∃a b ys,x= .ref a/\y= .ref b/\fm K H a []/\fm K H b ys/\Q (.ref b) H
theorem Hz:fu X (aan .Add) (PN X.K):=by
 intro pins s σ H x y v u Q I rx ry h
 obtain⟨a,b,ys,rfl,rfl,ha,hb,q⟩:=h
 cases rx
 cases ry
 obtain⟨its,r1,p1,_⟩:=I.tuple ha
 obtain⟨its2,r2,p2,_⟩:=I.tuple hb
 cases r1
 obtain⟨⟨c1,d1,t1,l1⟩,g1,k1,n1,j1⟩:=id p1
 obtain⟨⟨c2,d2,t2,l2⟩,g2,k2,n2,j2⟩:=id p2
 simp only at k1 j1 k2 j2
 subst k1 j1 k2 j2
 exact PySem.concat_meets ⟨_,g1,rfl⟩ ⟨_,g2,rfl⟩ PySem.noFill_tuple_add PySem.seq_tuple_add PySem.F.slot_tuple_add PySem.F.entry_tuple_add (PySem.F.args_tuple_add_2 _ _) (tuple_addW0 a b #[] its2.toArray n1 n2 d1 d2 l1 l2 (by simp)) ⟨g1,g2,⟨.ref b,H,I,rfl,q⟩⟩
def dO:g_
 | .int i,.int j,st=> .ok (.int (i+j)) st
 | .str i,.str j,st=>if i.length+j.length<=lim then .ok (.str (i++j)) st else .bad
 | .tup i,.tup j,st=>if i.length+j.length<=lim then .ok (.tup (i++j)) st else .bad
 | .ref l,.ref k,st=>match aj st l,aj st k with
  | some i,some j=>if i.length+j.length<=lim then .ok (.ref st.length) (st++[.lst (i++j)]) else .bad
  | _,_=> .bad
 | _,_,_=> .bad
instance {α:Type}{xs:List α}:Decidable (xs≠[]):=match xs with
 | []=>isFalse (λh=>h rfl)
 | _::_=>isTrue (λh=>by cases h)
theorem Ml:jv X (aan .Add) dO:=⟨_,fu.or Ln (fu.or w5 (fu.or Hg (fu.or Hy Hz))),λx y a b st H m Q S rx ry p=>by
 cases x with
 | int i=>
  cases y with
  | int j=>exact .inl ⟨i,j,bg rx,bg ry,p _ m H Ext.refl S mkInt⟩
  | _=>exact aa p
 | str i=>
  cases y with
  | str j=>
   dsimp only[dO] at p
   by_cases c:i.length+j.length<=lim
   ·rw[if_pos c] at p
    exact .inr (.inl ⟨i,j,(eM rx).1,(eM ry).1,fA c,p _ m H Ext.refl S (mkStr (tJ (eM rx).2 (eM ry).2))⟩)
   ·rw[if_neg c] at p;exact aa p
  | _=>exact aa p
 | tup i=>
  cases y with
  | tup j=>
   dsimp only[dO] at p
   by_cases c:i.length+j.length<=lim
   ·rw[if_pos c] at p
    by_cases c0:i=[]
    ·subst c0
     unfold ai at rx ry
     obtain⟨a1,xs,rfl,h1,h2⟩:=rx
     obtain⟨a2,ys,rfl,h3,h4⟩:=ry
     have l1:xs=[]:=De h2.length.symm
     subst l1
     exact .inr (.inr (.inr (.inr ⟨a1,a2,ys,rfl,rfl,fm.of h1,fm.of h3,p (.ref a2) m H Ext.refl S (by rw[j3];unfold ai;exact⟨a2,ys,rfl,h3,h4⟩)⟩)))
    unfold ai at rx ry
    obtain⟨a1,xs,rfl,h1,h2⟩:=rx
    obtain⟨a2,ys,rfl,h3,h4⟩:=ry
    have l1:=h2.length
    have l2:=h4.length
    have n1:xs≠[]:=λz=>by rw[z] at l1;exact c0 (De l1)
    refine .inr (.inr (.inl ⟨a1,a2,xs,ys,rfl,rfl,fm.of h1,fm.of h3,n1,by rw[<-l1,<-l2];exact fA c,λz=>?_,λ_ q hq=>?_⟩))
    ·rw[z] at l2
     rw[De l2,ei] at p
     exact p (.ref a1) m H Ext.refl S (by unfold ai;exact⟨a1,xs,rfl,h1,h2⟩)
    have e2:Ext X.K m H m (upd H q (.tup (xs++ys))):=Ext.upd (.inl hq)
    exact p (.ref q) m _ e2 (S.fresh hq) (by unfold ai;exact⟨q,xs++ys,rfl,aI,ag.mono e2 _ _ (h2.append h4)⟩)
   ·rw[if_neg c] at p;exact aa p
  | _=>exact aa p
 | ref l=>
  cases y with
  | ref k=>
   dsimp only[dO] at p
   unfold ai at rx ry
   obtain⟨a1,rfl,h1⟩:=rx
   obtain⟨a2,rfl,h2⟩:=ry
   cases e1:aj st l with
   | none=>rw[e1] at p;exact aa p
   | some i=>
    cases e2:aj st k with
    | none=>rw[e1,e2] at p;exact aa p
    | some j=>
     rw[e1,e2] at p
     by_cases c:i.length+j.length<=lim
     ·simp only[if_pos c] at p
      obtain⟨xs,q1,q2⟩:=S.read h1 e1
      obtain⟨ys,q3,q4⟩:=S.read h2 e2
      exact .inr (.inr (.inr (.inl ⟨a1,a2,xs,ys,rfl,rfl,q1,q3,by rw[<-q2.length,<-q4.length];exact fA c,λq hq=>iI p Ext.refl S (q2.append q4) q hq⟩)))
     ·simp only[if_neg c] at p;exact aa p
  | _=>exact aa p
 | _=>cases y<;>exact aa p⟩
def qY(n:Nat)(x:PySem.Str):PySem.Str:=⟨(aJ n x.cps).foldl (· ++·) #[]⟩
end
open PySem PySem.Spec PySem.SeqAt PyProof.Rows L2
def c_{α β:Type}(f:α->Option β):List α->Option (List β)
 | []=>some []
 | w::ws=>match f w,c_ f ws with
  | some d,some ds=>some (d::ds)
  | _,_=>none
def aC(st:Hs):Nat->Wv->Option PyData
 | 0,w=>match w with
  | .aL=>some .none
  | .bl b=>some (.bool b)
  | .int i=>some (.int i)
  | .str x=>some (.str x)
  | _=>none
 | n+1,w=>match w with
  | .aL=>some .none
  | .bl b=>some (.bool b)
  | .int i=>some (.int i)
  | .str x=>some (.str x)
  | .tup ws=>(c_ (aC st n) ws).map .tuple
  | .pD ws=>(c_ (aC st n) ws).map .tuple
  | .ref l=>match aj st l with
   | some ws=>(c_ (aC st n) ws).map .list
   | none=>none
  | .ty _=>none
  | .cls _=>none
  | .kI _=>none
  | .fn _ _=>none
section
variable {X:Cx} {pins:List (aae×Obj)} {σ:St} {H:Hp} {s:aaj} {m:Mp} {st:Hs}
def JZ(h:Heap)(n:Nat)(u:aak)(d:PyData):Prop:=∃as,Reads h u d as/\d.canLay0=true/\d.depth<=n
theorem j5{n:Nat}(ih:∀(w:Wv)(a:V)(u:aak)(d:PyData),ai X.K m H w a->RelV a u->aC st n w=some d->JZ s.heap n u d) :
  ∀(ws:List Wv)(xs:List V)(us:List aak)(ds:List PyData),ag X.K m H ws xs->Vals xs us->c_ (aC st n) ws=some ds->∃as,ReadsAll s.heap us ds as/\yP ds=true/\lY ds<=n
 | [],xs,us,ds,h,r,e=>by
  unfold ag at h
  subst h
  cases r
  cases e
  exact⟨[],.nil,rfl,bY _⟩
 | w::ws,xs,us,ds,h,r,e=>by
  unfold ag at h
  obtain⟨x,xr,rfl,h1,h2⟩:=h
  cases r with
  | cons r1 r2=>
   unfold c_ at e
   cases e1:aC st n w with
   | none=>rw[e1] at e;cases e
   | some d=>
    cases e2:c_ (aC st n) ws with
    | none=>rw[e1,e2] at e;cases e
    | some dr=>
     rw[e1,e2] at e
     cases e
     obtain⟨as,q1,q2,q3⟩:=ih w x _ d h1 r1 e1
     obtain⟨bs,p1,p2,p3⟩:=j5 ih ws xr _ dr h2 r2 e2
     refine⟨as++bs,.cons q1 p1,?_,?_⟩
     ·show(PyData.canLay0 d&&yP dr)=true
      rw[q2,p2];rfl
     ·show max d.depth (lY dr)<=n
      omega
theorem fT(I:Inv X pins σ H s)(S:bo X.K m st H):∀(n:Nat)(w:Wv)(a:V)(u:aak)(d:PyData),ai X.K m H w a->RelV a u->aC st n w=some d->JZ s.heap n u d:=by
 intro n
 induction n with
 | zero=>
  intro w a u d h r e
  cases w with
  | aL=>unfold ai at h;subst h;cases r;cases e;exact⟨[],.none,rfl,ak _⟩
  | bl b=>unfold ai at h;subst h;cases r;cases e;exact⟨[],.bool b,rfl,ak _⟩
  | int i=>unfold ai at h;subst h;obtain⟨t,rfl⟩:=r;cases e;exact⟨[],.int i t,rfl,ak _⟩
  | str x=>unfold ai at h;obtain⟨rfl,hx⟩:=h;obtain⟨t,rfl⟩:=r;cases e;exact⟨[],.str x t,hx,ak _⟩
  | tup ws=>cases e
  | pD ws=>cases e
  | ref l=>cases e
  | ty t=>cases e
  | cls t=>cases e
  | kI t=>cases e
  | fn fp t=>cases e
 | succ n ih=>
  intro w a u d h r e
  cases w with
  | aL=>unfold ai at h;subst h;cases r;cases e;exact⟨[],.none,rfl,bY _⟩
  | bl b=>unfold ai at h;subst h;cases r;cases e;exact⟨[],.bool b,rfl,bY _⟩
  | int i=>unfold ai at h;subst h;obtain⟨t,rfl⟩:=r;cases e;exact⟨[],.int i t,rfl,bY _⟩
  | str x=>unfold ai at h;obtain⟨rfl,hx⟩:=h;obtain⟨t,rfl⟩:=r;cases e;exact⟨[],.str x t,hx,bY _⟩
  | ty t=>cases e
  | cls t=>cases e
  | kI t=>cases e
  | fn fp t=>cases e
  | tup ws=>
   unfold ai at h
   obtain⟨p,xs,rfl,h1,h2⟩:=h
   cases r
   have e':(c_ (aC st n) ws).map j6=some d:=e
   cases e2:c_ (aC st n) ws with
   | none=>rw[e2] at e';cases e'
   | some ds=>
    rw[e2] at e'
    cases e'
    obtain⟨its,rv,ht,hz⟩:=I.tuple (fm.of h1)
    obtain⟨as,q1,q2,q3⟩:=j5 ih ws xs its ds h2 rv e2
    obtain⟨o,ho,hc,k,hd⟩:=ht
    exact⟨as,.tuple ho hc hd (by simpa using q1),q2,oB q3⟩
  | pD ws=>
   unfold ai at h
   obtain⟨p,xs,rfl,h1,h2⟩:=h
   cases r
   have e':(c_ (aC st n) ws).map j6=some d:=e
   cases e2:c_ (aC st n) ws with
   | none=>rw[e2] at e';cases e'
   | some ds=>
    rw[e2] at e'
    cases e'
    obtain⟨its,rv,ht,hz⟩:=I.tuple (.inr h1)
    obtain⟨as,q1,q2,q3⟩:=j5 ih ws xs its ds h2 rv e2
    obtain⟨o,ho,hc,k,hd⟩:=ht
    exact⟨as,.tuple ho hc hd (by simpa using q1),q2,oB q3⟩
  | ref l=>
   unfold ai at h
   obtain⟨p,rfl,h1⟩:=h
   cases r
   have e':(match aj st l with | some ws=>(c_ (aC st n) ws).map tL | none=>none)=some d:=e
   cases e1:aj st l with
   | none=>rw[e1] at e';cases e'
   | some ws=>
    rw[e1] at e'
    have e'':(c_ (aC st n) ws).map tL=some d:=e'
    cases e2:c_ (aC st n) ws with
    | none=>rw[e2] at e'';cases e''
    | some ds=>
     rw[e2] at e''
     cases e''
     obtain⟨xs,hq,h2⟩:=S.read h1 e1
     obtain⟨its,rv,ht,hz⟩:=I.list hq
     obtain⟨as,q1,q2,q3⟩:=j5 ih ws xs its ds h2 rv e2
     obtain⟨o,ho,hc,k,hd⟩:=ht.isList
     exact⟨_,.list ho hc hd (by simpa using q1),q2,oB q3⟩
end
def oEq:g_:=λx y st=>match aC st 20 x,aC st 20 y with
 | some a,some b=> .ok (.bl (aV a b)) st
 | _,_=> .bad
def uE:g_:=λx y st=>match aC st 20 x,aC st 20 y with
 | some a,some b=> .ok (.bl (!PyData.eqv a b)) st
 | _,_=> .bad
section
variable {X:Cx}
def PQ(K:PySem.W.Frag)(neg:Bool):R2:=λa b H Q=>∃m st x y da db,bo K m st H/\ai K m H x a/\ai K m H y b/\aC st 20 x=some da/\aC st 20 y=some db/\Q (.bl (if neg then !PyData.eqv da db else aV da db)) H
theorem j7{n:Nat}{d:PyData}(hn:n<=64)(h:d.canLay0=true)(k:d.depth<=n):shaped d=true:=by
 unfold shaped
 rw[h,decide_eq_true (bb k hn)]
 rfl
theorem Mm(hu:X.A.units+64 < cLine):fu X (aar .Eq) (PQ X.K false):=by
 intro pins s σ H a b v u Q I rx ry h
 obtain⟨m,st,x,y,da,db,S,h1,h2,e1,e2,q⟩:=h
 obtain⟨as,q1,q2,q3⟩:=fT I S 20 x a v da h1 rx e1
 obtain⟨bs,p1,p2,p3⟩:=fT I S 20 y b u db h2 ry e2
 exact eq_dataH q1 p1 (j7 (by decide) q2 q3) (j7 (by decide) p2 p3) hu ⟨.bl _,H,I,rfl,q⟩
theorem Mn(hu:X.A.units+64 < cLine):fu X (aar .NotEq) (PQ X.K true):=by
 intro pins s σ H a b v u Q I rx ry h
 obtain⟨m,st,x,y,da,db,S,h1,h2,e1,e2,q⟩:=h
 obtain⟨as,q1,q2,q3⟩:=fT I S 20 x a v da h1 rx e1
 obtain⟨bs,p1,p2,p3⟩:=fT I S 20 y b u db h2 ry e2
 exact ne_dataH q1 p1 (j7 (by decide) q2 q3) (j7 (by decide) p2 p3) hu ⟨.bl _,H,I,rfl,q⟩
theorem PR(hu:X.A.units+64 < cLine):jv X (aar .Eq) oEq:=⟨_,Mm hu,λx y a b st H m Q S rx ry p=>by
 unfold oEq at p
 cases e1:aC st 20 x with
 | none=>rw[e1] at p;exact aa p
 | some da=>
  cases e2:aC st 20 y with
  | none=>rw[e1,e2] at p;exact aa p
  | some db=>
   rw[e1,e2] at p
   exact⟨m,st,x,y,da,db,S,rx,ry,e1,e2,p _ m H Ext.refl S iJ⟩⟩
theorem PU(hu:X.A.units+64 < cLine):jv X (aar .NotEq) uE:=⟨_,Mn hu,λx y a b st H m Q S rx ry p=>by
 unfold uE at p
 cases e1:aC st 20 x with
 | none=>rw[e1] at p;exact aa p
 | some da=>
  cases e2:aC st 20 y with
  | none=>rw[e1,e2] at p;exact aa p
  | some db=>
   rw[e1,e2] at p
   exact⟨m,st,x,y,da,db,S,rx,ry,e1,e2,p _ m H Ext.refl S iJ⟩⟩
def bO:Wv->Bool
 | .aL=>true
 | .bl _=>true
 | .int _=>true
 | .str _=>true
 | _=>false
def wO:Wv->Wv->Bool
 | .aL,.aL=>true
 | .bl a,.bl b=>a == b
 | .bl a,.int b=>(if a then 1 else 0) == b
 | .int a,.bl b=>a == (if b then 1 else 0)
 | .int a,.int b=>a == b
 | .str a,.str b=>a == b
 | _,_=>false
def jD(st:Hs):Wv->Option (List Wv)
 | .tup ws=>some ws
 | .pD ws=>some ws
 | .ref l=>aj st l
 | _=>none
def TZ:g_:=λx y st=>match jD st y with
 | some ws=>if bO x=true/\ws.all bO=true then .ok (.bl (ws.any λz=>wO z x)) st else .bad
 | none=> .bad
def xl:g_:=λx y st=>match jD st y with
 | some ws=>if bO x=true/\ws.all bO=true then .ok (.bl (!(ws.any λz=>wO z x))) st else .bad
 | none=> .bad
theorem gN{m:Mp}{H:Hp}{x:Wv}{a:V}(h:ai X.K m H x a)(f:bO x=true):ff a=true:=by
 cases x with
 | aL=>unfold ai at h;subst h;rfl
 | bl b=>unfold ai at h;subst h;rfl
 | int b=>unfold ai at h;subst h;rfl
 | str b=>unfold ai at h;obtain⟨h,_⟩:=h;subst h;rfl
 | _=>cases f
theorem tM{m:Mp}{H:Hp}{x y:Wv}{a b:V}(h:ai X.K m H x a)(k:ai X.K m H y b)(f:bO x=true)(g:bO y=true):uO a b=wO x y:=by
 cases x with
 | aL=>
  unfold ai at h;subst h
  cases y with
  | str j=>unfold ai at k;obtain⟨k,_⟩:=k;subst k;rfl
  | tup j=>cases g
  | pD j=>cases g
  | ref j=>cases g
  | ty j=>cases g
  | cls j=>cases g
  | kI j=>cases g
  | fn fp j=>cases g
  | _=>unfold ai at k;subst k;rfl
 | bl i=>
  unfold ai at h;subst h
  cases y with
  | str j=>unfold ai at k;obtain⟨k,_⟩:=k;subst k;rfl
  | tup j=>cases g
  | pD j=>cases g
  | ref j=>cases g
  | ty j=>cases g
  | cls j=>cases g
  | kI j=>cases g
  | fn fp j=>cases g
  | _=>unfold ai at k;subst k;rfl
 | int i=>
  unfold ai at h;subst h
  cases y with
  | str j=>unfold ai at k;obtain⟨k,_⟩:=k;subst k;rfl
  | tup j=>cases g
  | pD j=>cases g
  | ref j=>cases g
  | ty j=>cases g
  | cls j=>cases g
  | kI j=>cases g
  | fn fp j=>cases g
  | _=>unfold ai at k;subst k;rfl
 | str i=>
  unfold ai at h;obtain⟨h,_⟩:=h;subst h
  cases y with
  | str j=>unfold ai at k;obtain⟨k,_⟩:=k;subst k;rfl
  | tup j=>cases g
  | pD j=>cases g
  | ref j=>cases g
  | ty j=>cases g
  | cls j=>cases g
  | kI j=>cases g
  | fn fp j=>cases g
  | _=>unfold ai at k;subst k;rfl
 | _=>cases f
theorem mV{m:Mp}{H:Hp}{x:Wv}{a:V}(h:ai X.K m H x a)(f:bO x=true):∀{ws:List Wv}{xs:List V},ag X.K m H ws xs->ws.all bO=true->xs.all ff=true/\RI a xs=ws.any λz=>wO z x
 | [],xs,r,_=>by unfold ag at r;subst r;exact⟨rfl,rfl⟩
 | w::ws,xs,r,g=>by
  unfold ag at r
  obtain⟨y,yr,rfl,r1,r2⟩:=r
  rw[eL,dC] at g
  obtain⟨q1,q2⟩:=mV h f r2 g.2
  constructor
  ·rw[eL,gN r1 g.1,q1];rfl
  ·unfold RI at q2 ⊢
   rw[fz,fz,tM r1 h g.1 f,q2]
theorem oE{m:Mp}{H:Hp}{st:Hs}{y:Wv}{b:V}{ws:List Wv}(S:bo X.K m st H)(h:ai X.K m H y b)(e:jD st y=some ws):∃p xs,b= .ref p/\(jq X.K H p xs\/fm X.K H p xs)/\ag X.K m H ws xs:=by
 cases y with
 | tup zs=>
  cases e
  unfold ai at h
  obtain⟨p,xs,e1,e2,e3⟩:=h
  exact⟨p,xs,e1,.inr (fm.of e2),e3⟩
 | pD zs=>
  cases e
  unfold ai at h
  obtain⟨p,xs,e1,e2,e3⟩:=h
  exact⟨p,xs,e1,.inr (.inr e2),e3⟩
 | ref l=>
  unfold ai at h
  obtain⟨p,e1,e2⟩:=h
  obtain⟨xs,q1,q2⟩:=S.read e2 e
  exact⟨p,xs,e1,.inl q1,q2⟩
 | _=>cases e
theorem PV:jv X (aar .In) TZ:=⟨_,Av,λx y a b st H m Q S rx ry p=>by
 unfold TZ at p
 cases e:jD st y with
 | none=>rw[e] at p;exact aa p
 | some ws=>
  rw[e] at p
  by_cases c:bO x=true/\ws.all bO=true
  ·simp only[if_pos c] at p
   obtain⟨q,xs,e1,e2,e3⟩:=oE S ry e
   obtain⟨f1,f2⟩:=mV rx c.1 e3 c.2
   refine⟨q,xs,e1,e2,gN rx c.1,f1,?_⟩
   rw[f2]
   exact p _ m H Ext.refl S iJ
  ·simp only[if_neg c] at p;exact aa p⟩
theorem Df:jv X (aar .NotIn) xl:=⟨_,sW,λx y a b st H m Q S rx ry p=>by
 unfold xl at p
 cases e:jD st y with
 | none=>rw[e] at p;exact aa p
 | some ws=>
  rw[e] at p
  by_cases c:bO x=true/\ws.all bO=true
  ·simp only[if_pos c] at p
   obtain⟨q,xs,e1,e2,e3⟩:=oE S ry e
   obtain⟨f1,f2⟩:=mV rx c.1 e3 c.2
   refine⟨q,xs,e1,e2,gN rx c.1,f1,?_⟩
   rw[f2]
   exact p _ m H Ext.refl S iJ
  ·simp only[if_neg c] at p;exact aa p⟩
def fh:g_
 | .str z,.int i,st=>if z.length<=lim then(match pf z.cps.toList i with | some c=> .ok (.str ⟨#[c]⟩) st | none=> .bad) else .bad
 | x,.int i,st=>match jD st x with
  | some ws=>(match pf ws i with | some w=> .ok w st | none=> .bad)
  | none=> .bad
 | _,_,_=> .bad
theorem HB{m:Mp}{H:Hp}{ws:List Wv}{xs:List V}{i:Int}{w:Wv}(r:ag X.K m H ws xs)(h:pf ws i=some w):∃x,pf xs i=some x/\ai X.K m H w x:=by
 unfold pf at h ⊢
 rw[<-r.length]
 cases e:Au ws.length i with
 | none=>rw[e] at h;cases h
 | some j=>rw[e] at h;exact r.get h
theorem HC{α:Type}{xs:List α}{i:Int}{v:α}(h:pf xs i=some v):v∈xs:=by
 obtain⟨j,_,h2,_⟩:=oz h
 exact sS h2
theorem AH{z:PySem.Str}{c:Nat}(h:aQ z=true)(hc:c∈z.cps.toList):aQ ⟨#[c]⟩=true:=by
 unfold aQ at h ⊢
 rw[PX] at h
 have q:=h c (by simpa using hc)
 simpa using q
theorem PY{a b:Expr}{ga gb:GE}{pos:Pos}(ha:JE X a ga)(hb:JE X b gb)(hs:yF b:=by exact λ_ _=>rfl):JE X (.Subscript a b pos) (aq fh ga gb) :=
 JE.of (Pf LH aG aG hs) λρ st σ H m Q S R p=>yN (op:=fh) (λx y a b st H m Q S rx ry p=>by
  have seqs:∀(i:Int),y= .int i->(match jD st x with | some ws=>(match pf ws i with | some w=>Re.ok w st | none=> .bad) | none=> .bad)=fh x y st->Wh X.K a b H Q:=λi hy hp=>by
   subst hy
   rw[<-hp] at p
   cases e:jD st x with
   | none=>rw[e] at p;exact aa p
   | some ws=>
    rw[e] at p
    dsimp only at p
    cases e1:pf ws i with
    | none=>rw[e1] at p;exact aa p
    | some w=>
     rw[e1] at p
     obtain⟨q,xs,e2,e3,e4⟩:=oE S rx e
     obtain⟨v,f1,f2⟩:=HB e4 e1
     rcases e3 with e3 | e3
     ·exact .inl ⟨q,xs,i,v,e2,bg ry,e3,f1,p v m H Ext.refl S f2⟩
     ·exact .inr (.inl ⟨q,xs,i,v,e2,bg ry,e3,f1,p v m H Ext.refl S f2⟩)
  cases y with
  | int i=>
   cases x with
   | str z=>
    dsimp only[fh] at p
    by_cases c:z.length<=lim
    ·simp only[if_pos c] at p
     cases e1:pf z.cps.toList i with
     | none=>rw[e1] at p;exact aa p
     | some ch=>
      rw[e1] at p
      exact .inr (.inr ⟨z,i,ch,(eM rx).1,bg ry,fA c,e1,p _ m H Ext.refl S (mkStr (AH (eM rx).2 (HC e1)))⟩)
    ·simp only[if_neg c] at p;exact aa p
   | _=>exact seqs i rfl rfl
  | _=>cases x<;>exact aa p) ha hb S R p
abbrev GO:=bA->Hs->Re (Option Int)
def SO(X:Cx)(e:Option Expr):TO:=λσ H Q=>∀(pins:List (aae×Obj))(s:aaj),Inv X pins σ H s->aax (model X.prog X.w) X.A (evalPart e X.env) (λu s'=>∃o H',Inv X pins σ H' s'/\IsPart u o/\Q o H') X.xe s
theorem rJ{e:Option Expr}:PO X e (SO X e):=λpins s _ _ _ I h=>h pins s I
def XD(K:PySem.W.Frag)(m:Mp)(H:Hp)(Q:Option Int->Hp->Prop)(o:Option Int)(st:Hs):Prop:=∀(m':Mp)(H':Hp),Ext K m H m' H'->bo K m' st H'->Q o H'
def JO(X:Cx)(e:Option Expr)(g:GO):Prop:=∀(ρ:bA)(st:Hs)(σ:St)(H:Hp)(m:Mp)(Q:Option Int->Hp->Prop),bo X.K m st H->av X.K m H ρ σ->ar X σ m H (g ρ st) (XD X.K m H Q)->SO X e σ H Q
def hX:GO:=λ_ st=> .ok none st
def f'(g:GE):GO:=λρ st=>(g ρ st).bind λw st1=>match w with
 | .int i=> .ok (some i) st1
 | _=> .bad
theorem HD:JO X none hX:=λρ st σ H m Q S R p pins s I=>Hd pins s σ H Q I (p m H Ext.refl S)
theorem HE{e:Expr}{g:GE}(h:JE X e g):JO X (some e) (f' g):=λρ st σ H m Q S R p pins s I=>
 Hf aG pins s σ H Q I (h.go S R (ar.bind p) λw st1 v m1 H1 p1 e1 S1 r1=>by
  cases w with
  | int i=>exact⟨i,bg r1,p1 m1 H1 e1 S1⟩
  | _=>exact aa p1)
theorem JO.go{e:Option Expr}{g:GO}{ρ:bA}{st:Hs}{σ:St}{H:Hp}{m:Mp}{T:Option Int->Hp->Prop}{ok:Option Int->Hs->Prop}(h:JO X e g)(S:bo X.K m st H)(R:av X.K m H ρ σ)(p:ar X σ m H (g ρ st) ok)
  (k:∀(b:Option Int)(st1:Hs)(m1:Mp)(H1:Hp),ok b st1->Ext X.K m H m1 H1->bo X.K m1 st1 H1->T b H1):SO X e σ H T :=
 h ρ st σ H m T S R (p.imp Ext.refl λb st1 q m1 H1 e1 s1=>k b st1 m1 H1 q e1 s1)
def lZ(xs:List Wv)(lo hi:Option Int):List Wv:=(xs.drop (HT.c7 xs.length 0 lo)).take (HT.c7 xs.length xs.length hi - HT.c7 xs.length 0 lo)
def PZ(x:Wv)(lo hi:Option Int)(st:Hs):Re Wv:=match x with
 | .tup ws=>if HT.c7 ws.length 0 lo=0/\HT.c7 ws.length ws.length hi=ws.length then .bad else .ok (.tup (lZ ws lo hi)) st
 | .ref l=>match aj st l with
  | some ws=> .ok (.ref st.length) (st++[.lst (lZ ws lo hi)])
  | none=> .bad
 | _=> .bad
theorem tN{m:Mp}{H:Hp}{ws:List Wv}{xs:List V}{lo hi:Option Int}(r:ag X.K m H ws xs):ag X.K m H (lZ ws lo hi) (qS xs lo hi):=by
 unfold lZ qS
 rw[<-r.length]
 exact(r.drop _).take _
def xm(ga:GE)(gl gh:GO):GE:=λρ st=>(ga ρ st).bind λx st1=>(gl ρ st1).bind λlo st2=>(gh ρ st2).bind λhi st3=>PZ x lo hi st3
theorem uW{a:Expr}{lo hi:Option Expr}{ga:GE}{gl gh:GO}{pos p2:Pos}(ha:JE X a ga)(hl:JO X lo gl)(hh:JO X hi gh):JE X (.Subscript a (.Slice lo hi none p2) pos) (xm ga gl gh):=by
 refine JE.of (pe (Cy.or Hj) aG rJ rJ) λρ st σ H m Q S R p=>?_
 refine ha.go S R (ar.bind p) λx st1 v m1 H1 p1 e1 S1 rx=>?_
 refine hl.go S1 (R.mono e1) ((ar.bind p1).imp e1 λ_ _ q=>q) λl st2 m2 H2 p2 e2 S2=>?_
 refine hh.go S2 (R.mono (e1.trans e2)) ((ar.bind p2).imp (e1.trans e2) λ_ _ q=>q) λh st3 m3 H3 p3 e3 S3=>?_
 have AI:=e1.trans (e2.trans e3)
 have RP:=ai.mono (e2.trans e3) _ _ rx
 cases x with
 | tup ws=>
  have mW:dD X σ m H (if HT.c7 ws.length 0 l=0/\HT.c7 ws.length ws.length h=ws.length then .bad else .ok (.tup (lZ ws l h)) st3) Q:=p3
  by_cases c:HT.c7 ws.length 0 l=0/\HT.c7 ws.length ws.length h=ws.length
  ·rw[if_pos c] at mW;exact aa mW
  ·rw[if_neg c] at mW
   unfold ai at RP
   obtain⟨q,xs,rfl,f1,f2⟩:=RP
   refine .inl ⟨q,xs,rfl,fm.of f1,by rw[<-f2.length];exact c,λr hr=>?_⟩
   have e4:Ext X.K m3 H3 m3 (upd H3 r (.tup (qS xs l h))):=Ext.upd (.inl hr)
   exact mW (.ref r) m3 _ (AI.trans e4) (S3.fresh hr) (by unfold ai;exact⟨r,_,rfl,aI,ag.mono e4 _ _ (tN f2)⟩)
 | ref k=>
  have mW:dD X σ m H (match aj st3 k with | some ws=> .ok (.ref st3.length) (st3++[.lst (lZ ws l h)]) | none=> .bad) Q:=p3
  unfold ai at RP
  obtain⟨q,rfl,f1⟩:=RP
  cases e:aj st3 k with
  | none=>rw[e] at mW;exact aa mW
  | some ws=>
   rw[e] at mW
   obtain⟨xs,g1,g2⟩:=S3.read f1 e
   exact .inr ⟨q,xs,rfl,g1,λr hr=>iI mW AI S3 (tN g2) r hr⟩
 | _=>exact aa p3
end
section
variable {X:Cx}
def cU(X:Cx)(f:aak)(op:List Wv->Hs->Re Wv):Prop:=∃r,dM X f r/\∀(ws:List Wv)(vs:List V)(st:Hs)(H:Hp)(m:Mp)(Q:VK),bo X.K m st H->ag X.K m H ws vs->dE X.K m H (op ws st) Q->r vs H Q
def au(op:List Wv->Hs->Re Wv)(g:GA):GE:=λρ st=>(g ρ st).bind λws st1=>(op ws st1).ju
theorem Dg{x:Str}{id:String}{p pos:Pos}{e:Expr}{es:List Expr}{g:GA}{op:List Wv->Hs->Re Wv}(hc:cU X (.builtin id) op)(hg:Gl X x)(hm:X.mg x=none)(hv:aao x=some (.builtin id))(ha:JA X (e::es) g)
  (hn:x≠"__name__":=by decide)(hdb:(x == ("__debug__":Str))=false:=by decide)(he:aaw (e::es) X.env=(false,eval e X.env)::aaw es X.env:=by rfl)(hpl:(backTo pos (aaw es X.env)).any (·.1)=false:=by rfl) :
  JE X (.Call (.Name x p) (e::es) [] pos) (au op g):=by
 obtain⟨r,h1,h2⟩:=hc
 refine JE.of (Cu h1 hg hm hv jk hn hdb he hpl) λρ st σ H m Q S R p=>?_
 exact ha.go S R (ar.bind p) λws st1 vs m1 H1 p1 e1 S1 rs=>h2 ws vs st1 H1 m1 Q S1 rs (dE.shift (ar.ju p1) e1)
theorem AJ{x:Str}{T:String}{p pos:Pos}{e:Expr}{es:List Expr}{g:GA}{op:List Wv->Hs->Re Wv}(hc:cU X (.type T) op)(hg:Gl X x)(hm:X.mg x=none)(hv:aao x=some (.type T))(ha:JA X (e::es) g)
  (hn:x≠"__name__":=by decide)(hdb:(x == ("__debug__":Str))=false:=by decide)(he:aaw (e::es) X.env=(false,eval e X.env)::aaw es X.env:=by rfl)(hpl:(backTo pos (aaw es X.env)).any (·.1)=false:=by rfl) :
  JE X (.Call (.Name x p) (e::es) [] pos) (au op g):=by
 obtain⟨r,h1,h2⟩:=hc
 refine JE.of (As h1 hg hm hv jk hn hdb he hpl) λρ st σ H m Q S R p=>?_
 exact ha.go S R (ar.bind p) λws st1 vs m1 H1 p1 e1 S1 rs=>h2 ws vs st1 H1 m1 Q S1 rs (dE.shift (ar.ju p1) e1)
theorem kJ{m:Mp}{H:Hp}{w:Wv}{vs:List V}(r:ag X.K m H [w] vs):∃v,vs=[v]/\ai X.K m H w v:=by
 unfold ag at r
 obtain⟨v,t,rfl,h1,h2⟩:=r
 unfold ag at h2
 subst h2
 exact⟨v,rfl,h1⟩
theorem AK{m:Mp}{H:Hp}{w w':Wv}{vs:List V}(r:ag X.K m H [w,w'] vs):∃v v',vs=[v,v']/\ai X.K m H w v/\ai X.K m H w' v':=by
 unfold ag at r
 obtain⟨v,t,rfl,h1,h2⟩:=r
 obtain⟨v',rfl,h3⟩:=kJ h2
 exact⟨v,v',rfl,h1,h3⟩
def cP:List Wv->Hs->Re Wv
 | [.str z],st=>if z.length<=lim then .ok (.int z.length) st else .bad
 | [x],st=>match jD st x with
  | some ws=> .ok (.int ws.length) st
  | none=> .bad
 | _,_=> .bad
theorem Mo:cU X (.builtin "len") cP:=⟨_,sY.or sZ,λws vs st H m Q S r p=>by
 match ws,r,p with
 | [],r,p=>exact aa p
 | x::y::t,r,p=>cases x<;>exact aa p
 | [x],r,p=>
  obtain⟨v,rfl,rx⟩:=kJ r
  have seqs:(match jD st x with | some ws=>Re.ok (Wv.int ws.length) st | none=> .bad)=cP [x] st->(∃p ys,[v]=[V.ref p]/\(jq X.K H p ys\/fm X.K H p ys)/\Q (.int ys.length) H):=λhp=>by
   rw[<-hp] at p
   cases e:jD st x with
   | none=>rw[e] at p;exact aa p
   | some ws=>
    rw[e] at p
    obtain⟨q,xs,rfl,e2,e3⟩:=oE S rx e
    refine⟨q,xs,rfl,e2,?_⟩
    rw[<-e3.length]
    exact p _ m H Ext.refl S mkInt
  cases x with
  | str z=>
   have p':dE X.K m H (if z.length<=lim then .ok (.int z.length) st else .bad) Q:=p
   by_cases c:z.length<=lim
   ·rw[if_pos c] at p'
    obtain⟨rfl,_⟩:=eM rx
    exact .inr ⟨z,rfl,fA c,p' _ m H Ext.refl S mkInt⟩
   ·rw[if_neg c] at p';exact aa p'
  | _=>exact .inl (seqs rfl)⟩
def HF:List Wv->Hs->Re Wv
 | [.int i],st=> .ok (.int (if i < 0 then -i else i)) st
 | _,_=> .bad
theorem Mq:cU X (.builtin "abs") HF:=⟨_,Cs,λws vs st H m Q S r p=>by
 match ws,r,p with
 | [],r,p=>exact aa p
 | x::y::t,r,p=>cases x<;>exact aa p
 | [x],r,p=>
  obtain⟨v,rfl,rx⟩:=kJ r
  cases x with
  | int i=>cases bg rx;exact⟨i,rfl,p _ m H Ext.refl S mkInt⟩
  | _=>exact aa p⟩
def Oz(st:Hs)(T:String):Wv->Option Bool
 | .aL=>some false
 | .bl _=>some (T == "bool"||T == "int")
 | .int _=>some (T == "int")
 | .str _=>some (T == "str")
 | .tup _=>some (T == "tuple")
 | .pD _=>none
 | .ref l=>(aj st l).map λ_=>T == "list"
 | .ty _=>none
 | .cls _=>none
 | .kI _=>none
 | .fn _ _=>none
def xn(T:String):Bool:=T == "int"||T == "str"||T == "bool"||T == "tuple"||T == "list"
def Mr:List Wv->Hs->Re Wv
 | [x,.ty T],st=>if xn T=true then(match Oz st T x with | some b=> .ok (.bl b) st | none=> .bad) else .bad
 | _,_=> .bad
def T1(K:PySem.W.Frag):List V->Hp->VK->Prop:=λvs H Q=>∃m st x T v b,vs=[v,.ty T]/\bo K m st H/\ai K m H x v/\xn T=true/\Oz st T x=some b/\Q (.bl b) H
theorem Dh:dM X (.builtin "isinstance") (T1 X.K):=by
 intro pins s σ H xs us Q I r h
 obtain⟨m,st,x,T,v,b,rfl,S,rx,hT,hb,q⟩:=h
 obtain⟨u,u',rfl,r1,r2⟩:=vals2 r
 cases r2
 have fin:∀tk,EP X pins σ Q (.bool b) { s with toks:=tk }:=λtk=>⟨.bl b,H,I.tok tk,rfl,q⟩
 have Di:EP X pins σ Q (.bool b) s:=⟨.bl b,H,I,rfl,q⟩
 unfold xn at hT
 simp only[Bool.or_eq_true,beq_iff_eq] at hT
 cases x with
 | aL=>
  unfold ai at rx;subst rx;cases r1
  cases hb
  rcases hT with (((rfl | rfl) | rfl) | rfl) | rfl<;>
   exact call_isinstance (isinstance_false_none (by decide) (by kernel_rfl) (by rw[aat];kernel_rfl)) (fin _)
 | bl c=>
  unfold ai at rx;subst rx;cases r1
  rcases hT with (((rfl | rfl) | rfl) | rfl) | rfl<;>cases hb<;>first
   | exact call_isinstance_yes (Tx:="bool") rfl (by kernel_rfl) (by rw[aat];kernel_rfl) Di
   | exact call_isinstance (isinstance_false_bool (by decide) (by kernel_rfl) (by rw[aat];kernel_rfl)) (fin _)
 | int c=>
  unfold ai at rx;subst rx;obtain⟨t,rfl⟩:=r1
  rcases hT with (((rfl | rfl) | rfl) | rfl) | rfl<;>cases hb<;>first
   | exact call_isinstance_yes (Tx:="int") (typeIs_int s c t) (by kernel_rfl) (by rw[aat];kernel_rfl) Di
   | exact call_isinstance (isinstance_false_int (by decide) (by kernel_rfl) (by rw[aat];kernel_rfl)) (fin _)
 | str c=>
  obtain⟨rfl,_⟩:=eM rx;obtain⟨t,rfl⟩:=r1
  rcases hT with (((rfl | rfl) | rfl) | rfl) | rfl<;>cases hb<;>first
   | exact call_isinstance_yes (Tx:="str") (typeIs_str s c t) (by kernel_rfl) (by rw[aat];kernel_rfl) Di
   | exact call_isinstance (isinstance_false_str (by decide) (by kernel_rfl) (by rw[aat];kernel_rfl)) (fin _)
 | pD ws=>cases hb
 | tup ws=>
  unfold ai at rx;obtain⟨a,xs,rfl,h1,h2⟩:=rx;cases r1
  obtain⟨its,rv,ht,hz⟩:=I.tuple (fm.of h1)
  have hty:=ht.typeIs
  obtain⟨o,ho,hc,k,hd⟩:=ht
  rcases hT with (((rfl | rfl) | rfl) | rfl) | rfl<;>cases hb<;>first
   | exact call_isinstance_yes (Tx:="tuple") hty (by kernel_rfl) (by rw[aat];kernel_rfl) Di
   | exact call_isinstance (isinstance_false_tuple (by decide) (by kernel_rfl) (by rw[aat];kernel_rfl)) ⟨⟨o,ho,hc⟩,fin _⟩
 | ref l=>
  unfold ai at rx;obtain⟨a,rfl,h1⟩:=rx;cases r1
  have hb':(aj st l).map (λ_=>T == "list")=some b:=hb
  cases e:aj st l with
  | none=>rw[e] at hb';cases hb'
  | some ws=>
   rw[e] at hb'
   obtain⟨xs,hq,h2⟩:=S.read h1 e
   obtain⟨its,rv,ht,hz⟩:=I.list hq
   have hty:=ht.isList.typeIs
   obtain⟨o,ho,hc,k,hd⟩:=ht.isList
   rcases hT with (((rfl | rfl) | rfl) | rfl) | rfl<;>cases hb'<;>first
    | exact call_isinstance_yes (Tx:="list") hty (by kernel_rfl) (by rw[aat];kernel_rfl) Di
    | exact call_isinstance (isinstance_false_list (by decide) (by kernel_rfl) (by rw[aat];kernel_rfl)) ⟨⟨o,ho,hc⟩,fin _⟩
 | ty t=>cases hb
 | cls t=>cases hb
 | kI t=>cases hb
 | fn fp t=>cases hb
theorem Ms:cU X (.builtin "isinstance") Mr:=⟨_,Dh,λws vs st H m Q S r p=>by
 match ws,r,p with
 | [],r,p=>exact aa p
 | [x],r,p=>cases x<;>exact aa p
 | x::y::z::t,r,p=>cases y<;>exact aa p
 | [x,y],r,p=>
  obtain⟨v,v',rfl,rx,ry⟩:=AK r
  cases y with
  | ty T=>
   unfold ai at ry
   subst ry
   have p':dE X.K m H (if xn T=true then(match Oz st T x with | some b=> .ok (.bl b) st | none=> .bad) else .bad) Q:=p
   by_cases c:xn T=true
   ·rw[if_pos c] at p'
    cases e:Oz st T x with
    | none=>rw[e] at p';exact aa p'
    | some b=>rw[e] at p';exact⟨m,st,x,T,v,b,rfl,S,rx,c,e,p' _ m H Ext.refl S iJ⟩
   ·rw[if_neg c] at p';exact aa p'
  | _=>exact aa p⟩
def cH:GS:=λρ st=> .nx ρ st
def aH(g h:GS):GS:=λρ st=>match g ρ st with
 | .nx ρ' st'=>h ρ' st'
 | r=>r
theorem HG:mU X [] cH:=mU.of GL λρ st σ H m D S R p=>p σ m H Ext.refl S R
theorem Dj{s:Stmt}{rest:List Stmt}{g h:GS}(h1:JS X s g)(h2:mU X rest h):mU X (s::rest) (aH g h) :=
 mU.of (Ci JR hV) λρ st σ H m D S R p=>h1 ρ st σ H m _ S R (by
  unfold aH at p
  cases e:g ρ st with
  | nx ρ' st'=>rw[e] at p;exact λσ' m' H' e' S' R'=>h2 ρ' st' σ' H' m' D S' R' (aK.shift p e')
  | rt w st'=>rw[e] at p;exact p
  | bk ρ' st'=>rw[e] at p;exact p
  | ct ρ' st'=>rw[e] at p;exact p
  | err c ρ' st'=>rw[e] at p;exact p
  | bad=>rw[e] at p;exact p)
theorem HH{s:Stmt}{g:GS}(h1:JS X s g):mU X [s] g:=mU.of (GN JR) λρ st σ H m D S R p=>h1 ρ st σ H m D S R p
def cY(g:GE):GS:=λρ st=>(g ρ st).bx ρ λw st'=> .rt w st'
theorem Mt{e:Expr}{g:GE}{pos:Pos}(h:JE X e g):JS X (.Return (some e) pos) (cY g) :=
 JS.of (Ld aG) λρ st σ H m D S R p=>h.go S R (aK.cS R p) λw st1 v m1 H1 q e1 S1 r1=>q v m1 H1 e1 S1 r1
theorem HI{pos:Pos}:JS X (.Pass pos) cH:=JS.of GP λρ st σ H m D S R p=>p σ m H Ext.refl S R
def fj(g:GE):GS:=λρ st=>(g ρ st).bx ρ λ_ st'=> .nx ρ st'
theorem HJ{e:Expr}{g:GE}{pos:Pos}(h:JE X e g)(hs:swapsWith e none pos.line X.env=pure false:=by rfl):JS X (.Expr e pos) (fj g) :=
 JS.of (GQ aG hs) λρ st σ H m D S R p=>h.go S R (aK.cS R p) λw st1 v m1 H1 q e1 S1 r1=>q σ m1 H1 e1 S1 (R.mono e1)
def nO(gt:GT)(ga gb:GS):GS:=λρ st=>(gt ρ st).bx ρ λb st'=>if b=true then ga ρ st' else gb ρ st'
theorem P0{c:Expr}{a b:List Stmt}{gt:GT}{ga gb:GS}{pos:Pos}(hc:JT X c gt)(ha:mU X a ga)(hb:mU X b gb):JS X (.If c a b pos) (nO gt ga gb) :=
 JS.of (OX pG hV hV) λρ st σ H m D S R p=>hc.go S R (aK.cS R p) λk st1 m1 H1 q e1 S1=>by
  cases k with
  | true=>rw[if_pos rfl] at q ⊢;exact ha ρ st1 σ H1 m1 D S1 (R.mono e1) (aK.shift q e1)
  | false=>rw[if_neg dN] at q ⊢;exact hb ρ st1 σ H1 m1 D S1 (R.mono e1) (aK.shift q e1)
def aY(i:Nat)(g:GE):GS:=λρ st=>(g ρ st).bx ρ λw st'=> .nx (ρ.set i (some w)) st'
theorem tO(i:Nat){x:Str}{e:Expr}{g:GE}{pos pos':Pos}(hN:X.N.Nodup)(h:JE X e g)(hi:X.N[i]? =some x:=by rfl)(hx:Loc X.env.scope x:=by first | exact Or.inl rfl | exact j4 rfl)(hs:swapsWith e (some (.Name x pos')) pos.line X.env=pure false:=by rfl)
  (hf:X.fn x=true\/X.env.scope.names.lookup x=some .local:=by first | exact .inl rfl | exact .inr rfl | assumption):JS X (.Assign [.Name x pos'] e pos) (aY i g) :=
 JS.of (Lg hN hi hx aG hs hf) λρ st σ H m D S R p=>h.go S R (aK.cS R p) λw st1 v m1 H1 q e1 S1 r1=>q _ m1 H1 e1 S1 ((R.mono e1).set i r1)
def cw:GS:=λ_ _=> .bad
theorem bP{s:Stmt}:JS X s cw:=JS.of Ck λρ st σ H m D S R p=>p
theorem AL{s:List Stmt}:mU X s cw:=mU.of Al λρ st σ H m D S R p=>p
def Mu(o i v:Wv)(ρ:bA)(st:Hs):Rs:=match o,i with
 | .ref l,.int k=>match st[l]? with
  | some (.lst ws)=>(match Au ws.length k with | some j=> .nx ρ (st.set l (.lst (ws.set j v))) | none=> .bad)
  | _=> .bad
 | _,_=> .bad
def kP(ge go gi:GE):GS:=λρ st=>(ge ρ st).bx ρ λv st1=>(go ρ st1).bx ρ λo st2=>(gi ρ st2).bx ρ λi st3=>Mu o i v ρ st3
theorem HK{o i e:Expr}{go gi ge:GE}{pos pos':Pos}(he:JE X e ge)(ho:JE X o go)(hi:JE X i gi)(hs:swapsWithSole [.Subscript o i pos'] e pos.line X.env=pure false:=by rfl)(hw:swappedStores [.Subscript o i pos'] e X.env=pure none:=by rfl)
  (h1:(assignEach [.Subscript o i pos'] X.env).map (·.2)=[assign (.Subscript o i pos') X.env]:=by rfl)
  (ha:∀v,assign (.Subscript o i pos') X.env v=(do
   let ov <-holding [v] (eval o X.env)
   let iv <-holding [v,ov] (eval i X.env)
   standAt pos'
   holding [v,ov,iv] (setItem ov iv v)
   release [v,ov,iv] []):=by intro _;rfl):JS X (.Assign [.Subscript o i pos'] e pos) (kP ge go gi):=by
 refine JS.of (Cn aG (Lf aG aG set_list ha) hs hw h1) λρ st σ H m D S R p=>?_
 refine he.go S R (aK.cS R p) λv st1 vv m1 H1 p1 e1 S1 rv=>?_
 refine ho.go S1 (R.mono e1) ((aK.cS (m:=m) (H:=H) R p1).imp e1 λ_ _ q=>q) λo' st2 ov m2 H2 p2 e2 S2 ro=>?_
 refine hi.go S2 (R.mono (e1.trans e2)) ((aK.cS (m:=m) (H:=H) R p2).imp (e1.trans e2) λ_ _ q=>q) λi' st3 iv m3 H3 p3 e3 S3 ri=>?_
 have AI:=e1.trans (e2.trans e3)
 cases o' with
 | ref l=>
  cases i' with
  | int k=>
   have mW:aK X m H (match st3[l]? with | some (.lst ws)=>(match Au ws.length k with | some j=> .nx ρ (st3.set l (.lst (ws.set j v))) | none=> .bad) | _=> .bad) D:=p3
   have Wu:=ai.mono e3 _ _ ro
   unfold ai at Wu
   obtain⟨a,rfl,f1⟩:=Wu
   cases e:st3[l]? with
   | none=>rw[e] at mW;exact aa mW
   | some ob=>
    cases ob with
    | dct kvs=>rw[e] at mW;exact aa mW
    | yK kvs=>rw[e] at mW;exact aa mW
    | CU kvs=>rw[e] at mW;exact aa mW
    | AF kvs=>rw[e] at mW;exact aa mW
    | tw ns=>rw[e] at mW;exact aa mW
    | lst ws=>
     rw[e] at mW
     cases ej:Au ws.length k with
     | none=>simp only[ej] at mW;exact aa mW
     | some j=>
      simp only[ej] at mW
      obtain⟨xs,g1,g2⟩:=S3.lV f1 e
      refine⟨a,xs,k,j,rfl,bg ri,g1,by rw[<-g2.length];exact ej,?_⟩
      have XE:=ai.mono (e2.trans e3) _ _ rv
      have e4:Ext X.K m3 H3 m3 (upd H3 a (.lst (xs.set j vv))):=Ext.upd (.inr ⟨xs,g1⟩)
      exact mW σ m3 _ (AI.trans e4) (S3.write f1 e (g2.set j XE)) (R.mono (AI.trans e4))
  | _=>exact aa p3
 | _=>cases i'<;>exact aa p3
open Classical in
def forL(i:Nat)(gb:GS)(l:Nat)(all:List Wv):List Wv->bA->Hs->Rs
 | [],ρ,st=> .nx ρ st
 | w::r,ρ,st=>match gb (ρ.set i (some w)) st with
  | .nx ρ' st'=>if aj st' l=some all then forL i gb l all r ρ' st' else .bad
  | .ct ρ' st'=>if aj st' l=some all then forL i gb l all r ρ' st' else .bad
  | .bk ρ' st'=> .nx ρ' st'
  | .rt w st'=> .rt w st'
  | .err c ρ' st'=> .err c ρ' st'
  | .bad=> .bad
end
def CXJ(P:aai)(w:aal):BU:=λouter H s E e s'=>∃H' C,uU P w outer H s H' (.ref C) e s'/\E (.ref C) none H'
section
variable {X:Cx} {pins:List (aae×Obj)} {σ:St} {Hc H':Hp} {sc s':aaj} {cls e:aak} {E:aak->aaj->Prop} {Q:Unit->aaj->Prop}
theorem old_ne(I:Inv X pins σ Hc sc){b:aae}{o:Obj}(q:X.s₀.heap.get? b=some o):b≠X.env.locals:=λz=>by
 have h1:=aE q
 have h2:=I.ok.above
 rw[z] at h1
 exact absurd (bN h1 h2) (eK _)
theorem HL(I:Inv X pins σ Hc sc)(hst:X.stack=X.env::X.outer)(hf:X.env.frame=some X.env.locals){b:aae}{o:Obj}(q:X.s₀.heap.get? b=some o)(hb:b∉frs X.outer):b∉frs X.stack:=λz=>by
 rw[hst] at z
 unfold frs at z
 rw[sJ,hf] at z
 rcases List.mem_cons.mp z with z | z
 ·exact old_ne I q z
 ·exact hb z
theorem Dk(hst:X.stack=X.env::X.outer)(hf:X.env.frame=some X.env.locals){b:aae}(hb:b∈frs X.outer):b∈frs X.stack:=by
 rw[hst]
 unfold frs
 rw[sJ,hf]
 exact aX _ hb
theorem uX{M:Model}{A:aaf}{E:aak->aaj->Prop}{s:aaj}{base:Heap}{env:Env}{outer:List Env}{L e:aae}{cls a0 nt:aak}{Q:Unit->aaj->Prop}(hfr:A.frames=some (env::outer))(hf:env.frame=some L)
  (x:base.StaysIn s.heap/\base.get? e=none/\s.heap.FunFrames base (env::outer)/\RL s.heap base e cls a0 nt)(k:∀h',CQ base (env::outer) e cls a0 L h'->s.heap.UpToSlots h'->Q () { s with heap:=h' }) :
  aax M A (noteFrame (.ref e) env) Q E s:=by
 obtain⟨x1,x2,x3,x4⟩:=x
 by_cases z:nt=rawInt L
 ·subst z
  exact L4 hf x4 (k s.heap ⟨x1,x2,x3,x4⟩ (Mv _))
 ·obtain⟨ox,us,T,ot,ws,g1,⟨g2,g3⟩,g4,g5,g6,g7,g8,g9,Ww⟩:=x4
  subst g2
  have apart:∀b,b≠T->(s.heap.update T (lU (·.setIfInBounds 3 bG))).get? b=s.heap.get? b:=λb hb=>pg _ _ (aW hb)
  have plain:∀b o,s.heap.get? b=some o->(∀vs,o.data≠.fields vs)->b≠T:=λb o hb hd q=>by
   subst q
   rw[g8] at hb
   cases hb
   exact hd ws g9
  unfold noteFrame
  simp only[hf]
  refine aay (wpAny_field g1 g4 g5 ?_)
  rw[if_pos (show(aU T != bG)=true from by simp)]
  refine aay (wpAny_field g8 g9 Ww ?_)
  rw[if_neg (show ¬((nt == rawInt L)=true) from by simpa using z)]
  refine aay (wpAny_setField g8 g9 (Array.getElem?_eq_some_iff.mp Ww).1 ?_)
  refine CT (a0:=a0) hfr (x3.of_keeps λb o hb hd=>⟨o,(apart b (plain b o hb hd)).trans hb,rfl⟩) hf ((apart e (aW g7)).trans g1) (λb o hb=>(apart b λq=>by rw[q,g6] at hb;cases hb).trans (x1 b o hb)) x2 g4 (Array.getElem?_eq_some_iff.mp g5).1 g3 λh' y y4=>?_
  exact k h' y λb o hb hd=>y4 b o ((apart b (plain b o hb hd)).trans hb) hd
theorem rK{M:Model}{A:aaf}{E:aak->aaj->Prop}{s:aaj}{base h:Heap}{env:Env}{outer:List Env}{L a:aae}{cls:aak}{args:List aak}{Q:Unit->aaj->Prop}(hfr:A.frames=some (env::outer))(hf:env.frame=some L)
  (st:base.StaysIn h)(fs:h.FunFrames base (env::outer))(mk:tG h s.heap a cls args)(k:∀h' a0,CQ base (env::outer) a cls a0 L h'->s.heap.UpToSlots h'->Q () { s with heap:=h' }) :
  aax M A (noteFrame (.ref a) env) Q E s:=by
 obtain⟨t,e1,e2,e3⟩:=mk.there
 have fresh:∀b,h.get? b=none->base.get? b=none:=λb hb=>by
  cases q:base.get? b with
  | none=>rfl
  | some o'=>have z:=st b o' q;rw[hb] at z;cases z
 have fs':=fs.of_keeps (h':=s.heap) λb o hb _=>⟨o,mk.keeps b o hb,rfl⟩
 unfold noteFrame
 simp only[hf]
 refine aay (wpAny_field e1 rfl (x:=.none) rfl ?_)
 rw[if_neg (by decide)]
 exact CT hfr fs' hf e1 (λb o hb=>mk.keeps b o (st b o hb)) (fresh a mk.new) rfl (by simp) (a0:=.ref t) rfl λh' l1 l4=>k h' (.ref t) l1 l4
theorem Dl{ch:List aae}(hx:X.ex=[])(hst:X.stack=X.env::X.outer)(hf:X.env.frame=some X.env.locals)(I:Inv X pins σ Hc sc){B h2:Heap}(hch:∀b∈ch,dj X pins Hc b)(un:Un (frs X.stack) ch Hc H' sc.heap s'.heap)(up:s'.heap.UpToSlots h2)(stay:B.StaysIn h2)
  (uV:∀b o,sc.heap.get? b=some o->b∉frs X.stack->b∉ch->∃o',B.get? b=some o'/\(Hc b=none->o'=o)) :
  Un (frs X.outer) [] X.H₀ H' X.s₀.heap h2/\(∀b o,X.s₀.heap.get? b=some o->b∉frs X.outer->∃o',B.get? b=some o'/\(X.H₀ b=none->o'=o)):=by
 have nx:∀b:aae,b∉X.ex:=λb=>by rw[hx];simp
 have nc:∀b o,X.s₀.heap.get? b=some o->b∉ch:=λb o q z=>by
  rcases(hch b z).2.2.2.1 with y | y
  ·exact nx b y
  ·exact absurd (bN (aE q) y) (eK _)
 have Mw:∀b o,X.s₀.heap.get? b=some o->b∉frs X.outer->∃o',B.get? b=some o'/\(X.H₀ b=none->o'=o):=λb o q hb=>by
  obtain⟨o1,q1⟩:=I.base.there b o q (nx b)
  obtain⟨o2,q2,q3⟩:=uV b o1 q1 (HL I hst hf q hb) (nc b o q)
  refine⟨o2,q2,λn=>?_⟩
  have q4:=I.base.keep b o q n hb (nx b)
  rw[q4] at q1
  cases q1
  exact q3 (I.base.free b o q n (nx b))
 have sl:∀b o,X.s₀.heap.get? b=some o->X.H₀ b=none->b∈frs X.outer->∃sl,h2.get? b=some { o with slots:=sl }:=λb o q n hb=>by
  obtain⟨s1,q1⟩:=I.base.slot b o q n hb (nx b)
  obtain⟨s2,q2⟩:=un.slot b _ q1 (I.base.free b o q n (nx b)) (Dk hst hf hb) (nc b o q)
  obtain⟨_,o3,q3,q4⟩:=I.ok.kY.mem hb
  rw[q] at q3
  cases q3
  obtain⟨s3,q5⟩:=up b _ q2 q4
  exact⟨s3,q5⟩
 refine⟨⟨λb o q n hb _=>?_,λb o q n hb _=>sl b o q n hb,λb o q n _=>?_,λb o q _=>?_,λb xs h=>un.tups b xs (I.base.tups b xs h),λb o u h=>un.jo b o u (I.base.jo b o u h),λb ps h=>?_⟩,Mw⟩
 ·obtain⟨o2,q2,q3⟩:=Mw b o q hb
  rw[q3 n] at q2
  exact stay b o q2
 ·obtain⟨o1,q1⟩:=I.base.there b o q (nx b)
  exact un.free b o1 q1 (I.base.free b o q n (nx b)) (nc b o q)
 ·by_cases hb:b∈frs X.outer
  ·obtain⟨s3,q3⟩:=sl b o q (I.ok.GG b hb) hb
   exact⟨_,q3⟩
  ·obtain⟨o2,q2,_⟩:=Mw b o q hb
   exact⟨o2,stay b o2 q2⟩
 ·obtain⟨m1,t1⟩:=I.base.kF b ps h
  obtain⟨m2,t2⟩:=un.kF b _ t1
  exact⟨m1++m2,by rw[<-Array.append_assoc];exact t2⟩
theorem uY(hx:X.ex=[])(hst:X.stack=X.env::X.outer)(hf:X.env.frame=some X.env.locals)(I:Inv X pins σ Hc sc)(F:jC X pins Hc sc H' cls e s')
  (k:∀s2,uU X.prog X.w X.outer X.H₀ X.s₀ H' cls e s2->Q () s2):aax (model X.prog X.w) X.A (leaving X.env e) Q E s':=by
 obtain⟨a,a0,nt,B,ch,rfl,os,bare,hch,un,hok,fl,uV⟩:=F
 have hfr:X.A.frames=some (X.env::X.outer):=by rw[I.ok.frames,hst]
 rw[hst] at fl
 unfold leaving
 refine aay (uX hfr hf fl λh1 hd1 up1=>?_)
 refine uS hd1 λh2 BW P4=>k _ ?_
 obtain⟨k1,k2,⟨_,_,k3⟩,k4⟩:=BW
 obtain⟨u2,c2⟩:=Dl hx hst hf I hch un (up1.trans P4) k1 uV
 exact⟨a,a0,B,rfl,os.trans I.os,bare,u2,hok,⟨k1,k2,k3,k4⟩,c2⟩
theorem uZ{P:aai}{w:aal}{H:Hp}{h:Heap}{l:List aae}(ok:jh P w H h)(fr:∀b∈l,H b=none):jh P w H (PySem.W.hideAll h l):=λa o q=>
 (ok a o q).stay (λb u hb r=>PySem.W.hideAll_get _ r λz=>by
  have n:=fr b z
  rcases hb with hb | hb
  ·rw[hb,q] at n;cases n
  ·rw[hb] at n;cases n) (λ_ r=>r) λ_ _ r=>r
theorem xo{a C:aae}{args:List aak}(hx:X.ex=[])(hst:X.stack=X.env::X.outer)(hf:X.env.frame=some X.env.locals)(I:Inv X pins σ Hc sc)(ho:s'.os=sc.os)(XF:s'.gens=sc.gens)
  (M:tG sc.heap s'.heap a (.ref C) args)(k:∀s2,uU X.prog X.w X.outer X.H₀ X.s₀ Hc (.ref C) (.ref a) s2->Q () s2):aax (model X.prog X.w) X.A (leaving X.env (.ref a)) Q E s':=by
 have hfr:X.A.frames=some (X.env::X.outer):=by rw[I.ok.frames,hst]
 have fs:sc.heap.FunFrames (PySem.W.hideAll sc.heap (frs X.stack)) (X.env::X.outer):=by
  rw[<-hst]
  exact PySem.W.funFrames_hide I.stack λenv he b hb=>List.mem_filterMap.mpr ⟨env,he,hb⟩
 unfold leaving
 refine aay (rK (base:=PySem.W.hideAll sc.heap (frs X.stack)) hfr hf (λb o q=>PySem.W.of_hideAll _ q) fs M λh1 t hd1 up1=>?_)
 refine uS hd1 λh2 BW P4=>k _ ?_
 have up:=up1.trans P4
 replace BW:tu (PySem.W.hideAll sc.heap (frs X.stack)) X.outer a (.ref C) t h2:=let ⟨k1,k2,⟨_,_,k3⟩,k4⟩:=BW;⟨k1,k2,k3,k4⟩
 obtain⟨u2,c2⟩:=Dl (H':=Hc) (s':=s') (ch:=[]) hx hst hf I (λb z=>by cases z) (Un.kept M.keeps) up BW.1 λb o q hb _=>⟨o,PySem.W.hideAll_get _ q hb,λ_=>rfl⟩
 exact⟨a,t,_,rfl,ho.trans I.os,by rw[show({ s' with heap:=h2 }:aaj).gens=sc.gens from XF];exact I.bare,u2,uZ I.hok I.jZ,BW,c2⟩
end
def J0(K:PySem.W.Frag)(m:Mp)(H:Hp)(r:Re Wv)(Q:VK)(E:XK):Prop:=match r with
 | .ok w st=>BV K m H Q w st
 | .err c st=>∀(m':Mp)(H':Hp)(C:aae),Ext K m H m' H'->bo K m' st H'->ClsAt K c C->E (.ref C) none H'
 | .bad=>False
def spW(K:PySem.W.Frag)(n:Nat)(F:List Wv->Hs->Re Wv):Sp:=λvs H Q E=>∃m st ws,bo K m st H/\ag K m H ws vs/\ws.length=n/\J0 K m H (F ws st) Q E
def aP(n:Nat)(F:List Wv->Hs->Re Wv)(g:GA):GE:=λρ st=>(g ρ st).bind λws st1=>if ws.length=n then F ws st1 else .bad
section
variable {X:Cx}
theorem HM{k n:Nat}{f:aae}{fd:aag}{ps:List Str}{F:List Wv->Hs->Re Wv}{x:Str}{p pos:Pos}{e:Expr}{es:List Expr}{g:GA}
  (G:FnOk X.prog X.w X.K X.mg X.base (CXJ X.prog X.w) k f fd ps (spW X.K n F))(hr:fc k X.A)(hm:X.mg x=some (.ref f))(hk:PySem.W.keepIn X.K (.ref f)=true)(hb:Binds X.K fd ps [])(ha:JA X (e::es) g)(hg:Gl X x:=by rfl)
  (hdb:(x == ("__debug__":Str))=false:=by decide)(he:aaw (e::es) X.env=(false,eval e X.env)::aaw es X.env:=by rfl)(hpl:(backTo pos (aaw es X.env)).any (·.1)=false:=by rfl) :
  JE X (.Call (.Name x p) (e::es) [] pos) (aP n F g):=by
 intro ρ st σ H m Q S R p pins s I
 have args:=ha.go (T:=λvs H1=>∃ws st1 m1,dD X σ m H (if ws.length=n then F ws st1 else .bad) Q/\Ext X.K m H m1 H1/\bo X.K m1 st1 H1/\ag X.K m1 H1 ws vs) S R (ar.bind p)
  λws st1 vs m1 H1 p1 e1 S1 rs=>⟨ws,st1,m1,p1,e1,S1,rs⟩
 refine wpAny_Call_Name_kw (lM I hg hm ?_ hdb)
 refine PySem.W.callWith_K (h₀:=X.base) I.ok.mod.B_ hk (bx (args pos pins s I) λus s1 ⟨vs,H1,I1,r,ws,st1,m1,p1,e1,S1,rs⟩=>⟨I1.wV,?_⟩) he hpl
 by_cases c:ws.length=n
 ·rw[if_pos c] at p1
  let E:XK:=λcl _ H2=>∃c' st2 m2 C,cl= .ref C/\ClsAt X.K c' C/\F ws st1= .err c' st2/\Ext X.K m1 H1 m2 H2/\bo X.K m2 st2 H2
  have sp:spW X.K n F vs H1 Q E:=by
   refine⟨m1,st1,ws,S1,rs,c,?_⟩
   cases er:F ws st1 with
   | ok w st2=>rw[er] at p1;exact dD.shift (r:=.ok w st2) p1 e1
   | err c' st2=>exact λm2 H2 C e2 S2 hC=>⟨c',st2,m2,C,rfl,hC,er,e2,S2⟩
   | bad=>rw[er] at p1;exact aa p1
  have hl:us.length=ps.length:=by rw[<-r.length];exact G.len _ _ _ _ sp
  have bd:=hb s1 us I1.wV (by rw[ei];exact hl)
  rw[ei] at bd
  refine wpAny_call (codeAny_mono (G.run X.A X.stack s1 H1 ⟨us,[]⟩ us vs Q E hr I1.Ly bd r sp) λrr s2 hq=>?_)
  cases rr with
  | error x=>
   obtain⟨H2,C,fl,c',st2,m2,C',ec,hC,er,e2,S2⟩:=hq
   cases ec
   rw[er] at p1
   exact p1 m2 H2 x s2 (e1.trans e2) S2 ⟨C,pins,H1,s1,hC,I1,.inl fl.any⟩
  | ok fw=>
   cases fw with
   | ret u=>exact I1.after hq
   | next=>exact aa hq
   | brk=>exact aa hq
   | cont=>exact aa hq
 ·rw[if_neg c] at p1;exact aa p1
end
def kQ(n:Nat)(g:GS):List Wv->Hs->Re Wv:=λws st=>match g (ws.map some++aJ (n - ws.length) none) st with
 | .nx _ st'=> .ok .aL st'
 | .rt w st'=> .ok w st'
 | .err c _ st'=> .err c st'
 | _=> .bad
theorem Dm{K:PySem.W.Frag}{m:Mp}{H:Hp}{N:List Str}{ws:List Wv}{vs:List V}(r:ag K m H ws vs)(h:ws.length<=N.length):av K m H (ws.map some++aJ (N.length - ws.length) none) (L2.start N vs):=by
 have hl:=r.length
 refine⟨by unfold L2.start;simp[hl],λi w e=>?_⟩
 by_cases hi:i < ws.length
 ·rw[cu (by simpa using hi),gM] at e
  cases q:ws[i]? with
  | none=>rw[q] at e;cases e
  | some w'=>
   rw[q] at e
   cases e
   obtain⟨x,h1,h2⟩:=r.get q
   refine⟨x,?_,h2⟩
   unfold L2.start
   rw[cu (by simp;omega),gM,h1]
   rfl
 ·rw[iq (by simpa using hi),sR] at e
  split at e<;>cases e
section
variable {P:aai} {w:aal} {K:PySem.W.Frag} {mg:Str->Option aak} {base:Heap}
theorem xq{N:List Str}{qual:Str}{scope:Scope}{f:aae}{cdv:aak}{A:aaf}{outer:List Env}{s s':aaj}{H H':Hp}{E:XK}{σ:St}{c:PySem.Str}{e:aak}
  (r:xh (qR (CXJ P w) P w K mg base N qual scope f cdv A outer s H E) σ H' c e s')(h:∀C,ClsAt K c C->E (.ref C) none H'):(qR (CXJ P w) P w K mg base N qual scope f cdv A outer s H E).xe e s':=by
 obtain⟨C,pins,Hc,sc,hC,I,r⟩:=r
 rcases r with fl | ⟨rfl,a,args,rfl,ho,hg,M⟩
 ·exact uY (X:=qR (CXJ P w) P w K mg base N qual scope f cdv A outer s H E) rfl rfl rfl I fl λs2 BW=>⟨H',C,BW,h C hC⟩
 ·exact xo (X:=qR (CXJ P w) P w K mg base N qual scope f cdv A outer s H E) rfl rfl rfl I ho hg M λs2 BW=>⟨H',C,BW,h C hC⟩
def Dp(K:PySem.W.Frag)(f:aae)(cdv:aak):Prop:=∃o,K.lookup f=some o/\∃fd,o.data= .func fd/\fd.code=cdv
theorem J1{x qual:Str}{st:Stmt}{f:aae}{fd:aag}{N ps:List Str}{k:Nat}{g:GS}(F:LR K x qual st f fd)(S:FnScope N ps (defScope st))
  (body:∀(cdv:aak),Dp K f cdv->∀(A:aaf)(outer:List Env)(s:aaj)(H:Hp)(E:XK),fc k (A.deeper (envOfC qual (defScope st) s.heap.objs.size f cdv))->mU (qR (CXJ P w) P w K mg base N qual (defScope st) f cdv A outer s H E) (defBody st) g) :
  FnOk P w K mg base (CXJ P w) (k+1) f fd ps (spW K ps.length (kQ N.length g)):=by
 have hpl:ps.length<=N.length:=by have:=congrArg gL S.pre;rw[jz] at this;omega
 obtain⟨oc,od,kV,doc,pm,an,cdv,ct,osl,rfl,lk,hcd⟩:=F.ex
 refine Pc lk hcd S (λvs H Q E h=>?_) λA outer s H vs Q E hr h=>?_
 ·obtain⟨m,st',ws,_,r,hl,_⟩:=h
  rw[<-r.length];exact hl
 ·obtain⟨m,st',ws,S',r,hl,p⟩:=h
  refine⟨_,hV,?_⟩
  refine body cdv ⟨_,lk,_,rfl,rfl⟩ A outer s H E hr _ st' _ H m _ S' (Dm r (by omega)) ?_
  unfold kQ at p
  cases e:g (ws.map some++aJ (N.length - ws.length) none) st' with
  | nx ρ st2=>rw[e] at p;exact λσ m' H' e' S2 R2=>p _ m' H' e' S2 (by unfold ai;rfl)
  | rt w' st2=>rw[e] at p;exact p
  | bk ρ st2=>rw[e] at p;exact aa p
  | ct ρ st2=>rw[e] at p;exact aa p
  | err c ρ st2=>rw[e] at p;exact λσ m' H' x s' e' S2 R2 rz=>xq rz λC hC=>p m' H' C e' S2 hC
  | bad=>rw[e] at p;exact aa p
end
def OnlyT(H:Hp):Prop:=∀b,H b=none\/(∃o xs,H b=some (.fb o (.lst xs)))\/H b=some (.jr #[])
theorem OnlyT.of{H:Hp}(h:Hm H):OnlyT H:=λb=>by
 rcases h b with q | q
 ·exact .inl q
 ·exact .inr (.inl q)
theorem law_sp{K:PySem.W.Frag}{F:List Wv->Hs->Re Wv}(h:∀ns:List Int,ns.length<=63->∃st,F [.ref 0] [.tw ns]= .ok (.bl true) st)(H:Hp)(a:aae)(ns:List Int)(hl:ns.length<=63)(hO:OnlyT H)(hS:jq K H a (ns.map V.int))(hT:tD K H) :
  spW K 1 F [.ref a] H (λv _=>v= .bl true) λ_ _ _=>False:=by
 obtain⟨st,e⟩:=h ns hl
 refine⟨[a],[.tw ns],[.ref 0],⟨rfl,λl b o h1 h2=>?_,λl l' b ws ZK _ _ h2 _ k _=>?_,hT⟩,ag.cons (by unfold ai;exact⟨a,rfl,rfl⟩) ag.nil,rfl,?_⟩
 ·cases l with
  | zero=>
   simp at h1 h2
   subst h1 h2
   show uT K H a ns
   rcases hS with (q | ⟨o',q⟩) | q
   ·rcases hO a with z | ⟨o',xs,z⟩ | z
    ·rw[z] at q;cases q
    ·rw[z] at q;cases q
    ·rw[z] at q;cases q
   ·exact .inl ⟨o',q⟩
   ·exact .inr q
  | succ l=>simp at h1
 ·cases l with
  | zero=>simp at h2;subst h2;simp[Ob.mu] at k
  | succ l=>simp at h2
 ·rw[e]
  intro v m' H' _ _ r
  unfold ai at r
  exact r
def tP(w:Wv)(st:Hs):Re Bool:=match w with
 | .aL=> .ok false st
 | .bl b=> .ok b st
 | .int i=> .ok (i != 0) st
 | .str y=>if y.length<=lim then .ok ((y.length:Int) != 0) st else .bad
 | .tup ws=> .ok (!ws.isEmpty) st
 | .pD _=> .bad
 | .ref l=>match aj st l with
  | some ws=> .ok (!ws.isEmpty) st
  | none=> .bad
 | .ty _=> .bad
 | .cls _=> .bad
 | .kI _=> .bad
 | .fn _ _=> .bad
def iK(g:GE):GT:=λρ st=>(g ρ st).bind tP
section
variable {X:Cx}
theorem Wx{m:Mp}{H:Hp}{ws:List Wv}{xs:List V}(r:ag X.K m H ws xs):(!ws.isEmpty)= !xs.isEmpty:=by
 have h:=r.length
 cases ws<;>cases xs<;>simp_all
theorem pL{e:Expr}{g:GE}(h:JE X e g)(he:∀whole,isTrue e X.env whole=(do let v <-whole;standAt e.pos;holding [v] (truthy v))):JT X e (iK g) :=
 JT.of (Cr aG he) λρ st σ H m Q S R p=>h.go S R (ar.bind p) λw st1 v m1 H1 p1 e1 S1 r1=>by
  cases w with
  | aL=>unfold ai at r1;subst r1;exact⟨false,rfl,p1 m1 H1 e1 S1⟩
  | bl b=>unfold ai at r1;subst r1;exact⟨b,rfl,p1 m1 H1 e1 S1⟩
  | int i=>unfold ai at r1;subst r1;exact⟨_,rfl,p1 m1 H1 e1 S1⟩
  | str y=>
   obtain⟨rfl,_⟩:=eM r1
   have p2:iH X σ m H (if y.length<=lim then .ok ((y.length:Int) != 0) st1 else .bad) Q:=p1
   by_cases c:y.length<=lim
   ·rw[if_pos c] at p2;exact⟨_,⟨fA c,rfl⟩,p2 m1 H1 e1 S1⟩
   ·rw[if_neg c] at p2;exact aa p2
  | pD ws=>exact aa p1
  | tup ws=>
   unfold ai at r1
   obtain⟨a,xs,rfl,h1,h2⟩:=r1
   refine⟨!xs.isEmpty,.inr (.inl ⟨xs,fm.of h1,rfl⟩),?_⟩
   rw[<-Wx h2]
   exact p1 m1 H1 e1 S1
  | ref l=>
   unfold ai at r1
   obtain⟨a,rfl,h1⟩:=r1
   have p2:iH X σ m H (match aj st1 l with | some ws=> .ok (!ws.isEmpty) st1 | none=> .bad) Q:=p1
   cases el:aj st1 l with
   | none=>rw[el] at p2;exact aa p2
   | some ws=>
    rw[el] at p2
    obtain⟨xs,hq,h2⟩:=S1.read h1 el
    refine⟨!xs.isEmpty,.inl ⟨xs,hq,rfl⟩,?_⟩
    rw[<-Wx h2]
    exact p2 m1 H1 e1 S1
  | ty T=>exact aa p1
  | cls T=>exact aa p1
  | kI T=>exact aa p1
  | fn fp T=>exact aa p1
theorem u0{p:Nat->Bool}{x:Array Nat}(hx:x.all p=true):∀(n:Nat)(a:Array Nat),a.all p=true->((aJ n x).foldl (· ++·) a).all p=true
 | 0,a,h=>h
 | n+1,a,h=>by
  rw[hU,CB]
  refine u0 hx n _ ?_
  rw[Array.all_append,h,hx]
  rfl
theorem AM{x:PySem.Str}{n:Nat}(h:aQ x=true):aQ (qY n x)=true:=by
 unfold aQ at h ⊢
 unfold qY
 exact u0 h n #[] (by simp)
theorem rL{x:Array Nat}:∀(n:Nat)(a:Array Nat),((aJ n x).foldl (· ++·) a).size=a.size+x.size * n
 | 0,a=>by simp
 | n+1,a=>by
  rw[hU,CB,rL n,Array.size_append,Nat.mul_succ]
  omega
theorem Dq{x:PySem.Str}{n:Nat}:(qY n x).length=x.length * n:=by
 show((aJ n x.cps).foldl (· ++·) #[]).size=x.cps.size * n
 rw[rL]
 simp
def nP(x:PySem.Str)(n:Int):Prop:=1 < n/\n<=100000/\x.length≠0/\x.length * n.toNat<=lim
instance {x n}:Decidable (nP x n):=by unfold nP;infer_instance
theorem HN:fu X (aan .Mult) (λx y H Q=>∃z n,x= .str z/\y= .int n/\nP z n/\Q (.str (qY n.toNat z)) H):=by
 intro pins s σ H x y v u Q I rx ry h
 obtain⟨z,n,rfl,rfl,⟨h1,h2,h3,h4⟩,q⟩:=h
 obtain⟨t,rfl⟩:=rx
 obtain⟨t',rfl⟩:=ry
 have n1:¬n < 1:=by omega
 have hlen:z.length<=lim:=by
  refine bb ?_ h4
  exact Nat.le_mul_of_pos_right _ (by omega)
 have hne:(n == 1||z.length == 0)=false:=by
  have e1:(n == 1)=false:=by rw[beq_eq_false_iff_ne];omega
  have e2:(z.length == 0)=false:=by rw[beq_eq_false_iff_ne];exact h3
  rw[e1,e2];rfl
 have hl:PySem.Builtin.Str.tooLong (z.length * n.toNat)=false:=by
  unfold PySem.Builtin.Str.tooLong
  have q:=fA h4
  first
   | exact decide_eq_false (by omega)
   | simp only[decide_eq_false_iff_not];omega
 refine PySem.P.mul_str (by
   have e1:¬n < -(2 ^ 63:Int):=by omega
   have e2:¬n >= 2 ^ 63:=by omega
   rw[decide_eq_false e1,decide_eq_false e2];rfl) (λ_ _=>?_) (λ_ _=>hl) ?_
 ·have e:((2:Int) ^ 63 - 1) / 100000<=(2 ^ 63 - 1) / n:=by
   refine Int.le_ediv_of_mul_le (by omega) ?_
   have:((2:Int) ^ 63 - 1) / 100000 * n<=((2:Int) ^ 63 - 1) / 100000 * 100000:=Int.mul_le_mul_of_nonneg_left h2 (by decide)
   exact Int.le_trans this (by decide)
  have e':(1000000:Int)<=(2 ^ 63 - 1) / 100000:=by decide
  unfold lim at hlen
  omega
 ·rw[if_neg n1,if_neg (by rw[hne];exact dN)]
  exact⟨by show(qY n.toNat z).length<=_;rw[Dq];exact fA h4,.str (qY n.toNat z),H,I.tok _,⟨_,rfl⟩,q⟩
def J2:g_
 | .int i,.int j,st=>if IntMulOk i j then .ok (.int (i * j)) st else .bad
 | .str z,.int n,st=>if nP z n then .ok (.str (qY n.toNat z)) st else .bad
 | _,_,_=> .bad
theorem HP:jv X (aan .Mult) J2:=⟨_,fu.or Hw HN,λx y a b st H m Q S rx ry p=>by
 cases x with
 | int i=>
  cases y with
  | int j=>
   cases bg rx;cases bg ry
   have p':dE X.K m H (if IntMulOk i j then .ok (.int (i * j)) st else .bad) Q:=p
   by_cases c:IntMulOk i j
   ·rw[if_pos c] at p';exact .inl ⟨i,j,rfl,rfl,c,p' _ m H Ext.refl S mkInt⟩
   ·rw[if_neg c] at p';exact aa p'
  | _=>exact aa p
 | str z=>
  cases y with
  | int n=>
   obtain⟨rfl,hz⟩:=eM rx
   cases bg ry
   have p':dE X.K m H (if nP z n then .ok (.str (qY n.toNat z)) st else .bad) Q:=p
   by_cases c:nP z n
   ·rw[if_pos c] at p';exact .inr ⟨z,n,rfl,rfl,c,p' _ m H Ext.refl S (mkStr (AM hz))⟩
   ·rw[if_neg c] at p';exact aa p'
  | _=>exact aa p
 | _=>exact aa p⟩
def bF:GE:=λ_ _=> .bad
def jE:GT:=λ_ _=> .bad
theorem az{e:Expr}:JE X e bF:=λρ st σ H m Q S R p=>aa p
theorem jF{e:Expr}:JT X e jE:=λρ st σ H m Q S R p=>aa p
end
def jw(P:aai)(w:aal)(K:PySem.W.Frag)(mg:Str->Option aak)(base:Heap)(k:Nat)(x:Str)(n:Nat)(F:List Wv->Hs->Re Wv):Prop :=
 ∃f fd ps,FnOk P w K mg base (CXJ P w) k f fd ps (spW K n F)/\mg x=some (.ref f)/\PySem.W.keepIn K (.ref f)=true/\Binds K fd ps []
theorem jw.mono{P:aai}{w:aal}{K:PySem.W.Frag}{mg:Str->Option aak}{base:Heap}{j k:Nat}{x:Str}{n:Nat}{F:List Wv->Hs->Re Wv}(h:jw P w K mg base j x n F)(l:j<=k):jw P w K mg base k x n F:=by
 obtain⟨f,fd,ps,G,r⟩:=h
 exact⟨f,fd,ps,G.mono l,r⟩
def de(K:PySem.W.Frag)(x:Str)(st:Stmt):Prop:=∃f fd,PySem.W.nsIn K aau x=some (some (.ref f))/\LR K x x st f fd
theorem Mx{K:PySem.W.Frag}{x:Str}{st:Stmt}{f:aae}{oc:aak}{od an:Option aae}{osl:Array (Option aak)}{kV doc pm cdv ct:aak}(a:PySem.W.nsIn K aau x=some (some (.ref f)))
  (l:K.lookup f=some ⟨oc,od,.func (PySem.W.fnOf x x (defArgs st) (defBody st) (defScope st) .none kV doc pm an cdv ct),osl⟩)(c:PySem.W.codeIn K cdv x=true)(k:PySem.W.keepIn K (.ref f)=true):de K x st:=⟨f,_,a,LS l c k⟩
theorem Dr:aao "isinstance"=some (.builtin "isinstance"):=by decide+kernel
theorem AN:aao "abs"=some (.builtin "abs"):=by decide+kernel
theorem AO:aao "len"=some (.builtin "len"):=by decide+kernel
theorem Ds:aao "int"=some (.type "int"):=by decide+kernel
theorem Dt:aao "str"=some (.type "str"):=by decide+kernel
theorem Du:aao "bool"=some (.type "bool"):=by decide+kernel
theorem u5:aao "tuple"=some (.type "tuple"):=by decide+kernel
theorem u6:aao "list"=some (.type "list"):=by decide+kernel
def kL(i:Nat)(gb:GS):List Wv->bA->Hs->Rs
 | [],ρ,st=> .nx ρ st
 | w::r,ρ,st=>match gb (ρ.set i (some w)) st with
  | .nx ρ' st'=>kL i gb r ρ' st'
  | .ct ρ' st'=>kL i gb r ρ' st'
  | .bk ρ' st'=> .nx ρ' st'
  | .rt w st'=> .rt w st'
  | .err c ρ' st'=> .err c ρ' st'
  | .bad=> .bad
section
variable {X:Cx}
theorem pM(i:Nat){body:List Stmt}{gb:GS}(hb:mU X body gb){J':It}{ws:List Wv}{m1:Mp}{H1:Hp}{st1:Hs}{ρ:bA}{σ:St}{D:Ends}(S1:bo X.K m1 st1 H1)(R:av X.K m1 H1 ρ σ)(p1:aK X m1 H1 (kL i gb ws ρ st1) D)
  (hgo:∀(k:Nat)(H:Hp)(m':Mp),Ext X.K m1 H1 m' H->k < ws.length->J'.go k H)(hstop:∀(k:Nat)(H:Hp)(m':Mp),Ext X.K m1 H1 m' H->k=ws.length->J'.stop k H)
  (hy:∀(k:Nat)(hk:k < ws.length)(H:Hp)(x:V)(H':Hp)(m':Mp),Ext X.K m1 H1 m' H->J'.uD k H x H'->H'=H/\ai X.K m' H ws[k] x) :
  ∃W:Nat->Nat->St->Hp->Prop,(∃m,W 0 m σ H1)/\∀k n σ H,W k n σ H->
   (J'.stop k H/\D.nx σ H)\/(J'.go k H/\∃N:St->Hp->Prop,(∀σ' H',N σ' H'->∃m',m' < n/\W (k+1) m' σ' H')/\∀x H',J'.uD k H x H'->uK i x σ H' λσ2 H2=>RN X body { D with nx:=N,ct:=N,bk:=D.nx } σ2 H2):=by
 let Pv:Nat->St->Hp->Prop:=λk σ H=>∃ρ st m',Ext X.K m1 H1 m' H/\bo X.K m' st H/\av X.K m' H ρ σ/\aK X m' H (kL i gb (ws.drop k) ρ st) D
 refine⟨λk n σ H=>n=ws.length - k/\k<=ws.length/\Pv k σ H,⟨ws.length,by simp,bY _,ρ,st1,m1,Ext.refl,S1,R,p1⟩,?_⟩
 rintro k n σ2 H2 ⟨rfl,hk,ρ2,st2,m2,e2,S2,R2,p2⟩
 by_cases hlt:k < ws.length
 ·refine .inr ⟨hgo k H2 m2 e2 hlt,Pv (k+1),λσ' H' p'=>⟨ws.length - (k+1),by omega,rfl,hlt,p'⟩,λx H' y=>?_⟩
  obtain⟨ee,mX⟩:=hy k hlt H2 x H' m2 e2 y
  subst ee
  have ed:ws.drop k=ws[k]::ws.drop (k+1):=pN hlt
  rw[ed] at p2
  refine hb _ st2 _ _ m2 _ S2 (R2.set i mX) ?_
  unfold kL at p2
  cases eg:gb (ρ2.set i (some ws[k])) st2 with
  | nx ρ3 st3=>rw[eg] at p2;exact λσ3 m3 H3 e3 S3 R3=>⟨ρ3,st3,m3,e2.trans e3,S3,R3,aK.shift p2 e3⟩
  | ct ρ3 st3=>rw[eg] at p2;exact λσ3 m3 H3 e3 S3 R3=>⟨ρ3,st3,m3,e2.trans e3,S3,R3,aK.shift p2 e3⟩
  | bk ρ3 st3=>rw[eg] at p2;exact p2
  | rt w3 st3=>rw[eg] at p2;exact p2
  | err c3 ρ3 st3=>rw[eg] at p2;exact p2
  | bad=>rw[eg] at p2;exact p2
 ·have e:k=ws.length:=by omega
  subst e
  rw[pO] at p2
  exact .inl ⟨hstop _ H2 m2 e2 rfl,p2 σ2 m2 H2 Ext.refl S2 R2⟩
def T3(K:PySem.W.Frag)(tl:TE):TI:=λσ H R=>tl σ H λx H1=>∃a,x= .ref a/\(((∃xs,jq K H1 a xs)/\R (Tt K a) H1)\/((∃xs,fm K H1 a xs)/\R (Wd K a) H1))
theorem Dv{tg l:Expr}{tl:TE}(hl:PE X l tl):PI X tg l (T3 X.K tl):=by
 intro pins s σ H R I h
 refine bx (hl pins s σ H _ I h) λv s1 ⟨x,H1,I1,r1,q1⟩=>?_
 obtain⟨a,e,q1⟩:=q1
 subst e
 cases r1
 have frs:∀b∈[s1.heap.objs.size],dj X pins H1 b:=λb hb=>by
  have e:b=s1.heap.objs.size:=by simpa using hb
  subst e
  exact I1.oY (ak _) (I1.hok.fresh (ak _))
 rcases q1 with ⟨⟨xs,hq⟩,q⟩ | ⟨⟨xs,hq⟩,q⟩
 ·obtain⟨its,rv,p,hz⟩:=I1.list hq
  refine wpAny_pyIter_list p.isList ?_
  exact⟨s1.heap.objs.size,[s1.heap.objs.size],_,_,H1,rfl,I1.kept (t':=s1.toks) λb o e=>aO _ e,rn a _,⟨_,cq _ rfl,rfl,rfl⟩,frs,q⟩
 ·obtain⟨its,rv,p,hz⟩:=I1.tuple hq
  refine wpAny_pyIter_tuple (show s1.heap.IsTuple a its.toArray from p) ?_
  exact⟨s1.heap.objs.size,[s1.heap.objs.size],_,_,H1,rfl,I1.kept (t':=s1.toks) λb o e=>aO _ e,wX a _,⟨_,cq _ rfl,rfl,rfl⟩,frs,q⟩
def xt(i:Nat)(gi:GE)(gb:GS):GS:=λρ st=>(gi ρ st).bx ρ λw st1=>match w with
 | .ref l=>(match aj st1 l with | some ws=>forL i gb l ws ws ρ st1 | none=> .bad)
 | .tup ws=>kL i gb ws ρ st1
 | .pD ws=>kL i gb ws ρ st1
 | _=> .bad
theorem Dw(i:Nat){x:Str}{iter:Expr}{body:List Stmt}{gi:GE}{gb:GS}{pos pos':Pos}(hN:X.N.Nodup)(hp:PassesOwn (model X.prog X.w) X.A X.env X.xe)(hc:X.calm=true)(hi:JE X iter gi)(hb:mU X body gb)
  (hx:X.N[i]? =some x)(hlo:Loc X.env.scope x)(T4:X.fn x=true\/X.env.scope.names.lookup x=some .local)
  (hs:∀x,aas iter X.env x=pure x):JS X (.For (.Name x pos') iter body [] pos) (xt i gi gb):=by
 refine JS.of (sO hp hc (Dv aG) (sM hN hx hlo T4) hV hs) λρ st σ H m D S R p=>?_
 refine hi.go S R (aK.cS R p) λw st1 v m1 H1 p1 e1 S1 rw'=>?_
 cases w with
 | ref l=>
  have p1':aK X m H (match aj st1 l with | some ws=>forL i gb l ws ws ρ st1 | none=> .bad) D:=p1
  unfold ai at rw'
  obtain⟨a,rfl,hla⟩:=rw'
  cases el:aj st1 l with
  | none=>rw[el] at p1';exact aa p1'
  | some ws=>
   rw[el] at p1'
   obtain⟨uF,q0,_⟩:=S1.read hla el
   refine⟨a,rfl,.inl ⟨⟨uF,q0⟩,?_⟩⟩
   let Pv:Nat->St->Hp->Prop:=λk σ H=>∃ρ st m',Ext X.K m1 H1 m' H/\bo X.K m' st H/\av X.K m' H ρ σ/\aj st l=some ws/\aK X m' H (forL i gb l ws (ws.drop k) ρ st) D
   refine⟨λk n σ H=>n=ws.length - k/\k<=ws.length/\Pv k σ H,⟨ws.length,by simp,bY _,ρ,st1,m1,Ext.refl,S1,R.mono e1,el,aK.shift p1' e1⟩,?_⟩
   rintro k n σ2 H2 ⟨rfl,hk,ρ2,st2,m2,e2,S2,R2,l2,p2⟩
   obtain⟨xs,hq,rws⟩:=S2.read (e2.pre _ _ hla) l2
   have hlen:=rws.length
   by_cases hlt:k < ws.length
   ·have hx':k < xs.length:=by omega
    refine .inr ⟨⟨xs,xs[k],hq,by simp[hx']⟩,Pv (k+1),λσ' H' p'=>⟨ws.length - (k+1),by omega,rfl,hlt,p'⟩,λx H' y=>?_⟩
    obtain⟨ee,y⟩:=y
    subst ee
    have ey:=y xs hq
    have ed:ws.drop k=ws[k]::ws.drop (k+1):=pN hlt
    obtain⟨x',ex',mX⟩:=rws.get (i:=k) (w:=ws[k]) (bR hlt)
    rw[ey] at ex'
    cases ex'
    rw[ed] at p2
    refine hb _ st2 _ _ m2 _ S2 (R2.set i mX) ?_
    unfold forL at p2
    cases eg:gb (ρ2.set i (some ws[k])) st2 with
    | nx ρ3 st3=>
     rw[eg] at p2
     by_cases c:aj st3 l=some ws
     ·simp only[if_pos c] at p2
      exact λσ3 m3 H3 e3 S3 R3=>⟨ρ3,st3,m3,e2.trans e3,S3,R3,c,aK.shift p2 e3⟩
     ·simp only[if_neg c] at p2;exact aa p2
    | ct ρ3 st3=>
     rw[eg] at p2
     by_cases c:aj st3 l=some ws
     ·simp only[if_pos c] at p2
      exact λσ3 m3 H3 e3 S3 R3=>⟨ρ3,st3,m3,e2.trans e3,S3,R3,c,aK.shift p2 e3⟩
     ·simp only[if_neg c] at p2;exact aa p2
    | bk ρ3 st3=>rw[eg] at p2;exact p2
    | rt w3 st3=>rw[eg] at p2;exact p2
    | err c3 ρ3 st3=>rw[eg] at p2;exact p2
    | bad=>rw[eg] at p2;exact p2
   ·have e:k=ws.length:=by omega
    subst e
    rw[pO] at p2
    exact .inl ⟨⟨xs,hq,by omega⟩,p2 σ2 m2 H2 Ext.refl S2 R2⟩
 | tup ws=>
  unfold ai at rw'
  obtain⟨a,xs,rfl,hq,rws⟩:=rw'
  have hlen:=rws.length
  refine⟨a,rfl,.inr ⟨⟨xs,fm.of hq⟩,?_⟩⟩
  refine pM i hb (ws:=ws) S1 (R.mono e1) (aK.shift p1 e1) (λk H m' e hk=>?_) (λk H m' e hk=>?_) λk hk H x H' m' e y=>?_
  ·have hx':k < xs.length:=by omega
   exact⟨xs,xs[k],fm.of (e.tup _ _ hq),by simp[hx']⟩
  ·exact⟨xs,fm.of (e.tup _ _ hq),by omega⟩
  ·obtain⟨ee,y⟩:=y
   refine⟨ee,?_⟩
   obtain⟨x',ex',mX⟩:=(ag.mono e _ _ rws).get (i:=k) (w:=ws[k]) (bR hk)
   rw[y xs (fm.of (e.tup _ _ hq))] at ex'
   cases ex'
   exact mX
 | pD ws=>
  unfold ai at rw'
  obtain⟨a,xs,rfl,hq,rws⟩:=rw'
  have hlen:=rws.length
  refine⟨a,rfl,.inr ⟨⟨xs,.inr hq⟩,?_⟩⟩
  refine pM i hb (ws:=ws) S1 (R.mono e1) (aK.shift p1 e1) (λk H m' e hk=>?_) (λk H m' e hk=>?_) λk hk H x H' m' e y=>?_
  ·have hx':k < xs.length:=by omega
   exact⟨xs,xs[k],.inr hq,by simp[hx']⟩
  ·exact⟨xs,.inr hq,by omega⟩
  ·obtain⟨ee,y⟩:=y
   refine⟨ee,?_⟩
   obtain⟨x',ex',mX⟩:=(ag.mono e _ _ rws).get (i:=k) (w:=ws[k]) (bR hk)
   rw[y xs (.inr hq)] at ex'
   cases ex'
   exact mX
 | _=>exact aa p1
def cZ(lo:Int)(n:Nat):List Wv:=(dX n).map λk:Nat=>Wv.int (lo+k)
theorem AQ{lo:Int}{n k:Nat}(h:k < n):(cZ lo n)[k]? =some (.int (lo+k)):=by
 unfold cZ
 rw[gM,List.getElem?_range h]
 rfl
theorem u7{lo:Int}{n k:Nat}(h:k < (cZ lo n).length):(cZ lo n)[k]= .int (lo+k):=by
 have q:=AQ (lo:=lo) (n:=n) (k:=k) (by unfold cZ at h;simpa using h)
 rw[bR h] at q
 exact Option.some.inj q
theorem dQ{lo:Int}{n:Nat}:(cZ lo n).length=n:=by unfold cZ;simp
def mY(i:Int):Prop:=-(2 ^ 62)<=i/\i < 2 ^ 62
instance {i}:Decidable (mY i):=Dx _
def tQ(i:Nat)(ga:GA)(gb:GS):GS:=λρ st=>(ga ρ st).bx ρ λws st1=>match ws with
 | [.int j]=>if mY j then kL i gb (cZ 0 j.toNat) ρ st1 else .bad
 | _=> .bad
theorem HQ(i:Nat){body:List Stmt}{gb:GS}(hb:mU X body gb){lo:Int}{n:Nat}{m1:Mp}{H1:Hp}{st1:Hs}{ρ:bA}{σ:St}{D:Ends}(S1:bo X.K m1 st1 H1)(R:av X.K m1 H1 ρ σ)(p1:aK X m1 H1 (kL i gb (cZ lo n) ρ st1) D) :
  ∃W:Nat->Nat->St->Hp->Prop,(∃m,W 0 m σ H1)/\∀k n' σ H,W k n' σ H->
   ((Lh lo n).stop k H/\D.nx σ H)\/((Lh lo n).go k H/\∃N:St->Hp->Prop,(∀σ' H',N σ' H'->∃m',m' < n'/\W (k+1) m' σ' H')/\∀x H',(Lh lo n).uD k H x H'->uK i x σ H' λσ2 H2=>RN X body { D with nx:=N,ct:=N,bk:=D.nx } σ2 H2) :=
 pM i hb S1 R p1 (λk H m' e hk=>by rw[dQ] at hk;exact hk) (λk H m' e hk=>by rw[dQ] at hk;exact lQ hk.symm) λk hk H x H' m' e y=>by
  obtain⟨y1,y2⟩:=y
  refine⟨y1,?_⟩
  rw[u7,y2]
  exact mkInt
theorem Dy(i:Nat){x:Str}{a:Expr}{body:List Stmt}{ga:GA}{gb:GS}{pos pos' p q:Pos}(hN:X.N.Nodup)(hp:PassesOwn (model X.prog X.w) X.A X.env X.xe)(hc:X.calm=true)(hg:Gl X "range")(hm:X.mg "range"=none)(ha:JA X [a] ga)(hb:mU X body gb)
  (hx:X.N[i]? =some x)(hlo:Loc X.env.scope x)(T4:X.fn x=true\/X.env.scope.names.lookup x=some .local)(hst:aaw [a] X.env=[(false,eval a X.env)]):JS X (.For (.Name x pos') (.Call (.Name "range" p) [a] [] q) body [] pos) (tQ i ga gb):=by
 refine JS.of (sO hp hc (rp hg hm jk hst) (sM hN hx hlo T4) hV (λ_=>rfl)) λρ st σ H m D S R p=>?_
 refine ha.go S R (aK.cS R p) λws st1 vs m1 H1 p1 e1 S1 rs=>?_
 match ws,rs,p1 with
 | [],rs,p1=>exact aa p1
 | x::y::t,rs,p1=>cases x<;>exact aa p1
 | [x],rs,p1=>
  obtain⟨v,rfl,r1⟩:=kJ rs
  cases x with
  | int j=>
   cases bg r1
   have p2:aK X m H (if mY j then kL i gb (cZ 0 j.toNat) ρ st1 else .bad) D:=p1
   by_cases c:mY j
   ·rw[if_pos c] at p2
    exact⟨j,rfl,c.1,c.2,HQ i hb S1 (R.mono e1) (aK.shift p2 e1)⟩
   ·rw[if_neg c] at p2;exact aa p2
  | _=>exact aa p1
theorem HR{pos:Pos}:JS X (.Return none pos) (cY (gC .aL)):=JS.of GR λρ st σ H m D S R p=>p .aL m H Ext.refl S C9
end
abbrev yQ:List aak:=[.type "ValueError",.type "Exception",.type "BaseException",.type "object"]
abbrev yR:String:="ValueError.__new__"
structure HS(K:PySem.W.Frag)(c:PySem.Str)(C:aae):Prop where
 cls:ClsAt K c C
 exc:PySem.W.excIn K C yQ yR=true
theorem iV{K:PySem.W.Frag}{h:Heap}{C:aae}(KX:K.In h)(q:PySem.W.excIn K C yQ yR=true) :
  ∃(bm:List aak)(N:aae)(nm qn:Str)(bs:List aak)(hd:Bool)(sn:List Str)(sub:List aak)(ab:Bool)(col:Option Bool)(dd:Option aae)(k0 k1 k2 k3 k5:Option aak)(mN:Str->Option aak),
   h.get? C=some (excClassObj nm qn C N bs bm hd sn sub ab col dd k0 k1 k2 k3 k5 yR)/\h.Ns N mN/\mN "__init__"=none/\OwnTail h yQ bm/\(∀v r,PySem.W.mroIn K C v=some r->(aU C::bm).contains v=r):=by
 unfold PySem.W.excIn at q
 split at q
 ·rename_i dd cd sl lk
  split at q
  ·rename_i C1 bm k0 k1 k2 k3 n1 k5 em es
   simp only[dC,beq_iff_eq,Bool.not_eq_true'] at q
   obtain⟨⟨⟨⟨⟨q1,q2⟩,q3⟩,q4⟩,q5⟩,q6⟩:=q
   subst q1 q2
   obtain⟨nm,bs,mro,N,qn,hd,sn,sub,ab,col,del⟩:=cd
   dsimp only at em q3 q5 q6
   subst em q3
   have XG:sl=#[k0,k1,k2,k3,some (.builtin yR),k5]:=by
    cases sl with
    | mk l=>exact congrArg Array.mk es
   subst XG
   refine⟨bm,N,nm,qn,bs,hd,sn,sub,ab,col,dd,k0,k1,k2,k3,k5,_,KX _ _ lk,.of_isNs (PySem.W.isNs_of_in KX q5),PySem.W.nsMap_none_of_in KX q5 q6,PySem.W.tail_of_in KX q4,λv r e=>?_⟩
   unfold PySem.W.mroIn PySem.W.clsIn at e
   rw[lk] at e
   first
    | exact Option.some.inj e
    | (simp at e;exact e)
  ·cases q
 ·cases q
section
variable {X:Cx}
def pP(c:PySem.Str)(ga:GA):GS:=λρ st=>(ga ρ st).bx ρ λws st1=>if ws.length<=lim then .err c ρ st1 else .bad
theorem Dz{c:Str}{C:aae}{e:Expr}{es:List Expr}{ga:GA}{np cpos pos:Pos}(hc:X.calm=true)(O:HS X.K c C)(hg:Gl X c)(hm:X.mg c=some (.ref C))(ha:JA X (e::es) ga)(hd:(c == ("__debug__":Str))=false)
  (he:aaw (e::es) X.env=(false,eval e X.env)::aaw es X.env)(hpl:(backTo cpos (aaw es X.env)).any (·.1)=false):JS X (.Raise (some (.Call (.Name c np) (e::es) [] cpos)) none pos) (pP c ga):=by
 intro ρ st σ H m D S R p pins s I
 have args:=ha.go (T:=λvs H1=>∃ws st1 m1,aK X m H (if ws.length<=lim then .err c ρ st1 else .bad) D/\Ext X.K m H m1 H1/\bo X.K m1 st1 H1/\ag X.K m1 H1 ws vs) S R (aK.cS R p)
  λws st1 vs m1 H1 p1 e1 S1 rs=>⟨ws,st1,m1,p1,e1,S1,rs⟩
 obtain⟨bm,N,nm,qn,bs,OA,sn,sub,ab,col,dd,k0,k1,k2,k3,k5,mN,hC,hN,hni,T,_⟩:=iV I.ok.mod.B_ O.exc
 refine wpAny_Raise_call_subU (C:=C) (nm:=nm) (q:=qn) (N:=N) (bs:=bs) (bm:=bm) (hdct:=OA) (sn:=sn) (sub:=sub) (ab:=ab) (col:=col) (dd:=dd) (k0:=k0) (k1:=k1) (k2:=k2) (k3:=k3) (k5:=k5) (bmB:=yQ)
  F.excBase_ValueError (by decide) F.excBase_ValueError (mN:=mN) (T.hasType F.excBase_ValueError.hasBase) (I.ok.hd hc) ?_ hni (lM I hg hm ⟨rfl,?_⟩ hd)
 ·rw[he]
  show(false||(backTo cpos (aaw es X.env)).any (·.1))=false
  rw[hpl]
  rfl
 ·have go:=args cpos pins s I
  rw[he] at go ⊢
  refine mS (bx go λus s1 ⟨vs,H1,I1,r,ws,st1,m1,p1,e1,S1,rs⟩=>?_)
  by_cases cl:ws.length<=lim
  ·rw[if_pos cl] at p1
   refine⟨rfl,by rw[<-r.length,<-rs.length];exact fA cl,I1.bk _ _ hC,hN.keeps I1.bk,T.keeps I1.bk,λh2 a M=>?_⟩
   exact p1 σ m1 H1 _ _ e1 S1 (R.mono e1) ⟨C,pins,H1,s1,O.cls,I1,.inr ⟨rfl,a,us,rfl,rfl,rfl,M⟩⟩
  ·rw[if_neg cl] at p1;exact aa p1
end
structure ll(K:PySem.W.Frag)(C:aae):Prop where
 exc:PySem.W.excIn K C yQ yR=true
 ga:PySem.W.findIn K (.ref C) "__getattribute__"=some (some (.builtin "BaseException.__getattribute__"))
 gx:PySem.W.findIn K (.ref C) "__getattr__"=some none
 cl:PySem.W.findIn K (.ref C) "__class__"=some (some (.builtin "object.__class__"))
section
variable {prog:aai} {w:aal} {A:aaf} {E:aak->aaj->Prop} {h:Heap} {g:Array GenState} {d:Drawn} {t:Nat} {os:OsState} {a C:aae} {o:Obj} {K:PySem.W.Frag}
theorem Mz{R:Result->aaj->Prop}(Y:K.In h)(Z:ll K C)(ha:h.get? a=some o)(hc:o.cls= .ref C)(k:R (.ok (.ret (.ref C))) ⟨h,g,d,t,os⟩) :
  aap (model prog w) A (.call (.builtin "getset_descriptor.__get__") ⟨[.builtin "object.__class__",.ref a,.ref C],[]⟩) R ⟨h,g,d,t,os⟩:=by
 obtain⟨bm,N,nm,qn,bs,OA,sn,sub,ab,col,dd,k0,k1,k2,k3,k5,mN,hC,hN,hni,T,_⟩:=iV Y Z.exc
 have ty:(⟨h,g,d,t,os⟩:aaj).TypeIs (.builtin "object.__class__") "getset_descriptor":=DA
 have own:(aU C::bm).contains (.type (".".intercalate ("object.__class__".cutAt '.').dropLast))=true:=by
  rw[F.owner_object_class,xu,T.hasType (X:="object") (b:=true) (by decide)];rfl
 refine codeAny_call_builtin F.slot_gs_get.plain F.entry_gs_get (F.slot_gs_get.check _ _ _ _ _ _ _ _ ty (F.args_gs_get _ _ _) ?_)
 repeat (any_goals (first | assumption | (with_reducible refine wpAny_loadPart_at ha ?_;rw[hc]) | (with_reducible refine wpAny_isSubtype_exc hC ?_;rw[own]) | wp_step))
 refine⟨Code.quiet_builtin _ (by decide+kernel),codeAny_builtin F.entry_object_class ?_⟩
 repeat (any_goals (first | assumption | (with_reducible refine wpAny_loadPart_at ha ?_;rw[hc]) | wp_step))
theorem DB{tk:Tok}{Q:Fin->aaj->Prop}(Y:K.In h)(Z:ll K C)(ha:h.get? a=some o)(hc:o.cls= .ref C)(k:Q (.done (.ret (.ref C))) ⟨h,g,d,t,os⟩) :
  aax (model prog w) A (Builtin.«object.__getattribute__» ⟨[.ref a,.str "__class__" tk],[]⟩) Q E ⟨h,g,d,t,os⟩:=by
 have ty:(⟨h,g,d,t,os⟩:aaj).TypeIs (.builtin "object.__class__") "getset_descriptor":=DA
 have t1:=DA
 have t2:=F.slot_gs_get.lookup
 have t3:=F.slot_gs_set.lookup
 have L:=PySem.W.looks_findIn (M:=model prog w) Y Z.cl
 repeat (any_goals (first | assumption | (with_reducible refine wpAny_loadPart_at ha ?_;rw[hc]) | with_reducible refine L.at ?_ | wp_step))
 refine Mz Y Z ha hc ?_
 repeat (any_goals (first | assumption | wp_step))
theorem DC{M:Model}{nv:aak}{Q:Unit->aaj->Prop}(Y:K.In h)(Z:ll K C)(ha:h.get? a=some o)(hc:o.cls= .ref C)(k:Q () ⟨h,g,d,t,os⟩) :
  aax M A (checkBuiltinCall "BaseException.__getattribute__" ⟨[.ref a,nv],[]⟩) Q E ⟨h,g,d,t,os⟩:=by
 obtain⟨bm,N,nm,qn,bs,OA,sn,sub,ab,col,dd,k0,k1,k2,k3,k5,mN,hC,hN,hni,T,_⟩:=iV Y Z.exc
 have u1:builtinKind "BaseException.__getattribute__"=some .slot:=by decide+kernel
 have u2:splitId "BaseException.__getattribute__"=some ("BaseException","__getattribute__"):=by decide+kernel
 have u3:(aU C::bm).contains (.type "BaseException")=true:=by rw[xu,T.hasType (X:="BaseException") (b:=true) (by decide)];rfl
 have u4:=F.args_bexc_ga (.ref a) nv
 simp only[checkBuiltinCall,u1,u2]
 refine aay ?_
 unfold isInstance
 repeat (first | (with_reducible refine wpAny_loadPart_at ha ?_;rw[hc]) | (with_reducible refine wpAny_isSubtype_exc hC ?_;rw[u3]) | wp_step)
 exact k
theorem P5{tk:Tok}{Q:aak->aaj->Prop}(Y:K.In h)(Z:ll K C)(ha:h.get? a=some o)(hc:o.cls= .ref C)(k:Q (.ref C) ⟨h,g,d,t,os⟩) :
  aax (model prog w) A (getAttrBy (.ref a) (.str "__class__" tk) false) Q E ⟨h,g,d,t,os⟩:=by
 have v1:=F.excAttr_ValueError.ga.bind (.ref a)
 have v2:(j8 "BaseException.__getattribute__" == j8 "object.__getattribute__")=false:=by decide+kernel
 have v3:(onTheHeap (aU C)&&j8 "BaseException.__getattribute__" == j8 "object.__getattribute__")=false:=by rw[v2];rfl
 have v4:(false&&onTheHeap (j8 "BaseException.__getattribute__"))=false:=rfl
 have L1:=PySem.W.looks_findIn (M:=model prog w) Y Z.ga
 have L2:=PySem.W.looks_findIn (M:=model prog w) Y Z.gx
 repeat (any_goals (first | assumption | (with_reducible refine wpAny_loadPart_at ha ?_;rw[hc]) | with_reducible refine L1.at ?_ | with_reducible refine L2.at ?_ | wp_step))
 refine codeAny_call_builtin F.excAttr_ValueError.ga.plain F.entry_bexc_ga (DC Y Z ha hc (DB Y Z ha hc ?_))
 repeat (any_goals (first | assumption | wp_step))
theorem HU{Q:Option aak->aaj->Prop}(Y:K.In h)(Z:ll K C)(ha:h.get? a=some o)(hc:o.cls= .ref C)(k:Q (some (.ref C)) ⟨h,g,d,t+1,os⟩) :
  aax (model prog w) A (getAttr? (.ref a) "__class__") Q E ⟨h,g,d,t,os⟩:=by
 unfold getAttr? getAttrBy?
 repeat (any_goals (first | assumption | with_reducible apply P5 Y Z ha hc | wp_step))
end
structure T5(X:Cx):Prop where
 st:X.stack=X.env::X.outer
 fr:X.env.frame=some X.env.locals
 ex:X.ex=[]
theorem AR{P:aai}{w:aal}{H:Hp}{h:Heap}{a:aae}{o:HO}(x:c9 P w H h a o):∃u,h.get? a=some u:=by
 cases o with
 | lst xs=>obtain⟨_,_,_,_,e⟩:=x;exact⟨_,e⟩
 | tup xs=>obtain⟨_,_,_,⟨ob,e,_⟩,_⟩:=x;exact⟨_,e⟩
 | dK kvs=>obtain⟨_,_,_,_,ob,_,_,e,_⟩:=x;exact⟨_,e⟩
 | dT kvs=>obtain⟨_,_,_,_,ob,_,_,e,_⟩:=x;exact⟨_,e⟩
 | set S n=>obtain⟨ob,_,_,_,e,_⟩:=x;exact⟨_,e⟩
 | ins C dx fs=>obtain⟨_,_,_,e,_⟩:=x;exact⟨_,e⟩
 | own y=>exact x
 | xd fs=>obtain⟨_,⟨_,_,_,e,_⟩,_⟩:=x;exact⟨_,e⟩
 | RD lo hi=>obtain⟨_,_,_,e⟩:=x;exact⟨_,e⟩
 | fb ob u=>obtain⟨e,_⟩:=x;exact⟨_,e⟩
 | jr ps=>exact⟨_,x⟩
 | met f y=>exact⟨_,x⟩
 | ext φ=>exact x.2.1
def MA(X:Cx)(a:aae):Prop:=X.s₀.heap.get? a=none/\(∀xs,X.H₀ a≠some (.tup xs))/\(∀o u,X.H₀ a≠some (.fb o u))/\∀ps,X.H₀ a≠some (.jr ps)
def AS(o:Obj):Prop:=∃vs,o.data= .fields vs/\vs[2]? =some bG
section
variable {X:Cx} {pins:List (aae×Obj)} {σ:St} {Hc H':Hp} {sc s':aaj} {B h2:Heap} {a C:aae} {a0:aak} {ch:List aae}
theorem j9(I:Inv X pins σ Hc sc)(os:s'.os=sc.os)(bare:AllBare s'.gens)(hch:∀b∈ch,dj X pins Hc b)(un:Un (frs X.stack) ch Hc H' sc.heap s'.heap)(hok:jh X.prog X.w H' B)(fl:tu B X.stack a (.ref C) a0 h2)(up:s'.heap.UpToSlots h2)
  (uV:∀b o,sc.heap.get? b=some o->b∉frs X.stack->b∉ch->∃o',B.get? b=some o'/\(Hc b=none->o'=o)){tk:Nat} :
  (∃o,AS o/\Inv X pins σ (upd H' a (.fb o (.ext (jB a C)))) { s' with heap:=h2,toks:=tk })/\H' a=none/\(X.ex=[]->MA X a):=by
 have stay:=fl.1
 obtain⟨oe,vs,RQ,hcl,hda,XH⟩:=fl.first
 have XI:jB a C h2:=⟨oe,RQ,hcl,vs,hda⟩
 have ha:H' a=none:=by
  cases q:H' a with
  | none=>rfl
  | some u=>
   obtain⟨z,e⟩:=AR (hok a u q)
   rw[fl.2.1] at e
   cases e
 have XJ:a∉frs X.stack:=λz=>by
  obtain⟨_,o1,e1,d1⟩:=fl.2.2.1.mem z
  rw[RQ] at e1
  cases e1
  exact d1 vs hda
 have KS:∀b∈frs X.stack,b∉ch:=λb hb z=>by
  rcases List.mem_cons.mp (I.jx b hb) with q | q
  ·exact(hch b z).2.1 q
  ·exact(hch b z).2.2.1 q
 have new:a∉ch->∀o,sc.heap.get? a≠some o:=λhx o e=>by
  obtain⟨o1,e1,_⟩:=uV a o e XJ hx
  rw[fl.2.1] at e1
  cases e1
 have ne:∀b u,H' b=some u->b≠a:=λb u e=>bH e ha
 have sl:∀b o,sc.heap.get? b=some o->Hc b=none->b∈frs X.stack->∃sl,h2.get? b=some { o with slots:=sl }:=λb o e n hb=>by
  obtain⟨s1,e1⟩:=un.slot b o e n hb (KS b hb)
  obtain⟨_,o1,e2,d1⟩:=I.stack.mem hb
  rw[e] at e2
  cases e2
  obtain⟨s2,e3⟩:=up b _ e1 d1
  exact⟨s2,e3⟩
 refine⟨⟨oe,⟨vs,hda,XH⟩,?_⟩,ha,λhex=>?_⟩
 rotate_left
 ·refine⟨?_,λxs q=>?_,λo u q=>?_,λps q=>?_⟩
  rotate_left
  ·have z:=un.tups _ _ (I.base.tups _ _ q)
   rw[ha] at z;cases z
  ·have z:=un.jo _ _ _ (I.base.jo _ _ _ q)
   rw[ha] at z;cases z
  ·obtain⟨_,z⟩:=I.base.kF _ _ q
   obtain⟨_,z⟩:=un.kF _ _ z
   rw[ha] at z;cases z
  cases q:X.s₀.heap.get? a with
  | none=>rfl
  | some o0=>
   obtain⟨o1,q1⟩:=I.base.there a o0 q (by rw[hex];simp)
   refine absurd q1 (new (λz=>?_) o1)
   rcases(hch a z).2.2.2.1 with y | y
   ·rw[hex] at y;cases y
   ·exact absurd (bN (aE q) y) (eK _)
 refine I.rl (s':={ s' with heap:=h2,toks:=tk }) (ch:=ch) os ?_ ?_ bare (λb z=>⟨(hch b z).2.2.2.1,(hch b z).2.1,(hch b z).2.2.2.2.1,(hch b z).2.2.2.2.2⟩)
 ·refine⟨λb o e n hb hx=>?_,λb o e n hb _=>sl b o e n hb,λb o e n hx=>?_,λb o e hx=>?_,λb xs h=>?_,λb o u h=>?_,λb ps h=>?_⟩
  ·obtain⟨o1,e1,e2⟩:=uV b o e hb hx
   rw[e2 n] at e1
   exact stay b o e1
  ·have ba:b≠a:=λz=>by subst z;exact new hx o e
   rw[aw ba]
   exact un.free b o e n hx
  ·by_cases hb:b∈frs X.stack
   ·obtain⟨s2,e2⟩:=sl b o e (I.jZ b hb) hb
    exact⟨_,e2⟩
   ·obtain⟨o1,e1,_⟩:=uV b o e hb hx
    exact⟨o1,stay b o1 e1⟩
  ·have q:=un.tups b xs h
   rw[aw (ne b _ q)]
   exact q
  ·have q:=un.jo b o u h
   rw[aw (ne b _ q)]
   exact q
  ·obtain⟨m1,q⟩:=un.kF b ps h
   refine⟨m1,?_⟩
   rw[aw (ne b _ q)]
   exact q
 ·intro b u e
  by_cases hb:b=a
  ·subst hb
   rw[aI] at e
   cases e
   exact⟨RQ,XI,⟨oe,RQ⟩,λh3 h4 p k=>let ⟨o1,q1,q2,q3⟩:=p;⟨o1,k o1 q1,q2,q3⟩⟩
  ·rw[aw hb] at e
   exact(hok b u e).stay (λc v _ q=>stay c v q) (λc q=>by rw[aw (ne c _ q)];exact q) λc xs q=>by rw[aw (ne c _ q)];exact q
end
theorem AU{M:Model}{A:aaf}{E:aak->aaj->Prop}{s:aaj}{K:PySem.W.Frag}{a C D:aae}{o:Obj}{b:Bool}{Q:Bool->aaj->Prop}(Y:K.In s.heap)(ZC:PySem.W.excIn K C yQ yR=true)(ZD:PySem.W.excIn K D yQ yR=true)
  (hm:PySem.W.mroIn K C (.ref D)=some b)(ha:s.heap.get? a=some o)(hc:o.cls= .ref C)(k:Q b s):aax M A (excMatches (.ref a) (.ref D)) Q E s:=by
 obtain⟨h,g,d,t,os⟩:=s
 obtain⟨bm,N,nm,qn,bs,OA,sn,sub,ab,col,dd,k0,k1,k2,k3,k5,mN,hC,hN,hni,T,mr⟩:=iV Y ZC
 obtain⟨bm',N',ZL,ZM,bs',XM,sn',sub',ZN,col',Hn,ZO,ZP,ZQ,ZR,ZS,ZT,hD,ZU,XN,T',ZV⟩:=iV Y ZD
 have e1:(aU C::bm).contains (.ref D)=b:=mr _ _ hm
 have e2:(aU D::bm').contains (.type "BaseException")=true:=by rw[xu,T'.hasType (X:="BaseException") (b:=true) (by decide)];rfl
 have f:=tc_notTuple
 unfold excMatches
 repeat (first | (with_reducible refine wpAny_loadPart_at ha ?_;rw[hc]) | with_reducible refine wpAny_loadPart_at hD ?_ | (with_reducible refine wpAny_isSubtype_exc hD ?_;rw[e2]) | (with_reducible refine wpAny_isSubtype_exc hC ?_;rw[e1]) | wp_step)
 cases b<;>(wp_walk;exact k)
theorem u9{K:PySem.W.Frag}{a C:aae}(Z:ll K C):PySem.W.KitX K (.ref a) (.ref C) (jB a C) where
 ty:=λM h _ p=>by
  obtain⟨o,h1,h2,_⟩:=p
  rw[<-h2]
  exact(PySem.W.Looks.ld h1).andThen .now
 it:=λM h Y _=>by
  obtain⟨bm,N,nm,qn,bs,OA,sn,sub,ab,col,dd,k0,k1,k2,k3,k5,mN,hC,_⟩:=iV Y Z.exc
  intro A' Q' E' s' k q
  unfold isType loadHead
  exact aay (wpAny_loadPart (k _ _ hC) (aaE q))
 ne:=λh tp dd its n sl Y e=>by
  obtain⟨bm,N,nm,qn,bs,OA,sn,sub,ab,col,Hn,k0,k1,k2,k3,k5,mN,hC,_⟩:=iV Y Z.exc
  refine Bool.eq_false_iff.mpr λq=>?_
  have z:C=tp:=Value.ref.inj (beq_iff_eq.mp q)
  subst z
  rw[hC] at e
  have z2:hJ "type"=hJ "tuple":=congrArg Obj.cls (Option.some.inj e)
  exact absurd z2 (by decide)
 ca:=λ{prog w A E Q s} Y p k=>by
  obtain⟨o,h1,h2,_⟩:=p
  obtain⟨h,g,d,t,os⟩:=s
  exact HU Y Z h1 h2 k
abbrev Tab:=List ((PySem.Str×PySem.Str)×Bool)
abbrev u_:=List ((PySem.Str×String)×Bool)
structure TabOk(K:PySem.W.Frag)(tb:Tab)(tt:u_)(tc:Tab):Prop where
 own:∀c d b C D,tb.lookup (c,d)=some b->ClsAt K c C->ClsAt K d D->ll K C/\PySem.W.kitOne K (.ref C) (.ref D)=some b
 cat:∀c d b C D,tc.lookup (c,d)=some b->ClsAt K c C->ClsAt K d D->PySem.W.excIn K C yQ yR=true/\PySem.W.excIn K D yQ yR=true/\PySem.W.mroIn K C (.ref D)=some b
 typ:∀c T b C,tt.lookup (c,T)=some b->ClsAt K c C->ll K C/\PySem.W.kitOne K (.ref C) (.type T)=some b
def mZ(tb:Tab)(c:PySem.Str):List Wv->Option Bool
 | []=>some false
 | .cls d::r=>(match tb.lookup (c,d) with
  | some true=>some true
  | some false=>mZ tb c r
  | none=>none)
 | _=>none
theorem rM{K:PySem.W.Frag}{m:Mp}{H:Hp}{tb:Tab}{tt:u_}{tc:Tab}(O:TabOk K tb tt tc){c:PySem.Str}{C:aae}(hC:ClsAt K c C):∀{ds:List Wv}{vs:List V}{its:List aak}{b:Bool},ag K m H ds vs->Vals vs its->mZ tb c ds=some b->PySem.W.kitAny K (.ref C) its=some b
 | [],vs,its,b,r,v,e=>by
  unfold ag at r
  subst r
  cases v
  cases e
  rfl
 | w::ds,vs,its,b,r,v,e=>by
  unfold ag at r
  obtain⟨x,t,rfl,r1,r2⟩:=r
  cases v with
  | cons h1 h2=>
   cases w with
   | cls d=>
    unfold ai at r1
    obtain⟨D,rfl,hD⟩:=r1
    cases h1
    unfold mZ at e
    unfold PySem.W.kitAny
    cases q:tb.lookup (c,d) with
    | none=>rw[q] at e;cases e
    | some k=>
     rw[q] at e
     obtain⟨_,z3⟩:=O.own c d k C D q hC hD
     rw[z3]
     cases k with
     | true=>cases e;rfl
     | false=>exact rM O hC r2 h2 e
   | _=>cases e
def gO(tb:Tab)(tt:u_):List Wv->Hs->Re Wv
 | [.kI c,.cls d],st=>(match tb.lookup (c,d) with | some b=> .ok (.bl b) st | none=> .bad)
 | [.kI c,.ty T],st=>(match tt.lookup (c,T) with | some b=> .ok (.bl b) st | none=> .bad)
 | [.kI c,.tup (.cls d::ds)],st=>(match mZ tb c (.cls d::ds) with | some b=> .ok (.bl b) st | none=> .bad)
 | ws,st=>Mr ws st
section
variable {X:Cx}
theorem DD:dM X (.builtin "isinstance") (λvs H Q=>∃a C v c b,vs=[.ref a,v]/\RM a C (H a)/\ll X.K C/\RelV v c/\PySem.W.kitOne X.K (.ref C) c=some b/\Q (.bl b) H):=by
 intro pins s σ H xs us Q I r h
 obtain⟨a,C,v,c,b,rfl,ha,Z,rc,e,q⟩:=h
 obtain⟨u,u',rfl,r1,r2⟩:=vals2 r
 cases r1
 have uc:u'=c:=by
  cases v with
  | int i=>obtain⟨t,rfl⟩:=rc;cases e
  | str i=>obtain⟨t,rfl⟩:=rc;cases e
  | Om i=>obtain⟨t,rfl⟩:=rc;cases e
  | JD i=>obtain⟨t,rfl⟩:=rc;cases e
  | aL=>cases rc;cases r2;rfl
  | bl i=>cases rc;cases r2;rfl
  | ref i=>cases rc;cases r2;rfl
  | ty i=>cases rc;cases r2;rfl
 subst uc
 exact PySem.W.kia_one (u9 Z) I.wV (JN I.hok ha) e (by intro z;cases z) λtk=>⟨.bl b,H,I.tok tk,rfl,q⟩
theorem AV:dM X (.builtin "isinstance") (λvs H Q=>∃a C p xs b,vs=[.ref a,.ref p]/\RM a C (H a)/\ll X.K C/\fm X.K H p xs/\(∀its,Vals xs its->PySem.W.kitAny X.K (.ref C) its=some b)/\Q (.bl b) H):=by
 intro pins s σ H xs us Q I r h
 obtain⟨a,C,p,ys,b,rfl,ha,Z,hT,e,q⟩:=h
 obtain⟨u,u',rfl,r1,r2⟩:=vals2 r
 cases r1
 cases r2
 obtain⟨its,rv,⟨o,g1,g2,n,g3⟩,z⟩:=I.tuple hT
 obtain⟨oc,od,ZW,osl⟩:=o
 cases g2
 cases g3
 exact PySem.W.kia_tup (u9 Z) I.wV (JN I.hok ha) g1 (e its rv) (by intro z;cases z) λtk=>⟨.bl b,H,I.tok tk,rfl,q⟩
theorem MB{tb:Tab}{tt:u_}{tc:Tab}(O:TabOk X.K tb tt tc):cU X (.builtin "isinstance") (gO tb tt):=by
 obtain⟨r,h1,h2⟩:=Ms (X:=X)
 refine⟨_,DD.or (AV.or h1),λws vs st H m Q S rs p=>?_⟩
 unfold gO at p
 split at p
 ·rename_i _ c d
  cases e:tb.lookup (c,d) with
  | none=>rw[e] at p;exact aa p
  | some b=>
   rw[e] at p
   obtain⟨v,v',rfl,r1,r2⟩:=AK rs
   unfold ai at r1 r2
   obtain⟨a,C,rfl,hC,ha⟩:=r1
   obtain⟨D,rfl,hD⟩:=r2
   obtain⟨z1,z3⟩:=O.own c d b C D e hC hD
   exact .inl ⟨a,C,.ref D,.ref D,b,rfl,ha,z1,rfl,z3,p _ m H Ext.refl S iJ⟩
 ·rename_i _ c T
  cases e:tt.lookup (c,T) with
  | none=>rw[e] at p;exact aa p
  | some b=>
   rw[e] at p
   obtain⟨v,v',rfl,r1,r2⟩:=AK rs
   unfold ai at r1 r2
   obtain⟨a,C,rfl,hC,ha⟩:=r1
   subst r2
   obtain⟨z1,z3⟩:=O.typ c T b C e hC
   exact .inl ⟨a,C,.ty T,.type T,b,rfl,ha,z1,rfl,z3,p _ m H Ext.refl S iJ⟩
 ·rename_i _ c d ds
  cases e:mZ tb c (.cls d::ds) with
  | none=>rw[e] at p;exact aa p
  | some b=>
   rw[e] at p
   obtain⟨v,v',rfl,r1,r2⟩:=AK rs
   unfold ai at r1
   obtain⟨a,C,rfl,hC,ha⟩:=r1
   have r2':=r2
   unfold ai at r2'
   obtain⟨t,xs,rfl,hT,rx⟩:=r2'
   have Z:ll X.K C:=by
    have mX:=rx
    unfold ag at mX
    obtain⟨x,r,_,rd,_⟩:=mX
    unfold ai at rd
    obtain⟨D,_,hD⟩:=rd
    unfold mZ at e
    cases q:tb.lookup (c,d) with
    | none=>rw[q] at e;cases e
    | some k=>exact(O.own c d k C D q hC hD).1
   exact .inr (.inl ⟨a,C,t,xs,b,rfl,ha,Z,fm.of hT,λits hv=>rM O hC rx hv e,p _ m H Ext.refl S iJ⟩)
 ·exact .inr (.inr (h2 ws vs st H m Q S rs p))
end
section
variable {X:Cx} {pins:List (aae×Obj)} {σ:St} {H:Hp} {s:aaj}
abbrev HV(X:Cx)(A':aaf)(cm:Bool)(pn:List (aae×Obj))(E:aak->aaj->Prop):Cx:={ X with A:=A',calm:=cm,pn:=pn,xe:=E }
theorem P6{A':aaf}{cm:Bool}{pn:List (aae×Obj)}{E:aak->aaj->Prop}(ok:X.Ok)(hf:A'.frames=X.A.frames)(hd:cm=true->A'.handled=none):(HV X A' cm pn E).Ok :=
 ⟨ok.mod,ok.kind,ok.glob,ok.blt,ok.above,ok.inj,ok.has,ok.Oq,hd,hf.trans ok.frames,ok.stk,ok.SV,ok.bs,ok.BS,ok.Aj,ok.Ca,ok.kY,ok.GG⟩
theorem DE{A':aaf}{cm:Bool}{E:aak->aaj->Prop}(I:Inv X pins σ H s)(hf:A'.frames=X.A.frames)(hd:cm=true->A'.handled=none):Inv (HV X A' cm (X.pn++pins) E) [] σ H s :=
 ⟨P6 I.ok hf hd,I.os,I.bare,I.base,I.loc,I.cell,I.free,I.hR,λp hp=>I.pin p (by simpa using hp),I.hok,I.len⟩
theorem pQ{A':aaf}{cm:Bool}{E:aak->aaj->Prop}{iE:List (aae×Obj)}(ok:X.Ok)(I:Inv (HV X A' cm (X.pn++pins) E) iE σ H s):Inv X pins σ H s :=
 ⟨ok,I.os,I.bare,I.base,I.loc,I.cell,I.free,I.hR,λp hp=>I.pin p (sL _ hp),I.hok,I.len⟩
abbrev P7(X:Cx)(a:aae)(u:HO)(pn:List (aae×Obj))(E:aak->aaj->Prop):Cx:={ X with A:=X.A.mark (some (.ref a)),calm:=false,pn:=pn,xe:=E,H₀:=upd X.H₀ a u }
theorem MC{a:aae}{o:Obj}{u:HO}{E:aak->aaj->Prop}(I:Inv X pins σ H s)(e:H a=some (.fb o u))(n:X.s₀.heap.get? a=none):Inv (P7 X a (.fb o u) (X.pn++pins) E) [] σ H s:=by
 have k:=I.ok
 have ne:∀b o,X.s₀.heap.get? b=some o->b≠a:=λb o q z=>by rw[z,n] at q;cases q
 have nf:∀b∈X.fs,b≠a:=λb hb=>let ⟨_,o,q,_⟩:=k.kY.mem hb;ne b o q
 have up:∀b,b≠a->upd X.H₀ a (.fb o u) b=X.H₀ b:=λb h=>aw h
 have dn:∀{b:aae}{w:Option HO},upd X.H₀ a (.fb o u) b=w->w≠some (.fb o u)->X.H₀ b=w:=λ{b w} q h=>by
  by_cases z:b=a
  ·rw[z,aI] at q;exact absurd q.symm h
  ·rw[up b z] at q;exact q
 have nn:∀{b:aae},upd X.H₀ a (.fb o u) b=none->X.H₀ b=none:=λq=>dn q (by intro z;cases z)
 refine⟨⟨k.mod,k.kind,k.glob,k.blt,k.above,k.inj,k.has,k.Oq,(λz=>by cases z),k.frames,k.stk,k.SV,λb ob q=>⟨(k.bs b ob q).1,(up b (ne b ob (k.bs b ob q).1)).trans (k.bs b ob q).2⟩,k.BS,k.Aj,k.Ca,k.kY,λb hb=>(up b (nf b hb)).trans (k.GG b hb)⟩,I.os,I.bare,?_,I.loc,I.cell,I.free,I.hR,λp hp=>I.pin p (by simpa using hp),I.hok,I.len⟩
 have g:=I.base
 exact⟨λb ob q h=>g.keep b ob q (nn h),λb ob q h=>g.slot b ob q (nn h),λb ob q h=>g.free b ob q (nn h),g.there,λb xs q=>g.tups b xs (dn q (by intro z;cases z)),λb ob v q=>by
  by_cases z:b=a
  ·subst z
   have q':upd X.H₀ b (.fb o u) b=some (.fb ob v):=q
   rw[aI] at q'
   cases q'
   exact e
  ·exact g.jo b ob v ((up b z).symm.trans q),λb ps q=>g.kF b ps (dn q (by intro z;cases z))⟩
theorem DF{a:aae}{o:Obj}{u:HO}{E:aak->aaj->Prop}{iE:List (aae×Obj)}(ok:X.Ok)(n:MA X a)(I:Inv (P7 X a (.fb o u) (X.pn++pins) E) iE σ H s):Inv X pins σ H s:=by
 have ne:∀b o,X.s₀.heap.get? b=some o->b≠a:=λb o q z=>by rw[z,n.1] at q;cases q
 have up:∀b,b≠a->(P7 X a (.fb o u) (X.pn++pins) E).H₀ b=X.H₀ b:=λb h=>aw h
 have g:=I.base
 exact⟨ok,I.os,I.bare,⟨λb ob q h=>g.keep b ob q ((up b (ne b ob q)).trans h),λb ob q h=>g.slot b ob q ((up b (ne b ob q)).trans h),λb ob q h=>g.free b ob q ((up b (ne b ob q)).trans h),g.there,λb xs q=>g.tups b xs ((up b λz=>n.2.1 xs (z ▸ q)).trans q),λb ob v q=>g.jo b ob v ((up b λz=>n.2.2.1 ob v (z ▸ q)).trans q),λb ps q=>g.kF b ps ((up b λz=>n.2.2.2 ps (z ▸ q)).trans q)⟩,I.loc,I.cell,I.free,I.hR,λp hp=>I.pin p (sL _ hp),I.hok,I.len⟩
def MD(X:Cx):Prop:=X.A.handled=none\/∃a o u,X.A.handled=some (.ref a)/\AS o/\X.H₀ a=some (.fb o u)
def AW(A:aaf)(H:Hp):Prop:=A.handled=none\/∃a o u,A.handled=some (.ref a)/\AS o/\H a=some (.fb o u)
theorem MD.at(h:MD X)(I:Inv X pins σ H s):AW X.A H:=h.imp id λ⟨a,o,u,h1,h2,h3⟩=>⟨a,o,u,h1,h2,I.base.jo _ _ _ h3⟩
theorem P8{A':aaf}{cm:Bool}{E:aak->aaj->Prop}{D:Ends}{f:Flow}(ok:X.Ok)(h:SP (HV X A' cm (X.pn++pins) E) [] D f s):SP X pins D f s:=by
 cases f with
 | next=>obtain⟨σ',H',I,q⟩:=h;exact⟨σ',H',pQ ok I,q⟩
 | brk=>obtain⟨σ',H',I,q⟩:=h;exact⟨σ',H',pQ ok I,q⟩
 | cont=>obtain⟨σ',H',I,q⟩:=h;exact⟨σ',H',pQ ok I,q⟩
 | ret u=>obtain⟨v,σ',H',I,r,q⟩:=h;exact⟨v,σ',H',pQ ok I,r,q⟩
end
theorem rN{X:Cx}{pins:List (aae×Obj)}{σ:St}{H:Hp}{s:aaj}{M:Model}{A:aaf}{E:aak->aaj->Prop}{i:Nat}{n:Str}{pos:Pos}{Q:Unit->aaj->Prop}(I:Inv X pins σ H s)(hN:X.N.Nodup)(hi:X.N[i]? =some n)(hx:X.env.scope.names.lookup n=some .local)
  (k:∀s',Inv X pins (σ.set i none) H s'->Q () s'):aax M A (do bindName X.env n .none;unbindBehindTheSuite X.env n pos) Q E s:=by
 obtain⟨m,ns,lk⟩:=id I.loc
 have pl:(X.env.scope.kind == .class||(X.env.scope.kind == .module&&X.env.locals != X.env.globals))=false:=by rw[I.ok.kind];rfl
 have up:∀b o,X.s₀.heap.get? b=some o->b≠X.env.locals:=λb o e=>old_ne I e
 refine wpAny_nameGoes_keeps hx ns pl λh2 v XO sb=>k _ ?_
 obtain⟨oL,_,_,Wc,_⟩:=id ns
 refine⟨I.ok,I.os,I.bare,⟨λb o e f hb hx=>(sb.2 b (up b o e)).trans (I.base.keep b o e f hb hx),λb o e f hb hx=>?_,I.base.free,λb o e hx=>?_,I.base.tups,I.base.jo,I.base.kF⟩,⟨_,XO,λj y w e1 e2 e3=>?_⟩,λy c e=>?_,I.free,I.hR,λp hp=>?_,λb u e=>?_,by simpa using I.len⟩
 ·obtain⟨sl,e1⟩:=I.base.slot b o e f hb hx
  exact⟨sl,(sb.2 b (up b o e)).trans e1⟩
 ·obtain⟨o1,e1⟩:=I.base.there b o e hx
  exact⟨o1,(sb.2 b (up b o e)).trans e1⟩
 ·have ji:j≠i:=λz=>by
   subst z
   have:j < σ.length:=by have q:=(List.getElem?_eq_some_iff.mp e2).1;simpa using q
   rw[kZ this] at e2
   cases e2
  rw[bE (aW ji)] at e2
  obtain⟨u,r,q⟩:=lk j y w e1 e2 e3
  refine⟨u,r,?_⟩
  rcases q with ⟨q1,q2⟩ | ⟨q1,c,q2,z⟩
  ·have yn:y≠n:=λz=>ji (oW hN e1 (z ▸ hi))
   exact .inl ⟨q1,by simp[yn,q2]⟩
  ·exact .inr ⟨q1,c,q2,z.sameBut sb (I.GH y c q2)⟩
 ·obtain⟨w,z⟩:=I.cell y c e
  exact⟨w,z.sameBut sb (I.GH y c e)⟩
 ·obtain⟨e,f,ne,nf,d⟩:=I.pin p hp
  exact⟨(sb.2 p.1 ne).trans e,f,ne,nf,d⟩
 ·refine(I.hok b u e).stay (λc w hc q=>(sb.2 c λz=>?_).trans q) (λ_ q=>q) λ_ _ q=>q
  have fr:=I.free
  rcases hc with hc | hc
  ·rw[<-z,hc,e] at fr;cases fr
  ·rw[<-z,hc] at fr;cases fr
def AX(cat:PySem.Str->Option Bool)(i:Nat)(gb gs:GS):GS:=λρ st=>match gb ρ st with
 | .err c ρ' st'=>(match cat c with
  | some true=>(match gs (ρ'.set i (some (.kI c))) st' with
   | .nx ρ2 st2=> .nx (ρ2.set i none) st2
   | .rt w st2=> .rt w st2
   | _=> .bad)
  | _=> .bad)
 | r=>r
theorem av.unset{K:PySem.W.Frag}{m:Mp}{H:Hp}{ρ:bA}{σ:St}(R:av K m H ρ σ)(i:Nat):av K m H (ρ.set i none) (σ.set i none):=by
 refine⟨by simp[R.len],λj w e=>?_⟩
 have ji:i≠j:=λz=>by
  subst z
  have:i < ρ.length:=by have q:=(List.getElem?_eq_some_iff.mp e).1;simpa using q
  rw[kZ this] at e
  cases e
 rw[bE ji] at e ⊢
 exact R.get j w e
section
variable {X:Cx}
theorem AY{M:Model}{A:aaf}{E:aak->aaj->Prop}{s:aaj}{base h:Heap}{env:Env}{outer:List Env}{L a:aae}{cls:aak}{args:List aak}{Q:Unit->aaj->Prop}(hfr:A.frames=some (env::outer))(hf:env.frame=some L)
  (st:base.StaysIn h)(fs:h.FunFrames base (env::outer))(mk:tG h s.heap a cls args)(k:∀h' a0,tu base (env::outer) a cls a0 h'->s.heap.UpToSlots h'->Q () { s with heap:=h' }) :
  aax M A (noteFrame (.ref a) env) (λ_ s2=>aax M A (setFlight (.ref a) none) Q E s2) E s:=by
 exact rK hfr hf st fs mk λh1 t hd1 up1=>uS hd1 λh2 BW P4=>k h2 t BW (up1.trans P4)
theorem jC.er{A:aaf}{b:Bool}{E:aak->aaj->Prop}{pins iE:List (aae×Obj)}{H H':Hp}{s s':aaj}{cls e:aak}(f:jC (HV X A b (X.pn++pins) E) iE H s H' cls e s'):jC X pins H s H' cls e s' :=
 let ⟨a,a0,nt,B,ch,e1,e2,e3,hch,r⟩:=f
 ⟨a,a0,nt,B,ch,e1,e2,e3,λb hb=>let ⟨h1,h2,h3,h4,h5,h6⟩:=hch b hb;⟨h1,h2,h3,h4,h5,λp hp=>h6 p (sL _ hp)⟩,r⟩
theorem land{pins:List (aae×Obj)}{σ:St}{Hc H':Hp}{sc s':aaj}{C:aae}{e:aak}{E:aak->aaj->Prop}{Q:Unit->aaj->Prop}(K0:T5 X)(I:Inv X pins σ Hc sc)
  (r:jC X pins Hc sc H' (.ref C) e s'\/(H'=Hc/\∃a args,e= .ref a/\s'.os=sc.os/\s'.gens=sc.gens/\tG sc.heap s'.heap a (.ref C) args))
  (k:∀(a:aae)(a0:aak)(B h5:Heap),e= .ref a->tu B X.stack a (.ref C) a0 h5->(∀h6 tk,tu B X.stack a (.ref C) a0 h6->h5.UpToSlots h6->∃o,AS o/\Inv X pins σ (upd H' a (.fb o (.ext (jB a C)))) { s' with heap:=h6,toks:=tk })->H' a=none->MA X a->Q () { s' with heap:=h5 }) :
  aax (model X.prog X.w) X.A (noteFrame e X.env) (λ_ s2=>aax (model X.prog X.w) X.A (setFlight e none) Q E s2) E s':=by
 have hfr:X.A.frames=some (X.env::X.outer):=by rw[I.ok.frames,K0.st]
 rcases r with ⟨a,a0,nt,B,ch,rfl,os,bare,hch,un,hok,fl,uV⟩ | ⟨rfl,a,args,rfl,ho,hg,M⟩
 ·rw[K0.st] at fl
  refine uX hfr K0.fr fl λh4 XQ T6=>?_
  refine uS XQ λh5 BX ME=>?_
  rw[<-K0.st] at BX
  exact k a a0 B h5 rfl BX (λh6 tk P9 P_=>(j9 I os bare hch un hok P9 ((T6.trans ME).trans P_) uV).1) (j9 (tk:=0) I os bare hch un hok BX (T6.trans ME) uV).2.1 ((j9 (tk:=0) I os bare hch un hok BX (T6.trans ME) uV).2.2 K0.ex)
 ·have fs:sc.heap.FunFrames (PySem.W.hideAll sc.heap (frs X.stack)) (X.env::X.outer):=by
   rw[<-K0.st]
   exact PySem.W.funFrames_hide I.stack λenv he b hb=>List.mem_filterMap.mpr ⟨env,he,hb⟩
  refine AY (base:=PySem.W.hideAll sc.heap (frs X.stack)) hfr K0.fr (λb o q=>PySem.W.of_hideAll _ q) fs M λh5 a0 BX ME=>?_
  rw[<-K0.st] at BX
  have bare:AllBare s'.gens:=by rw[hg];exact I.bare
  have hok:jh X.prog X.w H' (PySem.W.hideAll sc.heap (frs X.stack)):=uZ I.hok I.jZ
  have uV:∀b o,sc.heap.get? b=some o->b∉frs X.stack->b∉([]:List aae)->∃o',(PySem.W.hideAll sc.heap (frs X.stack)).get? b=some o'/\(H' b=none->o'=o):=λb o q hb _=>⟨o,PySem.W.hideAll_get _ q hb,λ_=>rfl⟩
  have nil:∀b∈([]:List aae),dj X pins H' b:=λb z=>by cases z
  exact k a a0 _ h5 rfl BX (λh6 tk P9 P_=>(j9 I ho bare nil (Un.kept M.keeps) hok P9 (ME.trans P_) uV).1) (j9 (tk:=0) I ho bare nil (Un.kept M.keeps) hok BX ME uV).2.1 ((j9 (tk:=0) I ho bare nil (Un.kept M.keeps) hok BX ME uV).2.2 K0.ex)
theorem MF{x n:Str}{D:aae}{i:Nat}{body suite:List Stmt}{b₀:Stmt}{gb gs:GS}{np hp pos:Pos}{tb:Tab}{tt:u_}{tc:Tab}(K0:T5 X)(hN:X.N.Nodup)(hi:X.N[i]? =some n)(hx:X.env.scope.names.lookup n=some .local)(hc:X.calm=true)(O:TabOk X.K tb tt tc)
  (hg:Gl X x)(hm:X.mg x=some (.ref D))(hD:ClsAt X.K x D)(hd:(x == ("__debug__":Str))=false)
  (hb:∀(pn:List (aae×Obj))(E:aak->aaj->Prop),mU (HV X X.A true pn E) body gb)(hs:∀(a:aae)(o:Obj)(u:HO)(pn:List (aae×Obj))(E:aak->aaj->Prop),AS o->mU (P7 X a (.fb o u) pn E) (b₀::suite) gs) :
  JS X (.Try body [.ExceptHandler (some (.Name x np)) (some n) (b₀::suite) hp] [] [] pos) (AX (λc=>tc.lookup (c,x)) i gb gs):=by
 intro ρ st σ H m D' S R p pins s I
 refine wpAny_Try_except ?_
 let hx':aak->aaj->Prop:=λe s1=>aax (model X.prog X.w) X.A (noteFrame e X.env) (λ_ s2=>aax (model X.prog X.w) X.A (setFlight e none) (λ_ s3=>
  aax (model X.prog X.w) X.A (handleBy e X.env [.ExceptHandler (some (.Name x np)) (some n) (b₀::suite) hp]) (SP X pins D') X.xe s3) X.xe s2) X.xe s1
 have hA:X.A.handled=none:=I.ok.hd hc
 have Ib:Inv (HV X X.A true (X.pn++pins) hx') [] σ H s:=DE I rfl λ_=>hA
 have post:aK (HV X X.A true (X.pn++pins) hx') m H (gb ρ st) D':=by
  unfold AX at p
  cases eb:gb ρ st with
  | nx ρ1 st1=>rw[eb] at p;exact p
  | rt w1 st1=>rw[eb] at p;exact p
  | bk ρ1 st1=>rw[eb] at p;exact p
  | ct ρ1 st1=>rw[eb] at p;exact p
  | bad=>rw[eb] at p;exact p
  | err c ρ1 st1=>
   rw[eb] at p
   dsimp only at p
   cases ec:tc.lookup (c,x) with
   | none=>rw[ec] at p;exact aa p
   | some bc=>
    cases bc with
    | false=>rw[ec] at p;exact aa p
    | true=>
     rw[ec] at p
     dsimp only at p
     intro σ1 m1 H1 e s1 e1 S1 R1 rz
     obtain⟨C,iE,Hc,sc,hC,Ic,rz⟩:=rz
     obtain⟨zC,zD,T7⟩:=O.cat c x true C D ec hC hD
     refine land K0 (pQ I.ok Ic) (rz.imp jC.er id) λa a0 B h5 ea BX inv hn hnew=>?_
     subst ea
     obtain⟨ox,_,I5⟩:=inv h5 s1.toks BX (Mv _)
     obtain⟨o5,XR,hc5,_⟩:=(I5.hok a _ aI).2.1
     have Im:=DE (A':=X.A.mark (some (.ref a))) (cm:=false) (E:=λ_ _=>False) I5 rfl (λz=>by cases z)
     refine wpAny_handleBy_cons (codeAny_handlers_test (lM Im hg hm ?_ hd)) (by intro q;cases q)
     refine AU (b:=true) Im.wV zC zD T7 XR hc5 ?_
     refine codeAny_handlers_suite_as ?_
     refine uS BX λh6 P9 P_=>?_
     obtain⟨oy,nx,I6⟩:=inv h6 s1.toks P9 P_
     have e6:Ext X.K m1 H1 m1 (upd H1 a (.fb oy (.ext (jB a C)))):=Ext.upd (.inl hn)
     have S6:bo X.K m1 st1 (upd H1 a (.fb oy (.ext (jB a C)))):=S1.fresh hn
     have rv:ai X.K m1 (upd H1 a (.fb oy (.ext (jB a C)))) (.kI c) (.ref a):=by unfold ai;obtain⟨vs,d1,d2⟩:=nx;exact⟨a,C,rfl,hC,oy,vs,aI,d1,d2⟩
     refine lL (v:=.ref a) I6 hN hi (.inl hx) rfl (λs7 I7=>?_) (.inr hx)
     have OB:=MC (E:=λ_ _=>False) I7 aI hnew.1
     cases es:gs (ρ1.set i (some (.kI c))) st1 with
     | nx ρ2 st2=>
      rw[es] at p
      let D2:Ends:={ nx:=λσ' H'=>D'.nx (σ'.set i none) H',rt:=λ_ _=>False,bk:=λ_ _=>False,ct:=λ_ _=>False }
      have go:=hs a oy (.ext (jB a C)) (X.pn++pins) (λ_ _=>False) nx (ρ1.set i (some (.kI c))) st1 (σ1.set i (some (.ref a))) _ m1 D2 S6 ((R1.mono e6).set i rv) (by
       rw[es]
       exact λσ' m' H' e' S' R'=>p (σ'.set i none) m' H' (e1.trans (e6.trans e')) S' (av.unset R' i)) [] s7 OB
      refine aaB go (λf s8 h8=>?_) λ_ _ z=>z.elim
      cases f with
      | next=>
       obtain⟨σ8,H8,I8,q8⟩:=h8
       exact rN (DF I.ok hnew I8) hN hi hx λs9 I9=>⟨_,H8,I9,q8⟩
      | brk=>obtain⟨_,_,_,q8⟩:=h8;exact q8.elim
      | cont=>obtain⟨_,_,_,q8⟩:=h8;exact q8.elim
      | ret u=>obtain⟨_,_,_,_,_,q8⟩:=h8;exact q8.elim
     | rt w2 st2=>
      rw[es] at p
      let D2:Ends:={ nx:=λ_ _=>False,rt:=D'.rt,bk:=λ_ _=>False,ct:=λ_ _=>False }
      have go:=hs a oy (.ext (jB a C)) (X.pn++pins) (λ_ _=>False) nx (ρ1.set i (some (.kI c))) st1 (σ1.set i (some (.ref a))) _ m1 D2 S6 ((R1.mono e6).set i rv) (by
       rw[es]
       exact λv' m' H' e' S' R'=>p v' m' H' (e1.trans (e6.trans e')) S' R') [] s7 OB
      refine aaB go (λf s8 h8=>?_) λ_ _ z=>z.elim
      cases f with
      | next=>obtain⟨_,_,_,q8⟩:=h8;exact q8.elim
      | brk=>obtain⟨_,_,_,q8⟩:=h8;exact q8.elim
      | cont=>obtain⟨_,_,_,q8⟩:=h8;exact q8.elim
      | ret u=>
       obtain⟨v8,σ8,H8,I8,r8,q8⟩:=h8
       exact rN (DF I.ok hnew I8) hN hi hx λs9 I9=>⟨v8,_,H8,I9,r8,q8⟩
     | bk ρ2 st2=>rw[es] at p;exact aa p
     | ct ρ2 st2=>rw[es] at p;exact aa p
     | err c2 ρ2 st2=>rw[es] at p;exact aa p
     | bad=>rw[es] at p;exact aa p
 refine aaB (hb (X.pn++pins) hx' ρ st σ H m D' S R post [] s Ib) (λf s1 h1=>?_) λe s1 h1=>h1
 have h2:=P8 I.ok h1
 cases f with
 | next=>exact wpAny_execs_nil h2
 | brk=>exact h2
 | cont=>exact h2
 | ret u=>exact h2
end
section
variable {X:Cx}
def Qa:List Wv->Hs->Re Wv
 | [.int i],st=>if i.natAbs.log2 < 1920 then .ok (.str (toString i:String)) st else .bad
 | _,_=> .bad
def iL(o v:Wv)(st:Hs):Re Wv:=match o with
 | .ref l=>(match st[l]? with
  | some (.lst ws)=>if ws.length < lim then .ok .aL (st.set l (.lst (ws++[v]))) else .bad
  | _=> .bad)
 | _=> .bad
def cI(mt:Wv->Wv->Hs->Re Wv)(go ga:GE):GE:=λρ st=>(go ρ st).bind λo st1=>match o with
 | .ref l=>(match aj st1 l with
  | some _=>(ga ρ st1).bind λv st2=>(mt o v st2).ju
  | none=> .bad)
 | _=> .bad
def J3(X:Cx)(id:String)(mt:Wv->Wv->Hs->Re Wv):Prop:=∃r,JK X id r/\∀(o w:Wv)(x v:V)(st:Hs)(H:Hp)(m:Mp)(Q:VK),bo X.K m st H->ai X.K m H o x->ai X.K m H w v->dE X.K m H (mt o w st) Q->r x [v] H Q
theorem tR:J3 X "list.append" iL:=⟨_,Aw,λo w x v st H m Q S ro rw' p=>by
 cases o with
 | ref l=>
  unfold ai at ro
  obtain⟨a,rfl,ha⟩:=ro
  have p':dE X.K m H (match st[l]? with | some (.lst ws)=>if ws.length < lim then .ok .aL (st.set l (.lst (ws++[w]))) else .bad | _=> .bad) Q:=p
  cases e:st[l]? with
  | none=>rw[e] at p';exact aa p'
  | some ob=>
   cases ob with
   | dct kvs=>rw[e] at p';exact aa p'
   | yK kvs=>rw[e] at p';exact aa p'
   | CU kvs=>rw[e] at p';exact aa p'
   | AF kvs=>rw[e] at p';exact aa p'
   | tw ns=>rw[e] at p';exact aa p'
   | lst ws=>
    rw[e] at p'
    dsimp only at p'
    by_cases c:ws.length < lim
    ·rw[if_pos c] at p'
     obtain⟨xs,h1,h2⟩:=S.lV ha e
     have e4:Ext X.K m H m (upd H a (.lst (xs++[v]))):=Ext.upd (.inr ⟨xs,h1⟩)
     exact⟨a,xs,v,rfl,rfl,h1,by rw[<-h2.length];exact pH c,p' _ m _ e4 (S.write ha e (h2.append (ag.cons rw' ag.nil))) C9⟩
    ·rw[if_neg c] at p';exact aa p'
 | _=>exact aa p⟩
theorem oF{x name:Str}{id:String}{e:Expr}{go ga:GE}{p apos cpos:Pos}{mt:Wv->Wv->Hs->Re Wv}(hm:J3 X id mt)(slot:Slot "list" name id)(hty:typeOf (.builtin id)=pure (.type "method_descriptor"))(ho:JE X (.Name x p) go)(ha:JE X e ga)
  (hst:aaw [e] X.env=[(false,eval e X.env)])(hline:(apos.endLine == cpos.line)=true):JE X (.Call (.Attribute (.Name x p) name apos) [e] [] cpos) (cI mt go ga):=by
 obtain⟨r,h1,h2⟩:=hm
 have hfew:((backTo cpos (aaw [e] X.env)).all (λx=> !x.1)&&(backToKw cpos (keywordEach [] X.env)).all (λx=>x.1.isSome)&&decide ([e].length+([]:List Keyword).length+(if([]:List Keyword).isEmpty then 0 else 1) < 30))=true:=by
  rw[hst];rfl
 refine JE.of (yG PySem.F.plainAttrs_list slot hty h1 aG jk rfl hfew hline hst rfl) λρ st σ H m Q S R p=>?_
 refine ho.go S R (ar.bind p) λo st1 v m1 H1 p1 e1 S1 ro=>?_
 cases o with
 | ref l=>
  dsimp only at p1
  cases el:aj st1 l with
  | none=>rw[el] at p1;exact aa p1
  | some RS=>
   rw[el] at p1
   dsimp only at p1
   have J4:=ro
   unfold ai at J4
   obtain⟨a,rfl,hla⟩:=J4
   obtain⟨xs,hq,_⟩:=S1.read hla el
   refine⟨.inl ⟨rfl,xs,hq⟩,?_⟩
   refine(oD ha tI hst).go S1 (R.mono e1) (ok:=λws st2=>ar X σ m H (match ws with | [w]=>(mt (.ref l) w st2).ju | _=> .bad) (BV X.K m H Q)) ?_ λws st2 vs m2 H2 p2 e2 S2 rs=>?_
   ·have p3:=(ar.bind p1).imp e1 (λ_ _ q=>q)
    show ar X σ m1 H1 ((ga ρ st1).bind λx st1=>(ao ρ st1).bind λxs st2=> .ok (x::xs) st2) _
    cases eg:ga ρ st1 with
    | ok w st2=>rw[eg] at p3;exact p3
    | err c st2=>rw[eg] at p3;exact p3
    | bad=>rw[eg] at p3;exact p3
   ·match ws,rs,p2 with
    | [],rs,p2=>exact aa p2
    | [w],rs,p2=>
     obtain⟨v2,rfl,MG⟩:=kJ rs
     exact h2 (.ref l) w (.ref a) v2 st2 H2 m2 Q S2 (ai.mono e2 _ _ ro) MG (dE.shift (ar.ju p2) (e1.trans e2))
    | _::_::_,rs,p2=>exact aa p2
 | _=>exact aa p1
end
section
variable {X:Cx}
def Qb:List Wv->Hs->Re Wv
 | [.str z],st=> .ok (.str z) st
 | ws,st=>Qa ws st
def Qc:List Wv->Hs->Re Wv
 | [.int i,.int j],st=> .ok (.int (if j > i then j else i)) st
 | _,_=> .bad
def Qd:List Wv->Hs->Re Wv
 | [.int i,.int j],st=> .ok (.int (if j < i then j else i)) st
 | _,_=> .bad
theorem MH(hc:X.calm=true):cU X (.builtin "max") Qc:=⟨_,Ap hc,λws vs st H m Q S rs p=>by
 match ws,rs,p with
 | [],rs,p=>exact aa p
 | [x],rs,p=>cases x<;>exact aa p
 | x::y::z::t,rs,p=>cases x<;>cases y<;>exact aa p
 | [x,y],rs,p=>
  obtain⟨v,v',rfl,r1,r2⟩:=AK rs
  cases x with
  | int i=>
   cases y with
   | int j=>cases bg r1;cases bg r2;exact⟨i,j,rfl,p _ m H Ext.refl S mkInt⟩
   | _=>exact aa p
  | _=>cases y<;>exact aa p⟩
theorem MI(hc:X.calm=true):cU X (.builtin "min") Qd:=⟨_,Aq hc,λws vs st H m Q S rs p=>by
 match ws,rs,p with
 | [],rs,p=>exact aa p
 | [x],rs,p=>cases x<;>exact aa p
 | x::y::z::t,rs,p=>cases x<;>cases y<;>exact aa p
 | [x,y],rs,p=>
  obtain⟨v,v',rfl,r1,r2⟩:=AK rs
  cases x with
  | int i=>
   cases y with
   | int j=>cases bg r1;cases bg r2;exact⟨i,j,rfl,p _ m H Ext.refl S mkInt⟩
   | _=>exact aa p
  | _=>cases y<;>exact aa p⟩
def pR:List Nat->List Wv->bA->Option bA
 | [],[],ρ=>some ρ
 | i::is,w::ws,ρ=>pR is ws (ρ.set i (some w))
 | _,_,_=>none
def J5(is:List Nat)(w:Wv)(ρ:bA):Option bA:=match w with
 | .tup ws=>pR is ws ρ
 | _=>none
def T8:List Nat->JG
 | []=>L2.ao
 | i::is=>L2.ae (uK i) (T8 is)
theorem jG{m:Mp}{H:Hp}{Q:St->Hp->Prop}:∀{is:List Nat}{ws:List Wv}{xs:List V}{ρ ρ':bA}{σ:St},ag X.K m H ws xs->av X.K m H ρ σ->pR is ws ρ=some ρ'->(∀σ',av X.K m H ρ' σ'->Q σ' H)->T8 is xs σ H Q
 | [],[],xs,ρ,ρ',σ,r,R,e,k=>by
  unfold ag at r
  subst r
  cases e
  exact⟨rfl,k σ R⟩
 | i::is,w::ws,xs,ρ,ρ',σ,r,R,e,k=>by
  unfold ag at r
  obtain⟨x,rr,rfl,h1,h2⟩:=r
  exact⟨x,rr,rfl,jG (is:=is) h2 (R.set i h1) e k⟩
 | [],_::_,_,_,_,_,_,_,e,_=>by cases e
 | _::_,[],_,_,_,_,_,_,e,_=>by cases e
theorem l7:∀{is:List Nat}{ws:List Wv}{ρ ρ':bA},pR is ws ρ=some ρ'->ws.length=is.length
 | [],[],_,_,_=>rfl
 | _::is,_::ws,_,_,e=>congrArg (· +1) (l7 (is:=is) (ws:=ws) e)
 | [],_::_,_,_,e=>by cases e
 | _::_,[],_,_,e=>by cases e
inductive Slots(X:Cx):List Expr->List Nat->Prop
 | nil:Slots X [] []
 | cons {x:Str} {p:Pos} {i:Nat} {es:List Expr} {is:List Nat}:X.N[i]? =some x->(Loc X.env.scope x/\(X.fn x=true\/X.env.scope.names.lookup x=some .local))->Slots X es is->Slots X (.Name x p::es) (i::is)
theorem iM(hN:X.N.Nodup):∀{es:List Expr}{is:List Nat},Slots X es is->OY X es (T8 is)
 | _,_,.nil=>GU
 | _,_,.cons h1 h2 r=>Cm (sM hN h1 h2.1 h2.2) (iM hN r) rfl
theorem jH:∀{es:List Expr}{is:List Nat},Slots X es is->(assignEach es X.env).length=is.length
 | _,_,.nil=>rfl
 | _,_,.cons _ _ r=>congrArg (· +1) (jH r)
theorem iN:∀{es:List Expr}{is:List Nat},Slots X es is->(assignEach es X.env).findIdx? (·.1)=none
 | _,_,.nil=>rfl
 | _,_,.cons (x:=x) (p:=p) (es:=es) _ _ r=>by
  have q:=iN r
  show List.findIdx? _ ((false,assign (.Name x p) X.env)::assignEach es X.env)=none
  rw[DG]
  simp[q]
def yS(is:List Nat)(g:GE):GS:=λρ st=>(g ρ st).bx ρ λw st'=>match J5 is w ρ with
 | some ρ'=> .nx ρ' st'
 | none=> .bad
theorem HW{es:List Expr}{is:List Nat}{k:Nat}{e:Expr}{g:GE}{pos pos':Pos}(hN:X.N.Nodup)(hc:X.calm=true)(sl:Slots X es is)(h:JE X e g)(hs:swapsWith e (some (.Tuple es k pos')) pos.line X.env=pure false)(hw:swappedStores [.Tuple es k pos'] e X.env=pure none) :
  JS X (.Assign [.Tuple es k pos'] e pos) (yS is g) :=
 JS.of (Cn aG (sN hc (iM hN sl) (jH sl) (iN sl)) (by unfold swapsWithSole;exact hs) hw rfl) λρ st σ H m D S R p=>h.go S R (aK.cS R p) λw st1 v m1 H1 q e1 S1 r1=>by
  cases w with
  | tup ws=>
   have q':aK X m H (match pR is ws ρ with | some ρ'=> .nx ρ' st1 | none=> .bad) D:=q
   cases e2:pR is ws ρ with
   | none=>rw[e2] at q';exact aa q'
   | some ρ'=>
    rw[e2] at q'
    unfold ai at r1
    obtain⟨a,xs,rfl,f1,f2⟩:=r1
    exact⟨a,xs,rfl,fm.of f1,by rw[<-f2.length];exact l7 e2,jG f2 (R.mono e1) e2 λσ' R'=>q' σ' m1 H1 e1 S1 R'⟩
  | _=>exact aa q
open Classical in
def nQ(is:List Nat)(gb:GS)(l:Nat)(all:List Wv):List Wv->bA->Hs->Rs
 | [],ρ,st=> .nx ρ st
 | w::r,ρ,st=>match J5 is w ρ with
  | none=> .bad
  | some ρ1=>match gb ρ1 st with
   | .nx ρ' st'=>if aj st' l=some all then nQ is gb l all r ρ' st' else .bad
   | .ct ρ' st'=>if aj st' l=some all then nQ is gb l all r ρ' st' else .bad
   | .bk ρ' st'=> .nx ρ' st'
   | .rt w st'=> .rt w st'
   | .err c ρ' st'=> .err c ρ' st'
   | .bad=> .bad
def va(is:List Nat)(gi:GE)(gb:GS):GS:=λρ st=>(gi ρ st).bx ρ λw st1=>match w with
 | .ref l=>(match aj st1 l with | some ws=>nQ is gb l ws ws ρ st1 | none=> .bad)
 | _=> .bad
theorem HX{es:List Expr}{is:List Nat}{k:Nat}{iter:Expr}{body:List Stmt}{gi:GE}{gb:GS}{pos pos':Pos}(hN:X.N.Nodup)(hp:PassesOwn (model X.prog X.w) X.A X.env X.xe)(hc:X.calm=true)(sl:Slots X es is)(hi:JE X iter gi)(hb:mU X body gb)
  (hs:∀x,aas iter X.env x=pure x):JS X (.For (.Tuple es k pos') iter body [] pos) (va is gi gb):=by
 refine JS.of (sO hp hc (GV aG) (sN hc (iM hN sl) (jH sl) (iN sl)) hV hs) λρ st σ H m D S R p=>?_
 refine hi.go S R (aK.cS R p) λw st1 v m1 H1 p1 e1 S1 rw'=>?_
 cases w with
 | ref l=>
  have p1':aK X m H (match aj st1 l with | some ws=>nQ is gb l ws ws ρ st1 | none=> .bad) D:=p1
  unfold ai at rw'
  obtain⟨a,rfl,hla⟩:=rw'
  cases el:aj st1 l with
  | none=>rw[el] at p1';exact aa p1'
  | some ws=>
   rw[el] at p1'
   obtain⟨uF,q0,_⟩:=S1.read hla el
   refine⟨a,rfl,⟨uF,q0⟩,?_⟩
   let Pv:Nat->St->Hp->Prop:=λk σ H=>∃ρ st m',Ext X.K m1 H1 m' H/\bo X.K m' st H/\av X.K m' H ρ σ/\aj st l=some ws/\aK X m' H (nQ is gb l ws (ws.drop k) ρ st) D
   refine⟨λk n σ H=>n=ws.length - k/\k<=ws.length/\Pv k σ H,⟨ws.length,by simp,bY _,ρ,st1,m1,Ext.refl,S1,R.mono e1,el,aK.shift p1' e1⟩,?_⟩
   rintro k n σ2 H2 ⟨rfl,hk,ρ2,st2,m2,e2,S2,R2,l2,p2⟩
   obtain⟨xs,hq,rws⟩:=S2.read (e2.pre _ _ hla) l2
   have hlen:=rws.length
   by_cases hlt:k < ws.length
   ·have hx':k < xs.length:=by omega
    refine .inr ⟨⟨xs,xs[k],hq,by simp[hx']⟩,Pv (k+1),λσ' H' p'=>⟨ws.length - (k+1),by omega,rfl,hlt,p'⟩,λx H' y=>?_⟩
    obtain⟨ee,y⟩:=y
    subst ee
    have ey:=y xs hq
    have ed:ws.drop k=ws[k]::ws.drop (k+1):=pN hlt
    obtain⟨x',ex',mX⟩:=rws.get (i:=k) (w:=ws[k]) (bR hlt)
    rw[ey] at ex'
    cases ex'
    rw[ed] at p2
    unfold nQ at p2
    cases eb:ws[k] with
    | tup us=>
     rw[eb] at p2 mX
     dsimp only[J5] at p2
     cases e5:pR is us ρ2 with
     | none=>rw[e5] at p2;exact aa p2
     | some ρ5=>
      rw[e5] at p2
      dsimp only at p2
      unfold ai at mX
      obtain⟨b,ys,rfl,f1,f2⟩:=mX
      refine⟨b,ys,rfl,fm.of f1,by rw[<-f2.length];exact l7 e5,jG f2 R2 e5 λσ5 R5=>?_⟩
      refine hb _ st2 _ _ m2 _ S2 R5 ?_
      cases eg:gb ρ5 st2 with
      | nx ρ3 st3=>
       rw[eg] at p2
       by_cases c:aj st3 l=some ws
       ·simp only[if_pos c] at p2
        exact λσ3 m3 H3 e3 S3 R3=>⟨ρ3,st3,m3,e2.trans e3,S3,R3,c,aK.shift p2 e3⟩
       ·simp only[if_neg c] at p2;exact aa p2
      | ct ρ3 st3=>
       rw[eg] at p2
       by_cases c:aj st3 l=some ws
       ·simp only[if_pos c] at p2
        exact λσ3 m3 H3 e3 S3 R3=>⟨ρ3,st3,m3,e2.trans e3,S3,R3,c,aK.shift p2 e3⟩
       ·simp only[if_neg c] at p2;exact aa p2
      | bk ρ3 st3=>rw[eg] at p2;exact p2
      | rt w3 st3=>rw[eg] at p2;exact p2
      | err c3 ρ3 st3=>rw[eg] at p2;exact p2
      | bad=>rw[eg] at p2;exact p2
    | _=>rw[eb] at p2;exact aa p2
   ·have e:k=ws.length:=by omega
    subst e
    rw[pO] at p2
    exact .inl ⟨⟨xs,hq,by omega⟩,p2 σ2 m2 H2 Ext.refl S2 R2⟩
 | _=>exact aa p1
end
def lJ(env:Env):List (Str×aah)->List (Str×aae)->List (Str×aae)
 | [],acc=>acc
 | (n,k)::r,acc=>if k= .free then lJ env r ((n,(env.cells.lookup n).getD 0)::acc) else lJ env r acc
theorem vb(env:Env):∀(names:List (Str×aah))(acc:List (Str×aae)),(∀y∈names,y.2= .free->∃c,env.cells.lookup y.1=some c)->
  (forIn names acc λx r=>match x with
   | (name,kind)=>if(kind == dZ)=true then do let c <-cellOf env name;pure (lp ((name,c)::r)) else(pure (lp r):Sem _))=pure (lJ env names acc)
 | [],acc,_=>rfl
 | (n,k)::r,acc,h=>by
  have ih:=λacc=>vb env r acc λy hy=>h y (aX _ hy)
  rw[List.forIn_cons]
  by_cases hk:k= .free
  ·subst hk
   obtain⟨c,e⟩:=h (n,.free) bp rfl
   have e':env.cells.lookup n=some c:=e
   have cc:cellOf env n=pure c:=by unfold cellOf;rw[e']
   simp only[beq_self_eq_true,if_true,cc]
   have q:lJ env ((n,.free)::r) acc=lJ env r ((n,c)::acc):=by
    show(if dZ= .free then lJ env r ((n,(env.cells.lookup n).getD 0)::acc) else _)=_
    rw[if_pos rfl,e']
    rfl
   rw[q,<-ih]
   rfl
  ·have hb:(k == dZ)=false:=by simpa using hk
   simp only[hb,yT,if_false]
   have q:lJ env ((n,k)::r) acc=lJ env r acc:=by
    show(if k= .free then _ else lJ env r acc)=_
    rw[if_neg hk]
   rw[q,<-ih]
   rfl
theorem yU{env:Env}{scope:Scope}(h:∀y∈scope.names,y.2= .free->∃c,env.cells.lookup y.1=some c):closureFor scope env=pure (lJ env scope.names []):=by
 have q:=vb env scope.names [] h
 unfold closureFor
 first
  | (rw[<-q];rfl)
  | (simp only[bind_pure];exact q)
theorem tS{env:Env}:∀{names:List (Str×aah)}{acc:List (Str×aae)}{y:Str}{c:aae},(∀y∈names,y.2= .free->∃c,env.cells.lookup y.1=some c)->(∀y c,acc.lookup y=some c->env.cells.lookup y=some c)->(lJ env names acc).lookup y=some c->env.cells.lookup y=some c
 | [],acc,y,c,_,ha,e=>ha y c e
 | (n,k)::r,acc,y,c,h,ha,e=>by
  unfold lJ at e
  by_cases hk:k= .free
  ·rw[if_pos hk] at e
   subst hk
   obtain⟨c0,e0⟩:=h (n,.free) bp rfl
   have XS:env.cells.lookup n=some c0:=e0
   refine tS (λy hy=>h y (aX _ hy)) (λy' c' e'=>?_) e
   rw[jI] at e'
   cases q:y' == n with
   | true=>
    rw[q] at e'
    have q':=eq_of_beq q
    subst q'
    rw[XS] at e' ⊢
    exact e'
   | false=>rw[q] at e';exact ha y' c' e'
  ·rw[if_neg hk] at e
   exact tS (λy hy=>h y (aX _ hy)) ha e
theorem oG{env:Env}{y:Str}:∀{names:List (Str×aah)}{acc:List (Str×aae)},((∃c,acc.lookup y=some c)\/(y,dZ)∈names)->∃c,(lJ env names acc).lookup y=some c
 | [],acc,h=>by
  rcases h with h | h
  ·exact h
  ·cases h
 | (n,k)::r,acc,h=>by
  unfold lJ
  by_cases hk:k= .free
  ·rw[if_pos hk]
   refine oG ?_
   rw[jI]
   cases q:y == n with
   | true=>exact .inl ⟨_,rfl⟩
   | false=>
    rcases h with h | h
    ·exact .inl h
    ·rcases List.mem_cons.mp h with h | h
     ·cases h;simp at q
     ·exact .inr h
  ·rw[if_neg hk]
   refine oG ?_
   rcases h with h | h
   ·exact .inl h
   ·rcases List.mem_cons.mp h with h | h
    ·cases h;exact absurd rfl hk
    ·exact .inr h
theorem lookup_mem{α β:Type}[BEq α][LawfulBEq α]{y:α}{k:β}:∀{names:List (α×β)},names.lookup y=some k->(y,k)∈names
 | [],h=>by cases h
 | (n,j)::r,h=>by
  rw[jI] at h
  cases q:y == n with
  | true=>
   rw[q] at h
   cases h
   have q':=eq_of_beq q
   subst q'
   exact bp
  | false=>rw[q] at h;exact aX _ (lookup_mem h)
theorem pS{env:Env}:∀{names:List (Str×aah)}{y:Str},(names.map λ(n,k)=>if(k == dZ&&env.scope.kind == .function&&env.kindOf n == some .cell) then(n,oH) else(n,k)).lookup y=
  (names.lookup y).map λk=>if(k == dZ&&env.scope.kind == .function&&env.kindOf y == some .cell)=true then oH else k
 | [],y=>rfl
 | (n,k)::r,y=>by
  have ih:=pS (env:=env) (names:=r) (y:=y)
  show List.lookup y ((if(k == dZ&&env.scope.kind == .function&&env.kindOf n == some .cell)=true then(n,oH) else(n,k))::_)=_
  cases q:y == n with
  | true=>
   have q':=eq_of_beq q
   subst q'
   by_cases hc:(k == dZ&&env.scope.kind == .function&&env.kindOf y == some .cell)=true
   ·rw[if_pos hc]
    simp only[jI,beq_self_eq_true,oI]
    rw[if_pos hc]
   ·rw[if_neg hc]
    simp only[jI,beq_self_eq_true,oI]
    rw[if_neg hc]
  | false=>
   by_cases hc:(k == dZ&&env.scope.kind == .function&&env.kindOf n == some .cell)=true
   ·rw[if_pos hc];simp only[jI,q];exact ih
   ·rw[if_neg hc];simp only[jI,q];exact ih
open Classical in
def jJ(ck:Hs->Prop)(gt:Wv->Hs->Re Bool)(ge:Wv->Hs->Re Wv)(l:Nat):List Wv->Hs->Option Hs
 | [],st=>some st
 | w::r,st=>match gt w st with
  | .ok false st1=>if ck st1 then jJ ck gt ge l r st1 else none
  | .ok true st1=>(match ge w st1 with
   | .ok v st2=>(match iL (.ref l) v st2 with
    | .ok _ st3=>if ck st3 then jJ ck gt ge l r st3 else none
    | _=>none)
   | _=>none)
  | _=>none
open Classical in
def nR(ck:Hs->Prop)(gt:Wv->Hs->Re Bool)(ge:Wv->Hs->Re Wv)(l:Nat):List Wv->Hs->Re Unit
 | [],st=> .ok () st
 | w::r,st=>match gt w st with
  | .ok false st1=>if ck st1 then nR ck gt ge l r st1 else .bad
  | .ok true st1=>(match ge w st1 with
   | .ok v st2=>(match iL (.ref l) v st2 with
    | .ok _ st3=>if ck st3 then nR ck gt ge l r st3 else .bad
    | _=> .bad)
   | .err c st2=> .err c st2
   | .bad=> .bad)
  | .err c st1=> .err c st1
  | .bad=> .bad
theorem pT{ck:Hs->Prop}{gt:Wv->Hs->Re Bool}{ge:Wv->Hs->Re Wv}{l:Nat}{mL:Hs}:∀(ws:List Wv)(st:Hs),jJ ck gt ge l ws st=some mL->nR ck gt ge l ws st= .ok () mL
 | [],st,h=>by cases h;rfl
 | w::r,st,h=>by
  unfold jJ at h
  unfold nR
  cases eg:gt w st with
  | err c st1=>rw[eg] at h;cases h
  | bad=>rw[eg] at h;cases h
  | ok b st1=>
   rw[eg] at h
   cases b with
   | false=>
    dsimp only at h ⊢
    by_cases c:ck st1
    ·rw[if_pos c] at h ⊢;exact pT r st1 h
    ·rw[if_neg c] at h;cases h
   | true=>
    dsimp only at h ⊢
    cases ee:ge w st1 with
    | err c st2=>rw[ee] at h;cases h
    | bad=>rw[ee] at h;cases h
    | ok v st2=>
     rw[ee] at h
     dsimp only at h ⊢
     cases ea:iL (.ref l) v st2 with
     | err c st3=>rw[ea] at h;cases h
     | bad=>rw[ea] at h;cases h
     | ok u st3=>
      rw[ea] at h
      dsimp only at h ⊢
      by_cases c:ck st3
      ·rw[if_pos c] at h ⊢;exact pT r st3 h
      ·rw[if_neg c] at h;cases h
abbrev dR:=List (Str×Nat)
def c4(cs:dR)(ρ:bA):bA:=cs.map λp=>(ρ[p.2]?).getD none
def l_(cs:dR)(σ:St):St:=cs.map λp=>(σ[p.2]?).getD none
theorem yV{K:PySem.W.Frag}{m:Mp}{H:Hp}{ρ:bA}{σ:St}(cs:dR)(R:av K m H ρ σ):av K m H (c4 cs ρ) (l_ cs σ):=by
 refine⟨by unfold c4 l_;simp,λi w e=>?_⟩
 unfold c4 at e
 rw[gM] at e
 cases q:cs[i]? with
 | none=>rw[q] at e;cases e
 | some p=>
  rw[q] at e
  have e':(ρ[p.2]?).getD none=some w:=by simpa using e
  cases q2:ρ[p.2]? with
  | none=>rw[q2] at e';cases e'
  | some o=>
   rw[q2] at e'
   have e2:o=some w:=e'
   subst e2
   obtain⟨v,h1,h2⟩:=R.get _ _ q2
   refine⟨v,?_,h2⟩
   unfold l_
   rw[gM,q]
   simp[h1]
def fU(X:Cx)(scope:Scope)(x:Str)(cs:dR)(C:aae)(s0:aaj)(H0:Hp)(fp:List aae)(pn:List (aae×Obj))(E:aak->aaj->Prop):Cx where
 prog:=X.prog
 w:=X.w
 K:=X.K
 mg:=X.mg
 base:=X.base
 A:=X.A
 N:=x::cs.map (·.1)
 s₀:=s0
 H₀:=H0
 env:=compEnvC scope (lJ X.env scope.names []) C X.env
 outer:=X.stack
 stack:=X.stack
 ex:=fp
 fn:=λ_=>false
 calm:=X.calm
 pn:=pn
 xe:=E
structure ez(X:Cx)(scope:Scope)(x:Str)(cs:dR):Prop where
 kind:scope.kind= .function
 look:∀y∈scope.names,scope.names.lookup y.1=some y.2
 cell:∀y∈scope.names,y.2≠.cell
 var:scope.names.lookup x=some .local
 cap:∀y∈scope.names,y.2= .free->X.env.kindOf y.1=some .cell\/X.env.kindOf y.1=some .free
 at_:∀p∈cs,X.N[p.2]? =some p.1/\scope.names.lookup p.1=some .free
 nd:(x::cs.map (·.1)).Nodup
section
variable {X:Cx} {pins:List (aae×Obj)} {σ:St} {H:Hp} {s:aaj} {scope:Scope} {x:Str} {cs:dR}
theorem pU(I:Inv X pins σ H s){b:aae}(f:dj X pins H b):b∉frs X.stack:=λz=>by
 rcases List.mem_cons.mp (I.jx b z) with q | q
 ·exact f.2.1 q
 ·exact f.2.2.1 q
theorem ez.has(S:ez X scope x cs)(ok:X.Ok):∀y∈scope.names,y.2= .free->∃c,X.env.cells.lookup y.1=some c:=λy hy e=>ok.has y.1 (S.cap y hy e)
theorem ez.sub(S:ez X scope x cs)(ok:X.Ok){y:Str}{c:aae}(e:(lJ X.env scope.names []).lookup y=some c):X.env.cells.lookup y=some c :=
 tS (S.has ok) (λ_ _ z=>by cases z) e
theorem ez.MJ(S:ez X scope x cs)(ok:X.Ok){C:aae}{y:Str}(h:(compEnvC scope (lJ X.env scope.names []) C X.env).kindOf y=some .cell\/(compEnvC scope (lJ X.env scope.names []) C X.env).kindOf y=some .free):scope.names.lookup y=some .free:=by
 have q:(compEnvC scope (lJ X.env scope.names []) C X.env).kindOf y=(scope.names.lookup y).map λk=>if(k == dZ&&X.env.scope.kind == .function&&X.env.kindOf y == some .cell)=true then oH else k:=pS
 rw[q] at h
 cases e:scope.names.lookup y with
 | none=>rw[e] at h;simp at h
 | some k=>
  rw[e] at h
  simp only[oI,Option.some.injEq] at h
  by_cases hk:k= .free
  ·rw[hk]
  ·have hb:(k == dZ)=false:=by simpa using hk
   rw[hb] at h
   simp only[Bool.false_and,yT,if_false] at h
   rcases h with h | h
   ·exact absurd h (S.cell (y,k) (lookup_mem e))
   ·exact absurd h hk
theorem ez.DH(S:ez X scope x cs){C:aae}{y:Str}(e:scope.names.lookup y=some .free):(compEnvC scope (lJ X.env scope.names []) C X.env).kindOf y=some .cell\/(compEnvC scope (lJ X.env scope.names []) C X.env).kindOf y=some .free:=by
 have q:(compEnvC scope (lJ X.env scope.names []) C X.env).kindOf y=(scope.names.lookup y).map λk=>if(k == dZ&&X.env.scope.kind == .function&&X.env.kindOf y == some .cell)=true then oH else k:=pS
 rw[q,e]
 simp only[oI]
 split
 ·exact .inl rfl
 ·exact .inr rfl
theorem vc{fp:List aae}{h2:Heap}{tk:Nat}{E:aak->aaj->Prop}(S:ez X scope x cs)(I:Inv X pins σ H s)(hf:∀b∈fp,dj X pins H b)(hl:∀b∈fp,b < s.heap.objs.size)
  (ns:h2.Ns s.heap.objs.size (λy=>([]:List (Str×aak)).reverse.lookup y))(sb:oX s.heap.objs.size (s.heap.push { cls:=.type "dict",data:=.dict #[] }) h2) :
  Inv (fU X scope x cs s.heap.objs.size s H fp (X.pn++pins) E) [] (none::l_ cs σ) H { s with heap:=h2,toks:=tk }:=by
 have keep:∀b o,s.heap.get? b=some o->h2.get? b=some o:=λb o e=>(sb.2 b (a_ (aE e))).trans (aO _ e)
 have sub:∀{y:Str}{c:aae},(lJ X.env scope.names []).lookup y=some c->X.env.cells.lookup y=some c:=λe=>S.sub I.ok e
 have cellK:∀y c,X.env.cells.lookup y=some c->∀v,s.heap.IsCell c v->h2.IsCell c v:=λy c _ v ⟨o,ho,hd⟩=>⟨o,keep c o ho,hd⟩
 refine⟨⟨I.ok.mod,S.kind,I.ok.glob,I.ok.blt,ak _,(λy z c e1 e2=>I.ok.inj y z c (sub e1) (sub e2)),λy h=>oG (.inr (lookup_mem (S.MJ I.ok h))),(λy c e=>by cases e),I.ok.hd,I.ok.frames,.inl rfl,λb hb=>⟨a_ (hl b hb),λy c e=>(hf b hb).2.2.2.2.1 y c (sub e)⟩,I.bs,bb I.ok.BS I.sz,λb o e hb=>?_,λb hb=>pU I (hf b hb),I.stack,I.jZ⟩,rfl,I.bare,Un.kept keep,⟨_,ns,λi y v e1 e2 e3=>?_⟩,(λy c e=>?_),I.fresh,(λy c e=>I.hR y c (sub e)),λp hp=>?_,I.hok.kept keep,by unfold fU l_;simp⟩
 ·rcases(hf b hb).2.2.2.1 with z | z
  ·exact I.ok.Aj b o e z
  ·exact absurd (bN (aE e) (bb I.ok.BS z)) (eK _)
 ·cases i with
  | zero=>cases e2
  | succ i=>
   have Gj:(cs.map (·.1))[i]? =some y:=e1
   have MK:(l_ cs σ)[i]? =some (some v):=e2
   unfold l_ at MK
   rw[gM] at Gj MK
   cases q:cs[i]? with
   | none=>rw[q] at Gj;cases Gj
   | some p=>
    rw[q] at Gj MK
    have y1:p.1=y:=by simpa using Gj
    have e4:(σ[p.2]?).getD none=some v:=by simpa using MK
    have e5:σ[p.2]? =some (some v):=by
     cases q2:σ[p.2]? with
     | none=>rw[q2] at e4;cases e4
     | some o=>
      rw[q2] at e4
      have:o=some v:=e4
      rw[this]
    have hp:=S.at_ p (List.mem_iff_getElem?.mpr ⟨i,q⟩)
    rw[y1] at hp
    have kd:=S.cap (y,.free) (lookup_mem hp.2) rfl
    obtain⟨m,hn,hl'⟩:=I.loc
    obtain⟨u,r,l⟩:=hl' p.2 y v hp.1 e5 (.inr kd)
    refine⟨u,r,.inr ⟨S.DH hp.2,?_⟩⟩
    rcases l with ⟨l,_⟩ | ⟨_,c,e,z⟩
    ·rcases kd with kd | kd
     ·have T9:X.env.kindOf y=some .cell:=kd
      rw[T9] at l;cases l
     ·have T9:X.env.kindOf y=some .free:=kd
      rw[T9] at l;cases l
    ·obtain⟨c',e'⟩:=oG (env:=X.env) (y:=y) (names:=scope.names) (acc:=[]) (.inr (lookup_mem hp.2))
     have:=sub e'
     rw[e] at this
     cases this
     exact⟨c,e',cellK y c e _ z⟩
 ·obtain⟨v,z⟩:=I.cell y c (sub e)
  exact⟨v,cellK y c (sub e) v z⟩
 ·rw[ei] at hp
  obtain⟨e,n,ne,nf,d⟩:=I.pin p hp
  refine⟨keep _ _ e,n,a_ (aE e),λz=>?_,d⟩
  rcases List.mem_cons.mp (I.jx p.1 z) with q | q
  ·exact ne q
  ·exact nf q
theorem DI{fp:List aae}{E:aak->aaj->Prop}{Hb He:Hp}{sb se:aaj}{C:aae}{σ':St}{iE:List (aae×Obj)}(I:Inv X pins σ Hb sb)(hf:∀b∈fp,dj X pins Hb b)(J:Inv (fU X scope x cs C sb Hb fp (X.pn++pins) E) iE σ' He se):Inv X pins σ He se:=by
 have un:Un (frs X.stack) fp Hb He sb.heap se.heap:=J.base
 exact I.rl (ch:=fp) J.os un J.hok J.bare λb hb=>⟨(hf b hb).2.2.2.1,(hf b hb).2.1,(hf b hb).2.2.2.2.1,λp hp=>(hf b hb).2.2.2.2.2 p hp⟩
theorem j_{He:Hp}{se:aaj}{C:aae}{h2:Heap}(I:Inv X pins σ He se)(f:dj X pins He C)(same:oX C se.heap h2):Inv X pins σ He { se with heap:=h2 } :=
 I.turned (t':=se.toks) (it:=C) (λb o hb e=>(same.2 b hb).trans e) f.1 f.2.1 f.2.2.2.1 f.2.2.2.2.1 f.2.2.2.2.2
end
def DJ(X:Cx):Prop:=∃(env:Env)(outer:List Env)(L:aae),X.stack=env::outer/\env.frame=some L/\X.env.frame=some L
section
variable {X:Cx} {pins:List (aae×Obj)} {σ:St} {scope:Scope} {x:Str} {cs:dR}
end
structure DK(Y:Cx->Prop)(P:aai)(w:aal)(K:PySem.W.Frag)(tg:Expr)(J:It)(fp:List aae)(it:aae)(tn:Nat->Heap->Prop):Prop where
 obj:∀i h,tn i h->∀b∈fp,∃o,h.get? b=some o/\∀v,o.data≠.cell v
 keep:∀i h h',tn i h->(∀b∈fp,∀o,h.get? b=some o->h'.get? b=some o)->tn i h'
 item:∀(X:Cx),X.prog=P->X.w=w->X.K=K->Y X->∀(i:Nat)(pins:List (aae×Obj))(s:aaj)(σ:St)(H:Hp)(E:aak->aaj->Prop),Inv X pins σ H s->(∀b∈fp,dj X pins H b)->tn i s.heap->J.go i H->aax (model P w) X.A (pyNext (.ref it)) (λr s1=>∃u,r=some u/\
  aax (model P w) X.A (letOwnedTupleGo tg (.ref it) u) (λ_ s2=>∃x H',Inv X pins σ H' s2/\RelV x u/\J.uD i H x H'/\tn (i+1) s2.heap/\∀b∈fp,H' b=none) E s1) E s
 done:∀(X:Cx),X.prog=P->X.w=w->X.K=K->Y X->∀(i:Nat)(pins:List (aae×Obj))(s:aaj)(σ:St)(H:Hp)(E:aak->aaj->Prop),Inv X pins σ H s->(∀b∈fp,dj X pins H b)->tn i s.heap->J.stop i H->aax (model P w) X.A (pyNext (.ref it)) (λr s1=>r=none/\Inv X pins σ H s1) E s
 self:∀(A:aaf)(i:Nat)(s:aaj)(Q:aak->aaj->Prop)(E:aak->aaj->Prop),tn i s.heap->Q (.ref it) s->aax (model P w) A (pyIter (.ref it)) Q E s
abbrev Calm(X:Cx):Prop:=X.calm=true
theorem _root_.L2.Turn.y{P:aai}{w:aal}{K:PySem.W.Frag}{tg:Expr}{J:It}{fp:List aae}{it:aae}{tn:Nat->Heap->Prop}(T:Turn P w K tg J fp it tn):DK Calm P w K tg J fp it tn:=⟨T.obj,T.keep,T.item,T.done,T.self⟩
def Qe(Y:Cx->Prop)(X:Cx):Prop:=∀{pins:List (aae×Obj)}{σ:St}{H:Hp}{s:aaj}(scope:Scope)(x:Str)(cs:dR)(C:aae)(s0:aaj)(fp:List aae)(pn:List (aae×Obj))(E:aak->aaj->Prop),Inv X pins σ H s->Y (fU X scope x cs C s0 H fp pn E)
theorem ve{X:Cx}(hc:X.calm=true):Qe Calm X:=λ_ _ _ _ _ _ _ _ _=>hc
def yW(X:Cx)(ifs:List Expr)(g:GT):Prop:=∀(ρ:bA)(st:Hs)(σ:St)(H:Hp)(m:Mp)(Q:Bool->Hp->Prop),bo X.K m st H->av X.K m H ρ σ->iH X σ m H (g ρ st) Q->∀(pins:List (aae×Obj))(s:aaj),Inv X pins σ H s->
 aax (model X.prog X.w) X.A (forIn ifs true λc r=>if r=true then do let ok <-isTrue c X.env (eval c X.env);pure (lp ok) else pure (lp r)) (TP X pins σ Q) X.xe s
section
variable {X:Cx}
theorem yX:yW X [] (λ_ st=> .ok true st):=λρ st σ H m Q S R p pins s I=>wpAny_tests_nil ⟨H,I,p m H Ext.refl S⟩
theorem yY{c:Expr}{g:GT}(h:JT X c g):yW X [c] g:=λρ st σ H m Q S R p pins s I=>wpAny_tests_one (h ρ st σ H m Q S R p pins s I)
theorem xv{pins:List (aae×Obj)}{σ:St}{ρ:bA}{scope:Scope}{x:Str}{cs:dR}{px pos:Pos}{elt iter:Expr}{ifs:List Expr}{gt:GT}{ge:GE}{ck:Hs->Prop}{ws:List Wv}{E:aak->aaj->Prop}
  {use:Option (aak->Sem Unit)}{Q:aak->aaj->Prop}{res:Re Unit}
  {it:aae}{fp:List aae}{tn:Nat->Heap->Prop}{J':It}{H2:Hp}{s2:aaj}{m1:Mp}{st1:Hs}{Y:Cx->Prop}(fr:DJ X)(S:ez X scope x cs)(hY:Qe Y X)(hH:MD X)(I2:Inv X pins σ H2 s2)(T:DK Y X.prog X.w X.K (.Name x px) J' fp it tn)(t0:tn 0 s2.heap)(f2:∀b∈fp,dj X pins H2 b)
  (S1:bo X.K m1 st1 H2)(R:av X.K m1 H2 ρ σ)(hck:ck (st1++[.lst []]))(run:nR ck (λw=>gt (some w::c4 cs ρ)) (λw=>ge (some w::c4 cs ρ)) st1.length ws (st1++[.lst []])=res)(nb:res≠.bad)(hx:∀c XT,res≠.err c XT)
  (hE:∀C s0 H0 pn E,AW X.A H0->JE (fU X scope x cs C s0 H0 fp pn E) elt ge)(hT:∀C s0 H0 pn E,AW X.A H0->yW (fU X scope x cs C s0 H0 fp pn E) ifs gt)
  (hgo:∀(k:Nat)(H:Hp)(m':Mp)(st:Hs),Ext X.K m1 H2 m' H->bo X.K m' st H->ck st->k < ws.length->J'.go k H)(hstop:∀(k:Nat)(H:Hp)(m':Mp)(st:Hs),Ext X.K m1 H2 m' H->bo X.K m' st H->ck st->k=ws.length->J'.stop k H)
  (hy:∀(k:Nat)(hk:k < ws.length)(H:Hp)(v:V)(H':Hp)(m':Mp)(st:Hs),Ext X.K m1 H2 m' H->bo X.K m' st H->ck st->J'.uD k H v H'->H'=H/\ai X.K m' H ws[k] v)
  (fin:∀(mL:Hs),res= .ok () mL->∀(D C:aae)(mm:Str->Option aak)(m':Mp)(H':Hp)(s':aaj),Ext X.K m1 H2 m' H'->bo X.K m' mL H'->m'[st1.length]? =some D->Inv X pins σ H' s'->dj X pins H' C->s'.heap.Ns C mm->(∀y c,X.env.cells.lookup y=some c->c≠C)->aaq (model X.prog X.w) X.A X.xe use Q (.ref D) C (.ok .next) s') :
  aax (model X.prog X.w) X.A (newList []) (λacc s3=>aax (model X.prog X.w) X.A (newFunctionEnv scope X.env.globals (lJ X.env scope.names []) [] X.env.qual none .none (some X.env)) (λcenv s4=>
   aap (model X.prog X.w) X.A (.compStart (.ListComp elt [⟨.Name x px,iter,ifs,0⟩] scope pos) 0 (.ref it) acc { cenv with scope:=relabel scope X.env }) (aaq (model X.prog X.w) X.A X.xe use Q acc cenv.locals) s4) E s3) E s2:=by
 refine aaC ?_
 have I3:Inv X pins σ (upd H2 s2.heap.objs.size (.lst [])) { s2 with heap:=s2.heap.push { cls:=.type "list",data:=.seq ([]:List aak).toArray } }:=I2.Hk (ys:=[]) (its:=[]) (t':=s2.toks) .nil (bY _)
 have T_:∀b∈fp,b < s2.heap.objs.size:=λb hb=>by
  obtain⟨o,e,_⟩:=T.obj _ _ t0 b hb
  exact aE e
 have hD:H2 s2.heap.objs.size=none:=I2.fresh
 have f3:∀b∈fp,dj X pins (upd H2 s2.heap.objs.size (.lst [])) b:=λb hb=>⟨by rw[aw (a_ (T_ b hb))];exact(f2 b hb).1,(f2 b hb).2⟩
 have S3:=S1.alloc (ws:=[]) (xs:=[]) hD ag.nil
 have e3:Ext X.K m1 H2 (m1++[s2.heap.objs.size]) (upd H2 s2.heap.objs.size (.lst [])):=Ext.more.trans (Ext.upd (.inl hD))
 have HY:(m1++[s2.heap.objs.size])[st1.length]? =some s2.heap.objs.size:=by
  rw[<-S1.len,iq (ak _),tF];rfl
 generalize wQ:({ s2 with heap:=s2.heap.push { cls:=.type "list",data:=.seq ([]:List aak).toArray } }:aaj)=s3 at I3
 have Qf:∀b o,s2.heap.get? b=some o->s3.heap.get? b=some o:=λb o e=>by rw[<-wQ];exact aO _ e
 have Qh:∀b∈fp,b < s3.heap.objs.size:=λb hb=>by
  obtain⟨o,e,_⟩:=T.obj _ _ t0 b hb
  exact aE (Qf b o e)
 generalize XU:s2.heap.objs.size=D at *
 generalize XW:upd H2 D (.lst [])=H3 at *
 generalize XX:m1++[D]=m3 at *
 have R3:av X.K m3 H3 (c4 cs ρ) (l_ cs σ):=(yV cs R).mono e3
 generalize hrr:c4 cs ρ=ρc at *
 generalize hss:l_ cs σ=σc at *
 refine wpAny_newFunctionEnv S.cell (λ_ z=>nomatch z) (λh4 Ua Qi=>?_) S.kind
 have Ic:=λE=>vc (E:=E) (tk:=s3.toks+([]:List (Str×aak)).length) S I3 f3 Qh Ua Qi
 have Ub:∀b o,s3.heap.get? b=some o->h4.get? b=some o:=λb o e=>(Qi.2 b (a_ (aE e))).trans (aO _ e)
 have t4:tn 0 h4:=T.keep _ _ _ t0 λb _ o e=>Ub b o (Qf b o e)
 let EX:aak->aaj->Prop:=notedBy (model X.prog X.w) X.A (compEnvC scope (lJ X.env scope.names []) s3.heap.objs.size X.env) λe s'=>aaq (model X.prog X.w) X.A X.xe use Q (.ref D) s3.heap.objs.size (.error e) s'
 let Xc:=fU X scope x cs s3.heap.objs.size s3 H3 fp (X.pn++pins) EX
 have noted:∀{σ':St}{m:Mp}{H:Hp}{c:Str}{st:Hs},Ext X.K m1 H2 m H->res= .err c st->Ox Xc σ' m H c st:=λ_ er=>(hx _ _ er).elim
 have vis:Xc.env.scope.names.lookup x=some .local:=lookup_relabel_local S.var
 have ML:∀(H':Hp),(∀b∈fp,H' b=none)->∀b∈fp,dj Xc [] H' b:=λH' hn b hb=>⟨hn b hb,a_ (Qh b hb),pU I3 (f3 b hb),.inl hb,λy c e=>(f3 b hb).2.2.2.2.1 y c (S.sub I3.ok e),λp hp=>(f2 b hb).2.2.2.2.2 p (by have Qj:p∈(X.pn++pins)++[]:=hp;rw[ei] at Qj;exact Qj)⟩
 let Pv:Nat->aaj->Prop:=λk s'=>∃z H' st m',Inv Xc [] (z::σc) H' s'/\tn k s'.heap/\(∀b∈fp,H' b=none)/\Ext X.K m3 H3 m' H'/\bo X.K m' st H'/\ck st/\nR ck (λw=>gt (some w::ρc)) (λw=>ge (some w::ρc)) st1.length (ws.drop k) st=res
 have loop:∀s4:aaj,Pv 0 s4->aap (model X.prog X.w) X.A (.compLoop (.ListComp elt [⟨.Name x px,iter,ifs,0⟩] scope pos) 0 (.ref it) (.ref D) (compEnvC scope (lJ X.env scope.names []) s3.heap.objs.size X.env)) (aaq (model X.prog X.w) X.A X.xe use Q (.ref D) s3.heap.objs.size) s4:=λs4 p0=>by
  refine codeAny_compLoop_tests (λn s'=>∃k,n=ws.length - k/\k<=ws.length/\Pv k s') ?_ ws.length ⟨0,by simp,bY _,p0⟩
  rintro n s5 ⟨k,rfl,hk,z5,H5,uM,m5,I5,Qk,Lk,e5,S5,c5,bt⟩
  have DL:=e3.trans e5
  by_cases hlt:k < ws.length
  ·refine bx (T.item Xc rfl rfl rfl (hY _ _ _ _ _ _ _ _ I3) k [] s5 (z5::σc) H5 _ I5 (ML H5 Lk) Qk (hgo k H5 m5 uM DL S5 c5 hlt)) λr s6 h6=>?_
   obtain⟨u,rfl,h6⟩:=h6
   show aax (model X.prog X.w) X.A (pure () >>= λ_=>assign (.Name x px) Xc.env u) _ _ s6
   refine aay (bx h6 λ_ s7 h7=>?_)
   obtain⟨v,H7,I7,rv,yl,MM,Uc⟩:=h7
   obtain⟨rfl,Ql⟩:=hy k hlt H5 v H7 m5 uM DL S5 c5 yl
   have OB:=I7.pinned (ML H7 Uc) (T.obj _ _ MM)
   refine wpAny_assign_Name (lL (i:=0) OB S.nd rfl (.inl vis) rv (λs8 I8=>?_) (.inr vis))
   have RT:Inv Xc ([]++dG fp s7.heap) (some v::σc) H7 s8:=I8
   have R8:av X.K m5 H7 (some ws[k]::ρc) (some v::σc):=by
    have R5:=R3.mono e5
    refine⟨by simp[R5.len],λi w e=>?_⟩
    cases i with
    | zero=>
     cases e
     exact⟨v,rfl,Ql⟩
    | succ i=>exact R5.get i w e
   have ed:ws.drop k=ws[k]::ws.drop (k+1):=pN hlt
   rw[ed] at bt
   unfold nR at bt
   have back:∀{H':Hp}{s':aaj}{m':Mp}{st:Hs},Inv Xc ([]++dG fp s7.heap) (some v::σc) H' s'->Ext X.K m3 H3 m' H'->bo X.K m' st H'->ck st->nR ck (λw=>gt (some w::ρc)) (λw=>ge (some w::ρc)) st1.length (ws.drop (k+1)) st=res->∃n',n' < ws.length - k/\∃k',n'=ws.length - k'/\k'<=ws.length/\Pv k' s' :=
    λ{H' s' m' st} I' e' S' c' r'=>⟨ws.length - (k+1),by omega,k+1,rfl,hlt,some v,H',st,m',I'.jy,T.keep _ _ _ MM λb hb o e=>(I'.pin (b,o) (ft _ (ft _ (fq hb e)))).1,λb hb=>by
     obtain⟨o,e,_⟩:=T.obj _ _ MM b hb
     exact(I'.pin (b,o) (ft _ (ft _ (fq hb e)))).2.1,e',S',c',r'⟩
   cases eg:gt (some ws[k]::ρc) uM with
   | err c BY=>
    rw[eg] at bt
    refine aaB (hT s3.heap.objs.size s3 H3 (X.pn++pins) EX (hH.at I3) (some ws[k]::ρc) uM (some v::σc) H7 m5 (λ_ _=>False) S5 R8 (by rw[eg];exact noted DL bt.symm) ([]++dG fp s7.heap) s8 RT) (λ_ _ h9=>?_) λ_ _ z=>z
    obtain⟨_,_,z⟩:=h9
    exact z.elim
   | bad=>rw[eg] at bt;exact absurd bt.symm nb
   | ok b BY=>
    rw[eg] at bt
    have C4:=hT s3.heap.objs.size s3 H3 (X.pn++pins) EX (hH.at I3) (some ws[k]::ρc) uM (some v::σc) H7 m5 (λb' H'=>b'=b/\∃m',Ext X.K m5 H7 m' H'/\bo X.K m' BY H') S5 R8 (by rw[eg];exact λm' H' e' S'=>⟨rfl,m',e',S'⟩) ([]++dG fp s7.heap) s8 RT
    refine aaB C4 (λok s9 h9=>?_) λ_ _ z=>z
    obtain⟨H9,I9,rfl,m9,e9,S9⟩:=h9
    cases ok with
    | false=>
     dsimp only at bt
     by_cases c6:ck BY
     ·rw[if_pos c6] at bt
      rw[if_neg dN]
      exact back I9 (e5.trans e9) S9 c6 bt
     ·rw[if_neg c6] at bt;exact absurd bt.symm nb
    | true=>
     dsimp only at bt
     rw[if_pos rfl]
     cases ee:ge (some ws[k]::ρc) BY with
     | err c HZ=>
      rw[ee] at bt
      refine aaB (hE s3.heap.objs.size s3 H3 (X.pn++pins) EX (hH.at I3) (some ws[k]::ρc) BY (some v::σc) H9 m9 (λ_ _=>False) S9 (R8.mono e9) (by rw[ee];exact noted (DL.trans e9) bt.symm) ([]++dG fp s7.heap) s9 I9) (λ_ _ Qm=>?_) λ_ _ z=>z
      obtain⟨_,_,_,_,z⟩:=Qm
      exact z.elim
     | bad=>rw[ee] at bt;exact absurd bt.symm nb
     | ok w HZ=>
      rw[ee] at bt
      dsimp only at bt
      cases ea:iL (.ref st1.length) w HZ with
      | err c MN=>rw[ea] at bt;exact absurd bt.symm nb
      | bad=>rw[ea] at bt;exact absurd bt.symm nb
      | ok w2 MN=>
       rw[ea] at bt
       dsimp only at bt
       by_cases c8:ck MN
       ·rw[if_pos c8] at bt
        have el:=hE s3.heap.objs.size s3 H3 (X.pn++pins) EX (hH.at I3) (some ws[k]::ρc) BY (some v::σc) H9 m9 (λv' H'=>∃m',Ext X.K m9 H9 m' H'/\bo X.K m' HZ H'/\ai X.K m' H' w v') S9 (R8.mono e9) (by rw[ee];exact λv' m' H' e' S' r'=>⟨m',e',S',r'⟩) ([]++dG fp s7.heap) s9 I9
        refine aaB el (λu2 tU Qm=>?_) λ_ _ z=>z
        obtain⟨v2,BZ,Ud,r2,MO,MP,Ue,MQ⟩:=Qm
        obtain⟨r,h1,h2⟩:=tR (X:=Xc)
        have eA:=(e5.trans e9).trans MP
        have ro:ai X.K MO BZ (.ref st1.length) (.ref D):=by unfold ai;exact⟨D,rfl,eA.pre _ _ HY⟩
        have rd:=h2 (.ref st1.length) w (.ref D) v2 HZ BZ MO (λ_ H'=>∃m',Ext X.K MO BZ m' H'/\bo X.K m' MN H') Ue ro MQ (by rw[ea];exact λv' m' H' e' S' r'=>⟨m',e',S'⟩)
        refine aaB (h1 ([]++dG fp s7.heap) tU (some v::σc) BZ (.ref D) [v2] (.ref D) [u2] _ Ud rfl (.cons r2 .nil) rd) (λ_ OC h11=>?_) λ_ _ z=>z
        obtain⟨_,RU,Ug,_,XY,RV,Uh⟩:=h11
        exact back Ug (eA.trans RV) Uh c8 bt
       ·rw[if_neg c8] at bt;exact absurd bt.symm nb
  ·have ek:k=ws.length:=by omega
   subst ek
   refine bx (T.done Xc rfl rfl rfl (hY _ _ _ _ _ _ _ _ I3) _ [] s5 (z5::σc) H5 _ I5 (ML H5 Lk) Qk (hstop _ H5 m5 uM DL S5 c5 rfl)) λr s6 h6=>?_
   obtain⟨rfl,I6⟩:=h6
   rw[pO] at bt
   obtain⟨mm,Ui,_⟩:=id I6.loc
   have fC:=I3.oY (H':=H5) (ak _) I6.free
   exact fin uM bt.symm D _ mm m5 H5 _ DL S5 (e5.pre _ _ HY) (DI I3 f3 I6) fC Ui fC.2.2.2.2.1
 have p0:Pv 0 { s3 with heap:=h4,toks:=s3.toks+([]:List (Str×aak)).length }:=⟨none,H3,st1++[Ob.lst []],m3,hss ▸ Ic EX,t4,λb hb=>(f3 b hb).1,Ext.refl,S3,hck,by rw[List.drop_zero];exact run⟩
 exact codeAny_compStart_list (loop _ p0) (T.self X.A 0 _ _ _ t4 (loop _ p0))
end
abbrev Wk:=Option Nat×List Wv
def jK(w:Wk)(st:Hs):Prop:=match w.1 with
 | some l=>aj st l=some w.2
 | none=>True
structure vf(X:Cx)(w:Wk)(m1:Mp)(H1:Hp)(J':It):Prop where
 go:∀(k:Nat)(H:Hp)(m':Mp)(st:Hs),Ext X.K m1 H1 m' H->bo X.K m' st H->jK w st->k < w.2.length->J'.go k H
 stop:∀(k:Nat)(H:Hp)(m':Mp)(st:Hs),Ext X.K m1 H1 m' H->bo X.K m' st H->jK w st->k=w.2.length->J'.stop k H
 uD:∀(k:Nat)(hk:k < w.2.length)(H:Hp)(v:V)(H':Hp)(m':Mp)(st:Hs),Ext X.K m1 H1 m' H->bo X.K m' st H->jK w st->J'.uD k H v H'->H'=H/\ai X.K m' H w.2[k] v
abbrev GI:=bA->Hs->Re Wk
def Uj(Y:Cx->Prop)(X:Cx)(pins:List (aae×Obj))(σ:St)(tg:Expr)(R:It->Hp->Prop)(itv:aak)(s2:aaj):Prop :=
 ∃(it:aae)(fp:List aae)(tn:Nat->Heap->Prop)(J:It)(H':Hp),itv= .ref it/\Inv X pins σ H' s2/\DK Y X.prog X.w X.K tg J fp it tn/\tn 0 s2.heap/\(∀b∈fp,dj X pins H' b)/\R J H'
def Wy(Y:Cx->Prop)(X:Cx)(tg iter:Expr)(wi:TI):Prop:=∀(pins:List (aae×Obj))(s:aaj)(σ:St)(H:Hp)(R:It->Hp->Prop),Inv X pins σ H s->wi σ H R->
 aax (model X.prog X.w) X.A (eval iter X.env) (λv s1=>aax (model X.prog X.w) X.A (pyIter v) (Uj Y X pins σ tg R) X.xe s1) X.xe s
theorem _root_.L2.PI.y{X:Cx}{tg iter:Expr}{wi:TI}(h:PI X tg iter wi):Wy Calm X tg iter wi:=λpins s σ H R I q=>bx (h pins s σ H R I q) λ_ _ h1=>bx h1 λ_ _ h2=>
 let ⟨it,fp,tn,J,H',e,I',T,r⟩:=h2;⟨it,fp,tn,J,H',e,I',T.y,r⟩
def RW(Y:Cx->Prop)(X:Cx)(tg iter:Expr)(gi:GI):Prop:=∃wi,Wy Y X tg iter wi/\∀(ρ:bA)(st:Hs)(σ:St)(H:Hp)(m:Mp)(R:It->Hp->Prop),bo X.K m st H->av X.K m H ρ σ->
 ar X σ m H (gi ρ st) (λw st1=>∀(m1:Mp)(H1:Hp)(J':It),Ext X.K m H m1 H1->bo X.K m1 st1 H1->jK w st1->vf X w m1 H1 J'->R J' H1)->wi σ H R
def JI(X:Cx)(tg iter:Expr)(gi:GI):Prop:=∃wi,PI X tg iter wi/\∀(ρ:bA)(st:Hs)(σ:St)(H:Hp)(m:Mp)(R:It->Hp->Prop),bo X.K m st H->av X.K m H ρ σ->
 ar X σ m H (gi ρ st) (λw st1=>∀(m1:Mp)(H1:Hp)(J':It),Ext X.K m H m1 H1->bo X.K m1 st1 H1->jK w st1->vf X w m1 H1 J'->R J' H1)->wi σ H R
theorem JI.y{X:Cx}{tg iter:Expr}{gi:GI}(h:JI X tg iter gi):RW Calm X tg iter gi:=let ⟨wi,h1,h2⟩:=h;⟨wi,h1.y,h2⟩
def MR(w:Wv)(st:Hs):Re Wk:=match w with
 | .ref l=>(match aj st l with | some ws=> .ok (some l,ws) st | none=> .bad)
 | .tup ws=> .ok (none,ws) st
 | .pD ws=> .ok (none,ws) st
 | _=> .bad
def DM(g:GE):GI:=λρ st=>(g ρ st).bind MR
section
variable {X:Cx}
theorem MS{tg iter:Expr}{g:GE}(h:JE X iter g):JI X tg iter (DM g):=by
 refine⟨_,Dv aG,λρ st σ H m Q S R p=>?_⟩
 refine h.go S R (ar.bind p) λw st1 v m1 H1 p1 e1 S1 rw'=>?_
 cases w with
 | ref l=>
  unfold ai at rw'
  obtain⟨a,rfl,hla⟩:=rw'
  unfold MR at p1
  cases el:aj st1 l with
  | none=>simp only[el] at p1;exact aa p1
  | some ws=>
   simp only[el] at p1
   obtain⟨uF,q0,_⟩:=S1.read hla el
   refine⟨a,rfl,.inl ⟨⟨uF,q0⟩,p1 m1 H1 _ e1 S1 el ⟨λk H' m' st' e S' c hk=>?_,λk H' m' st' e S' c hk=>?_,λk hk H' v Uk m' st' e S' c y=>?_⟩⟩⟩
   ·obtain⟨xs,hq,rws⟩:=S'.read (e.pre _ _ hla) c
    have hx':k < xs.length:=by rw[<-rws.length];exact hk
    exact⟨xs,xs[k],hq,by simp[hx']⟩
   ·obtain⟨xs,hq,rws⟩:=S'.read (e.pre _ _ hla) c
    exact⟨xs,hq,by rw[<-rws.length,hk];exact ak _⟩
   ·obtain⟨xs,hq,rws⟩:=S'.read (e.pre _ _ hla) c
    obtain⟨ee,y⟩:=y
    refine⟨ee,?_⟩
    obtain⟨x',ex',mX⟩:=rws.get (i:=k) (w:=ws[k]) (bR hk)
    rw[y xs hq] at ex'
    cases ex'
    exact mX
 | tup ws=>
  unfold ai at rw'
  obtain⟨a,xs,rfl,hq,rws⟩:=rw'
  refine⟨a,rfl,.inr ⟨⟨xs,fm.of hq⟩,p1 m1 H1 _ e1 S1 trivial ⟨λk H' m' st' e S' c hk=>?_,λk H' m' st' e S' c hk=>?_,λk hk H' v Uk m' st' e S' c y=>?_⟩⟩⟩
  ·have hx':k < xs.length:=by rw[<-rws.length];exact hk
   exact⟨xs,xs[k],fm.of (e.tup _ _ hq),by simp[hx']⟩
  ·exact⟨xs,fm.of (e.tup _ _ hq),by rw[<-rws.length,hk];exact ak _⟩
  ·obtain⟨ee,y⟩:=y
   refine⟨ee,?_⟩
   obtain⟨x',ex',mX⟩:=(ag.mono e _ _ rws).get (i:=k) (w:=ws[k]) (bR hk)
   rw[y xs (fm.of (e.tup _ _ hq))] at ex'
   cases ex'
   exact mX
 | pD ws=>
  unfold ai at rw'
  obtain⟨a,xs,rfl,hq,rws⟩:=rw'
  refine⟨a,rfl,.inr ⟨⟨xs,.inr hq⟩,p1 m1 H1 _ e1 S1 trivial ⟨λk H' m' st' e S' c hk=>?_,λk H' m' st' e S' c hk=>?_,λk hk H' v Uk m' st' e S' c y=>?_⟩⟩⟩
  ·have hx':k < xs.length:=by rw[<-rws.length];exact hk
   exact⟨xs,xs[k],.inr hq,by simp[hx']⟩
  ·exact⟨xs,.inr hq,by rw[<-rws.length,hk];exact ak _⟩
  ·obtain⟨ee,y⟩:=y
   refine⟨ee,?_⟩
   obtain⟨x',ex',mX⟩:=(ag.mono e _ _ rws).get (i:=k) (w:=ws[k]) (bR hk)
   rw[y xs (.inr hq)] at ex'
   cases ex'
   exact mX
 | _=>exact aa p1
theorem MT{lo:Int}{n:Nat}{m1:Mp}{H1:Hp}:vf X (none,cZ lo n) m1 H1 (Lh lo n) where
 go:=λk H m' st e S c hk=>by
  have:(cZ lo n).length=n:=dQ
  have hk':k < (cZ lo n).length:=hk
  rw[this] at hk';exact hk'
 stop:=λk H m' st e S c hk=>by
  have:(cZ lo n).length=n:=dQ
  have hk':k=(cZ lo n).length:=hk
  rw[this] at hk';exact lQ hk'.symm
 uD:=λk hk H v H' m' st e S c y=>by
  obtain⟨y1,y2⟩:=y
  refine⟨y1,?_⟩
  have q:(cZ lo n)[k]'hk= .int (lo+k):=u7 hk
  show ai X.K m' H ((cZ lo n)[k]'hk) v
  rw[q,y2]
  exact mkInt
def yZ(ws:List Wv)(st:Hs):Re Wk:=match ws with
 | [.int j]=>if mY j then .ok (none,cZ 0 j.toNat) st else .bad
 | _=> .bad
def J6(ws:List Wv)(st:Hs):Re Wk:=match ws with
 | [.int a,.int j]=>if mY a/\mY j then .ok (none,cZ a (j - a).toNat) st else .bad
 | _=> .bad
def DN(g:GA):GI:=λρ st=>(g ρ st).bind yZ
def Ul(g:GA):GI:=λρ st=>(g ρ st).bind J6
theorem Qn{tg a:Expr}{ga:GA}{p q:Pos}(hg:Gl X "range")(hm:X.mg "range"=none)(ha:JA X [a] ga)(hst:aaw [a] X.env=[(false,eval a X.env)]):JI X tg (.Call (.Name "range" p) [a] [] q) (DN ga):=by
 refine⟨_,rp hg hm jk hst,λρ st σ H m Q S R p=>?_⟩
 refine ha.go S R (ar.bind p) λws st1 vs m1 H1 p1 e1 S1 rs=>?_
 match ws,rs,p1 with
 | [],rs,p1=>exact aa p1
 | x::y::t,rs,p1=>cases x<;>exact aa p1
 | [x],rs,p1=>
  obtain⟨v,rfl,r1⟩:=kJ rs
  cases x with
  | int j=>
   cases bg r1
   unfold yZ at p1
   by_cases c:mY j
   ·simp only[if_pos c] at p1
    exact⟨j,rfl,c.1,c.2,p1 m1 H1 _ e1 S1 trivial MT⟩
   ·simp only[if_neg c] at p1;exact aa p1
  | _=>exact aa p1
def DO:GI:=λ_ _=> .bad
theorem vg{tg iter:Expr}:PI X tg iter (λ_ _ _=>False):=λ_ _ _ _ _ _ h=>h.elim
theorem DP{tg iter:Expr}:JI X tg iter DO:=⟨_,vg,λρ st σ H m Q S R p=>p⟩
def eN(cs:dR)(gt:GT)(ge:GE)(ρ:bA)(w:Wk)(st:Hs):Re Wv:=match jJ (jK w) (λv=>gt (some v::c4 cs ρ)) (λv=>ge (some v::c4 cs ρ)) st.length w.2 (st++[.lst []]) with
 | some mL=> .ok (.ref st.length) mL
 | none=> .bad
def cC(cs:dR)(gi:GI)(gt:GT)(ge:GE):GE:=λρ st=>(gi ρ st).bind λw st1=>eN cs gt ge ρ w st1
theorem rO{st:Hs}{l:Nat}{ws:List Wv}{more:Hs}(h:aj st l=some ws):aj (st++more) l=some ws:=by
 unfold aj at h ⊢
 cases e:st[l]? with
 | none=>rw[e] at h;cases h
 | some o=>
  have hl:=(List.getElem?_eq_some_iff.mp e).1
  rw[cu hl,e]
  rw[e] at h
  exact h
theorem pV{w:Wk}{st more:Hs}(h:jK w st):jK w (st++more):=by
 obtain⟨o,ws⟩:=w
 cases o with
 | none=>trivial
 | some l=>exact rO h
theorem y0{scope:Scope}{x:Str}{cs:dR}{px pos:Pos}{elt iter:Expr}{ifs:List Expr}{gi:GI}{gt:GT}{ge:GE}{use:Option (aak->Sem Unit)}{Q:aak->aaj->Prop}{P:Wv->Hs->Prop}
  {ρ:bA}{st:Hs}{σ:St}{H:Hp}{m:Mp}{pins:List (aae×Obj)}{s:aaj}{ps:Pos}
  {Y:Cx->Prop}(fr:DJ X)(CS:ez X scope x cs)(hc:Qe Y X)(hH:MD X)(hi:RW Y X (.Name x px) iter gi)(hE:∀C s0 H0 fp pn E,AW X.A H0->JE (fU X scope x cs C s0 H0 fp pn E) elt ge)(hT:∀C s0 H0 fp pn E,AW X.A H0->yW (fU X scope x cs C s0 H0 fp pn E) ifs gt)(hs:∀x,aas iter X.env x=pure x)
  (S:bo X.K m st H)(R:av X.K m H ρ σ)(I:Inv X pins σ H s)(p:ar X σ m H (cC cs gi gt ge ρ st) P)
  (fin:∀(w:Wv)(mL:Hs)(v:V)(D C:aae)(mm:Str->Option aak)(m':Mp)(H':Hp)(s':aaj),P w mL->Ext X.K m H m' H'->bo X.K m' mL H'->ai X.K m' H' w v->v= .ref D->Inv X pins σ H' s'->dj X pins H' C->s'.heap.Ns C mm->aaq (model X.prog X.w) X.A X.xe use Q (.ref D) C (.ok .next) s') :
  aax (model X.prog X.w) X.A (comprehension (.ListComp elt [⟨.Name x px,iter,ifs,0⟩] scope pos) scope X.env ps (newList []) false (eval iter X.env) use) Q X.xe s:=by
 obtain⟨wi,Qo,hw⟩:=hi
 let R':It->Hp->Prop:=λJ' H1=>∃(w:Wk)(st1:Hs)(m1:Mp),ar X σ m H (eN cs gt ge ρ w st1) P/\Ext X.K m H m1 H1/\bo X.K m1 st1 H1/\jK w st1/\vf X w m1 H1 J'
 have hr:=hw ρ st σ H m R' S R ((ar.bind p).imp Ext.refl λw st1 q m1 H1 J' e1 S1 c1 tV=>⟨w,st1,m1,q,e1,S1,c1,tV⟩)
 refine wpAny_comprehension_free (g:=⟨.Name x px,iter,ifs,0⟩) (gs:=[]) (cl:=lJ X.env scope.names []) rfl hs (yU (CS.has I.ok)) CS.kind (λy hy e=>by rw[CS.look y hy,e]) (bx (Qo pins s σ H R' I hr) λv s1 h1=>bx h1 λitv s2 h2=>?_)
 obtain⟨it,fp,tn,J',H1,rfl,I2,T,t0,f2,w,st1,m1,q,e1,S1,c1,tV⟩:=h2
 unfold eN at q
 cases run:jJ (jK w) (λv=>gt (some v::c4 cs ρ)) (λv=>ge (some v::c4 cs ρ)) st1.length w.2 (st1++[.lst []]) with
 | none=>
  rw[run] at q
  exact aa q
 | some mL=>
  rw[run] at q
  refine xv (use:=use) (Q:=Q) fr CS hc hH I2 T t0 f2 S1 (R.mono e1) (pV c1) (pT _ _ run) (by intro z;cases z) (λc' XZ z=>by cases z) (λC s0 H0 pn E=>hE C s0 H0 fp pn E) (λC s0 H0 pn E=>hT C s0 H0 fp pn E) tV.go tV.stop tV.uD ?_
  intro X3 z D C mm m' H' s' e' S' HY I' fC ns _
  cases z
  exact fin _ mL (.ref D) D C mm m' H' s' q (e1.trans e') S' (by unfold ai;exact⟨D,rfl,HY⟩) rfl I' fC ns
theorem y6{scope:Scope}{x:Str}{cs:dR}{px pos:Pos}{elt iter:Expr}{ifs:List Expr}{gi:GI}{gt:GT}{ge:GE}
  {Y:Cx->Prop}(fr:DJ X)(CS:ez X scope x cs)(hc:Qe Y X)(hH:MD X)(hi:RW Y X (.Name x px) iter gi)(hE:∀C s0 H0 fp pn E,AW X.A H0->JE (fU X scope x cs C s0 H0 fp pn E) elt ge)(hT:∀C s0 H0 fp pn E,AW X.A H0->yW (fU X scope x cs C s0 H0 fp pn E) ifs gt)(hs:∀x,aas iter X.env x=pure x) :
  JE X (.ListComp elt [⟨.Name x px,iter,ifs,0⟩] scope pos) (cC cs gi gt ge):=λρ st σ H m Q S R p pins s I=>by
 rw[eval_ListComp]
 refine y0 (use:=none) fr CS hc hH hi hE hT hs S R I p ?_
 intro w mL v D C mm m' H' s' q e' S' rw' ev I' fC ns
 exact⟨mm,ns,λh' same=>⟨.ref D,H',j_ I' fC same,rfl,ev ▸ q v m' H' e' S' rw'⟩⟩
theorem H_(i:Nat){scope:Scope}{x y:Str}{cs:dR}{px pos spos py:Pos}{elt iter:Expr}{ifs:List Expr}{gi:GI}{gt:GT}{ge:GE}(hN:X.N.Nodup)
  {Y:Cx->Prop}(fr:DJ X)(CS:ez X scope x cs)(hc:Qe Y X)(hH:MD X)(hi:RW Y X (.Name x px) iter gi)(hE:∀C s0 H0 fp pn E,AW X.A H0->JE (fU X scope x cs C s0 H0 fp pn E) elt ge)(hT:∀C s0 H0 fp pn E,AW X.A H0->yW (fU X scope x cs C s0 H0 fp pn E) ifs gt)(hs:∀x,aas iter X.env x=pure x)
  (hx:X.N[i]? =some y)(hl:Loc X.env.scope y)(hf:X.fn y=true\/X.env.scope.names.lookup y=some .local) :
  JS X (.Assign [.Name y py] (.ListComp elt [⟨.Name x px,iter,ifs,0⟩] scope pos) spos) (aY i (cC cs gi gt ge)):=by
 have sw:∃b,swapsWith (.ListComp elt [⟨.Name x px,iter,ifs,0⟩] scope pos) (some (.Name y py)) spos.line X.env=pure b:=⟨_,rfl⟩
 obtain⟨b,sw⟩:=sw
 cases b with
 | false=>exact tO i hN (y6 fr CS hc hH hi hE hT hs) hx hl sw hf
 | true=>
  intro ρ st σ H m D S R p pins s I
  rw[exec_Assign_Name_used _ _ _ _ sw]
  refine aay (wpAny_standAt (aay ?_))
  show aax _ X.A (do let _ <-comprehension (.ListComp elt [⟨.Name x px,iter,ifs,0⟩] scope pos) scope X.env _ (newList []) false (eval iter X.env) (some (assign (.Name y py) X.env))) _ _ s
  refine aay (aaB (y0 (use:=some (assign (.Name y py) X.env)) (Q:=λ_ s'=>SP X pins D .next s') fr CS hc hH hi hE hT hs S R I (aK.cS R p) ?_) (λ_ s' hq=>aaE (aaE hq)) λ_ _ e=>e)
  intro w mL v D' C mm m' H' s' q e' S' rw' ev I' fC ns
  refine wpAny_assign_Name (mM (i:=i) I' hN hx hl (show RelV v (.ref D') by rw[ev];rfl) (λs2 I2 h2=>?_) hf)
  obtain⟨a,sb,ha⟩:=h2
  have hca:C≠a:=by
   rcases ha with z | z
   ·rw[z];exact fC.2.1
   ·exact aW (fC.2.2.2.2.1 y a z)
  exact⟨mm,ns.sameBut sb hca,λh' same=>⟨_,_,j_ I2 fC same,q _ m' H' e' S' ((R.mono e').set i rw')⟩⟩
end
section
variable {X:Cx}
def AZ(n:Nat)(k:Int):Prop:=-(2 ^ 62)<=k/\k < 2 ^ 62/\n * k.toNat<=lim
instance {n k}:Decidable (AZ n k):=Dx _
def pW:g_
 | .ref l,.int n,st=>match st[l]? with
  | some (.lst ws)=>if AZ ws.length n then .ok (.ref st.length) (st++[.lst (aJ n.toNat ws).flatten]) else .bad
  | _=> .bad
 | x,y,st=>J2 x y st
theorem rP{K:PySem.W.Frag}{m:Mp}{H:Hp}{ws:List Wv}{xs:List V}(r:ag K m H ws xs):∀n:Nat,ag K m H (aJ n ws).flatten (aJ n xs).flatten
 | 0=>ag.nil
 | n+1=>by
  rw[hU,pk,hU,pk]
  exact r.append (rP r n)
theorem Ia:jv X (aan .Mult) pW:=by
 obtain⟨r,h1,h2⟩:=HP (X:=X)
 refine⟨_,fu.or LO h1,λx y a b st H m Q S rx ry p=>?_⟩
 unfold pW at p
 split at p
 ·rename_i l n
  unfold ai at rx
  obtain⟨a1,rfl,hl⟩:=rx
  cases bg ry
  cases e:st[l]? with
  | none=>rw[e] at p;exact aa p
  | some o=>
   cases o with
   | dct kvs=>rw[e] at p;exact aa p
   | yK kvs=>rw[e] at p;exact aa p
   | CU kvs=>rw[e] at p;exact aa p
   | AF kvs=>rw[e] at p;exact aa p
   | tw ns=>rw[e] at p;exact aa p
   | lst ws=>
    rw[e] at p
    dsimp only at p
    by_cases c:AZ ws.length n
    ·rw[if_pos c] at p
     obtain⟨xs,q1,q2⟩:=S.lV hl e
     refine .inl ⟨a1,n,xs,rfl,rfl,q1,by have:=c.1;omega,by have:=c.2.1;omega,by rw[<-q2.length];exact fA c.2.2,λq hq=>?_⟩
     exact iI p Ext.refl S (rP q2 n.toNat) q hq
    ·rw[if_neg c] at p;exact aa p
 ·exact .inr (h2 x y a b st H m Q S rx ry p)
def tW:List Wv->Hs->Re Wv
 | [.ref l],st=>match aj st l with
  | some ws=> .ok (.ref st.length) (st++[.lst ws])
  | none=> .bad
 | [.tup ws],st=> .ok (.ref st.length) (st++[.lst ws])
 | _,_=> .bad
theorem Ie:cU X (.type "list") tW:=⟨_,s_,λws vs st H m Q S rs p=>by
 match ws,rs,p with
 | [],rs,p=>exact aa p
 | x::y::t,rs,p=>cases x<;>exact aa p
 | [x],rs,p=>
  obtain⟨v,rfl,r1⟩:=kJ rs
  cases x with
  | ref l=>
   unfold tW at p
   unfold ai at r1
   obtain⟨a,rfl,hl⟩:=r1
   cases e:aj st l with
   | none=>simp only[e] at p;exact aa p
   | some ws=>
    simp only[e] at p
    obtain⟨xs,q1,q2⟩:=S.read hl e
    exact⟨a,xs,rfl,.inl q1,λq hq=>iI p Ext.refl S q2 q hq⟩
  | tup ws=>
   unfold ai at r1
   obtain⟨a,xs,rfl,q1,q2⟩:=r1
   exact⟨a,xs,rfl,.inr (fm.of q1),λq hq=>iI p Ext.refl S q2 q hq⟩
  | _=>exact aa p⟩
def eO:List Wv->Hs->Re Wv
 | [.ref l],st=>match aj st l with
  | some ws=> .ok (.tup ws) st
  | none=> .bad
 | [.tup ws],st=> .ok (.tup ws) st
 | _,_=> .bad
theorem MU:cU X (.type "tuple") eO:=⟨_,qW,λws vs st H m Q S rs p=>by
 match ws,rs,p with
 | [],rs,p=>exact aa p
 | x::y::t,rs,p=>cases x<;>exact aa p
 | [x],rs,p=>
  obtain⟨v,rfl,r1⟩:=kJ rs
  cases x with
  | ref l=>
   unfold eO at p
   unfold ai at r1
   obtain⟨a,rfl,hl⟩:=r1
   cases e:aj st l with
   | none=>simp only[e] at p;exact aa p
   | some ws=>
    simp only[e] at p
    obtain⟨xs,q1,q2⟩:=S.read hl e
    refine⟨a,xs,rfl,.inl ⟨q1,λq hq=>?_⟩⟩
    have e2:Ext X.K m H m (upd H q (.tup xs)):=Ext.upd (.inl hq)
    exact p (.ref q) m _ e2 (S.fresh hq) (by unfold ai;exact⟨q,xs,rfl,aI,ag.mono e2 _ _ q2⟩)
  | tup ws=>
   have r1':=r1
   unfold ai at r1'
   obtain⟨a,xs,rfl,q1,q2⟩:=r1'
   exact⟨a,xs,rfl,.inr ⟨fm.of q1,p _ m H Ext.refl S r1⟩⟩
  | _=>exact aa p⟩
end
section
variable {X:Cx}
def pX(ga gb:GE):GE:=λρ st=>match ga ρ st with
  | .bad=>gb ρ st
  | r=>r
theorem DQ{e:Expr}{ga gb:GE}(ha:JE X e ga)(hb:JE X e gb):JE X e (pX ga gb):=by
  intro ρ st σ H m Q S R p
  unfold pX at p
  cases e1:ga ρ st with
  | bad=>rw[e1] at p;exact hb ρ st σ H m Q S R p
  | ok w st'=>rw[e1] at p;exact ha ρ st σ H m Q S R (by rw[e1];exact p)
  | err c st'=>rw[e1] at p;exact ha ρ st σ H m Q S R (by rw[e1];exact p)
def intsOf:List Wv->Option (List Int)
  | []=>some []
  | .int b::r=>(match intsOf r with | some l=>some (b::l) | none=>none)
  | _=>none
theorem iW:∀ns:List Int,intsOf (ns.map Wv.int)=some ns
  | []=>rfl
  | n::r=>by rw[aM];unfold intsOf;rw[iW r]
theorem iX{K:PySem.W.Frag}{m:Mp}{H:Hp}:∀{ws:List Wv}{xs:List V}{bs:List Int},ag K m H ws xs->intsOf ws=some bs->xs=bs.map V.int
  | [],xs,bs,r,h=>by
    unfold ag at r
    cases h
    exact r
  | w::ws,xs,bs,r,h=>by
    unfold ag at r
    obtain⟨x,t,rfl,r1,r2⟩:=r
    cases w with
    | int b=>
      unfold intsOf at h
      cases e:intsOf ws with
      | none=>rw[e] at h;cases h
      | some l=>
        rw[e] at h
        cases h
        unfold ai at r1
        rw[r1,iX r2 e]
        rfl
    | _=>cases h
theorem ma:∀{ns:List Int}{its:List aak},Vals (ns.map V.int) its->∃xs:List (Int×Tok),its=xs.map (λp=>iT p.1 p.2)/\xs.map (·.1)=ns
  | [],its,r=>by cases r;exact⟨[],rfl,rfl⟩
  | n::ns,its,r=>by
    cases r with
    | cons h t=>
      obtain⟨tk,rfl⟩:=h
      obtain⟨xs,e1,e2⟩:=ma t
      exact⟨(n,tk)::xs,by rw[e1];rfl,by rw[<-e2];rfl⟩
theorem m6(xs:List (Int×Tok))(i:Nat):numAt xs.toArray i=(xs.map (·.1)).getD i 0:=by
  unfold numAt
  rw[List.getElem?_toArray,cL,gM]
theorem pY(xs:List (Int×Tok)):∀k,preSum (numAt xs.toArray) k=((xs.map (·.1)).take k).sum
  | 0=>by simp[preSum]
  | k+1=>by
    unfold preSum
    rw[pY xs k,m6]
    rw[PySem.sum_take_succ]
theorem A0(hc:X.calm=true):dM X (.builtin "sum") (λxs H Q=>∃(p:aae)(ns:List Int),xs=[.ref p]/\jq X.K H p (ns.map V.int)/\Q (.int ns.sum) H):=by
  intro pins s σ H xs us Q I r h
  obtain⟨p,ns,rfl,hq,q⟩:=h
  obtain⟨u,rfl,rx⟩:=vals1 r
  cases rx
  obtain⟨its,r',pl,hz⟩:=I.list hq
  obtain⟨xs,rfl,rfl⟩:=ma r'
  have hl:=pl.isList
  have e:(xs.map λp=>iT p.1 p.2).toArray=intItems xs.toArray:=by unfold intItems;simp
  rw[e] at hl
  refine sum_intListG (I.ok.hd hc) hl λh' tk t' hk=>⟨.int _,H,I.kept hk,⟨t',?_⟩,q⟩
  rw[pY,Ig (by simp)]
def xw:List Wv->Hs->Re Wv
  | [.ref l],st=>match aj st l with
    | some ws=>(match intsOf ws with | some ns=> .ok (.int ns.sum) st | none=> .bad)
    | none=> .bad
  | _,_=> .bad
theorem MV(hc:X.calm=true):cU X (.builtin "sum") xw:=⟨_,A0 hc,λws vs st H m Q S rs p=>by
  match ws,rs,p with
  | [],rs,p=>exact aa p
  | x::y::t,rs,p=>cases x<;>exact aa p
  | [x],rs,p=>
    obtain⟨v,rfl,r1⟩:=kJ rs
    cases x with
    | ref l=>
      unfold xw at p
      unfold ai at r1
      obtain⟨a,rfl,hl⟩:=r1
      cases e:aj st l with
      | none=>simp only[e] at p;exact aa p
      | some ws=>
        simp only[e] at p
        cases e2:intsOf ws with
        | none=>simp only[e2] at p;exact aa p
        | some bs=>
          simp only[e2] at p
          obtain⟨xs,q1,q2⟩:=S.read hl e
          have q3:=iX q2 e2
          subst q3
          exact⟨a,bs,rfl,q1,p _ m H Ext.refl S mkInt⟩
    | _=>exact aa p⟩
def A1(n:Int)(r:List Int):Int:=r.foldl (λa b=>if b > a then b else a) n
def A2(n:Int)(r:List Int):Int:=r.foldl (λa b=>if b < a then b else a) n
theorem DR:∀(r:List Int)(n:Int),A1 n r∈n::r/\∀a∈n::r,a<=A1 n r
  | [],n=>by simp[A1]
  | b::r,n=>by
    have e:A1 n (b::r)=A1 (if b > n then b else n) r:=rfl
    obtain⟨h1,h2⟩:=DR r (if b > n then b else n)
    rw[e]
    constructor
    · rcases List.mem_cons.mp h1 with z | z
      · rw[z];split<;>simp
      · simp[z]
    · intro a ha
      have hn:n<=A1 (if b > n then b else n) r/\b<=A1 (if b > n then b else n) r:=by
        have q:=h2 _ bp
        revert q
        split<;>intro q<;>constructor<;>omega
      rcases List.mem_cons.mp ha with z | z
      · rw[z];exact hn.1
      · rcases List.mem_cons.mp z with z | z
        · rw[z];exact hn.2
        · exact h2 a (aX _ z)
theorem DS:∀(r:List Int)(n:Int),A2 n r∈n::r/\∀a∈n::r,A2 n r<=a
  | [],n=>by simp[A2]
  | b::r,n=>by
    have e:A2 n (b::r)=A2 (if b < n then b else n) r:=rfl
    obtain⟨h1,h2⟩:=DS r (if b < n then b else n)
    rw[e]
    constructor
    · rcases List.mem_cons.mp h1 with z | z
      · rw[z];split<;>simp
      · simp[z]
    · intro a ha
      have hn:A2 (if b < n then b else n) r<=n/\A2 (if b < n then b else n) r<=b:=by
        have q:=h2 _ bp
        revert q
        split<;>intro q<;>constructor<;>omega
      rcases List.mem_cons.mp ha with z | z
      · rw[z];exact hn.1
      · rcases List.mem_cons.mp z with z | z
        · rw[z];exact hn.2
        · exact h2 a (aX _ z)
theorem Qp{n M:Int}{r:List Int}(h:M∈n::r)(k:∀a∈n::r,a<=M):M=A1 n r:=by
  obtain⟨h1,h2⟩:=DR r n
  have:=h2 M h
  have:=k _ h1
  omega
theorem Qq{n M:Int}{r:List Int}(h:M∈n::r)(k:∀a∈n::r,M<=a):M=A2 n r:=by
  obtain⟨h1,h2⟩:=DS r n
  have:=h2 M h
  have:=k _ h1
  omega
theorem rQ{l:List Int}{i:Nat}(h:i < l.length):l.getD i 0∈l:=by
  rw[cL,bR h]
  exact jL h
theorem A3(hc:X.calm=true):dM X (.builtin "max") (λxs H Q=>∃(p:aae)(n:Int)(ns:List Int),xs=[.ref p]/\jq X.K H p ((n::ns).map V.int)/\Q (.int (A1 n ns)) H):=by
  intro pins s σ H xs us Q I r h
  obtain⟨p,n,ns,rfl,hq,q⟩:=h
  obtain⟨u,rfl,rx⟩:=vals1 r
  cases rx
  obtain⟨its,r',pl,hz⟩:=I.list hq
  obtain⟨xs,rfl,e0⟩:=ma r'
  have hl:=pl.isList
  have e:(xs.map λp=>iT p.1 p.2).toArray=intItems xs.toArray:=by unfold intItems;simp
  rw[e] at hl
  have hsz:xs.length=(n::ns).length:=by rw[<-e0];simp
  have hs0:0 < xs.toArray.size:=by simp[hsz]
  refine max_intList (I.ok.hd hc) hl hs0 λv h' tk hv hk=>?_
  obtain⟨t,rfl⟩:=intItems_at hv
  obtain⟨h1,h2⟩:=PySem.argBest_gt (numAt xs.toArray) (xs.toArray.size - 1)
  refine⟨.int _,H,I.kept hk,⟨t,?_⟩,q⟩
  congr 1
  have hn:=λi=>m6 xs i
  rw[e0] at hn
  refine Qp ?_ λa ha=>?_
  · rw[hn]
    refine rQ ?_
    have:xs.toArray.size=(n::ns).length:=by simp[hsz]
    omega
  · obtain⟨j,hj,rfl⟩:=List.mem_iff_getElem.mp ha
    have q2 := h2 j (by have : xs.toArray.size = (n :: ns).length := by simp [hsz]
                        omega)
    rw[hn j,cL,bR hj] at q2
    exact q2
theorem A4(hc:X.calm=true):dM X (.builtin "min") (λxs H Q=>∃(p:aae)(n:Int)(ns:List Int),xs=[.ref p]/\jq X.K H p ((n::ns).map V.int)/\Q (.int (A2 n ns)) H):=by
  intro pins s σ H xs us Q I r h
  obtain⟨p,n,ns,rfl,hq,q⟩:=h
  obtain⟨u,rfl,rx⟩:=vals1 r
  cases rx
  obtain⟨its,r',pl,hz⟩:=I.list hq
  obtain⟨xs,rfl,e0⟩:=ma r'
  have hl:=pl.isList
  have e:(xs.map λp=>iT p.1 p.2).toArray=intItems xs.toArray:=by unfold intItems;simp
  rw[e] at hl
  have hsz:xs.length=(n::ns).length:=by rw[<-e0];simp
  have hs0:0 < xs.toArray.size:=by simp[hsz]
  refine min_intList (I.ok.hd hc) hl hs0 λv h' tk hv hk=>?_
  obtain⟨t,rfl⟩:=intItems_at hv
  obtain⟨h1,h2⟩:=PySem.argBest_lt (numAt xs.toArray) (xs.toArray.size - 1)
  refine⟨.int _,H,I.kept hk,⟨t,?_⟩,q⟩
  congr 1
  have hn:=λi=>m6 xs i
  rw[e0] at hn
  refine Qq ?_ λa ha=>?_
  · rw[hn]
    refine rQ ?_
    have:xs.toArray.size=(n::ns).length:=by simp[hsz]
    omega
  · obtain⟨j,hj,rfl⟩:=List.mem_iff_getElem.mp ha
    have q2 := h2 j (by have : xs.toArray.size = (n :: ns).length := by simp [hsz]
                        omega)
    rw[hn j,cL,bR hj] at q2
    exact q2
def nT:List Wv->Hs->Re Wv
  | [.ref l],st=>match aj st l with
    | some ws=>(match intsOf ws with | some (n::r)=> .ok (.int (A1 n r)) st | _=> .bad)
    | none=> .bad
  | ws,st=>Qc ws st
def nU:List Wv->Hs->Re Wv
  | [.ref l],st=>match aj st l with
    | some ws=>(match intsOf ws with | some (n::r)=> .ok (.int (A2 n r)) st | _=> .bad)
    | none=> .bad
  | ws,st=>Qd ws st
theorem cU.or{f:aak}{op op':List Wv->Hs->Re Wv}(g:List Wv->Hs->Re Wv)(h:cU X f op)(h':cU X f op')(k:∀ws st,g ws st=op ws st\/g ws st=op' ws st):cU X f g:=by
  obtain⟨r,h1,h2⟩:=h
  obtain⟨r',JP,h2'⟩:=h'
  refine⟨_,h1.or JP,λws vs st H m Q S rs p=>?_⟩
  rcases k ws st with e | e
  · rw[e] at p;exact .inl (h2 ws vs st H m Q S rs p)
  · rw[e] at p;exact .inr (h2' ws vs st H m Q S rs p)
def DT:List Wv->Hs->Re Wv
  | [.ref l],st=>match aj st l with
    | some ws=>(match intsOf ws with | some (n::r)=> .ok (.int (A1 n r)) st | _=> .bad)
    | none=> .bad
  | _,_=> .bad
def DU:List Wv->Hs->Re Wv
  | [.ref l],st=>match aj st l with
    | some ws=>(match intsOf ws with | some (n::r)=> .ok (.int (A2 n r)) st | _=> .bad)
    | none=> .bad
  | _,_=> .bad
theorem Ih(hc:X.calm=true):cU X (.builtin "max") DT:=⟨_,A3 hc,λws vs st H m Q S rs p=>by
  match ws,rs,p with
  | [],rs,p=>exact aa p
  | x::y::t,rs,p=>cases x<;>exact aa p
  | [x],rs,p=>
    obtain⟨v,rfl,r1⟩:=kJ rs
    cases x with
    | ref l=>
      unfold DT at p
      unfold ai at r1
      obtain⟨a,rfl,hl⟩:=r1
      cases e:aj st l with
      | none=>simp only[e] at p;exact aa p
      | some ws=>
        simp only[e] at p
        cases e2:intsOf ws with
        | none=>simp only[e2] at p;exact aa p
        | some bs=>
          cases bs with
          | nil=>simp only[e2] at p;exact aa p
          | cons n bs=>
            simp only[e2] at p
            obtain⟨xs,q1,q2⟩:=S.read hl e
            have q3:=iX q2 e2
            subst q3
            exact⟨a,n,bs,rfl,q1,p _ m H Ext.refl S mkInt⟩
    | _=>exact aa p⟩
theorem Ii(hc:X.calm=true):cU X (.builtin "min") DU:=⟨_,A4 hc,λws vs st H m Q S rs p=>by
  match ws,rs,p with
  | [],rs,p=>exact aa p
  | x::y::t,rs,p=>cases x<;>exact aa p
  | [x],rs,p=>
    obtain⟨v,rfl,r1⟩:=kJ rs
    cases x with
    | ref l=>
      unfold DU at p
      unfold ai at r1
      obtain⟨a,rfl,hl⟩:=r1
      cases e:aj st l with
      | none=>simp only[e] at p;exact aa p
      | some ws=>
        simp only[e] at p
        cases e2:intsOf ws with
        | none=>simp only[e2] at p;exact aa p
        | some bs=>
          cases bs with
          | nil=>simp only[e2] at p;exact aa p
          | cons n bs=>
            simp only[e2] at p
            obtain⟨xs,q1,q2⟩:=S.read hl e
            have q3:=iX q2 e2
            subst q3
            exact⟨a,n,bs,rfl,q1,p _ m H Ext.refl S mkInt⟩
    | _=>exact aa p⟩
theorem Ij(hc:X.calm=true):cU X (.builtin "max") nT:=cU.or nT (Ih hc) (MH hc) λws st=>by
  unfold nT DT
  split
  · exact .inl rfl
  · exact .inr rfl
theorem Ik(hc:X.calm=true):cU X (.builtin "min") nU:=cU.or nU (Ii hc) (MI hc) λws st=>by
  unfold nU DU
  split
  · exact .inl rfl
  · exact .inr rfl
end
section
variable {X:Cx}
def pZ(mt:PySem.Str->List Wv->Hs->Re Wv)(go:GE)(ga:GA):GE:=λρ st=>(go ρ st).bind λo st1=>match o with
 | .str z=>(ga ρ st1).bind λws st2=>(mt z ws st2).ju
 | _=> .bad
def Wz(X:Cx)(id:String)(mt:PySem.Str->List Wv->Hs->Re Wv):Prop:=∃r,JK X id r/\∀(z:PySem.Str)(ws:List Wv)(vs:List V)(st:Hs)(H:Hp)(m:Mp)(Q:VK),aQ z=true->bo X.K m st H->ag X.K m H ws vs->dE X.K m H (mt z ws st) Q->r (.str z) vs H Q
theorem DV{o:Expr}{name:Str}{id:String}{e:Expr}{es:List Expr}{go:GE}{ga:GA}{apos cpos:Pos}{mt:PySem.Str->List Wv->Hs->Re Wv}(hm:Wz X id mt)(slot:Slot "str" name id)(hty:typeOf (.builtin id)=pure (.type "method_descriptor"))(ho:JE X o go)(ha:JA X (e::es) ga)
  (hbase:attributeBase o name X.env (eval o X.env)=eval o X.env)
  (hfew:((backTo cpos (aaw (e::es) X.env)).all (λx=> !x.1)&&(backToKw cpos (keywordEach [] X.env)).all (λx=>x.1.isSome)&&decide ((e::es).length+([]:List Keyword).length+(if([]:List Keyword).isEmpty then 0 else 1) < 30))=true)
  (hline:(apos.endLine == cpos.line)=true)(hs:aaw (e::es) X.env=(false,eval e X.env)::aaw es X.env)(hplain:(backTo cpos (aaw es X.env)).any (·.1)=false) :
  JE X (.Call (.Attribute o name apos) (e::es) [] cpos) (pZ mt go ga):=by
 obtain⟨r,h1,h2⟩:=hm
 refine JE.of (yG PySem.F.plainAttrs_str slot hty h1 aG jk hbase hfew hline hs hplain) λρ st σ H m Q S R p=>?_
 refine ho.go S R (ar.bind p) λo st1 v m1 H1 p1 e1 S1 ro=>?_
 cases o with
 | str z=>
  dsimp only at p1
  unfold ai at ro
  obtain⟨rfl,hz⟩:=ro
  refine⟨rfl,?_⟩
  refine ha.go S1 (R.mono e1) ((ar.bind p1).imp e1 λ_ _ q=>q) λws st2 vs m2 H2 p2 e2 S2 rs=>?_
  exact h2 z ws vs st2 H2 m2 Q hz S2 rs (dE.shift (ar.ju p2) (e1.trans e2))
 | _=>exact aa p1
theorem rR{z:PySem.Str}:aQ z=true↔∀c∈z.cps.toList,c < 1114112:=by
 unfold aQ
 rw[PX]
 constructor
 ·intro h c hc
  simpa using h c (Array.mem_toList_iff.mp hc)
 ·intro h c hc
  simpa using h c (Array.mem_toList_iff.mpr hc)
end
section
variable {X:Cx}
theorem MW:Gh X (λx lo hi H Q=>∃z,x= .str z/\z.length<=aav/\Q (.str (j' z lo hi)) H):=by
 intro pins s σ H x v vl vu lo hi sl Q I rx hs pl pu h
 obtain⟨z,rfl,hz,q⟩:=h
 obtain⟨t,rfl⟩:=rx
 have fin:∀t' k,EP X pins σ Q (.str (j' z lo hi) t') { s with toks:=k }:=λt' k=>⟨.str _,H,I.tok k,⟨t',rfl⟩,q⟩
 refine⟨"str",_,PySem.F.slot_str_getitem.lookup,typeIs_str _ _ _,?_⟩
 have hl:=bb (Txt.slice_le z lo hi) hz
 cases pl with
 | none=>
  cases pu with
  | none=>exact wpAny_getItem_str_slice (l:=none) (u:=none) (st:=none) hs rfl (post_val_or_str ⟨hl,fin⟩)
  | int j tj=>exact wpAny_getItem_str_slice (l:=none) (u:=some (j,tj)) (st:=none) hs rfl (post_val_or_str ⟨hl,fin⟩)
 | int i ti=>
  cases pu with
  | none=>exact wpAny_getItem_str_slice (l:=some (i,ti)) (u:=none) (st:=none) hs rfl (post_val_or_str ⟨hl,fin⟩)
  | int j tj=>exact wpAny_getItem_str_slice (l:=some (i,ti)) (u:=some (j,tj)) (st:=none) hs rfl (post_val_or_str ⟨hl,fin⟩)
theorem A5{z:PySem.Str}{lo hi:Option Int}{c:Nat}(h:c∈(j' z lo hi).cps.toList):c∈z.cps.toList:=by
 unfold j' at h
 split at h
 ·exact h
 ·simp only[List.mem_filterMap] at h
  obtain⟨i,_,e⟩:=h
  rw[Array.getElem?_eq_some_iff] at e
  obtain⟨hi,rfl⟩:=e
  exact Array.mem_toList_iff.mpr (Array.getElem_mem hi)
theorem vh{z:PySem.Str}{lo hi:Option Int}(h:aQ z=true):aQ (j' z lo hi)=true:=by
 rw[rR] at h ⊢
 exact λc hc=>h c (A5 hc)
end
section
open HT
theorem qZ{prog:aai}{w:aal}{A:aaf}{E:aak->aaj->Prop}{s:aaj}{t sl:aae}{us:Array aak}{vl vu:aak}{lo hi:Option Int}{Q:aak->aaj->Prop}(ht:IsTup s.heap t us)(hs:s.heap.IsSliceOf sl vl vu .none)(pl:IsPart vl lo)(pu:IsPart vu hi)
  (hw:c7 us.size 0 lo=0/\c7 us.size us.size hi=us.size)(h:Q (.ref t) s):aax (model prog w) A (getItem (.ref t) (.ref sl)) Q E s:=by
 obtain⟨os,o1,o2,o3⟩:=id hs
 have tys:s.TypeIs (.ref sl) "slice":=⟨os,o1,o2⟩
 unfold getItem;try with_reducible refine aaA ?_
 first | refine aay (aaE ?_) | skip
 refine aay (wpAny_sequenceKey ht.typeIs (by decide) ?_);refine aay (wpAny_callSpecial?_slot (name:=lO "__getitem__") ht.typeIs sT (wpAny_call_entry sT ht.typeIs entry_tuple_getitem ?_ (args_tuple_getitem _ _)))
 show aax _ _ (LC (.ref t) >>= _) _ _ _;refine aay (tupleItemsOf_ ht ?_);refine aay (wpAny_typeOf tys ?_)
 rw[if_pos (by decide)];refine aay (iF hs pl pu ?_)
 rw[hw.1,hw.2]
 have yes:((((0:Nat):Int)) == 0&&(1:Int) == 1&&(us.size - 0) == us.size)=true:=by simp
 show aax _ _ (if((((0:Nat):Int)) == 0&&(1:Int) == 1&&(us.size - 0) == us.size)=true then _ else _) _ _ s
 rw[if_pos yes]
 refine aay (m:=MX _) ?_
 unfold MX
 refine aay (wpAny_typeOf ht.typeIs (aaE ?_))
 rw[if_pos (by decide)]
 exact aay (wpAny_rule (aaE ⟨_,rfl,aaE h⟩))
end
section
variable {X:Cx}
def Um(K:PySem.W.Frag):V->Option Int->Option Int->Hp->VK->Prop:=λx lo hi H Q=>∃a xs,x= .ref a/\fm K H a xs/\(HT.c7 xs.length 0 lo=0/\HT.c7 xs.length xs.length hi=xs.length)/\Q (.ref a) H
theorem DW:Gh X (Um X.K):=by
 intro pins s σ H x v vl vu lo hi sl Q I rx hs pl pu h
 obtain⟨a,xs,rfl,hx,hw,q⟩:=h
 cases rx
 obtain⟨its,r,ht,hz⟩:=I.tuple hx
 have n:its.toArray.size=xs.length:=by rw[a6];exact r.length.symm
 exact⟨"tuple",_,PyProof.Rows.slot_tuple_getitem.lookup,ht.typeIs,qZ ht hs pl pu (by rw[n];exact hw) ⟨.ref a,H,I,rfl,q⟩⟩
def A6(n:Nat)(lo hi:Option Int):Prop:=HT.c7 n 0 lo=0/\HT.c7 n n hi=n
instance {n:Nat}{lo hi:Option Int}:Decidable (A6 n lo hi):=inferInstanceAs (Decidable (HT.c7 n 0 lo=0/\HT.c7 n n hi=n))
def DX(x:Wv)(lo hi:Option Int)(st:Hs):Re Wv:=match x with
 | .str z=>if z.length<=lim then .ok (.str (j' z lo hi)) st else .bad
 | .tup ws=>if A6 ws.length lo hi then .ok (.tup ws) st else PZ (.tup ws) lo hi st
 | x=>PZ x lo hi st
def du(ga:GE)(gl gh:GO):GE:=λρ st=>(ga ρ st).bind λx st1=>(gl ρ st1).bind λlo st2=>(gh ρ st2).bind λhi st3=>DX x lo hi st3
theorem A7{a:Expr}{lo hi:Option Expr}{ga:GE}{gl gh:GO}{pos p2:Pos}(ha:JE X a ga)(hl:JO X lo gl)(hh:JO X hi gh):JE X (.Subscript a (.Slice lo hi none p2) pos) (du ga gl gh):=by
 have hS:JE X (.Subscript a (.Slice lo hi none p2) pos) (λρ st=>(ga ρ st).bind λx st1=>(gl ρ st1).bind λlo st2=>(gh ρ st2).bind λhi st3=>match x with | .str z=>if z.length<=lim then .ok (.str (j' z lo hi)) st3 else .bad | _=> .bad):=by
  refine JE.of (pe MW aG rJ rJ) λρ st σ H m Q S R p=>?_
  refine ha.go S R (ar.bind p) λx st1 v m1 H1 p1 e1 S1 rx=>?_
  refine hl.go S1 (R.mono e1) ((ar.bind p1).imp e1 λ_ _ q=>q) λl st2 m2 H2 p2 e2 S2=>?_
  refine hh.go S2 (R.mono (e1.trans e2)) ((ar.bind p2).imp (e1.trans e2) λ_ _ q=>q) λh st3 m3 H3 p3 e3 S3=>?_
  have AI:=e1.trans (e2.trans e3)
  cases x with
  | str z=>
   dsimp only at p3
   by_cases c:z.length<=lim
   ·rw[if_pos c] at p3
    unfold ai at rx
    obtain⟨rfl,hz⟩:=rx
    exact⟨z,rfl,fA c,p3 _ m3 H3 AI S3 (mkStr (vh hz))⟩
   ·rw[if_neg c] at p3;exact aa p3
  | _=>exact aa p3
 have hW:JE X (.Subscript a (.Slice lo hi none p2) pos) (λρ st=>(ga ρ st).bind λx st1=>(gl ρ st1).bind λlo st2=>(gh ρ st2).bind λhi st3=>match x with | .tup ws=>if A6 ws.length lo hi then .ok (.tup ws) st3 else PZ (.tup ws) lo hi st3 | _=> .bad):=by
  refine JE.of (pe (Gh.or DW Cy) aG rJ rJ) λρ st σ H m Q S R p=>?_
  refine ha.go S R (ar.bind p) λx st1 v m1 H1 p1 e1 S1 rx=>?_
  refine hl.go S1 (R.mono e1) ((ar.bind p1).imp e1 λ_ _ q=>q) λl st2 m2 H2 p2 e2 S2=>?_
  refine hh.go S2 (R.mono (e1.trans e2)) ((ar.bind p2).imp (e1.trans e2) λ_ _ q=>q) λh st3 m3 H3 p3 e3 S3=>?_
  have AI:=e1.trans (e2.trans e3)
  cases x with
  | tup ws=>
   dsimp only at p3
   have mX:=ai.mono (e2.trans e3) _ _ rx
   unfold ai at mX
   obtain⟨a',xs,rfl,f1,f2⟩:=mX
   by_cases c:A6 ws.length l h
   ·rw[if_pos c] at p3
    unfold A6 at c
    rw[f2.length] at c
    exact .inl ⟨a',xs,rfl,fm.of f1,c,p3 _ m3 H3 AI S3 (by unfold ai;exact⟨a',xs,rfl,f1,f2⟩)⟩
   ·rw[if_neg c] at p3
    unfold PZ at p3
    dsimp only at p3
    unfold A6 at c
    rw[if_neg c] at p3
    rw[f2.length] at c
    refine .inr ⟨a',xs,rfl,fm.of f1,c,λq hq=>?_⟩
    have eU:Ext X.K m3 H3 m3 (L2.upd H3 q (.tup (qS xs l h))):=Ext.iG (.inl hq)
    exact p3 (.ref q) m3 _ (AI.trans eU) (S3.fresh hq) (by unfold ai;exact⟨q,_,rfl,L2.aI,ag.mono eU _ _ (tN f2)⟩)
  | _=>exact aa p3
 intro ρ st σ H m Q S R p
 unfold du at p
 cases e1:ga ρ st with
 | bad=>rw[e1] at p;exact aa p
 | err c st1=>rw[e1] at p;exact uW ha hl hh ρ st σ H m Q S R (by unfold xm;rw[e1];exact p)
 | ok x st1=>
  rw[e1] at p
  cases x with
  | str z=>exact hS ρ st σ H m Q S R (by dsimp only;rw[e1];exact p)
  | tup ws=>exact hW ρ st σ H m Q S R (by dsimp only;rw[e1];exact p)
  | _=>exact uW ha hl hh ρ st σ H m Q S R (by unfold xm;rw[e1];exact p)
def MY:g_
 | .str i,.str j,st=> .ok (.bl (!(mP j i 0 j.length 1).isEmpty)) st
 | x,y,st=>TZ x y st
def me:g_
 | .str i,.str j,st=> .ok (.bl (!(!(mP j i 0 j.length 1).isEmpty))) st
 | x,y,st=>xl x y st
theorem MZ:jv X (aar .In) MY:=by
 obtain⟨r,h1,h2⟩:=PV (X:=X)
 refine⟨_,fu.or Ao h1,λx y a b st H m Q S rx ry p=>?_⟩
 unfold MY at p
 split at p
 ·rename_i i j
  unfold ai at rx ry
  obtain⟨rfl,_⟩:=rx
  obtain⟨rfl,_⟩:=ry
  exact .inl ⟨i,j,rfl,rfl,p _ m H Ext.refl S iJ⟩
 ·exact .inr (h2 x y a b st H m Q S rx ry p)
theorem A8:jv X (aar .NotIn) me:=by
 obtain⟨r,h1,h2⟩:=Df (X:=X)
 refine⟨_,fu.or sX h1,λx y a b st H m Q S rx ry p=>?_⟩
 unfold me at p
 split at p
 ·rename_i i j
  unfold ai at rx ry
  obtain⟨rfl,_⟩:=rx
  obtain⟨rfl,_⟩:=ry
  exact .inl ⟨i,j,rfl,rfl,p _ m H Ext.refl S iJ⟩
 ·exact .inr (h2 x y a b st H m Q S rx ry p)
theorem DY:JK X "str.index" (λx xs H Q=>∃z y i r,x= .str z/\xs=[.str y]/\mP z y 0 z.length 1=i::r/\Q (.int (i:Nat)) H):=by
 intro pins s σ H x xs v us Q I rx rv h
 obtain⟨z,y,i,r,rfl,rfl,ho,q⟩:=h
 obtain⟨t,rfl⟩:=rx
 obtain⟨u,rfl,t',rfl⟩:=vals1 rv
 exact SC.index ho ⟨.int _,H,I.tok _,⟨_,rfl⟩,q⟩
def p5(z:PySem.Str):List Wv->Hs->Re Wv
 | [.str y],st=>(match mP z y 0 z.length 1 with | i::_=> .ok (.int (i:Nat)) st | []=> .bad)
 | _,_=> .bad
theorem DZ:Wz X "str.index" p5:=⟨_,DY,λz ws vs st H m Q hz S rs p=>by
 match ws,rs,p with
 | [],rs,p=>exact aa p
 | x::y::t,rs,p=>cases x<;>exact aa p
 | [x],rs,p=>
  obtain⟨v,rfl,r1⟩:=kJ rs
  cases x with
  | str y=>
   unfold ai at r1
   obtain⟨rfl,_⟩:=r1
   unfold p5 at p
   dsimp only at p
   cases e:mP z y 0 z.length 1 with
   | nil=>rw[e] at p;exact aa p
   | cons i r=>rw[e] at p;exact⟨z,y,i,r,rfl,rfl,e,p _ m H Ext.refl S mkInt⟩
  | _=>exact aa p⟩
end
open PySem PySem.Spec PyProof.Rows L2 PySem.W
section
variable {X:Cx}
end
section
variable {X:Cx}
end
section
variable {X:Cx}
end
def Qr(x:Str):It:=⟨λi _=>i < x.cps.size,λi H v H'=>H'=H/\∃c,x.cps[i]? =some c/\v= .str ⟨#[c]⟩,λi _=>x.cps.size<=i⟩
theorem xx{P:aai}{w:aal}{K:PySem.W.Frag}{tg:Expr}(x:Str)(t:Tok)(it:aae):Turn P w K tg (Qr x) [it] it (λi h=>h.IsStrIter it "str_ascii_iterator" x t i) where
 mem:=List.mem_singleton.mpr rfl
 obj:=λi h st b hb=>by
  cases List.mem_singleton.mp hb
  obtain⟨o,e,c,d⟩:=st
  exact⟨o,e,λv z=>by rw[d] at z;cases z⟩
 keep:=λi h h' st k=>let ⟨o,e,r⟩:=st;⟨o,k it (List.mem_singleton.mpr rfl) o e,r⟩
 item:=by
  intro X hP hw hK hc i pins s σ H E I hf st hg
  subst hP;subst hw;subst hK
  obtain⟨f0,f1,f2,f3,f4,f5⟩:=hf it (List.mem_singleton.mpr rfl)
  have hi:i < x.cps.size:=hg
  refine wpAny_pyNext_ascii_item st (c:=x.cps[i]) (by simp[hi]) λh' st' sb=>?_
  have I1:L2.Inv X pins σ H { s with heap:=h',toks:=s.toks+1 }:=I.turned (t':=s.toks+1) (λb o hb e=>sb.extBut b o hb e) f0 f1 f3 f4 f5
  obtain⟨o,e,c,d⟩:=id st'
  exact⟨_,rfl,uL (s:={ s with heap:=h',toks:=s.toks+1 }) e c d (by decide) ⟨.str ⟨#[x.cps[i]]⟩,H,I1,⟨_,rfl⟩,⟨rfl,_,by simp[hi],rfl⟩,st',λb hb=>(hf b hb).1⟩⟩
 done:=by
  intro X hP hw hK hc i pins s σ H E I hf st hg
  subst hP;subst hw;subst hK
  obtain⟨f0,f1,f2,f3,f4,f5⟩:=hf it (List.mem_singleton.mpr rfl)
  have hi:x.cps.size<=i:=hg
  exact wpAny_pyNext_ascii_end (I.ok.hd hc) st (by simp[hi]) λh' eb=>⟨rfl,I.turned (t':=s.toks) (λb o hb e=>eb b o hb e) f0 f1 f3 f4 f5⟩
 self:=λ_ _ _ _ _ st h=>wpAny_pyIter_striter_ascii st h
theorem A9{P:aai}{w:aal}{K:PySem.W.Frag}{tg:Expr}(x:Str)(t:Tok)(it:aae):Turn P w K tg (Qr x) [it] it (λi h=>h.IsStrIter it "str_iterator" x t i) where
 mem:=List.mem_singleton.mpr rfl
 obj:=λi h st b hb=>by
  cases List.mem_singleton.mp hb
  obtain⟨o,e,c,d⟩:=st
  exact⟨o,e,λv z=>by rw[d] at z;cases z⟩
 keep:=λi h h' st k=>let ⟨o,e,r⟩:=st;⟨o,k it (List.mem_singleton.mpr rfl) o e,r⟩
 item:=by
  intro X hP hw hK hc i pins s σ H E I hf st hg
  subst hP;subst hw;subst hK
  obtain⟨f0,f1,f2,f3,f4,f5⟩:=hf it (List.mem_singleton.mpr rfl)
  have hi:i < x.cps.size:=hg
  refine wpAny_pyNext_wide_item st (c:=x.cps[i]) (by simp[hi]) λh' st' sb=>?_
  have I1:L2.Inv X pins σ H { s with heap:=h',toks:=s.toks+1 }:=I.turned (t':=s.toks+1) (λb o hb e=>sb.extBut b o hb e) f0 f1 f3 f4 f5
  obtain⟨o,e,c,d⟩:=id st'
  exact⟨_,rfl,uL (s:={ s with heap:=h',toks:=s.toks+1 }) e c d (by decide) ⟨.str ⟨#[x.cps[i]]⟩,H,I1,⟨_,rfl⟩,⟨rfl,_,by simp[hi],rfl⟩,st',λb hb=>(hf b hb).1⟩⟩
 done:=by
  intro X hP hw hK hc i pins s σ H E I hf st hg
  subst hP;subst hw;subst hK
  obtain⟨f0,f1,f2,f3,f4,f5⟩:=hf it (List.mem_singleton.mpr rfl)
  have hi:x.cps.size<=i:=hg
  exact wpAny_pyNext_wide_end (I.ok.hd hc) st (by simp[hi]) λh' eb=>⟨rfl,I.turned (t':=s.toks) (λb o hb e=>eb b o hb e) f0 f1 f3 f4 f5⟩
 self:=λ_ _ _ _ _ st h=>wpAny_pyIter_striter_wide st h
section
variable {X:Cx}
theorem M3{tg l:Expr}{tl:TE}(hl:PE X l tl):PI X tg l (λσ H R=>tl σ H λv H1=>∃z,v= .str z/\R (Qr z) H1):=by
 intro pins s σ H R I h
 refine bx (hl pins s σ H _ I h) λv s1 ⟨x,H1,I1,r1,z,e,q⟩=>?_
 subst e
 obtain⟨t,rfl⟩:=r1
 have frs:∀b∈[s1.heap.objs.size],dj X pins H1 b:=λb hb=>by
  cases List.mem_singleton.mp hb
  exact I1.oY (ak _) (I1.hok.fresh (ak _))
 cases ha:z.cps.all (· < 128)
 ·exact wpAny_pyIter_wide ha ⟨s1.heap.objs.size,[s1.heap.objs.size],_,_,H1,rfl,I1.kept (t':=s1.toks) λb o e=>aO _ e,A9 z t _,⟨_,cq _ rfl,rfl,rfl⟩,frs,q⟩
 ·exact wpAny_pyIter_ascii ha ⟨s1.heap.objs.size,[s1.heap.objs.size],_,_,H1,rfl,I1.kept (t':=s1.toks) λb o e=>aO _ e,xx z t _,⟨_,cq _ rfl,rfl,rfl⟩,frs,q⟩
def ir(z:PySem.Str):List Wv:=z.cps.toList.map λc=>Wv.str ⟨#[c]⟩
def vi(w:Wv)(st:Hs):Re Wk:=match w with
 | .str z=> .ok (none,ir z) st
 | w=>MR w st
def bM(g:GE):GI:=λρ st=>(g ρ st).bind vi
theorem M4{z:PySem.Str}{m1:Mp}{H1:Hp}(hz:aQ z=true):vf X (none,ir z) m1 H1 (Qr z) where
 go:=λk H m' st _ _ _ hk=>by
  have:k < z.cps.size:=by simpa [ir] using hk
  exact this
 stop:=λk H m' st _ _ _ hk=>by
  have:k=z.cps.size:=by simpa [ir] using hk
  exact lQ this.symm
 uD:=λk hk H v H' m' st _ _ _ y=>by
  obtain⟨rfl,c,hc,rfl⟩:=y
  refine⟨rfl,?_⟩
  have hk':k < z.cps.size:=by simpa [ir] using hk
  have e:∀h:k < (ir z).length,(ir z)[k]'h= .str ⟨#[z.cps[k]]⟩:=by intro h;simp[ir]
  have hc':z.cps[k]=c:=by simpa [hk'] using hc
  show ai X.K m' H' ((ir z)[k]'hk) _
  rw[e hk,hc']
  refine mkStr ?_
  rw[rR] at hz ⊢
  intro d hd
  simp at hd
  rw[hd,<-hc']
  exact hz _ (by simp)
theorem y7{tg iter:Expr}{g:GE}(h:JE X iter g):JI X tg iter (bM g):=by
 obtain⟨w1,h1,k1⟩:=MS (tg:=tg) h
 refine⟨λσ H R=>w1 σ H R\/(SE X iter σ H λv H1=>∃z,v= .str z/\R (Qr z) H1),λpins s σ H R I q=>?_,λρ st σ H m R S RR p=>?_⟩
 ·rcases q with q | q
  ·exact h1 pins s σ H R I q
  ·exact M3 aG pins s σ H R I q
 ·unfold bM at p
  cases e:g ρ st with
  | bad=>rw[e] at p;exact aa p
  | err c st'=>rw[e] at p;exact .inl (k1 ρ st σ H m R S RR (by unfold DM;rw[e];exact p))
  | ok w st'=>
   rw[e] at p
   cases w with
   | str z=>
    refine .inr ?_
    refine h.go (ok:=λw st1=>w= .str z/\st1=st') S RR (by rw[e];exact⟨rfl,rfl⟩) λw st1 v m1 H1 q e1 S1 r1=>?_
    obtain⟨rfl,rfl⟩:=q
    unfold ai at r1
    obtain⟨rfl,hz⟩:=r1
    exact⟨z,rfl,p m1 H1 _ e1 S1 trivial (M4 hz)⟩
   | _=>exact .inl (k1 ρ st σ H m R S RR (by unfold DM;rw[e];exact p))
end
section
variable {X:Cx}
theorem p_{x:V}:∀{xs:List V}{us:List aak},Vals xs us->xs.all ff=true->us.countP (qV x)=xs.countP λy=>uO y x
 | _,_,.nil,_=>rfl
 | y::xs,u::us,.cons r t,f=>by
  rw[eL,dC] at f
  rw[xy,xy,pj r f.1,p_ t f.2]
theorem A_:JK X "list.count" (λx xs H Q=>∃(p:aae)(ys:List V)(y:V),x= .ref p/\xs=[y]/\jq X.K H p ys/\ff y=true/\ys.all ff=true/\Q (.int (ys.countP λz=>uO z y:Nat)) H):=by
 intro pins s σ H x xs v us Q I rx rv h
 obtain⟨p,ys,y,rfl,rfl,hq,fy,fs,q⟩:=h
 cases rx
 obtain⟨u,rfl,ru⟩:=vals1 rv
 obtain⟨its,r,pl,hz⟩:=I.list hq
 obtain⟨⟨cls,dd,data,sl⟩,ho,hc,n,hd⟩:=pl.isList
 simp only at hc hd
 subst hc;subst hd
 refine call_meets PySem.F.slot_list_count ⟨_,ho,rfl⟩ PySem.F.entry_list_count (PySem.F.args_list_count_2 _ _) (SeqAt.list_countAt p its.toArray n dd sl u (qV y)) ⟨ho,λw hw=>fS ru fy r fs w (by simpa using hw),?_⟩
 refine⟨.int _,H,I.tok _,⟨s.toks,?_⟩,q⟩
 rw[List.toList_toArray,p_ r fs]
theorem Ba:JK X "list.index" (λx xs H Q=>∃(p:aae)(ys:List V)(y:V)(j:Nat),x= .ref p/\xs=[y]/\jq X.K H p ys/\ff y=true/\ys.all ff=true/\ys.findIdx? (λz=>uO z y)=some j/\Q (.int (j:Nat)) H):=by
 intro pins s σ H x xs v us Q I rx rv h
 obtain⟨p,ys,y,j,rfl,rfl,hq,fy,fs,hj,q⟩:=h
 cases rx
 obtain⟨u,rfl,ru⟩:=vals1 rv
 obtain⟨its,r,pl,hz⟩:=I.list hq
 have hlen:=r.length
 obtain⟨⟨cls,dd,data,sl⟩,ho,hc,n,hd⟩:=pl.isList
 simp only at hc hd
 subst hc;subst hd
 rw[D3] at hj
 obtain⟨hj1,hj2,Uo⟩:=hj
 have at':∀(k:Nat)(h:k < ys.length)(h':k < its.length),qV y its[k]=uO ys[k] y:=by
  intro k h h'
  obtain⟨w,hw,rw'⟩:=r.get (bR h)
  rw[bR h'] at hw
  cases hw
  exact pj rw' (List.all_eq_true.mp fs _ (jL h))
 have hs:aav=16777216:=sizeLine_eq
 refine call_meets PySem.F.slot_list_index ⟨_,ho,rfl⟩ PySem.F.entry_list_index (PySem.F.args_list_index_2 _ _) (SeqAt.list_indexAt p its.toArray n dd sl u (qV y) j (by simp;omega) (by omega) ?_ ?_) ⟨ho,λw hw=>fS ru fy r fs w (by simpa using hw),⟨.int _,H,I.tok _,⟨_,rfl⟩,q⟩⟩
 ·rw[xA,at' j hj1 (by omega)];exact hj2
 ·intro m hm hlt
  rw[xA,at' m (by omega) (by omega)]
  simpa using Uo m hlt
def tX(o v:Wv)(st:Hs):Re Wv:=match o with
 | .ref l=>(match aj st l with
  | some ws=>if bO v=true/\ws.all bO=true then .ok (.int (ws.countP λz=>wO z v:Nat)) st else .bad
  | none=> .bad)
 | _=> .bad
def hZ(o v:Wv)(st:Hs):Re Wv:=match o with
 | .ref l=>(match aj st l with
  | some ws=>if bO v=true/\ws.all bO=true then(match ws.findIdx? (λz=>wO z v) with | some j=> .ok (.int (j:Nat)) st | none=> .bad) else .bad
  | none=> .bad)
 | _=> .bad
theorem iY{m:Mp}{H:Hp}:∀{ws:List Wv}{xs:List V},ag X.K m H ws xs->ws.all bO=true->xs.all ff=true
 | [],xs,r,_=>by unfold ag at r;subst r;rfl
 | w::ws,xs,r,f=>by
  unfold ag at r
  obtain⟨x,t,rfl,r1,r2⟩:=r
  rw[eL,dC] at f ⊢
  exact⟨gN r1 f.1,iY r2 f.2⟩
theorem rS{m:Mp}{H:Hp}{v:Wv}{y:V}(rv:ai X.K m H v y)(fv:bO v=true):∀{ws:List Wv}{xs:List V},ag X.K m H ws xs->ws.all bO=true->(xs.countP λz=>uO z y)=ws.countP λz=>wO z v
 | [],xs,r,_=>by unfold ag at r;subst r;rfl
 | w::ws,xs,r,f=>by
  unfold ag at r
  obtain⟨x,t,rfl,r1,r2⟩:=r
  rw[eL,dC] at f
  rw[xy,xy,rS rv fv r2 f.2,tM r1 rv f.1 fv]
theorem qa{m:Mp}{H:Hp}{v:Wv}{y:V}(rv:ai X.K m H v y)(fv:bO v=true):∀{ws:List Wv}{xs:List V},ag X.K m H ws xs->ws.all bO=true->xs.findIdx? (λz=>uO z y)=ws.findIdx? λz=>wO z v
 | [],xs,r,_=>by unfold ag at r;subst r;rfl
 | w::ws,xs,r,f=>by
  unfold ag at r
  obtain⟨x,t,rfl,r1,r2⟩:=r
  rw[eL,dC] at f
  rw[DG,DG,qa rv fv r2 f.2,tM r1 rv f.1 fv]
theorem Bb:J3 X "list.count" tX:=⟨_,A_,λo w x v st H m Q S ro rw' p=>by
 cases o with
 | ref l=>
  unfold ai at ro
  obtain⟨a,rfl,ha⟩:=ro
  unfold tX at p
  cases e:aj st l with
  | none=>simp only[e] at p;exact aa p
  | some ws=>
   simp only[e] at p
   by_cases c:bO w=true/\ws.all bO=true
   ·rw[if_pos c] at p
    obtain⟨xs,q1,q2⟩:=S.read ha e
    refine⟨a,xs,v,rfl,rfl,q1,gN rw' c.1,iY q2 c.2,?_⟩
    rw[rS rw' c.1 q2 c.2]
    exact p _ m H Ext.refl S mkInt
   ·rw[if_neg c] at p;exact aa p
 | _=>exact aa p⟩
theorem rT:J3 X "list.index" hZ:=⟨_,Ba,λo w x v st H m Q S ro rw' p=>by
 cases o with
 | ref l=>
  unfold ai at ro
  obtain⟨a,rfl,ha⟩:=ro
  unfold hZ at p
  cases e:aj st l with
  | none=>simp only[e] at p;exact aa p
  | some ws=>
   simp only[e] at p
   by_cases c:bO w=true/\ws.all bO=true
   ·rw[if_pos c] at p
    obtain⟨xs,q1,q2⟩:=S.read ha e
    cases ej:ws.findIdx? (λz=>wO z w) with
    | none=>rw[ej] at p;exact aa p
    | some j=>
     rw[ej] at p
     exact⟨a,xs,v,j,rfl,rfl,q1,gN rw' c.1,iY q2 c.2,by rw[qa rw' c.1 q2 c.2];exact ej,p _ m H Ext.refl S mkInt⟩
   ·rw[if_neg c] at p;exact aa p
 | _=>exact aa p⟩
end
def keyOf:Wv->Option L2.Key
 | .int i=>some (.inl i)
 | .str x=>some (.inr x)
 | .aL=>some .aL
 | _=>none
theorem fB{K:PySem.W.Frag}{m:Mp}{H:Hp}{w:Wv}{v:V}{k:L2.Key}(r:ai K m H w v)(e:keyOf w=some k):v=kV k:=by
 cases w with
 | int i=>cases e;unfold ai at r;rw[r];rfl
 | str x=>cases e;unfold ai at r;rw[r.1];rfl
 | aL=>cases e;unfold ai at r;rw[r];rfl
 | _=>cases e
def dI{κ:Type}[DecidableEq κ](kvs:List (κ×Wv))(k:κ):Option Wv:=match kvs with
 | []=>none
 | p::r=>if p.1=k then some p.2 else dI r k
def jM{κ:Type}[DecidableEq κ](kvs:List (κ×Wv))(k:κ)(v:Wv):List (κ×Wv):=if(kvs.any λkv=>decide (kv.1=k))=true then kvs.map (λkv=>if kv.1=k then(kv.1,v) else kv) else kvs++[(k,v)]
def qb(kvs more:List (L2.Key×Wv)):List (L2.Key×Wv):=more.foldl (λacc kv=>jM acc kv.1 kv.2) kvs
section
variable {K:PySem.W.Frag} {m:Mp} {H:Hp} {κ:Type}
theorem RelK.nil:RelK (κ:=κ) K m H [] []:=⟨rfl,ag.nil⟩
theorem RelK.cons{k:κ}{w:Wv}{v:V}{kvs:List (κ×Wv)}{xs:List (κ×V)}(h:ai K m H w v)(t:RelK K m H kvs xs):RelK K m H ((k,w)::kvs) ((k,v)::xs) :=
 ⟨by simp[t.1],by simpa using ag.cons h t.2⟩
theorem RelK.nil_inv{xs:List (κ×V)}(h:RelK K m H [] xs):xs=[]:=by
 have:=h.1
 cases xs with
 | nil=>rfl
 | cons a b=>simp at this
theorem RelK.cons_inv{p:κ×Wv}{kvs:List (κ×Wv)}{xs:List (κ×V)}(h:RelK K m H (p::kvs) xs):∃v t,xs=(p.1,v)::t/\ai K m H p.2 v/\RelK K m H kvs t:=by
 obtain⟨h1,h2⟩:=h
 cases xs with
 | nil=>simp at h1
 | cons q t=>
  simp at h1 h2
  unfold ag at h2
  obtain⟨x,r,e1,e2,e3⟩:=h2
  cases e1
  exact⟨q.2,t,by rw[h1.1],e2,h1.2,e3⟩
theorem RelK.length{kvs:List (κ×Wv)}{xs:List (κ×V)}(h:RelK K m H kvs xs):kvs.length=xs.length:=by
 have:=congrArg gL h.1
 simpa using this
variable [DecidableEq κ]
theorem RelK.val:∀{kvs:List (κ×Wv)}{xs:List (κ×V)}(k:κ),RelK K m H kvs xs->(dI kvs k=none->kG xs k=none)/\∀w,dI kvs k=some w->∃v,kG xs k=some v/\ai K m H w v
 | [],xs,k,h=>by
  rw[h.nil_inv]
  exact⟨λ_=>rfl,(λw e=>by cases e)⟩
 | p::r,xs,k,h=>by
  obtain⟨v,t,rfl,h1,h2⟩:=h.cons_inv
  obtain⟨i1,i2⟩:=RelK.val k h2
  unfold dI
  by_cases e:p.1=k
  ·rw[if_pos e,lR (by exact e)]
   exact⟨(λz=>by cases z),λw z=>⟨v,rfl,by cases z;exact h1⟩⟩
  ·rw[if_neg e,lS (by exact e)]
   exact⟨i1,i2⟩
theorem RelK.any:∀{kvs:List (κ×Wv)}{xs:List (κ×V)}(k:κ),RelK K m H kvs xs->(kvs.any λkv=>decide (kv.1=k))=xs.any λkv=>decide (kv.1=k)
 | [],xs,k,h=>by rw[h.nil_inv];rfl
 | p::r,xs,k,h=>by
  obtain⟨v,t,rfl,h1,h2⟩:=h.cons_inv
  rw[fz,fz,RelK.any k h2]
theorem RelK.repl:∀{kvs:List (κ×Wv)}{xs:List (κ×V)}(k:κ){w:Wv}{v:V},RelK K m H kvs xs->ai K m H w v->RelK K m H (kvs.map λkv=>if kv.1=k then(kv.1,w) else kv) (xs.map λkv=>if kv.1=k then(kv.1,v) else kv)
 | [],xs,k,w,v,h,r=>by rw[h.nil_inv];exact RelK.nil
 | p::kvs,xs,k,w,v,h,r=>by
  obtain⟨u,t,rfl,h1,h2⟩:=h.cons_inv
  rw[aM,aM]
  by_cases e:p.1=k
  ·rw[if_pos e,if_pos (by exact e)]
   exact RelK.cons r (RelK.repl k h2 r)
  ·rw[if_neg e,if_neg (by exact e)]
   exact RelK.cons h1 (RelK.repl k h2 r)
theorem RelK.snoc:∀{kvs:List (κ×Wv)}{xs:List (κ×V)}(k:κ){w:Wv}{v:V},RelK K m H kvs xs->ai K m H w v->RelK K m H (kvs++[(k,w)]) (xs++[(k,v)])
 | [],xs,k,w,v,h,r=>by rw[h.nil_inv];exact RelK.cons r RelK.nil
 | p::kvs,xs,k,w,v,h,r=>by
  obtain⟨u,t,rfl,h1,h2⟩:=h.cons_inv
  exact RelK.cons h1 (RelK.snoc k h2 r)
theorem RelK.put{kvs:List (κ×Wv)}{xs:List (κ×V)}(k:κ){w:Wv}{v:V}(h:RelK K m H kvs xs)(r:ai K m H w v):RelK K m H (jM kvs k w) (putK xs k v):=by
 unfold jM putK
 rw[h.any k]
 split
 ·exact h.repl k r
 ·exact h.snoc k r
end
section
variable {K:PySem.W.Frag} {m:Mp} {H:Hp}
theorem RelK.merge:∀{more:List (L2.Key×Wv)}{ms:List (L2.Key×V)}{kvs:List (L2.Key×Wv)}{xs:List (L2.Key×V)},RelK K m H kvs xs->RelK K m H more ms->RelK K m H (qb kvs more) (lh xs ms)
 | [],ms,kvs,xs,h,g=>by rw[g.nil_inv];exact h
 | p::more,ms,kvs,xs,h,g=>by
  obtain⟨u,t,rfl,h1,h2⟩:=g.cons_inv
  have:=RelK.merge (more:=more) (ms:=t) (kvs:=jM kvs p.1 p.2) (xs:=putK xs p.1 u) (RelK.put p.1 h h1) h2
  exact this
end
section
variable {X:Cx}
def y8(st:Hs)(l:Nat):Bool:=match st[l]? with
 | some (.dct _)=>true
 | _=>false
def D4(gd gk gx:GE):GE:=λρ st=>(gd ρ st).bind λd st1=>match d with
 | .ref l=>if y8 st1 l=true then(gk ρ st1).bind λk st2=>(gx ρ st2).bind λx st3=>(match keyOf k,st3[l]? with
  | some kk,some (.dct kvs)=> .ok ((dI kvs kk).getD x) st3
  | _,_=> .bad) else .bad
 | _=> .bad
theorem D5{m:Mp}{st:Hs}{H:Hp}{l:Nat}{a:aae}(S:bo X.K m st H)(ha:m[l]? =some a)(h:y8 st l=true):Ov H a:=by
 unfold y8 at h
 cases e:st[l]? with
 | none=>rw[e] at h;cases h
 | some o=>
  rw[e] at h
  cases o with
  | dct kvs=>
   obtain⟨xs,e1,_⟩:=(show ∃ys,H a=some (.dK ys)/\RelK X.K m H kvs ys from S.obj _ _ _ ha e)
   exact .inl ⟨xs,.inl e1⟩
  | _=>cases h
theorem D6{o e f:Expr}{gd gk gx:GE}{apos cpos:Pos}(hu:X.A.units+1 < cLine)(ho:JE X o gd)(he:JE X e gk)(hf:JE X f gx)(M:M2 X o "get" apos e f cpos):JE X (.Call (.Attribute o "get" apos) [e,f] [] cpos) (D4 gd gk gx) :=
 JE.of (CP hu aG aG aG M) λρ st σ H m Q S R p=>by
  refine ho.go S R (ar.bind p) λd st1 v m1 H1 p1 e1 S1 r1=>?_
  cases d with
  | ref l=>
   dsimp only at p1
   by_cases hd:y8 st1 l=true
   ·rw[if_pos hd] at p1
    unfold ai at r1
    obtain⟨a,rfl,ha⟩:=r1
    refine⟨a,rfl,D5 S1 ha hd,?_⟩
    refine he.go S1 (R.mono e1) ((ar.bind p1).imp e1 λ_ _ q=>q) λk st2 y m2 H2 p2 e2 S2 r2=>?_
    refine hf.go S2 (R.mono (e1.trans e2)) ((ar.bind p2).imp (e1.trans e2) λ_ _ q=>q) λx st3 z m3 H3 p3 e3 S3 r3=>?_
    cases q1:keyOf k with
    | none=>rw[q1] at p3;exact aa p3
    | some kk=>
     cases q2:st3[l]? with
     | none=>rw[q1,q2] at p3;exact aa p3
     | some ob=>
      rw[q1,q2] at p3
      cases ob with
      | dct kvs=>
       have M5:m3[l]? =some a:=(e2.trans e3).pre _ _ ha
       obtain⟨xs,y1,y2⟩:=(show ∃ys,H3 a=some (.dK ys)/\RelK X.K m3 H3 kvs ys from S3.obj _ _ _ M5 q2)
       dsimp only at p3
       refine⟨_,by rw[fB r2 q1];exact kH.k y1,?_⟩
       obtain⟨i1,i2⟩:=y2.val kk
       cases q3:dI kvs kk with
       | none=>
        rw[i1 q3]
        rw[q3] at p3
        exact p3 z m3 H3 (e1.trans (e2.trans e3)) S3 r3
       | some w=>
        obtain⟨u,j1,j2⟩:=i2 w q3
        rw[j1]
        rw[q3] at p3
        exact p3 u m3 H3 (e1.trans (e2.trans e3)) S3 j2
      | _=>exact aa p3
   ·rw[if_neg hd] at p1;exact aa p1
  | _=>exact aa p1
end
def y9:Wv->aak->Prop
 | .int i,u=>∃t,u= .int i t
 | .str x,u=>(∃t,u= .str x t)/\aQ x=true
 | _,_=>False
abbrev Dc:=List (PySem.Str×Wv)
def tY(w:aal):Dc->List DictEntry->Prop
 | [],[]=>True
 | (k,v)::r,e::t=>(e.hash=hashStr w k/\(∃tk,e.key= .str k tk)/\y9 v e.val)/\tY w r t
 | _,_=>False
def m8(K:PySem.W.Frag)(w:aal)(mg:Str->Option aak)(x:Str)(kvs:Dc):Prop :=
 ∃(a:aae)(es:Array DictEntry)(ep:Nat),mg x=some (.ref a)/\K.lookup a=some ⟨.type "dict",none,.dict es ep,#[]⟩/\(a == sysModules)=false/\tY w kvs es.toList/\(kvs.map (·.1)).Nodup
theorem mf{P:aai}{w:aal}:∀{kvs:Dc}{l:List DictEntry},tY w kvs l->∃vs:List (PySem.Str×aak),vs.map (·.1)=kvs.map (·.1)/\Pairs (PySem.strKind P w) l vs/\(∀e∈l,∃k,(PySem.strKind P w).is k e.key=true/\e.hash=(PySem.strKind P w).hash k)/\
  ∀k,(kvs.lookup k=none->valueAt vs k=none)/\∀v,kvs.lookup k=some v->∃u,valueAt vs k=some u/\y9 v u
 | [],[],_=>⟨[],rfl,.nil,(λ_ z=>by cases z),λk=>⟨λ_=>rfl,(λv z=>by cases z)⟩⟩
 | (k,v)::r,e::t,h=>by
  obtain⟨⟨h1,⟨tk,h2⟩,h3⟩,h4⟩:=h
  obtain⟨vs,i1,i2,i3,i4⟩:=mf (P:=P) h4
  have his:(PySem.strKind P w).is k e.key=true:=by rw[h2];exact strKind_is P w k tk
  refine⟨(k,e.val)::vs,by simp[i1],.cons his rfl i2,λe' he=>?_,λk'=>?_⟩
  ·rcases List.mem_cons.mp he with z | z
   ·subst z;exact⟨k,his,h1⟩
   ·exact i3 e' z
  ·rw[jI]
   unfold valueAt
   rw[mT]
   by_cases ek:k=k'
   ·subst ek
    have b1:(k == k)=true:=by simp
    rw[b1]
    simp only[decide_true,oI]
    exact⟨(λz=>by cases z),λv' z=>⟨e.val,rfl,by cases z;exact h3⟩⟩
   ·have b1:(k' == k)=false:=beq_eq_false_iff_ne.mpr λz=>ek z.symm
    rw[b1]
    simp only[ek,decide_false]
    exact i4 k'
 | [],_::_,h=>aa h
 | _::_,[],h=>aa h
theorem oJ{P:aai}{w:aal}{K:PySem.W.Frag}{h:Heap}{a:aae}{es:Array DictEntry}{ep:Nat}{kvs:Dc}(KX:K.In h)(hl:K.lookup a=some ⟨.type "dict",none,.dict es ep,#[]⟩)(he:tY w kvs es.toList)(nd:(kvs.map (·.1)).Nodup) :
  ∃vs:List (PySem.Str×aak),h.DictOf (PySem.strKind P w) a vs/\∀k,(kvs.lookup k=none->valueAt vs k=none)/\∀v,kvs.lookup k=some v->∃u,valueAt vs k=some u/\y9 v u:=by
 obtain⟨vs,i1,i2,i3,i4⟩:=mf (P:=P) he
 exact⟨vs,⟨_,es,ep,KX a _ hl,⟨rfl,rfl,rfl⟩,rfl,λe hm=>i3 e (by simpa using hm),i2,by rw[i1];exact nd⟩,i4⟩
section
variable {X:Cx}
def mh(neg:Bool)(kvs:Dc)(ga:GE):GE:=λρ st=>(ga ρ st).bind λa st1=>match a with
 | .str k=> .ok (.bl ((kvs.lookup k).isSome != neg)) st1
 | _=> .bad
def J7(kvs:Dc)(ga:GE):GE:=λρ st=>(ga ρ st).bind λa st1=>match a with
 | .str k=>(match kvs.lookup k with | some w=> .ok w st1 | none=> .bad)
 | _=> .bad
def D7(neg:Bool)(kvs:Dc)(ty:TE):TE:=λσ H Q=>ty σ H λy H1=>∃z,y= .str z/\Q (.bl ((kvs.lookup z).isSome != neg)) H1
theorem D8{i:Expr}{ty:TE}{x:Str}{p:Pos}{kvs:Dc}(hi:PE X i ty)(hg:Gl X x)(hd:(x == ("__debug__":Str))=false)(D:m8 X.K X.w X.mg x kvs):PC X .In i (.Name x p) (D7 false kvs ty):=by
 intro pins s σ H Q I h
 obtain⟨a,es,ep,g1,g2,g3,g4,g5⟩:=D
 refine bx (hi pins s σ H _ I h) λiv s1 ⟨y,H1,I1,ry,z,ey,q1⟩=>bx (gq (v:=.ref a) hg g1 rfl hd pins s1 σ H1 (λv H2=>v= .ref a/\H2=H1) I1 ⟨rfl,rfl⟩) λu s2 ⟨v,H2,I2,rv,ev,eH⟩=>?_
 subst ey ev eH
 obtain rfl:u=aU a:=rv
 obtain⟨t,rfl⟩:=(show ∃t,iv=jY z t from ry)
 obtain⟨vs,dd,look⟩:=oJ (P:=X.prog) (w:=X.w) I2.wV g2 g4 g5
 refine wpAny_in_of (strKind_is X.prog X.w z t) g3 dd.mapOf ⟨.bl (kvs.lookup z).isSome,_,I2.tok _,?_,by simpa using q1⟩
 obtain⟨l1,l2⟩:=look z
 cases e:kvs.lookup z with
 | none=>rw[l1 e];rfl
 | some w=>obtain⟨u,e1,_⟩:=l2 w e;rw[e1];rfl
theorem rV{i:Expr}{ty:TE}{x:Str}{p:Pos}{kvs:Dc}(hi:PE X i ty)(hg:Gl X x)(hd:(x == ("__debug__":Str))=false)(D:m8 X.K X.w X.mg x kvs):PC X .NotIn i (.Name x p) (D7 true kvs ty):=by
 intro pins s σ H Q I h
 obtain⟨a,es,ep,g1,g2,g3,g4,g5⟩:=D
 refine bx (hi pins s σ H _ I h) λiv s1 ⟨y,H1,I1,ry,z,ey,q1⟩=>bx (gq (v:=.ref a) hg g1 rfl hd pins s1 σ H1 (λv H2=>v= .ref a/\H2=H1) I1 ⟨rfl,rfl⟩) λu s2 ⟨v,H2,I2,rv,ev,eH⟩=>?_
 subst ey ev eH
 obtain rfl:u=aU a:=rv
 obtain⟨t,rfl⟩:=(show ∃t,iv=jY z t from ry)
 obtain⟨vs,dd,look⟩:=oJ (P:=X.prog) (w:=X.w) I2.wV g2 g4 g5
 refine wpAny_notIn_of (strKind_is X.prog X.w z t) g3 dd.mapOf ⟨.bl (!(kvs.lookup z).isSome),_,I2.tok _,?_,by simpa using q1⟩
 obtain⟨l1,l2⟩:=look z
 cases e:kvs.lookup z with
 | none=>rw[l1 e];rfl
 | some w=>obtain⟨u,e1,_⟩:=l2 w e;rw[e1];rfl
theorem ka{a:Expr}{ga:GE}{neg:Bool}{kvs:Dc}(ha:JE X a ga){ρ:bA}{st:Hs}{σ:St}{H:Hp}{m:Mp}{Q:VK}(S:bo X.K m st H)(R:av X.K m H ρ σ)(p:dD X σ m H (mh neg kvs ga ρ st) Q):D7 neg kvs (SE X a) σ H Q:=by
 refine ha.go S R (ar.bind p) λw st1 v m1 H1 p1 e1 S1 r1=>?_
 cases w with
 | str k=>
  unfold ai at r1
  exact⟨k,r1.1,p1 _ m1 H1 e1 S1 (by unfold ai;rfl)⟩
 | _=>exact aa p1
theorem Il{a:Expr}{ga:GE}{x:Str}{p pos:Pos}{kvs:Dc}(ha:JE X a ga)(hg:Gl X x)(hd:(x == ("__debug__":Str))=false)(D:m8 X.K X.w X.mg x kvs):JE X (.Compare a [.In] [.Name x p] pos) (mh false kvs ga) :=
 JE.of (Cc (D8 aG hg hd D) rfl) λρ st σ H m Q S R p=>ka ha S R p
theorem xB{a:Expr}{ga:GE}{x:Str}{p pos:Pos}{kvs:Dc}(ha:JE X a ga)(hg:Gl X x)(hd:(x == ("__debug__":Str))=false)(D:m8 X.K X.w X.mg x kvs):JE X (.Compare a [.NotIn] [.Name x p] pos) (mh true kvs ga) :=
 JE.of (Cc (rV aG hg hd D) rfl) λρ st σ H m Q S R p=>ka ha S R p
theorem Io{a:Expr}{ga:GE}{x:Str}{p pos:Pos}{kvs:Dc}(ha:JE X a ga)(hg:Gl X x)(hd:(x == ("__debug__":Str))=false)(D:m8 X.K X.w X.mg x kvs):JT X (.Compare a [.In] [.Name x p] pos) (cA (mh false kvs ga)) :=
 JT.of (Ce (D8 aG hg hd D) rfl) λρ st σ H m Q S R p=>ka ha S R (lW p)
theorem xC{a:Expr}{ga:GE}{x:Str}{p pos:Pos}{kvs:Dc}(ha:JE X a ga)(hg:Gl X x)(hd:(x == ("__debug__":Str))=false)(D:m8 X.K X.w X.mg x kvs):JT X (.Compare a [.NotIn] [.Name x p] pos) (cA (mh true kvs ga)) :=
 JT.of (Ce (rV aG hg hd D) rfl) λρ st σ H m Q S R p=>ka ha S R (lW p)
def Qs(kvs:Dc)(ty:TE):TE:=λσ H Q=>ty σ H λy H1=>∃z w v,y= .str z/\kvs.lookup z=some w/\(∀u,y9 w u->RelV v u)/\Q v H1
theorem Ip{b:Expr}{ty:TE}{x:Str}{p pos:Pos}{kvs:Dc}(hb:PE X b ty)(hs:CJ b)(hg:Gl X x)(hd:(x == ("__debug__":Str))=false)(D:m8 X.K X.w X.mg x kvs):PE X (.Subscript (.Name x p) b pos) (Qs kvs ty):=by
 intro pins s σ H Q I h
 obtain⟨a,es,ep,g1,g2,g3,g4,g5⟩:=D
 refine yI PySem.F.slot_dict_getitem.lookup hs (bx (gq (v:=.ref a) hg g1 rfl hd pins s σ H (λv H2=>v= .ref a/\H2=H) I ⟨rfl,rfl⟩) λu s1 ⟨v,H1,I1,rv,ev,eH⟩=>?_)
 subst ev eH
 obtain rfl:u=aU a:=rv
 refine bx (hb pins s1 σ H1 _ I1 h) λiv s2 ⟨y,H2,I2,ry,z,w,v,ey,ew,ev,q⟩=>?_
 subst ey
 obtain⟨t,rfl⟩:=(show ∃t,iv=jY z t from ry)
 obtain⟨vs,dd,look⟩:=oJ (P:=X.prog) (w:=X.w) I2.wV g2 g4 g5
 obtain⟨u,e1,e2⟩:=(look z).2 w ew
 exact⟨dd.typeIs,wpAny_getItem_of (strKind_is X.prog X.w z t) dd.mapOf e1 ⟨v,H2,I2.tok _,ev u e2,q⟩⟩
theorem Iq{b:Expr}{gb:GE}{x:Str}{p pos:Pos}{kvs:Dc}(hb:JE X b gb)(hs:CJ b)(hg:Gl X x)(hd:(x == ("__debug__":Str))=false)(D:m8 X.K X.w X.mg x kvs):JE X (.Subscript (.Name x p) b pos) (J7 kvs gb) :=
 JE.of (Ip aG hs hg hd D) λρ st σ H m Q S R p=>by
  refine hb.go S R (ar.bind p) λw st1 v m1 H1 p1 e1 S1 r1=>?_
  cases w with
  | str k=>
   dsimp only at p1
   cases e:kvs.lookup k with
   | none=>rw[e] at p1;exact aa p1
   | some u=>
    rw[e] at p1
    unfold ai at r1
    cases u with
    | int i=>exact⟨k,.int i,.int i,r1.1,e,λu h=>h,p1 _ m1 H1 e1 S1 (by unfold ai;rfl)⟩
    | str y=>
     by_cases hy:aQ y=true
     ·exact⟨k,.str y,.str y,r1.1,e,λu h=>h.1,p1 _ m1 H1 e1 S1 (by unfold ai;exact⟨rfl,hy⟩)⟩
     ·obtain⟨a,es,ep,_,_,_,g4,_⟩:=D
      obtain⟨vs,_,_,_,i4⟩:=mf (P:=X.prog) g4
      obtain⟨u,_,e2⟩:=(i4 k).2 _ e
      exact absurd e2.2 hy
    | _=>
     obtain⟨a,es,ep,_,_,_,g4,_⟩:=D
     obtain⟨vs,_,_,_,i4⟩:=mf (P:=X.prog) g4
     obtain⟨u,_,e2⟩:=(i4 k).2 _ e
     exact aa e2
  | _=>exact aa p1
end
open PySem PySem.Spec PyProof.Rows PySem.W L2
section
variable (lt:Nat->Nat->Bool) (N:Nat)
def Kg{α:Type}:KasT α->(α->Prop)->Prop
 | .ret a,Q=>Q a
 | .ask i j k,Q=>(i < N/\j < N)/\Kg (k (lt i j)) Q
end
section
variable {lt:Nat->Nat->Bool} {N:Nat}
theorem Kg.bind{α β:Type}{f:α->KasT β}{Q:β->Prop}:∀{t:KasT α},Kg lt N t (λa=>Kg lt N (f a) Q)->Kg lt N (t.bind f) Q
 | .ret a,h=>h
 | .ask i j k,h=>⟨h.1,Kg.bind (t:=k (lt i j)) h.2⟩
theorem Kg.imp{α:Type}{Q R:α->Prop}(hq:∀a,Q a->R a):∀{t:KasT α},Kg lt N t Q->Kg lt N t R
 | .ret a,h=>hq a h
 | .ask i j k,h=>⟨h.1,Kg.imp hq (t:=k (lt i j)) h.2⟩
theorem Kg.wp{α:Type}{cmp:Nat->Nat->(Bool->aaj->Prop)->aaj->Prop}{P:aaj->Prop}(hc:∀i j C s,i < N->j < N->P s->(∀s',P s'->C (lt i j) s')->cmp i j C s){G:α->aaj->Prop} :
  ∀{t:KasT α}{s:aaj},P s->Kg lt N t (λa=>∀s',P s'->G a s')->t.kasWp cmp G s
 | .ret a,s,hs,h=>h s hs
 | .ask i j k,s,hs,h=>hc i j _ s h.1.1 h.1.2 hs λs' hs'=>Kg.wp hc (t:=k (lt i j)) hs' h.2
structure Ord(lt:Nat->Nat->Bool):Prop where
 as:∀a b,lt a b=true->lt b a=false
 tr:∀a b c,lt a b=false->lt b c=false->lt a c=false
theorem Ord.Uq(o:Ord lt)(a:Nat):lt a a=false:=by
 cases h:lt a a with
 | false=>rfl
 | true=>have:=o.as a a h;rw[h] at this;cases this
theorem Ord.vj(o:Ord lt){a b c:Nat}(h1:lt a b=true)(h2:lt c b=false):lt a c=true:=by
 cases h:lt a c with
 | true=>rfl
 | false=>have:=o.tr a c b h h2;rw[h1] at this;cases this
abbrev at_(p:Array Nat)(i:Nat):Nat:=p.getD i 0
structure Pm(N:Nat)(p:Array Nat):Prop where
 sz:p.size=N
 pm:p.toList.Perm (dX N)
theorem Pm.bd{p:Array Nat}(h:Pm N p){i:Nat}(hi:i < N):at_ p i < N:=by
 have e:at_ p i=p[i]'(by rw[h.sz];exact hi):=by simp[at_,Array.getD,h.sz,hi]
 rw[e]
 have:p[i]'(by rw[h.sz];exact hi)∈p.toList:=by simp
 exact List.mem_range.mp (h.pm.mem_iff.mp this)
theorem ml{p q:Array Nat}{i j:Nat}(h:p[i]? =q[j]?):at_ p i=at_ q j:=by
 unfold at_
 rw[Qt,Qt,h]
theorem Pm.rev{p:Array Nat}(h:Pm N p)(i j:Nat):Pm N (kas_rev p i j):=⟨by unfold kas_rev;rw[mirror_size];exact h.sz,((Array.perm_iff_toList_perm.mp (mirror_perm _ _ _ _)).trans h.pm)⟩
theorem Pm.X4{p:Array Nat}(h:Pm N p)(k d:Nat):Pm N (bubble p k d):=⟨by rw[bubble_size];exact h.sz,((Array.perm_iff_toList_perm.mp (bubble_perm _ _ _)).trans h.pm)⟩
theorem dJ{p:Array Nat}(h:Pm N p){i j:Nat}(hj:j<=N)(k:Nat):at_ (kas_rev p i j) k=if i<=k/\k < j then at_ p (i+j - 1 - k) else at_ p k:=by
 have q:=getElem?_mirror_all (xs:=p) (i:=i) (j:=j) (by rw[h.sz];exact hj) k
 unfold kas_rev
 split
 ·rename_i c;rw[if_pos c] at q;exact ml q
 ·rename_i c;rw[if_neg c] at q;exact ml q
theorem M6{p:Array Nat}(h:Pm N p){k l:Nat}(hk:k < N)(hl:l<=k)(i:Nat):at_ (bubble p k (k - l)) i=if i=l then at_ p k else if l < i/\i<=k then at_ p (i - 1) else at_ p i:=by
 have q:=getElem?_bubble (xs:=p) (src:=k) (by rw[h.sz];exact hk) (k - l) (by omega) i
 have e:k - (k - l)=l:=by omega
 rw[e] at q
 split
 ·rename_i c;rw[if_pos c] at q;exact ml q
 ·rename_i c
  rw[if_neg c] at q
  split
  ·rename_i d;rw[if_pos d] at q;exact ml q
  ·rename_i d;rw[if_neg d] at q;exact ml q
def Up(lt:Nat->Nat->Bool)(p:Array Nat)(k:Nat):Prop:=∀i j,i<=j->j < k->lt (at_ p j) (at_ p i)=false
def Dn(lt:Nat->Nat->Bool)(p:Array Nat)(k:Nat):Prop:=∀i j,i<=j->j < k->lt (at_ p i) (at_ p j)=false
theorem Up.succ(o:Ord lt){p:Array Nat}{k:Nat}(h:Up lt p k)(hk:1<=k)(e:lt (at_ p k) (at_ p (k - 1))=false):Up lt p (k+1):=by
 intro i j hij hj
 by_cases c:j < k
 ·exact h i j hij c
 ·have:j=k:=by omega
  subst this
  by_cases c2:i=j
  ·subst c2;exact o.Uq _
  ·exact o.tr _ _ _ e (h i (j - 1) (by omega) (by omega))
theorem Dn.succ(o:Ord lt){p:Array Nat}{k:Nat}(h:Dn lt p k)(hk:1<=k)(e:lt (at_ p (k - 1)) (at_ p k)=false):Dn lt p (k+1):=by
 intro i j hij hj
 by_cases c:j < k
 ·exact h i j hij c
 ·have:j=k:=by omega
  subst this
  by_cases c2:i=j
  ·subst c2;exact o.Uq _
  ·exact o.tr _ _ _ (h i (j - 1) (by omega) (by omega)) e
def Lv(lt:Nat->Nat->Bool)(p:Array Nat)(a n:Nat):Prop:=∀i j,a<=i->i < n->a<=j->j < n->lt (at_ p i) (at_ p j)=false
theorem Dn.rev(o:Ord lt){p:Array Nat}(hp:Pm N p){a n:Nat}(hn:n<=N)(ha:a<=n)(h:Dn lt p n)(hl:Lv lt p a n):Dn lt (kas_rev p a n) n:=by
 intro i j hij hj
 rw[dJ hp hn,dJ hp hn]
 by_cases ci:a<=i
 ·rw[if_pos ⟨ci,by omega⟩,if_pos ⟨by omega,hj⟩]
  exact hl _ _ (by omega) (by omega) (by omega) (by omega)
 ·rw[if_neg (by omega)]
  by_cases cj:a<=j
  ·rw[if_pos ⟨cj,hj⟩]
   exact h _ _ (by omega) (by omega)
  ·rw[if_neg (by omega)]
   exact h _ _ hij hj
theorem Dn.up{p:Array Nat}(hp:Pm N p){n:Nat}(hn:n<=N)(h:Dn lt p n):Up lt (kas_rev p 0 n) n:=by
 intro i j hij hj
 rw[dJ hp hn,dJ hp hn,if_pos ⟨by omega,hj⟩,if_pos ⟨by omega,by omega⟩]
 exact h _ _ (by omega) (by omega)
theorem qc(o:Ord lt){p:Array Nat}(hp:Pm N p){k:Nat}(hk:k < N):∀(f l r:Nat),l<=r->r<=k->r - l<=f->Up lt p k->(∀i,i < l->lt (at_ p k) (at_ p i)=false)->(∀i,r<=i->i < k->lt (at_ p k) (at_ p i)=true)->
  Kg lt N (kas_place p k f l r) (λm=>m<=k/\(∀i,i < m->lt (at_ p k) (at_ p i)=false)/\∀i,m<=i->i < k->lt (at_ p k) (at_ p i)=true)
 | 0,l,r,h1,h2,h3,u,a,b=>⟨by omega,a,λi h=>b i (by omega)⟩
 | f+1,l,r,h1,h2,h3,u,a,b=>by
  unfold kas_place
  by_cases c:l >= r
  ·rw[if_pos c]
   exact⟨by omega,a,λi h=>b i (by omega)⟩
  ·rw[if_neg c]
   refine⟨⟨hp.bd hk,hp.bd (by omega)⟩,?_⟩
   cases e:lt (p.getD k 0) (p.getD ((l+r) / 2) 0) with
   | true=>
    dsimp only
    rw[if_pos rfl]
    refine qc o hp hk f l ((l+r) / 2) (by omega) (by omega) (by omega) u a λi hi hk'=>?_
    exact o.vj e (u _ _ hi hk')
   | false=>
    dsimp only
    rw[if_neg (by simp)]
    refine qc o hp hk f ((l+r) / 2+1) r (by omega) h2 (by omega) u (λi hi=>?_) b
    exact o.tr _ _ _ e (u i ((l+r) / 2) (by omega) (by omega))
end
section
variable {prog:aai} {w:aal} {A:aaf} {E:aak->aaj->Prop} {s:aaj}
end
theorem h_{α β:Type}{F:α->β->Prop}{a:α}{b:β}:∀{l:List α}{k:List β}{i:Nat},Paired F l k->i < k.length->F (l.getD i a) (k.getD i b)
 | _,_,0,.cons h _,_=>by simpa using h
 | _,_,i+1,.cons _ t,hi=>by simpa using h_ (i:=i) t (by simpa using hi)
theorem qd{α β:Type}{F:α->β->Prop}{f:Nat->α}{g:Nat->β}:∀{l:List Nat},(∀i∈l,F (f i) (g i))->Paired F (l.map f) (l.map g)
 | [],_=> .nil
 | i::l,h=> .cons (h i (by simp)) (qd λj hj=>h j (by simp[hj]))
section
variable {X:Cx} {pins:List (aae×Obj)} {σ:St} {H:Hp} {s:aaj}
end
section
variable {X:Cx}
end
section
variable {prog:aai} {w:aal} {A:aaf} {E:aak->aaj->Prop} {s:aaj}
end
section
variable {X:Cx}
abbrev pw(p:Int×Int):Wv:=.tup [.int p.1,.int p.2]
end
def keysOf:List Wv->Option (List L2.Key)
 | []=>some []
 | w::r=>(match keyOf w,keysOf r with | some k,some l=>some (k::l) | _,_=>none)
def xD:Wv->Option (List L2.Key)
 | .tup ws=>keysOf ws
 | _=>none
theorem qe{K:PySem.W.Frag}{m:Mp}{H:Hp}:∀{ws:List Wv}{xs:List V}{ks:List L2.Key},ag K m H ws xs->keysOf ws=some ks->xs=ks.map kV
 | [],xs,ks,r,e=>by unfold ag at r;subst r;cases e;rfl
 | w::ws,xs,ks,r,e=>by
  unfold ag at r
  obtain⟨x,t,rfl,r1,r2⟩:=r
  unfold keysOf at e
  cases e1:keyOf w with
  | none=>rw[e1] at e;cases e
  | some k=>
   cases e2:keysOf ws with
   | none=>rw[e1,e2] at e;cases e
   | some l=>
    rw[e1,e2] at e
    cases e
    rw[fB r1 e1,qe r2 e2]
    rfl
theorem qf{K:PySem.W.Frag}{m:Mp}{H:Hp}{w:Wv}{v:V}{ks:List L2.Key}(r:ai K m H w v)(e:xD w=some ks):∃b,v= .ref b/\H b=some (.tup (ks.map kV)):=by
 cases w with
 | tup ws=>
  unfold ai at r
  obtain⟨a,xs,rfl,h1,h2⟩:=r
  rw[qe h2 e] at h1
  exact⟨a,rfl,h1⟩
 | _=>cases e
def D9:GE:=λ_ st=> .ok (.ref st.length) (st++[.yK []])
def qg:GE:=λ_ st=> .ok (.ref st.length) (st++[.dct []])
section
variable {X:Cx}
theorem Ir{pos:Pos}:JE X (.Dict [] [] pos) D9:=JE.of CN λρ st σ H m Q S R p=>λq hq=>
 p (.ref q) (m++[q]) _ (Ext.more.trans (Ext.iG (.inl hq))) (S.tE hq ⟨[],aI,RelK.nil⟩) (S.newest q _)
theorem Iu{pos:Pos}:JE X (.Dict [] [] pos) qg:=JE.of CM λρ st σ H m Q S R p=>λq hq=>
 p (.ref q) (m++[q]) _ (Ext.more.trans (Ext.iG (.inl hq))) (S.tE hq ⟨[],aI,RelK.nil⟩) (S.newest q _)
def putD(d k v:Wv)(st:Hs):Option Hs:=match d with
 | .ref l=>(match st[l]? with
  | some (.dct kvs)=>(match keyOf k with | some kk=>if kvs.length < lim then some (st.set l (.dct (jM kvs kk v))) else none | none=>none)
  | some (.yK kvs)=>(match xD k with | some kk=>if kvs.length < lim then some (st.set l (.yK (jM kvs kk v))) else none | none=>none)
  | _=>none)
 | _=>none
def y_(gv gd gk:GE):GS:=λρ st=>(gv ρ st).bx ρ λv st1=>(gd ρ st1).bx ρ λd st2=>(gk ρ st2).bx ρ λk st3=>match putD d k v st3 with
 | some Gi=> .nx ρ Gi
 | none=> .bad
theorem Iw{m:Mp}{st st':Hs}{H:Hp}{d k v:Wv}{x y z:V}(S:bo X.K m st H)(rd:ai X.K m H d x)(rk:ai X.K m H k y)(rv:ai X.K m H v z)(e:putD d k v st=some st'):∃a H',x= .ref a/\tm H a y z H'/\Ext X.K m H m H'/\bo X.K m st' H':=by
 unfold putD at e
 cases d with
 | ref l=>
  dsimp only at e
  unfold ai at rd
  obtain⟨a,rfl,ha⟩:=rd
  cases e1:st[l]? with
  | none=>rw[e1] at e;cases e
  | some o=>
   rw[e1] at e
   cases o with
   | dct kvs=>
    dsimp only at e
    cases e2:keyOf k with
    | none=>rw[e2] at e;cases e
    | some kk=>
     rw[e2] at e
     dsimp only at e
     by_cases c:kvs.length < lim
     ·rw[if_pos c] at e
      cases e
      obtain⟨xs,h1,h2⟩:=(show ∃ys,H a=some (.dK ys)/\RelK X.K m H kvs ys from S.obj _ _ _ ha e1)
      have ex:Ext X.K m H m (upd H a (.dK (putK xs kk z))):=Ext.iG (.inr (.inr (.inl ⟨_,h1⟩)))
      refine⟨a,_,rfl,by rw[fB rk e2];exact tm.k h1 (by rw[<-h2.length];exact pH c),ex,?_⟩
      exact S.pE ha e1 rfl ⟨_,aI,(h2.put kk rv).mono ex⟩
     ·rw[if_neg c] at e;cases e
   | yK kvs=>
    dsimp only at e
    cases e2:xD k with
    | none=>rw[e2] at e;cases e
    | some kk=>
     rw[e2] at e
     dsimp only at e
     by_cases c:kvs.length < lim
     ·rw[if_pos c] at e
      cases e
      obtain⟨xs,h1,h2⟩:=(show ∃ys,H a=some (.dT ys)/\RelK X.K m H kvs ys from S.obj _ _ _ ha e1)
      obtain⟨b,rfl,hb⟩:=qf rk e2
      have ex:Ext X.K m H m (upd H a (.dT (putK xs kk z))):=Ext.iG (.inr (.inr (.inr ⟨_,h1⟩)))
      refine⟨a,_,rfl,tm.t h1 hb (by rw[<-h2.length];exact pH c),ex,?_⟩
      exact S.pE ha e1 rfl ⟨_,aI,(h2.put kk rv).mono ex⟩
     ·rw[if_neg c] at e;cases e
   | _=>cases e
 | _=>cases e
theorem Iy{o i e:Expr}{go gi ge:GE}{pos pos':Pos}(hu:X.A.units+1 < cLine)(he:JE X e ge)(ho:JE X o go)(hi:JE X i gi)(hs:swapsWith e (some (.Subscript o i pos')) pos.line X.env=pure false):JS X (.Assign [.Subscript o i pos'] e pos) (y_ ge go gi) :=
 JS.of (Hq hu aG aG aG hs) λρ st σ H m D S R p=>by
  refine he.go S R (aK.cS R p) λv st1 vv m1 H1 p1 e1 S1 rv=>?_
  refine ho.go S1 (R.mono e1) ((aK.cS (m:=m) (H:=H) R p1).imp e1 λ_ _ q=>q) λd st2 vd m2 H2 p2 e2 S2 rd=>?_
  refine hi.go S2 (R.mono (e1.trans e2)) ((aK.cS (m:=m) (H:=H) R p2).imp (e1.trans e2) λ_ _ q=>q) λk st3 vk m3 H3 p3 e3 S3 rk=>?_
  have AI:=e1.trans (e2.trans e3)
  cases e4:putD d k v st3 with
  | none=>rw[e4] at p3;exact aa p3
  | some Gi=>
   rw[e4] at p3
   obtain⟨a,H4,f1,f2,f3,f4⟩:=Iw (X:=X) S3 (ai.mono e3 _ _ rd) rk (ai.mono (e2.trans e3) _ _ rv) e4
   exact⟨a,H4,f1,f2,p3 σ m3 H4 (AI.trans f3) f4 (R.mono (AI.trans f3))⟩
end
def xE(h:Heap)(d:aae)(es:Array DictEntry)(ep:Nat):Prop:=∃o,h.get? d=some o/\o.cls= .type "dict"/\o.data= .dict es ep
section
variable {prog:aai} {w:aal} {A:aaf} {E:aak->aaj->Prop} {s:aaj} {d it:aae} {es:Array DictEntry} {ep i:Nat}
theorem xE.ty(x:xE s.heap d es ep):s.TypeIs (.ref d) "dict":=let ⟨o,h1,h2,_⟩:=x;⟨o,h1,h2⟩
end
section
variable {X:Cx}
end
def eB:List Wv->Hs->Re Wv:=λws st=>tW ws st
section
variable {X:Cx}
theorem D_(hc:X.calm=true):cU X (.type "list") eB:=Ie
end
open PySem L2 PyProof.Rows
section
open PySem.SeqAt PySem.MeetsSeq PySem.MeetsSeq2 PySem.MeetsSeq3
end
variable {X:Cx}
def oLe:g_:=λx y st=>PD x y st
theorem M7(hu:X.A.units+64 < cLine):jv X (aar .LtE) oLe:=PH
def Qu:g_:=λx y st=>PB x y st
theorem M8(hu:X.A.units+64 < cLine):jv X (aar .Lt) Qu:=PF
structure rW(k:Nat)(A:aaf):Prop where
 d:A.depth+3 * k+5 < recursionLimit
 u:A.units+16 * k+200 < cLine
theorem rW.of{k:Nat}{A:aaf}(r:fc k A):rW k A:=⟨r.dp,r.un⟩
structure Qv(P:aai)(w:aal)(K:PySem.W.Frag)(mg:Str->Option aak)(base:Heap)(k:Nat)(f:aae)(fd:aag)(ps:List Str)(sp:Sp):Prop where
 n:∀vs H Q E,sp vs H Q E->vs.length=ps.length
 go:∀(A:aaf)(outer:List Env)(s:aaj)(H:Hp)(args:Args)(us:List aak)(vs:List V)(Q:VK)(E:XK),rW k A->AW A H->oa P w K mg base A outer s H->
  BindsTo s fd args (ps.zip us)->Vals vs us->sp vs H Q E->aap (model P w) A (.call (.ref f) args) (CR (CXJ P w) outer P w H s Q E) s
section
variable {P:aai} {w:aal} {K:PySem.W.Frag} {mg:Str->Option aak} {base:Heap}
end
section
variable {X:Cx}
end
def M9(P:aai)(w:aal)(K:PySem.W.Frag)(mg:Str->Option aak)(base:Heap)(k:Nat)(x:Str)(n:Nat)(F:List Wv->Hs->Re Wv):Prop :=
 ∃f fd ps,Qv P w K mg base k f fd ps (spW K n F)/\mg x=some (.ref f)/\PySem.W.keepIn K (.ref f)=true/\Binds K fd ps []
section
variable {X:Cx}
end
def WA(K:PySem.W.Frag)(a:aae):It :=
 ⟨λi H=>∃xs x,jq K H a xs/\xs[i]? =some x,λi H v H'=>∃p,v= .ref p/\H p=none/\∀xs,jq K H a xs->∃x,xs[i]? =some x/\H'=upd H p (.tup [.int i,x]),λi H=>∃xs,jq K H a xs/\xs.length<=i⟩
theorem Bc{P:aai}{w:aal}{K:PySem.W.Frag}{es:List Expr}{kt:Nat}{pt:Pos}(a e it:aae)(ne:e≠it):Turn P w K (.Tuple es kt pt) (WA K a) [e,it] e (λi h=>(∃old,IsEnum h e it (i:Int) old)/\h.IsListIter it a i) where
 mem:=by simp
 obj:=λi h st b hb=>by
  obtain⟨⟨old,he⟩,hi⟩:=st
  rcases List.mem_cons.mp hb with z | z
  ·subst z;exact⟨_,he,λv z=>by cases z⟩
  ·have z:b=it:=by simpa using z
   subst z
   obtain⟨o,q,c,d⟩:=hi
   exact⟨o,q,λv z=>by rw[d] at z;cases z⟩
 keep:=λi h h' st k=>⟨st.1.imp λold q=>k e (by simp) _ q,st.2.at λo q=>k it (by simp) o q⟩
 item:=by
  intro X hP hw hK hc i pins s σ H E I hf st hg
  subst hP hw hK
  obtain⟨xs,x,hq,hx⟩:=hg
  obtain⟨its,rv,p,hz⟩:=I.list hq
  obtain⟨u,hu,ru⟩:=rv.get hx
  obtain⟨⟨old,he⟩,hit⟩:=st
  have fe:=hf e (by simp)
  have fi:=hf it (by simp)
  refine wpAny_pyNext_enum_item he hit p.isList (x:=u) (by simpa using hu) ne λh' ho Ur hT hsz hk=>?_
  refine⟨.ref s.heap.objs.size,rfl,?_⟩
  refine wpAny_letOwnedTupleGo_enum ho λh2 Us sb=>?_
  have hfr:H s.heap.objs.size=none:=I.hok.fresh (ak _)
  have lt:∀b o,s.heap.get? b=some o->b≠s.heap.objs.size:=λb o q=>a_ (aE q)
  have elt:e≠s.heap.objs.size:=lt _ _ he
  have RX:it≠s.heap.objs.size:=by obtain⟨o,q,_⟩:=id hit;exact lt _ _ q
  have kp:∀b o,b≠e->b≠it->s.heap.get? b=some o->h2.get? b=some o:=λb o b1 b2 q=>(sb.2 b b1).trans (hk b o b1 b2 q)
  have kt:∀b u,H b=some u->b≠s.heap.objs.size:=λb u q=>bH q hfr
  have ke:∀b u,H b=some u->b≠e/\b≠it:=λb u q=>⟨bH q fe.1,bH q fi.1⟩
  have T2:h2.get? s.heap.objs.size=some { cls:=.type "tuple",data:=.seq #[.int i s.toks,u] }:=(sb.2 _ (aW elt)).trans hT
  have X5:h2.IsListIter it a (i+1):=Ur.at λo q=>(sb.2 it (aW ne)).trans q
  refine⟨.ref s.heap.objs.size,upd H s.heap.objs.size (.tup [.int i,x]),?_,rfl,⟨s.heap.objs.size,rfl,hfr,λys hy=>⟨x,by rw[I.uJ hy hq];exact hx,rfl⟩⟩,⟨⟨u,by push_cast;exact Us⟩,X5⟩,λb hb=>?_⟩
  ·refine I.rl (s':={ s with heap:=h2,toks:=s.toks+1 }) (ch:=[e,it]) rfl ?_ ?_ I.bare (λb hb=>⟨(hf b hb).2.2.2.1,(hf b hb).2.1,(hf b hb).2.2.2.2.1,(hf b hb).2.2.2.2.2⟩)
   ·refine⟨λb o q _ _ hx=>kp b o (λz=>hx (by simp[z])) (λz=>hx (by simp[z])) q,λb o q _ _ hx=>⟨o.slots,kp b o (λz=>hx (by simp[z])) (λz=>hx (by simp[z])) q⟩,λb o q n _=>by rw[aw (lt b o q)];exact n,λb o q hx=>⟨o,kp b o (λz=>hx (by simp[z])) (λz=>hx (by simp[z])) q⟩,λb ys q=>by rw[aw (kt b _ q)];exact q,λb o y q=>by rw[aw (kt b _ q)];exact q,λb ps q=>⟨#[],by rw[aw (kt b _ q),q];simp⟩⟩
   ·intro b o q
    by_cases hb:b=s.heap.objs.size
    ·subst hb
     rw[aI] at q
     cases q
     exact⟨by show 2<=aav;decide,[.int i s.toks,u],.cons ⟨_,rfl⟩ (.cons ru .nil),⟨_,T2,rfl,0,rfl⟩,λo q=>by rw[T2] at q;cases q;rfl⟩
    ·rw[aw hb] at q
     refine(I.hok b o q).stay (λc v hc g=>?_) (λc g=>by rw[aw (kt c _ g)];exact g) λc ys g=>by rw[aw (kt c _ g)];exact g
     rcases hc with z | z
     ·subst z;exact kp _ _ (ke _ _ q).1 (ke _ _ q).2 g
     ·exact kp _ _ (ke _ _ z).1 (ke _ _ z).2 g
  ·rcases List.mem_cons.mp hb with z | z
   ·rw[z,aw elt];exact fe.1
   ·have z:b=it:=by simpa using z
    rw[z,aw RX];exact fi.1
 done:=by
  intro X hP hw hK hc i pins s σ H E I hf st hg
  subst hP hw hK
  obtain⟨xs,hq,hx⟩:=hg
  obtain⟨its,rv,p,hz⟩:=I.list hq
  obtain⟨⟨old,he⟩,hit⟩:=st
  obtain⟨f0,f1,f2,f3,f4,f5⟩:=hf it (by simp)
  have hl:=rv.length
  exact wpAny_pyNext_enum_end (I.ok.hd hc) he hit p.isList (by simp;omega) λh' eb=>⟨rfl,I.turned (t':=s.toks) (λb o hb e=>eb b o hb e) f0 f1 f3 f4 f5⟩
 self:=λ_ _ _ _ _ st h=>let ⟨_,he⟩:=st.1;wpAny_pyIter_enum he h
section
variable {X:Cx}
def Qw(K:PySem.W.Frag)(ta:TA):TI:=λσ H R=>ta σ H λvs H1=>∃a,vs=[.ref a]/\(∃xs,H1 a=some (.lst xs))/\R (WA K a) H1
theorem Iz{es:List Expr}{kt:Nat}{pt p q:Pos}{l:Expr}{ta:TA}(hg:Gl X "enumerate")(hm:X.mg "enumerate"=none)(ha:PA X [l] ta)(hst:aaw [l] X.env=[(false,eval l X.env)]) :
  PI X (.Tuple es kt pt) (.Call (.Name "enumerate" p) [l] [] q) (Qw X.K ta):=by
 intro pins s σ H R I h
 refine Call_ (mO I hg hm boot_enumerate (yz (bx (ha q pins s σ H _ I h) λus s1 ⟨vs,H1,I1,r1,q1⟩=>?_) hst rfl))
 obtain⟨a,e,⟨xs,hq⟩,k⟩:=q1
 subst e
 cases r1 with
 | cons r rr=>
  cases rr
  cases r
  obtain⟨hz,its,n,rv,pl⟩:=I1.hok a _ hq
  refine call_enumerate_1 pl λh2 he hi hs2 kp=>wpAny_pyIter_enum he ?_
  have f1:=I1.oY (pins:=pins) (H':=H1) (b:=s1.heap.objs.size+1) (oA _) (I1.hok.fresh (oA _))
  have f0:=I1.oY (pins:=pins) (H':=H1) (b:=s1.heap.objs.size) (ak _) (I1.hok.fresh (ak _))
  refine⟨s1.heap.objs.size+1,[s1.heap.objs.size+1,s1.heap.objs.size],_,_,H1,rfl,I1.kept (t':=s1.toks) kp,Bc a _ _ (Nat.succ_ne_self _),⟨⟨.none,he⟩,hi⟩,λb hb=>?_,k⟩
  rcases List.mem_cons.mp hb with z | z
  ·rw[z];exact f1
  ·have z:b=s1.heap.objs.size:=by simpa using z
   rw[z];exact f0
end
abbrev J8:=Option (Nat×List Wv)×List Wv
def rX(c:Option (Nat×List Wv))(st:Hs):Prop:=match c with
 | some (l,ws)=>aj st l=some ws
 | none=>True
structure xF(X:Cx)(w:J8)(m1:Mp)(H1:Hp)(J':It):Prop where
 go:∀(k:Nat)(H:Hp)(m':Mp)(st:Hs),Ext X.K m1 H1 m' H->bo X.K m' st H->rX w.1 st->k < w.2.length->J'.go k H
 stop:∀(k:Nat)(H:Hp)(m':Mp)(st:Hs),Ext X.K m1 H1 m' H->bo X.K m' st H->rX w.1 st->k=w.2.length->J'.stop k H
 uD:∀(k:Nat)(hk:k < w.2.length)(H:Hp)(v:V)(H':Hp)(m':Mp)(st:Hs),Ext X.K m1 H1 m' H->bo X.K m' st H->rX w.1 st->J'.uD k H v H'->Ext X.K m' H m' H'/\bo X.K m' st H'/\ai X.K m' H' w.2[k] v
abbrev B0:=bA->Hs->Re J8
def IA(X:Cx)(tg iter:Expr)(gi:B0):Prop:=∃wi,PI X tg iter wi/\∀(ρ:bA)(st:Hs)(σ:St)(H:Hp)(m:Mp)(R:It->Hp->Prop),bo X.K m st H->av X.K m H ρ σ->
 ar X σ m H (gi ρ st) (λw st1=>∀(m1:Mp)(H1:Hp)(J':It),Ext X.K m H m1 H1->bo X.K m1 st1 H1->rX w.1 st1->xF X w m1 H1 J'->R J' H1)->wi σ H R
def Ea:B0:=λ_ _=> .bad
section
variable {X:Cx}
theorem IB{tg iter:Expr}:IA X tg iter Ea:=⟨_,vg,λρ st σ H m Q S R p=>p⟩
theorem xG{tg iter:Expr}{gi:GI}(h:JI X tg iter gi):IA X tg iter (λρ st=>(gi ρ st).bind λw st1=> .ok (w.1.map λl=>(l,w.2),w.2) st1):=by
 obtain⟨wi,hp,hw⟩:=h
 refine⟨wi,hp,λρ st σ H m R S r p=>hw ρ st σ H m R S r ((ar.bind p).imp Ext.refl λw st1 q m1 H1 J' e1 S1 c1 tV=>?_)⟩
 obtain⟨o,ws⟩:=w
 have cc:∀st,rX (o.map λl=>(l,ws)) st->jK (o,ws) st:=λst c=>by cases o<;>exact c
 have X6:jK (o,ws) st1->rX (o.map λl=>(l,ws)) st1:=λc=>by cases o<;>exact c
 refine q m1 H1 J' e1 S1 (X6 c1) ⟨λk H2 m' st2 e S2 c=>tV.go k H2 m' st2 e S2 (cc _ c),λk H2 m' st2 e S2 c=>tV.stop k H2 m' st2 e S2 (cc _ c),λk hk H2 v H3 m' st2 e S2 c y=>?_⟩
 obtain⟨rfl,rr⟩:=tV.uD k hk H2 v H3 m' st2 e S2 (cc _ c) y
 exact⟨Ext.refl,S2,rr⟩
def mn(ws:List Wv):List Wv:=(dX ws.length).zipWith (λi w=> .tup [.int (i:Nat),w]) ws
theorem gF{ws:List Wv}:(mn ws).length=ws.length:=by unfold mn;simp
theorem rY{ws:List Wv}{k:Nat}(h:k < ws.length):(mn ws)[k]'(by rw[gF];exact h)= .tup [.int (k:Nat),ws[k]]:=by unfold mn;simp
def za(ws:List Wv)(st:Hs):Re J8:=match ws with
 | [.ref l]=>(match st[l]? with | some (.lst us)=> .ok (some (l,us),mn us) st | _=> .bad)
 | _=> .bad
def m_(g:GA):B0:=λρ st=>(g ρ st).bind za
theorem Eb{es:List Expr}{kt:Nat}{pt p q:Pos}{l:Expr}{ga:GA}(hg:Gl X "enumerate")(hm:X.mg "enumerate"=none)(ha:JA X [l] ga)(hst:aaw [l] X.env=[(false,eval l X.env)]):IA X (.Tuple es kt pt) (.Call (.Name "enumerate" p) [l] [] q) (m_ ga):=by
 refine⟨_,Iz hg hm jk hst,λρ st σ H m Q S R p=>?_⟩
 refine ha.go S R (ar.bind p) λws st1 vs m1 H1 p1 e1 S1 rs=>?_
 match ws,rs,p1 with
 | [],rs,p1=>exact aa p1
 | x::y::t,rs,p1=>cases x<;>exact aa p1
 | [x],rs,p1=>
  obtain⟨v,rfl,r1⟩:=kJ rs
  cases x with
  | ref j=>
   unfold ai at r1
   obtain⟨a,rfl,hla⟩:=r1
   unfold za at p1
   cases el:st1[j]? with
   | none=>simp only[el] at p1;exact aa p1
   | some o=>
    simp only[el] at p1
    cases o with
    | lst us=>
     have lo:aj st1 j=some us:=by unfold aj;rw[el]
     obtain⟨uF,h0,q0⟩:=S1.lV hla el
     refine⟨a,rfl,⟨uF,h0⟩,p1 m1 H1 _ e1 S1 lo ⟨λk H' m' st' e S' c hk=>?_,λk H' m' st' e S' c hk=>?_,λk hk H' v Uk m' st' e S' c y=>?_⟩⟩
     ·obtain⟨xs,hq,rws⟩:=S'.read (e.pre _ _ hla) c
      have hk':k < us.length:=by rw[<-gF];exact hk
      have hx':k < xs.length:=by rw[<-rws.length];exact hk'
      exact⟨xs,xs[k],hq,by simp[hx']⟩
     ·obtain⟨xs,hq,rws⟩:=S'.read (e.pre _ _ hla) c
      exact⟨xs,hq,by rw[<-rws.length,hk];exact lQ gF.symm⟩
     ·obtain⟨xs,hq,rws⟩:=S'.read (e.pre _ _ hla) c
      obtain⟨p',rfl,fr,y⟩:=y
      obtain⟨x,ex,rfl⟩:=y xs hq
      have hk':k < us.length:=by rw[<-gF];exact hk
      obtain⟨x',ex',mX⟩:=rws.get (i:=k) (w:=us[k]) (bR hk')
      rw[ex] at ex'
      cases ex'
      have eU:Ext X.K m' H' m' (upd H' p' (.tup [.int k,x])):=Ext.iG (.inl fr)
      refine⟨eU,S'.fresh fr,?_⟩
      show ai X.K m' (upd H' p' (.tup [.int k,x])) ((mn us)[k]'hk) (.ref p')
      rw[rY hk']
      unfold ai
      exact⟨p',[.int k,x],rfl,aI,ag.cons mkInt (ag.cons (ai.mono eU _ _ mX) ag.nil)⟩
    | _=>exact aa p1
  | _=>exact aa p1
end
open Classical in
def mq(is:List Nat)(gb:GS)(c:Option (Nat×List Wv)):List Wv->bA->Hs->Rs
 | [],ρ,st=> .nx ρ st
 | w::r,ρ,st=>match J5 is w ρ with
  | none=> .bad
  | some ρ1=>match gb ρ1 st with
   | .nx ρ' st'=>if rX c st' then mq is gb c r ρ' st' else .bad
   | .ct ρ' st'=>if rX c st' then mq is gb c r ρ' st' else .bad
   | .bk ρ' st'=> .nx ρ' st'
   | .rt w st'=> .rt w st'
   | .err c ρ' st'=> .err c ρ' st'
   | .bad=> .bad
def mv(is:List Nat)(gi:B0)(gb:GS):GS:=λρ st=>(gi ρ st).bx ρ λw st1=>mq is gb w.1 w.2 ρ st1
section
variable {X:Cx}
theorem IC{es:List Expr}{is:List Nat}{k:Nat}{iter:Expr}{body:List Stmt}{gi:B0}{gb:GS}{pos pos':Pos}(hN:X.N.Nodup)(hp:PassesOwn (model X.prog X.w) X.A X.env X.xe)(hc:X.calm=true)(sl:Slots X es is)(hi:IA X (.Tuple es k pos') iter gi)(hb:mU X body gb)
  (hs:∀x,aas iter X.env x=pure x):JS X (.For (.Tuple es k pos') iter body [] pos) (mv is gi gb):=by
 obtain⟨wi,Qo,hw⟩:=hi
 refine JS.of (sO hp hc Qo (sN hc (iM hN sl) (jH sl) (iN sl)) hV hs) λρ st σ H m D S R p=>?_
 refine hw ρ st σ H m _ S R ((aK.cS R p).imp Ext.refl λw st1 p1 m1 H1 J' e1 S1 c1 tV=>?_)
 obtain⟨cc,ws⟩:=w
 let Pv:Nat->St->Hp->Prop:=λk σ H=>∃ρ st m',Ext X.K m1 H1 m' H/\bo X.K m' st H/\av X.K m' H ρ σ/\rX cc st/\aK X m' H (mq is gb cc (ws.drop k) ρ st) D
 refine⟨λk n σ H=>n=ws.length - k/\k<=ws.length/\Pv k σ H,⟨ws.length,by simp,bY _,ρ,st1,m1,Ext.refl,S1,R.mono e1,c1,aK.shift p1 e1⟩,?_⟩
 rintro k n σ2 H2 ⟨rfl,hk,ρ2,st2,m2,e2,S2,R2,c2,p2⟩
 by_cases hlt:k < ws.length
 ·refine .inr ⟨tV.go k H2 m2 st2 e2 S2 c2 hlt,Pv (k+1),λσ' H' p'=>⟨ws.length - (k+1),by omega,rfl,hlt,p'⟩,λx H' y=>?_⟩
  obtain⟨eY,X7,mX⟩:=tV.uD k hlt H2 x H' m2 st2 e2 S2 c2 y
  have ed:ws.drop k=ws[k]::ws.drop (k+1):=pN hlt
  rw[ed] at p2
  unfold mq at p2
  replace p2:=aK.shift p2 eY
  have X8:=R2.mono eY
  have MK:=e2.trans eY
  have Ut:ai X.K m2 H' ws[k] x:=mX
  cases eb:ws[k] with
  | tup us=>
   rw[eb] at p2 Ut
   dsimp only[J5] at p2
   cases e5:pR is us ρ2 with
   | none=>rw[e5] at p2;exact aa p2
   | some ρ5=>
    rw[e5] at p2
    dsimp only at p2
    unfold ai at Ut
    obtain⟨b,ys,rfl,f1,f2⟩:=Ut
    refine⟨b,ys,rfl,fm.of f1,by rw[<-f2.length];exact l7 e5,jG f2 X8 e5 λσ5 R5=>?_⟩
    refine hb _ st2 _ _ m2 _ X7 R5 ?_
    cases eg:gb ρ5 st2 with
    | nx ρ3 st3=>
     rw[eg] at p2
     by_cases c:rX cc st3
     ·simp only[if_pos c] at p2
      exact λσ3 m3 H3 e3 S3 R3=>⟨ρ3,st3,m3,MK.trans e3,S3,R3,c,aK.shift p2 e3⟩
     ·simp only[if_neg c] at p2;exact aa p2
    | ct ρ3 st3=>
     rw[eg] at p2
     by_cases c:rX cc st3
     ·simp only[if_pos c] at p2
      exact λσ3 m3 H3 e3 S3 R3=>⟨ρ3,st3,m3,MK.trans e3,S3,R3,c,aK.shift p2 e3⟩
     ·simp only[if_neg c] at p2;exact aa p2
    | bk ρ3 st3=>rw[eg] at p2;exact p2
    | rt w3 st3=>rw[eg] at p2;exact p2
    | err c3 ρ3 st3=>rw[eg] at p2;exact p2
    | bad=>rw[eg] at p2;exact p2
  | _=>rw[eb] at p2;exact aa p2
 ·have e:k=ws.length:=by omega
  subst e
  rw[pO] at p2
  exact .inl ⟨tV.stop _ H2 m2 st2 e2 S2 c2 rfl,p2 σ2 m2 H2 Ext.refl S2 R2⟩
end
def zb(n:Nat):Wv->Option (List Wv)
 | .tup us=>if us.length=n then some us else none
 | _=>none
open Classical in
def fX(ck:Hs->Prop)(n:Nat)(gt:List Wv->Hs->Re Bool)(ge:List Wv->Hs->Re Wv)(l:Nat):List Wv->Hs->Option Hs
 | [],st=>some st
 | w::r,st=>match zb n w with
  | none=>none
  | some us=>match gt us st with
   | .ok false st1=>if ck st1 then fX ck n gt ge l r st1 else none
   | .ok true st1=>(match ge us st1 with
    | .ok v st2=>(match iL (.ref l) v st2 with
     | .ok _ st3=>if ck st3 then fX ck n gt ge l r st3 else none
     | _=>none)
    | _=>none)
   | _=>none
def eP(X:Cx)(scope:Scope)(xs:List Str)(cs:dR)(C:aae)(s0:aaj)(H0:Hp)(fp:List aae)(pn:List (aae×Obj)):Cx :=
 { fU X scope "" cs C s0 H0 fp pn (λ_ _=>False) with N:=xs++cs.map (·.1) }
structure kh(X:Cx)(scope:Scope)(x:Str)(xr:List Str)(cs:dR):Prop where
 one:ez X scope x cs
 var:∀y∈x::xr,scope.names.lookup y=some .local
 nd:((x::xr)++cs.map (·.1)).Nodup
inductive eQ:List Expr->List Str->Prop
 | nil:eQ [] []
 | cons {x:Str} {p:Pos} {es:List Expr} {xs:List Str}:eQ es xs->eQ (.Name x p::es) (x::xs)
section
variable {X:Cx} {pins:List (aae×Obj)} {σ:St} {H:Hp} {s:aaj} {scope:Scope} {x:Str} {xr:List Str} {cs:dR}
theorem inv2{fp:List aae}{h2:Heap}{tk:Nat}(S:kh X scope x xr cs)(hc:X.calm=true)(I:Inv X pins σ H s)(hf:∀b∈fp,dj X pins H b)(hl:∀b∈fp,b < s.heap.objs.size)
  (ns:h2.Ns s.heap.objs.size (λy=>([]:List (Str×aak)).reverse.lookup y))(sb:oX s.heap.objs.size (s.heap.push { cls:=.type "dict",data:=.dict #[] }) h2) :
  Inv (eP X scope (x::xr) cs s.heap.objs.size s H fp (X.pn++pins)) [] (aJ (x::xr).length none++l_ cs σ) H { s with heap:=h2,toks:=tk }:=by
 have J:=vc (E:=λ_ _=>False) (tk:=tk) S.one I hf hl ns sb
 have o:=J.ok
 obtain⟨m,hn,hv⟩:=J.loc
 refine⟨⟨o.mod,o.kind,o.glob,o.blt,o.above,o.inj,o.has,o.Oq,o.hd,o.frames,o.stk,o.SV,o.bs,o.BS,o.Aj,o.Ca,o.kY,o.GG⟩,J.os,J.bare,J.base,⟨m,hn,λi y v e1 e2 e3=>?_⟩,J.cell,J.free,J.hR,J.pin,J.hok,?_⟩
 ·have Gj:((x::xr)++cs.map (·.1))[i]? =some y:=e1
  by_cases hi:i < (x::xr).length
  ·rw[cu (by rw[la];exact hi),sR,if_pos hi] at e2
   cases e2
  ·rw[iq (by rw[la];omega),la] at e2
   rw[iq (by omega)] at Gj
   exact hv (i - (x::xr).length+1) y v Gj e2 e3
 ·show(aJ (x::xr).length none++l_ cs σ).length=((x::xr)++cs.map (·.1)).length
  unfold l_
  simp
  omega
theorem Uu{fp:List aae}{Hb He:Hp}{sb se:aaj}{C:aae}{σ':St}{iE:List (aae×Obj)}(I:Inv X pins σ Hb sb)(hf:∀b∈fp,dj X pins Hb b)(J:Inv (eP X scope (x::xr) cs C sb Hb fp (X.pn++pins)) iE σ' He se):Inv X pins σ He se:=by
 have un:Un (frs X.stack) fp Hb He sb.heap se.heap:=J.base
 exact I.rl (ch:=fp) J.os un J.hok J.bare λb hb=>⟨(hf b hb).2.2.2.1,(hf b hb).2.1,(hf b hb).2.2.2.2.1,λp hp=>(hf b hb).2.2.2.2.2 p hp⟩
end
theorem Ec{Y:Cx}:∀{es:List Expr}{xs:List Str}(pre:List Str)(post:List Str),eQ es xs->Y.N=pre++(xs++post)->(∀y∈xs,Y.env.scope.names.lookup y=some .local)->Slots Y es (gw pre.length xs.length)
 | _,_,pre,post,.nil,hN,hv=> .nil
 | _,_,pre,post,.cons (x:=x) (xs:=xs) t,hN,hv=>by
  show Slots Y _ (pre.length::gw (pre.length+1) xs.length)
  have hx:=hv x bp
  refine .cons (by rw[hN];simp) ⟨.inl hx,.inr hx⟩ ?_
  have:=Ec (pre++[x]) post t (by rw[hN];simp) λy hy=>hv y (aX _ hy)
  rw[dH] at this
  exact this
theorem J9:∀(us:List Wv)(pre:bA)(zs:bA)(post:bA),zs.length=us.length->pR (gw pre.length us.length) us (pre++(zs++post))=some (pre++(us.map some++post))
 | [],pre,zs,post,h=>by
  have:zs=[]:=List.length_eq_zero_iff.mp h
  subst this
  rfl
 | u::us,pre,[],post,h=>by cases h
 | u::us,pre,z::zs,post,h=>by
  show pR (gw (pre.length+1) us.length) us ((pre++(z::zs++post)).set pre.length (some u))=_
  have e:(pre++(z::zs++post)).set pre.length (some u)=(pre++[some u])++(zs++post):=by
   rw[List.set_append_right _ _ (ak _)]
   simp
  have q:=J9 us (pre++[some u]) zs post (by simpa using h)
  rw[dH,LM] at q
  rw[e,q]
  simp
theorem Uv{K:PySem.W.Frag}{m:Mp}{H:Hp}{us:List Wv}{ρ:bA}{σ:St}(R:av K m H (us.map some++ρ) σ):av K m H (aJ us.length none++ρ) σ:=by
 refine⟨by rw[<-R.len];simp,λi w e=>?_⟩
 by_cases hi:i < us.length
 ·rw[cu (by simpa using hi),sR,if_pos hi] at e
  cases e
 ·refine R.get i w ?_
  rw[iq (by simpa using Nat.le_of_not_lt hi)] at e ⊢
  simpa using e
section
variable {prog:aai} {w:aal} {A:aaf} {R:Result->aaj->Prop} {s:aaj}
abbrev NB(prog:aai)(w:aal)(A:aaf)(env:Env)(R:Result->aaj->Prop):aak->aaj->Prop:=notedBy (model prog w) A env λe s'=>R (.error e) s'
theorem M_{elt tg iter:Expr}{ifs:List Expr}{scope:Scope}{pos:Pos}{it acc:aak}{env:Env}(Iv:Nat->aaj->Prop)
  (turn:∀n t,Iv n t->aax (model prog w) A (pyNext it) (λr t1=>match r with
   | none=>R (.ok .next) t1
   | some v=>aax (model prog w) A (letOwnedTupleGo tg it v) (λ_ t2=>aax (model prog w) A (assign tg env v) (λ_ t3=>
     aax (model prog w) A (forIn ifs true λc r=>if r=true then do let ok <-isTrue c env (eval c env);pure (lp ok) else pure (lp r)) (λok t4=>
      if ok=true then aax (model prog w) A (eval elt env) (λx t5=>aax (model prog w) A (call (.builtin "list.append") [acc,x]) (λ_ t6=>∃m,m < n/\Iv m t6) (NB prog w A env R) t5) (NB prog w A env R) t4
      else ∃m,m < n/\Iv m t4) (NB prog w A env R) t3) (NB prog w A env R) t2) (NB prog w A env R) t1) (NB prog w A env R) t)
  (n:Nat) (h:Iv n s):aap (model prog w) A (.compLoop (.ListComp elt [⟨tg,iter,ifs,0⟩] scope pos) 0 it acc env) R s:=by
 refine codeAny_loop rfl Iv (λn t hI=>?_) n h
 show aax _ A ((compTurn (.ListComp elt [⟨tg,iter,ifs,0⟩] scope pos) 0 it acc env).onRaise (λx=>do noteFrame x env;theTreesLotGoes x)) _ _ t
 refine wpAny_noted ?_
 rw[compTurn_list]
 refine aay (wpAny_standAt (aay (aaB (turn n t hI) (λr t1 g1=>?_) λ_ _ z=>z)))
 cases r with
 | none=>exact aaE g1
 | some v=>
  refine aay (aaB g1 (λ_ t2 g2=>aay (aaB g2 (λ_ t3 g3=>aay (aaB g3 (λok t4 g4=>?_) λ_ _ z=>z)) λ_ _ z=>z)) λ_ _ z=>z)
  cases ok with
  | false=>exact aaE ⟨rfl,g4⟩
  | true=>exact aay (aay (aaB g4 (λx t5 g5=>aay (aaB g5 (λ_ t6 g6=>aaE (aaE ⟨rfl,g6⟩)) λ_ _ z=>z)) λ_ _ z=>z))
end
section
variable {X:Cx}
theorem vm{pins:List (aae×Obj)}{σ:St}{ρ:bA}{scope:Scope}{x:Str}{xr:List Str}{cs:dR}{es:List Expr}{kt:Nat}{pt pos:Pos}{elt iter:Expr}{ifs:List Expr}{gt:GT}{ge:GE}{ck:Hs->Prop}{ws:List Wv}{E:aak->aaj->Prop}
  {RR:aak->aae->Result->aaj->Prop}
  {it:aae}{fp:List aae}{tn:Nat->Heap->Prop}{J':It}{H2:Hp}{s2:aaj}{m1:Mp}{st1 mL:Hs}(S:kh X scope x xr cs)(sl:eQ es (x::xr))(hc:X.calm=true)(I2:Inv X pins σ H2 s2)(T:Turn X.prog X.w X.K (.Tuple es kt pt) J' fp it tn)(t0:tn 0 s2.heap)(f2:∀b∈fp,dj X pins H2 b)
  (S1:bo X.K m1 st1 H2)(R:av X.K m1 H2 ρ σ)(hck:ck (st1++[.lst []]))(run:fX ck (x::xr).length (λw=>gt (w.map some++c4 cs ρ)) (λw=>ge (w.map some++c4 cs ρ)) st1.length ws (st1++[.lst []])=some mL)
  (hE:∀C s0 H0 pn,JE (eP X scope (x::xr) cs C s0 H0 fp pn) elt ge)(hT:∀C s0 H0 pn,yW (eP X scope (x::xr) cs C s0 H0 fp pn) ifs gt)
  (hgo:∀(k:Nat)(H:Hp)(m':Mp)(st:Hs),Ext X.K m1 H2 m' H->bo X.K m' st H->ck st->k < ws.length->J'.go k H)(hstop:∀(k:Nat)(H:Hp)(m':Mp)(st:Hs),Ext X.K m1 H2 m' H->bo X.K m' st H->ck st->k=ws.length->J'.stop k H)
  (hy:∀(k:Nat)(hk:k < ws.length)(H:Hp)(v:V)(H':Hp)(m':Mp)(st:Hs),Ext X.K m1 H2 m' H->bo X.K m' st H->ck st->J'.uD k H v H'->Ext X.K m' H m' H'/\bo X.K m' st H'/\ai X.K m' H' ws[k] v)
  (fin:∀(D C:aae)(mm:Str->Option aak)(m':Mp)(H':Hp)(s':aaj),Ext X.K m1 H2 m' H'->bo X.K m' mL H'->m'[st1.length]? =some D->Inv X pins σ H' s'->dj X pins H' C->s'.heap.Ns C mm->(∀y c,X.env.cells.lookup y=some c->c≠C)->RR (.ref D) C (.ok .next) s') :
  aax (model X.prog X.w) X.A (newList []) (λacc s3=>aax (model X.prog X.w) X.A (newFunctionEnv scope X.env.globals (lJ X.env scope.names []) [] X.env.qual none .none (some X.env)) (λcenv s4=>
   aap (model X.prog X.w) X.A (.compStart (.ListComp elt [⟨.Tuple es kt pt,iter,ifs,0⟩] scope pos) 0 (.ref it) acc { cenv with scope:=relabel scope X.env }) (RR acc cenv.locals) s4) E s3) E s2:=by
 refine aaC ?_
 have I3:Inv X pins σ (upd H2 s2.heap.objs.size (.lst [])) { s2 with heap:=s2.heap.push { cls:=.type "list",data:=.seq ([]:List aak).toArray } }:=I2.Hk (ys:=[]) (its:=[]) (t':=s2.toks) .nil (bY _)
 have T_:∀b∈fp,b < s2.heap.objs.size:=λb hb=>by
  obtain⟨o,e,_⟩:=T.obj _ _ t0 b hb
  exact aE e
 have hD:H2 s2.heap.objs.size=none:=I2.fresh
 have f3:∀b∈fp,dj X pins (upd H2 s2.heap.objs.size (.lst [])) b:=λb hb=>⟨by rw[aw (a_ (T_ b hb))];exact(f2 b hb).1,(f2 b hb).2⟩
 have S3:=S1.alloc (ws:=[]) (xs:=[]) hD ag.nil
 have e3:Ext X.K m1 H2 (m1++[s2.heap.objs.size]) (upd H2 s2.heap.objs.size (.lst [])):=Ext.more.trans (Ext.upd (.inl hD))
 have HY:(m1++[s2.heap.objs.size])[st1.length]? =some s2.heap.objs.size:=by
  rw[<-S1.len,iq (ak _),tF];rfl
 generalize wQ:({ s2 with heap:=s2.heap.push { cls:=.type "list",data:=.seq ([]:List aak).toArray } }:aaj)=s3 at I3
 have Qf:∀b o,s2.heap.get? b=some o->s3.heap.get? b=some o:=λb o e=>by rw[<-wQ];exact aO _ e
 have Qh:∀b∈fp,b < s3.heap.objs.size:=λb hb=>by
  obtain⟨o,e,_⟩:=T.obj _ _ t0 b hb
  exact aE (Qf b o e)
 generalize XU:s2.heap.objs.size=D at *
 generalize XW:upd H2 D (.lst [])=H3 at *
 generalize XX:m1++[D]=m3 at *
 have R3:av X.K m3 H3 (c4 cs ρ) (l_ cs σ):=(yV cs R).mono e3
 generalize hrr:c4 cs ρ=ρc at *
 generalize hss:l_ cs σ=σc at *
 refine wpAny_newFunctionEnv S.one.cell (λ_ z=>nomatch z) (λh4 Ua Qi=>?_) S.one.kind
 have Ic:=inv2 (tk:=s3.toks+([]:List (Str×aak)).length) S hc I3 f3 Qh Ua Qi
 rw[hss] at Ic
 have Ub:∀b o,s3.heap.get? b=some o->h4.get? b=some o:=λb o e=>(Qi.2 b (a_ (aE e))).trans (aO _ e)
 have t4:tn 0 h4:=T.keep _ _ _ t0 λb _ o e=>Ub b o (Qf b o e)
 let Xc:=eP X scope (x::xr) cs s3.heap.objs.size s3 H3 fp (X.pn++pins)
 have vis:∀y∈x::xr,Xc.env.scope.names.lookup y=some .local:=λy hy=>lookup_relabel_local (S.var y hy)
 have Uw:Slots Xc es (gw 0 (x::xr).length):=Ec (Y:=Xc) [] (cs.map (·.1)) sl rfl vis
 have ML:∀(H':Hp),(∀b∈fp,H' b=none)->∀b∈fp,dj Xc [] H' b:=λH' hn b hb=>⟨hn b hb,a_ (Qh b hb),pU I3 (f3 b hb),.inl hb,λy c e=>(f3 b hb).2.2.2.2.1 y c (S.one.sub I3.ok e),λp hp=>(f2 b hb).2.2.2.2.2 p (by have Qj:p∈(X.pn++pins)++[]:=hp;rw[ei] at Qj;exact Qj)⟩
 let Pv:Nat->aaj->Prop:=λk s'=>∃σ' H' st m',Inv Xc [] σ' H' s'/\av X.K m' H' (aJ (x::xr).length none++ρc) σ'/\tn k s'.heap/\(∀b∈fp,H' b=none)/\Ext X.K m3 H3 m' H'/\bo X.K m' st H'/\ck st/\fX ck (x::xr).length (λw=>gt (w.map some++ρc)) (λw=>ge (w.map some++ρc)) st1.length (ws.drop k) st=some mL
 have loop:∀s4:aaj,Pv 0 s4->aap (model X.prog X.w) X.A (.compLoop (.ListComp elt [⟨.Tuple es kt pt,iter,ifs,0⟩] scope pos) 0 (.ref it) (.ref D) (compEnvC scope (lJ X.env scope.names []) s3.heap.objs.size X.env)) (RR (.ref D) s3.heap.objs.size) s4:=λs4 p0=>by
  refine M_ (λn s'=>∃k,n=ws.length - k/\k<=ws.length/\Pv k s') ?_ ws.length ⟨0,by simp,bY _,p0⟩
  rintro n s5 ⟨k,rfl,hk,σ5,H5,uM,m5,I5,R5,Qk,Lk,e5,S5,c5,bt⟩
  have DL:=e3.trans e5
  by_cases hlt:k < ws.length
  ·refine bx (T.item Xc rfl rfl rfl hc k [] s5 σ5 H5 _ I5 (ML H5 Lk) Qk (hgo k H5 m5 uM DL S5 c5 hlt)) λr s6 h6=>?_
   obtain⟨u,rfl,h6⟩:=h6
   refine bx h6 λ_ s7 h7=>?_
   obtain⟨v,H7,I7,rv,yl,MM,Uc⟩:=h7
   obtain⟨eY,S7,Ql⟩:=hy k hlt H5 v H7 m5 uM DL S5 c5 yl
   have OB:=I7.pinned (ML H7 Uc) (T.obj _ _ MM)
   have WB:=e5.trans eY
   have ed:ws.drop k=ws[k]::ws.drop (k+1):=pN hlt
   rw[ed] at bt
   unfold fX at bt
   cases ep:zb (x::xr).length ws[k] with
   | none=>rw[ep] at bt;cases bt
   | some us=>
   rw[ep] at bt
   dsimp only at bt
   have ht:ws[k]= .tup us/\us.length=(x::xr).length:=by
    cases eb:ws[k] with
    | tup vs=>
     rw[eb] at ep
     replace ep:(if vs.length=(x::xr).length then some vs else none)=some us:=ep
     by_cases cl:vs.length=(x::xr).length
     ·rw[if_pos cl] at ep;cases ep;exact⟨rfl,cl⟩
     ·rw[if_neg cl] at ep;cases ep
    | _=>rw[eb] at ep;cases ep
   rw[ht.1] at Ql
   unfold ai at Ql
   obtain⟨tb,ys,rfl,f1,WC⟩:=Ql
   have X9:pR (gw 0 (x::xr).length) us (aJ (x::xr).length none++ρc)=some (us.map some++ρc):=by
    have q:=J9 us [] (aJ (x::xr).length none) ρc (by rw[la];exact ht.2.symm)
    rw[ht.2] at q
    exact q
   have asg:=sN (X:=Xc) (k:=kt) (pos:=pt) hc (iM S.nd Uw) (jH Uw) (iN Uw) ([]++dG fp s7.heap) s7 σ5 H7 (.ref tb) u (λσ' H'=>H'=H7/\av X.K m5 H' (us.map some++ρc) σ') OB rv ⟨tb,ys,rfl,fm.of f1,by rw[<-WC.length,ht.2];simp,jG (X:=Xc) WC (R5.mono eY) X9 λσ' R'=>⟨rfl,R'⟩⟩
   refine aaB asg (λ_ s8 h8=>?_) λ_ _ z=>aa z
   obtain⟨σ8,H8,RT,rfl,R8⟩:=h8
   have back:∀{H':Hp}{s':aaj}{m':Mp}{st:Hs},Inv Xc ([]++dG fp s7.heap) σ8 H' s'->Ext X.K m3 H3 m' H'->Ext X.K m5 H8 m' H'->bo X.K m' st H'->ck st->fX ck (x::xr).length (λw=>gt (w.map some++ρc)) (λw=>ge (w.map some++ρc)) st1.length (ws.drop (k+1)) st=some mL->∃n',n' < ws.length - k/\∃k',n'=ws.length - k'/\k'<=ws.length/\Pv k' s' :=
    λ{H' s' m' st} I' e' e8 S' c' r'=>⟨ws.length - (k+1),by omega,k+1,rfl,hlt,σ8,H',st,m',I'.jy,by have q:=Uv (R8.mono e8);rw[ht.2] at q;exact q,T.keep _ _ _ MM λb hb o e=>(I'.pin (b,o) (ft _ (ft _ (fq hb e)))).1,λb hb=>by
     obtain⟨o,e,_⟩:=T.obj _ _ MM b hb
     exact(I'.pin (b,o) (ft _ (ft _ (fq hb e)))).2.1,e',S',c',r'⟩
   cases eg:gt (us.map some++ρc) uM with
   | err c BY=>rw[eg] at bt;cases bt
   | bad=>rw[eg] at bt;cases bt
   | ok b BY=>
    rw[eg] at bt
    have C4:=hT s3.heap.objs.size s3 H3 (X.pn++pins) (us.map some++ρc) uM σ8 H8 m5 (λb' H'=>b'=b/\∃m',Ext X.K m5 H8 m' H'/\bo X.K m' BY H') S7 R8 (by rw[eg];exact λm' H' e' S'=>⟨rfl,m',e',S'⟩) ([]++dG fp s7.heap) s8 RT
    refine aaB C4 (λok s9 h9=>?_) λ_ _ z=>aa z
    obtain⟨H9,I9,rfl,m9,e9,S9⟩:=h9
    cases ok with
    | false=>
     dsimp only at bt
     by_cases c6:ck BY
     ·rw[if_pos c6] at bt
      rw[if_neg dN]
      exact back I9 (WB.trans e9) e9 S9 c6 bt
     ·rw[if_neg c6] at bt;cases bt
    | true=>
     dsimp only at bt
     rw[if_pos rfl]
     cases ee:ge (us.map some++ρc) BY with
     | err c HZ=>rw[ee] at bt;cases bt
     | bad=>rw[ee] at bt;cases bt
     | ok w HZ=>
      rw[ee] at bt
      dsimp only at bt
      cases ea:iL (.ref st1.length) w HZ with
      | err c MN=>rw[ea] at bt;cases bt
      | bad=>rw[ea] at bt;cases bt
      | ok w2 MN=>
       rw[ea] at bt
       dsimp only at bt
       by_cases c8:ck MN
       ·rw[if_pos c8] at bt
        have el:=hE s3.heap.objs.size s3 H3 (X.pn++pins) (us.map some++ρc) BY σ8 H9 m9 (λv' H'=>∃m',Ext X.K m9 H9 m' H'/\bo X.K m' HZ H'/\ai X.K m' H' w v') S9 (R8.mono e9) (by rw[ee];exact λv' m' H' e' S' r'=>⟨m',e',S',r'⟩) ([]++dG fp s7.heap) s9 I9
        refine aaB el (λu2 tU Qm=>?_) λ_ _ z=>aa z
        obtain⟨v2,BZ,Ud,r2,MO,MP,Ue,MQ⟩:=Qm
        obtain⟨r,h1,h2⟩:=tR (X:=Xc)
        have eA:=(WB.trans e9).trans MP
        have ro:ai X.K MO BZ (.ref st1.length) (.ref D):=by unfold ai;exact⟨D,rfl,eA.pre _ _ HY⟩
        have rd:=h2 (.ref st1.length) w (.ref D) v2 HZ BZ MO (λ_ H'=>∃m',Ext X.K MO BZ m' H'/\bo X.K m' MN H') Ue ro MQ (by rw[ea];exact λv' m' H' e' S' r'=>⟨m',e',S'⟩)
        refine aaB (h1 ([]++dG fp s7.heap) tU σ8 BZ (.ref D) [v2] (.ref D) [u2] _ Ud rfl (.cons r2 .nil) rd) (λ_ OC h11=>?_) λ_ _ z=>aa z
        obtain⟨_,RU,Ug,_,XY,RV,Uh⟩:=h11
        exact back Ug (eA.trans RV) ((e9.trans MP).trans RV) Uh c8 bt
       ·rw[if_neg c8] at bt;cases bt
  ·have ek:k=ws.length:=by omega
   subst ek
   refine bx (T.done Xc rfl rfl rfl hc _ [] s5 σ5 H5 _ I5 (ML H5 Lk) Qk (hstop _ H5 m5 uM DL S5 c5 rfl)) λr s6 h6=>?_
   obtain⟨rfl,I6⟩:=h6
   rw[pO] at bt
   cases bt
   obtain⟨mm,Ui,_⟩:=id I6.loc
   have fC:=I3.oY (H':=H5) (ak _) I6.free
   exact fin D _ mm m5 H5 _ DL S5 (e5.pre _ _ HY) (Uu I3 f3 I6) fC Ui fC.2.2.2.2.1
 have Rn:av X.K m3 H3 (aJ (x::xr).length none++ρc) (aJ (x::xr).length none++σc):=by
  refine⟨by rw[dH,dH,R3.len];simp,λi w e=>?_⟩
  by_cases hi:i < (x::xr).length
  ·rw[cu (by rw[la];exact hi),sR,if_pos hi] at e
   cases e
  ·rw[iq (by rw[la];omega),la] at e ⊢
   exact R3.get _ w e
 have p0:Pv 0 { s3 with heap:=h4,toks:=s3.toks+([]:List (Str×aak)).length }:=⟨_,H3,st1++[Ob.lst []],m3,Ic,Rn,t4,λb hb=>(f3 b hb).1,Ext.refl,S3,hck,by rw[List.drop_zero];exact run⟩
 exact codeAny_compStart_list (loop _ p0) (T.self X.A 0 _ _ _ t4 (loop _ p0))
def gP(n:Nat)(cs:dR)(gt:GT)(ge:GE)(ρ:bA)(w:J8)(st:Hs):Re Wv:=match fX (rX w.1) n (λv=>gt (v.map some++c4 cs ρ)) (λv=>ge (v.map some++c4 cs ρ)) st.length w.2 (st++[.lst []]) with
 | some mL=> .ok (.ref st.length) mL
 | none=> .bad
def iu(n:Nat)(cs:dR)(gi:B0)(gt:GT)(ge:GE):GE:=λρ st=>(gi ρ st).bind λw st1=>gP n cs gt ge ρ w st1
theorem ID{c:Option (Nat×List Wv)}{st more:Hs}(h:rX c st):rX c (st++more):=by
 cases c with
 | none=>trivial
 | some p=>exact rO h
theorem vn{scope:Scope}{x:Str}{xr:List Str}{cs:dR}{es:List Expr}{kt:Nat}{pt pos:Pos}{elt iter:Expr}{ifs:List Expr}{gi:B0}{gt:GT}{ge:GE}{use:Option (aak->Sem Unit)}{Q:aak->aaj->Prop}{P:Wv->Hs->Prop}
  {ρ:bA}{st:Hs}{σ:St}{H:Hp}{m:Mp}{pins:List (aae×Obj)}{s:aaj}{ps:Pos}
  (CS:kh X scope x xr cs)(sl:eQ es (x::xr))(hc:X.calm=true)(hi:IA X (.Tuple es kt pt) iter gi)(hE:∀C s0 H0 fp pn,JE (eP X scope (x::xr) cs C s0 H0 fp pn) elt ge)(hT:∀C s0 H0 fp pn,yW (eP X scope (x::xr) cs C s0 H0 fp pn) ifs gt)(hs:∀x,aas iter X.env x=pure x)
  (S:bo X.K m st H)(R:av X.K m H ρ σ)(I:Inv X pins σ H s)(p:ar X σ m H (iu (x::xr).length cs gi gt ge ρ st) P)
  (fin:∀(w:Wv)(mL:Hs)(v:V)(D C:aae)(mm:Str->Option aak)(m':Mp)(H':Hp)(s':aaj),P w mL->Ext X.K m H m' H'->bo X.K m' mL H'->ai X.K m' H' w v->v= .ref D->Inv X pins σ H' s'->dj X pins H' C->s'.heap.Ns C mm->aaq (model X.prog X.w) X.A X.xe use Q (.ref D) C (.ok .next) s') :
  aax (model X.prog X.w) X.A (comprehension (.ListComp elt [⟨.Tuple es kt pt,iter,ifs,0⟩] scope pos) scope X.env ps (newList []) false (eval iter X.env) use) Q X.xe s:=by
 obtain⟨wi,Qo,hw⟩:=hi
 let R':It->Hp->Prop:=λJ' H1=>∃(w:J8)(st1:Hs)(m1:Mp),ar X σ m H (gP (x::xr).length cs gt ge ρ w st1) P/\Ext X.K m H m1 H1/\bo X.K m1 st1 H1/\rX w.1 st1/\xF X w m1 H1 J'
 have hr:=hw ρ st σ H m R' S R ((ar.bind p).imp Ext.refl λw st1 q m1 H1 J' e1 S1 c1 tV=>⟨w,st1,m1,q,e1,S1,c1,tV⟩)
 refine wpAny_comprehension_free (g:=⟨.Tuple es kt pt,iter,ifs,0⟩) (gs:=[]) (cl:=lJ X.env scope.names []) rfl hs (yU (CS.one.has I.ok)) CS.one.kind (λy hy e=>by rw[CS.one.look y hy,e]) (bx (Qo pins s σ H R' I hr) λv s1 h1=>bx h1 λitv s2 h2=>?_)
 obtain⟨it,fp,tn,J',H1,rfl,I2,T,t0,f2,w,st1,m1,q,e1,S1,c1,tV⟩:=h2
 unfold gP at q
 cases run:fX (rX w.1) (x::xr).length (λv=>gt (v.map some++c4 cs ρ)) (λv=>ge (v.map some++c4 cs ρ)) st1.length w.2 (st1++[.lst []]) with
 | none=>rw[run] at q;exact aa q
 | some mL=>
  rw[run] at q
  refine vm (RR:=λacc C=>aaq (model X.prog X.w) X.A X.xe use Q acc C) CS sl hc I2 T t0 f2 S1 (R.mono e1) (ID c1) run (λC s0 H0 pn=>hE C s0 H0 fp pn) (λC s0 H0 pn=>hT C s0 H0 fp pn) tV.go tV.stop tV.uD ?_
  intro D C mm m' H' s' e' S' HY I' fC ns _
  exact fin _ mL (.ref D) D C mm m' H' s' q (e1.trans e') S' (by unfold ai;exact⟨D,rfl,HY⟩) rfl I' fC ns
theorem vo{scope:Scope}{x:Str}{xr:List Str}{cs:dR}{es:List Expr}{kt:Nat}{pt pos:Pos}{elt iter:Expr}{ifs:List Expr}{gi:B0}{gt:GT}{ge:GE}
  (CS:kh X scope x xr cs)(sl:eQ es (x::xr))(hc:X.calm=true)(hi:IA X (.Tuple es kt pt) iter gi)(hE:∀C s0 H0 fp pn,JE (eP X scope (x::xr) cs C s0 H0 fp pn) elt ge)(hT:∀C s0 H0 fp pn,yW (eP X scope (x::xr) cs C s0 H0 fp pn) ifs gt)(hs:∀x,aas iter X.env x=pure x) :
  JE X (.ListComp elt [⟨.Tuple es kt pt,iter,ifs,0⟩] scope pos) (iu (x::xr).length cs gi gt ge):=λρ st σ H m Q S R p pins s I=>by
 rw[eval_ListComp]
 refine vn (use:=none) CS sl hc hi hE hT hs S R I p ?_
 intro w mL v D C mm m' H' s' q e' S' rw' ev I' fC ns
 exact⟨mm,ns,λh' same=>⟨.ref D,H',j_ I' fC same,rfl,ev ▸ q v m' H' e' S' rw'⟩⟩
theorem Ed(i:Nat){scope:Scope}{x y:Str}{xr:List Str}{cs:dR}{es:List Expr}{kt:Nat}{pt pos spos py:Pos}{elt iter:Expr}{ifs:List Expr}{gi:B0}{gt:GT}{ge:GE}(hN:X.N.Nodup)
  (CS:kh X scope x xr cs)(sl:eQ es (x::xr))(hc:X.calm=true)(hi:IA X (.Tuple es kt pt) iter gi)(hE:∀C s0 H0 fp pn,JE (eP X scope (x::xr) cs C s0 H0 fp pn) elt ge)(hT:∀C s0 H0 fp pn,yW (eP X scope (x::xr) cs C s0 H0 fp pn) ifs gt)(hs:∀x,aas iter X.env x=pure x)
  (hx:X.N[i]? =some y)(hl:Loc X.env.scope y)(hf:X.fn y=true\/X.env.scope.names.lookup y=some .local) :
  JS X (.Assign [.Name y py] (.ListComp elt [⟨.Tuple es kt pt,iter,ifs,0⟩] scope pos) spos) (aY i (iu (x::xr).length cs gi gt ge)):=by
 have sw:∃b,swapsWith (.ListComp elt [⟨.Tuple es kt pt,iter,ifs,0⟩] scope pos) (some (.Name y py)) spos.line X.env=pure b:=⟨_,rfl⟩
 obtain⟨b,sw⟩:=sw
 cases b with
 | false=>exact tO i hN (vo CS sl hc hi hE hT hs) hx hl sw hf
 | true=>
  intro ρ st σ H m D S R p pins s I
  rw[exec_Assign_Name_used _ _ _ _ sw]
  refine aay (wpAny_standAt (aay ?_))
  show aax _ X.A (do let _ <-comprehension (.ListComp elt [⟨.Tuple es kt pt,iter,ifs,0⟩] scope pos) scope X.env _ (newList []) false (eval iter X.env) (some (assign (.Name y py) X.env))) _ _ s
  refine aay (aaB (vn (use:=some (assign (.Name y py) X.env)) (Q:=λ_ s'=>SP X pins D .next s') CS sl hc hi hE hT hs S R I (aK.cS R p) ?_) (λ_ s' hq=>aaE (aaE hq)) λ_ _ e=>e)
  intro w mL v D' C mm m' H' s' q e' S' rw' ev I' fC ns
  refine wpAny_assign_Name (mM (i:=i) I' hN hx hl (show RelV v (.ref D') by rw[ev];rfl) (λs2 I2 h2=>?_) hf)
  obtain⟨a,sb,ha⟩:=h2
  have hca:C≠a:=by
   rcases ha with z | z
   ·rw[z];exact fC.2.1
   ·exact aW (fC.2.2.2.2.1 y a z)
  exact⟨mm,ns.sameBut sb hca,λh' same=>⟨_,_,j_ I2 fC same,q _ m' H' e' S' ((R.mono e').set i rw')⟩⟩
end
section
variable {X:Cx}
theorem vp{ob:Expr}{name:Str}{id:String}{e:Expr}{go ga:GE}{apos cpos:Pos}{mt:Wv->Wv->Hs->Re Wv}(hm:J3 X id mt)(slot:Slot "list" name id)(hty:typeOf (.builtin id)=pure (.type "method_descriptor"))(hbase:attributeBase ob name X.env (eval ob X.env)=eval ob X.env)(ho:JE X ob go)(ha:JE X e ga)
  (hst:aaw [e] X.env=[(false,eval e X.env)])(hline:(apos.endLine == cpos.line)=true):JE X (.Call (.Attribute ob name apos) [e] [] cpos) (cI mt go ga):=by
 obtain⟨r,h1,h2⟩:=hm
 have hfew:((backTo cpos (aaw [e] X.env)).all (λx=> !x.1)&&(backToKw cpos (keywordEach [] X.env)).all (λx=>x.1.isSome)&&decide ([e].length+([]:List Keyword).length+(if([]:List Keyword).isEmpty then 0 else 1) < 30))=true:=by
  rw[hst];rfl
 refine JE.of (yG PySem.F.plainAttrs_list slot hty h1 aG jk hbase hfew hline hst rfl) λρ st σ H m Q S R p=>?_
 refine ho.go S R (ar.bind p) λo st1 v m1 H1 p1 e1 S1 ro=>?_
 cases o with
 | ref l=>
  dsimp only at p1
  cases el:aj st1 l with
  | none=>rw[el] at p1;exact aa p1
  | some RS=>
   rw[el] at p1
   dsimp only at p1
   have J4:=ro
   unfold ai at J4
   obtain⟨a,rfl,hla⟩:=J4
   obtain⟨xs,hq,_⟩:=S1.read hla el
   refine⟨.inl ⟨rfl,xs,hq⟩,?_⟩
   refine(oD ha tI hst).go S1 (R.mono e1) (ok:=λws st2=>ar X σ m H (match ws with | [w]=>(mt (.ref l) w st2).ju | _=> .bad) (BV X.K m H Q)) ?_ λws st2 vs m2 H2 p2 e2 S2 rs=>?_
   ·have p3:=(ar.bind p1).imp e1 (λ_ _ q=>q)
    show ar X σ m1 H1 ((ga ρ st1).bind λx st1=>(ao ρ st1).bind λxs st2=> .ok (x::xs) st2) _
    cases eg:ga ρ st1 with
    | ok w st2=>rw[eg] at p3;exact p3
    | err c st2=>rw[eg] at p3;exact p3
    | bad=>rw[eg] at p3;exact p3
   ·match ws,rs,p2 with
    | [],rs,p2=>exact aa p2
    | [w],rs,p2=>
     obtain⟨v2,rfl,MG⟩:=kJ rs
     exact h2 (.ref l) w (.ref a) v2 st2 H2 m2 Q S2 (ai.mono e2 _ _ ro) MG (dE.shift (ar.ju p2) (e1.trans e2))
    | _::_::_,rs,p2=>exact aa p2
 | _=>exact aa p1
end
section
open PySem.SeqAt PySem.MeetsSeq PySem.MeetsSeq2 PySem.MeetsSeq3
theorem vt(p:aae)(its:Array aak)(n:Nat)(dd:Option aae)(sl:Array (Option aak))(x:aak)(e:aak->Bool)(j:Nat)(hj:j < its.size)(hit:e its[j]=true)(hno:∀m (hm:m < its.size),m < j->e its[m]=false) :
  Meets (Builtin.«tuple.index» ⟨[.ref p,x],[]⟩)
   (λA R s=>s.heap.get? p=some { cls:=.type "tuple",dict:=dd,data:=.seq its n,slots:=sl }/\(∀y,y∈its->EqAt A.in1 s y x (e y))/\R (.ok (.ret (.int j s.toks))) { s with toks:=s.toks+1 }) :=
 .of_wp λprog w A R s hh=>by
  obtain⟨hp,g,d,tk,os⟩:=s
  obtain⟨gp,he,hr⟩:=hh
  have sb:=AutoSeq1.sub_tuple_tuple
  wp_walk using PySem.AutoSeq1.wpAny_loadPart' gp
  rw[Nat.min_self]
  show aax (model prog w) A.in1 (forIn [:its.size] (none,()) (λ(i:Nat)(__s:Option PySem.Fin×Unit)=>match its[i]? with
      | some y=>do
       let __do_lift <-eqBool y x
       if __do_lift=true then do
         let __do_lift <-retInt i
         pure (ForInStep.done (some __do_lift,()))
        else pure (lp (none,()))
      | x=>pure (lp (none,())))) _ _ _
  rw[Std.Legacy.Range.forIn_eq_forIn_range']
  simp only[Std.Legacy.Range.size,Nat.sub_zero,Nat.add_sub_cancel,Nat.div_one]
  refine wpAny_forIn_list _ (λrest b s'=>b.1=none/\s'=⟨hp,g,d,tk,os⟩/\∃i,i<=j/\rest=gw i (its.size - i)) _ ?_ ?_ _ _ ⟨rfl,rfl,0,bY _,by simp⟩
  ·rintro y rest b s' ⟨e0,rfl,i,hi,er⟩
   have hlt:i < its.size:=by omega
   obtain⟨rfl,X_⟩:y=i/\rest=gw (i+1) (its.size - (i+1)):=by
    have q:its.size - i=(its.size - (i+1))+1:=by omega
    rw[q,List.range'_succ] at er
    injection er with h1 h2
    exact⟨h1,h2⟩
   rw[Qx hlt]
   dsimp only
   refine aay (he _ (Array.getElem_mem hlt) prog w _ _ ?_)
   by_cases cj:y=j
   ·subst cj
    rw[hit,if_pos rfl]
    wp_walk
    exact⟨_,rfl,hr⟩
   ·rw[hno y hlt (by omega),if_neg dN]
    exact aaE ⟨rfl,rfl,y+1,by omega,X_⟩
  ·rintro b s' ⟨e0,rfl,i,hi,er⟩
   exfalso
   have:its.size - i=0:=by
    have:=congrArg gL er
    simpa using this.symm
   omega
end
section
variable {X:Cx}
def qh(mt:Wv->Wv->Hs->Re Wv)(go ga:GE):GE:=λρ st=>(go ρ st).bind λo st1=>match o with
 | .tup us=>(ga ρ st1).bind λv st2=>(mt (.tup us) v st2).ju
 | _=> .bad
theorem Ee{ob:Expr}{name:Str}{id:String}{e:Expr}{go ga:GE}{apos cpos:Pos}{mt:Wv->Wv->Hs->Re Wv}(hm:J3 X id mt)(slot:Slot "tuple" name id)(hty:typeOf (.builtin id)=pure (.type "method_descriptor"))(hbase:attributeBase ob name X.env (eval ob X.env)=eval ob X.env)(ho:JE X ob go)(ha:JE X e ga)
  (hst:aaw [e] X.env=[(false,eval e X.env)])(hline:(apos.endLine == cpos.line)=true):JE X (.Call (.Attribute ob name apos) [e] [] cpos) (qh mt go ga):=by
 obtain⟨r,h1,h2⟩:=hm
 have hfew:((backTo cpos (aaw [e] X.env)).all (λx=> !x.1)&&(backToKw cpos (keywordEach [] X.env)).all (λx=>x.1.isSome)&&decide ([e].length+([]:List Keyword).length+(if([]:List Keyword).isEmpty then 0 else 1) < 30))=true:=by
  rw[hst];rfl
 refine JE.of (yG PySem.F.plainAttrs_tuple slot hty h1 aG jk hbase hfew hline hst rfl) λρ st σ H m Q S R p=>?_
 refine ho.go S R (ar.bind p) λo st1 v m1 H1 p1 e1 S1 ro=>?_
 cases o with
 | tup us=>
   dsimp only at p1
   have J4:=ro
   unfold ai at J4
   obtain⟨a,xs,rfl,hq,_⟩:=J4
   refine⟨.inr (.inl ⟨rfl,.inr ⟨xs,hq⟩⟩),?_⟩
   refine(oD ha tI hst).go S1 (R.mono e1) (ok:=λws st2=>ar X σ m H (match ws with | [w]=>(mt (.tup us) w st2).ju | _=> .bad) (BV X.K m H Q)) ?_ λws st2 vs m2 H2 p2 e2 S2 rs=>?_
   ·have p3:=(ar.bind p1).imp e1 (λ_ _ q=>q)
    show ar X σ m1 H1 ((ga ρ st1).bind λx st1=>(ao ρ st1).bind λxs st2=> .ok (x::xs) st2) _
    cases eg:ga ρ st1 with
    | ok w st2=>rw[eg] at p3;exact p3
    | err c st2=>rw[eg] at p3;exact p3
    | bad=>rw[eg] at p3;exact p3
   ·match ws,rs,p2 with
    | [],rs,p2=>exact aa p2
    | [w],rs,p2=>
     obtain⟨v2,rfl,MG⟩:=kJ rs
     exact h2 (.tup us) w (.ref a) v2 st2 H2 m2 Q S2 (ai.mono e2 _ _ ro) MG (dE.shift (ar.ju p2) (e1.trans e2))
    | _::_::_,rs,p2=>exact aa p2
 | _=>exact aa p1
theorem Bd:JK X "tuple.index" (λx xs H Q=>∃(p:aae)(ys:List V)(y:V)(j:Nat),x= .ref p/\xs=[y]/\fm X.K H p ys/\ff y=true/\ys.all ff=true/\ys.findIdx? (λz=>uO z y)=some j/\Q (.int (j:Nat)) H):=by
 intro pins s σ H x xs v us Q I rx rv h
 obtain⟨p,ys,y,j,rfl,rfl,hq,fy,fs,hj,q⟩:=h
 cases rx
 obtain⟨u,rfl,ru⟩:=vals1 rv
 obtain⟨its,r,pl,hz⟩:=I.tuple hq
 have hlen:=r.length
 obtain⟨⟨cl,dd,dt,sl⟩,ho,hc,n,hd⟩:=pl
 dsimp only at hc hd
 subst hc;subst hd
 rw[D3] at hj
 obtain⟨hj1,hj2,Uo⟩:=hj
 have at':∀(k:Nat)(h:k < ys.length)(h':k < its.length),qV y its[k]=uO ys[k] y:=by
  intro k h h'
  obtain⟨w,hw,rw'⟩:=r.get (bR h)
  rw[bR h'] at hw
  cases hw
  exact pj rw' (List.all_eq_true.mp fs _ (jL h))
 refine call_meets PySem.F.slot_tuple_index ⟨_,ho,rfl⟩ PySem.F.entry_tuple_index (PySem.F.args_tuple_index_2 _ _) (vt p its.toArray n dd sl u (qV y) j (by simp;omega) ?_ ?_) ⟨ho,λw hw=>fS ru fy r fs w (by simpa using hw),⟨.int _,H,I.tok _,⟨_,rfl⟩,q⟩⟩
 ·rw[xA,at' j hj1 (by omega)];exact hj2
 ·intro m hm hlt
  rw[xA,at' m (by omega) (by omega)]
  simpa using Uo m hlt
def kj(o v:Wv)(st:Hs):Re Wv:=match o with
 | .tup ws=>if bO v=true/\ws.all bO=true then(match ws.findIdx? (λz=>wO z v) with | some j=> .ok (.int (j:Nat)) st | none=> .bad) else .bad
 | _=> .bad
theorem Be:J3 X "tuple.index" kj:=⟨_,Bd,λo w x v st H m Q S ro rw' p=>by
 cases o with
 | tup ws=>
  unfold ai at ro
  obtain⟨a,xs,rfl,q1,q2⟩:=ro
  unfold kj at p
  dsimp only at p
  by_cases c:bO w=true/\ws.all bO=true
  ·rw[if_pos c] at p
   cases ej:ws.findIdx? (λz=>wO z w) with
   | none=>rw[ej] at p;exact aa p
   | some j=>
    rw[ej] at p
    exact⟨a,xs,v,j,rfl,rfl,fm.of q1,gN rw' c.1,iY q2 c.2,by rw[qa rw' c.1 q2 c.2];exact ej,p _ m H Ext.refl S mkInt⟩
  ·rw[if_neg c] at p;exact aa p
 | _=>exact aa p⟩
end
section
variable {X:Cx}
end
section
variable {X:Cx}
def Ef(kvs:Dc)(gk gx:GE):GE:=λρ st=>(gk ρ st).bind λk st1=>(gx ρ st1).bind λx st2=>match k with
 | .str z=> .ok ((kvs.lookup z).getD x) st2
 | _=> .bad
theorem Eg{e f:Expr}{gk gx:GE}{x:Str}{p apos cpos:Pos}{kvs:Dc}(he:JE X e gk)(hf:JE X f gx)(M:M2 X (.Name x p) "get" apos e f cpos)(hg:Gl X x)(hd:(x == ("__debug__":Str))=false)(D:m8 X.K X.w X.mg x kvs):JE X (.Call (.Attribute (.Name x p) "get" apos) [e,f] [] cpos) (Ef kvs gk gx):=by
 intro ρ st σ H m Q S R pp pins s I
 obtain⟨a,es,ep,g1,g2,g3,g4,g5⟩:=D
 have k1:=he.go (T:=λy H2=>∃k st1 m1,dD X σ m H ((gx ρ st1).bind λx st2=>match k with | .str z=> .ok ((kvs.lookup z).getD x) st2 | _=> .bad) Q/\Ext X.K m H m1 H2/\bo X.K m1 st1 H2/\ai X.K m1 H2 k y) S R (ar.bind pp) λw st1 v m1 H1 p1 e1 S1 rw'=>⟨w,st1,m1,p1,e1,S1,rw'⟩
 refine wpAny_Call_method M.base M.few M.line PySem.F.plainAttrs_dict PySem.F.slot_dict_get PySem.F.type_dict_get (bx (gq (v:=.ref a) hg g1 rfl hd pins s σ H (λv H2=>v= .ref a/\H2=H) I ⟨rfl,rfl⟩) λu s1 ⟨v,H1,I1,rv,ev,eH⟩=>?_)
 subst ev
 cases eH
 obtain rfl:u=aU a:=rv
 refine⟨⟨_,I1.wV _ _ g2,rfl⟩,λa' e=>by cases e;exact⟨_,I1.wV _ _ g2,rfl⟩,?_⟩
 rw[M.trees]
 refine mR rfl (mS (ip (bx (k1 pins s1 I1) λiv s2 ⟨y,H2,I2,ry,k,st1,m1,p1,e1,S1,rk⟩=>?_)))
 have k2:=hf.go (T:=λz H3=>∃x' st2 m2,dD X σ m H (match k with | .str z=> .ok ((kvs.lookup z).getD x') st2 | _=> .bad) Q/\Ext X.K m H m2 H3/\bo X.K m2 st2 H3/\ai X.K m2 H3 x' z) S1 (R.mono e1) ((ar.bind p1).imp e1 λ_ _ q=>q) λw st2 v m2 H3 p2 e2 S2 rw'=>⟨w,st2,m2,p2,e1.trans e2,S2,rw'⟩
 refine ip (bx (k2 pins s2 I2) λfv s3 ⟨z,H3,I3,rz,x',st2,m2,p2,e2,S2,rx⟩=>mQ ?_)
 cases k with
 | str zs=>
  obtain⟨rfl,_⟩:=eM rk
  obtain⟨t,rfl⟩:=(show ∃t,iv=jY zs t from ry)
  obtain⟨vs,dd,look⟩:=oJ (P:=X.prog) (w:=X.w) I3.wV g2 g4 g5
  refine call_meetsIn PySem.F.slot_dict_get dd.typeIs PySem.F.entry_dict_get (PySem.F.args_dict_get_3 _ _ _) (meets_dict_get_default (PySem.strKind X.prog X.w) a (strKind_is X.prog X.w zs t) g3 fv) ⟨_,dd.mapOf,?_⟩
  have p2':BV X.K m H Q ((kvs.lookup zs).getD x') st2:=p2
  cases e:kvs.lookup zs with
  | none=>
   rw[e] at p2'
   have q:=(look zs).1 e
   show EP X pins σ Q ((valueAt vs zs).getD fv) _
   rw[q]
   exact⟨z,H3,I3.tok _,rz,p2' z m2 H3 e2 S2 rx⟩
  | some u=>
   rw[e] at p2'
   obtain⟨u',q1,q2⟩:=(look zs).2 u e
   show EP X pins σ Q ((valueAt vs zs).getD fv) _
   rw[q1]
   cases u with
   | int i=>exact⟨.int i,H3,I3.tok _,q2,p2' _ m2 H3 e2 S2 (by unfold ai;rfl)⟩
   | str y=>exact⟨.str y,H3,I3.tok _,q2.1,p2' _ m2 H3 e2 S2 (by unfold ai;exact⟨rfl,q2.2⟩)⟩
   | _=>exact aa q2
 | _=>exact aa p2
end
section
variable {X:Cx}
theorem Eh:fu X (aan .Mult) (λx y H Q=>∃z n,x= .str z/\y= .int n/\(n=0\/n=1)/\Q (.str (if n=0 then PySem.Str.empty else z)) H):=by
 intro pins s σ H x y v u Q I rx ry h
 obtain⟨z,n,rfl,rfl,hn,q⟩:=h
 obtain⟨t,rfl⟩:=rx
 obtain⟨t',rfl⟩:=ry
 rcases hn with rfl | rfl
 ·exact PySem.P.mul_str_none (by omega) (by omega) ⟨.str PySem.Str.empty,H,I.tok _,⟨_,rfl⟩,q⟩
 ·refine PySem.P.mul_str (by decide) (λ_ h=>by cases h) (λ_ h=>by cases h) ?_
  rw[if_neg (by omega),if_pos (by rfl)]
  exact⟨.str z,H,I,⟨t,rfl⟩,q⟩
def gj:g_:=λx y st=>match x,y with
 | .str z,.int n=>if n=0\/n=1 then .ok (.str (if n=0 then PySem.Str.empty else z)) st else pW (.str z) (.int n) st
 | x,y=>pW x y st
theorem Ei:jv X (aan .Mult) gj:=by
 obtain⟨r,h1,h2⟩:=Ia (X:=X)
 refine⟨_,fu.or Eh h1,λx y a b st H m Q S rx ry p=>?_⟩
 cases x with
 | str z=>
  cases y with
  | int n=>
   have p':dE X.K m H (if n=0\/n=1 then .ok (.str (if n=0 then PySem.Str.empty else z)) st else pW (.str z) (.int n) st) Q:=p
   by_cases c:n=0\/n=1
   ·rw[if_pos c] at p'
    obtain⟨rfl,ok⟩:=eM rx
    refine .inl ⟨z,n,rfl,bg ry,c,p' _ m H Ext.refl S (mkStr ?_)⟩
    by_cases c0:n=0
    ·rw[if_pos c0];decide+kernel
    ·rw[if_neg c0];exact ok
   ·rw[if_neg c] at p'
    exact .inr (h2 _ _ _ _ st H m Q S rx ry p')
  | _=>exact .inr (h2 _ _ _ _ st H m Q S rx ry p)
 | _=>exact .inr (h2 _ _ _ _ st H m Q S rx ry p)
end
abbrev LF:=List Wv->List Wv->Hs->Re Wv
section
variable {X:Cx} {pins:List (aae×Obj)} {σ:St} {H:Hp} {s:aaj}
theorem zc{h B B':Heap}:∀{l:List Env},(∀env∈l,∀L,env.frame=some L->B'.get? L=none)->h.FunFrames B l->h.FunFrames B' l
 | [],_,_=>trivial
 | env::r,hn,⟨hk,⟨L,o,hf,_,ho,hd⟩,hr⟩=>⟨hk,⟨L,o,hf,hn env (.head _) L hf,ho,hd⟩,zc (λe he=>hn e (.tail _ he)) hr⟩
end
def WD(K:PySem.W.Frag)(n:Nat)(p:Lm)(L:LF):Sp:=λvs H Q E=>∃m st ws caps,bo K m st H/\ag K m H ws vs/\ag K m H caps p.xs/\H p.c=some (.ext (yL p.c p.q))/\ws.length=n/\J0 K m H (L caps ws st) Q E
def Ej(P:aai)(w:aal)(K:PySem.W.Frag)(mg:Str->Option aak)(base:Heap)(k:Nat)(p:Lm)(n:Nat)(L:LF):Prop :=
 ∃fd ps ob,FnOk P w K mg base (CXJ P w) k p.a fd ps (WD K n p L)/\base.get? p.a=some ob/\ob.data= .func fd/\Binds K fd ps []
open Classical in
section
variable {X:Cx}
end
section
variable {P:aai} {w:aal} {K:PySem.W.Frag} {mg:Str->Option aak} {base:Heap} {p:Lm} {scope:Scope} {x1 x2 x3 y:Str} {cy:aae}
end
structure J_(X:Cx)(q:Str)(P:aae):Prop where
 code:∃c,X.env.code= .ref c/\PySem.W.CodeHd X.base c P
 qual:X.env.qual=q++".<locals>."
 tab:iU X.K q=some P
 mem:q∈dm
 uniq:∀q',q'∈dm->iU X.K q'=some P->q'=q
 bm:∃bm ob,X.mg "__builtins__"=some (.ref bm)/\bm≠builtinsNs/\bm≠aau/\X.base.get? bm=some ob/\ob.cls= .type "module"/\ob.dict=some builtinsNs/\ob.data= .plain
section
variable {X:Cx} {pins:List (aae×Obj)} {σ:St} {H:Hp} {s:aaj} {q:Str} {P:aae}
end
abbrev WE:=Lm->LF->List Wv->Hs->Re Wv
def Ux(mg:Str->Option aak)(base:Heap):Prop:=∃bm ob,mg "__builtins__"=some (.ref bm)/\bm≠builtinsNs/\bm≠aau/\base.get? bm=some ob/\ob.cls= .type "module"/\ob.dict=some builtinsNs/\ob.data= .plain
def Bf(K:PySem.W.Frag)(mg:Str->Option aak)(base:Heap):Prop:=Mod K mg base/\Ux mg base
def Uy(P:aai)(w:aal)(K:PySem.W.Frag)(mg:Str->Option aak)(k j:Nat)(x:Str)(FL:WE):Prop :=
 (∃f,mg x=some (.ref f)/\PySem.W.keepIn K (.ref f)=true)/\∀(base:Heap)(p:Lm)(L:LF),Bf K mg base->Ej P w K mg base (j+1) p 3 L->jw P w K mg base k x 2 (FL p L)
section
variable {X:Cx}
end
section
variable {P:aai} {w:aal} {A:aaf} {E:aak->aaj->Prop} {s:aaj}
end
abbrev zA(h:Heap)(t1:aae):Heap:=h.push { cls:=.type "tuple_iterator",data:=.fields #[.ref t1,.int 0 0] }
abbrev zB(h:Heap)(t1 t2:aae):Heap:=zA (zA h t1) t2
abbrev zC(h:Heap)(t1 t2 t3:aae):Heap:=zA (zB h t1 t2) t3
abbrev zD(h:Heap)(t1 t2 t3:aae):Heap:=(zC h t1 t2 t3).push { cls:=.type "tuple",data:=.seq #[.ref h.objs.size,.ref (zA h t1).objs.size,.ref (zB h t1 t2).objs.size] }
section
variable {P:aai} {w:aal} {A:aaf} {E:aak->aaj->Prop} {s:aaj}
end
section
variable {P:aai} {w:aal} {A:aaf} {E:aak->aaj->Prop} {s:aaj}
end
section
variable {X:Cx}
end
def WG(a b c:Int):Prop:=0<=a/\a < 2 ^ 30/\0<=b/\b < 2 ^ 30/\1<=c/\c < 2 ^ 30
instance {a b c}:Decidable (WG a b c):=Dx _
def Qy(a b c:Int):Nat:=(if a < b then(b - a - 1) / c+1 else 0).toNat
section
variable {X:Cx} {tg:Expr}
def Uz(lo c:Int)(n:Nat):List Wv:=(dX n).map λk:Nat=>Wv.int (lo+k * c)
end
section
variable {X:Cx}
end
section
variable {X:Cx}
end
section
variable {X:Cx}
end
def qi(neg:Bool):g_:=λx y st=>match aC st 20 y,aC st 20 x with
 | some (.list ds),some d=> .ok (.bl ((ds.any λz=>aV z d) != neg)) st
 | some (.tuple ds),some d=> .ok (.bl ((ds.any λz=>aV z d) != neg)) st
 | _,_=> .bad
section
variable {X:Cx}
def M'(K:PySem.W.Frag)(neg:Bool):R2:=λa b H Q=>∃m st x y d ds c,bo K m st H/\ai K m H x a/\ai K m H y b/\aC st 20 y=some c/\(c= .list ds\/c= .tuple ds)/\aC st 20 x=some d/\Q (.bl ((ds.any λz=>aV z d) != neg)) H
theorem zd{ds:List PyData}{c:PyData}(h:c= .list ds\/c= .tuple ds)(k:c.canLay0=true):yP ds=true:=by
 rcases h with rfl | rfl<;>exact k
theorem Na(hu:X.A.units+64 < cLine):fu X (aar .In) (M' X.K false):=by
 intro pins s σ H a b v u Q I rx ry h
 obtain⟨m,st,x,y,d,ds,c,S,h1,h2,e1,hc,e2,q⟩:=h
 obtain⟨as,q1,q2,q3⟩:=fT I S 20 x a v d h1 rx e2
 obtain⟨bs,p1,p2,p3⟩:=fT I S 20 y b u c h2 ry e1
 have hd:X.A.units+1+min (lY ds) d.depth < cLine:=by
  have:=yB (lY ds) d.depth
  omega
 have e:∀t:Bool,(t != false)=t:=by decide
 rw[e] at q
 have ca:=zd hc p2
 rcases hc with rfl | rfl
 ·exact SeqAt.in_list_reads p1 q1 ca q2 hd ⟨.bl _,H,I,rfl,q⟩
 ·exact SeqAt.in_tuple_reads p1 q1 ca q2 hd ⟨.bl _,H,I,rfl,q⟩
theorem Bg(hu:X.A.units+64 < cLine):fu X (aar .NotIn) (M' X.K true):=by
 intro pins s σ H a b v u Q I rx ry h
 obtain⟨m,st,x,y,d,ds,c,S,h1,h2,e1,hc,e2,q⟩:=h
 obtain⟨as,q1,q2,q3⟩:=fT I S 20 x a v d h1 rx e2
 obtain⟨bs,p1,p2,p3⟩:=fT I S 20 y b u c h2 ry e1
 have hd:X.A.units+1+min (lY ds) d.depth < cLine:=by
  have:=yB (lY ds) d.depth
  omega
 have e:∀t:Bool,(t != true)= !t:=by decide
 rw[e] at q
 have ca:=zd hc p2
 rcases hc with rfl | rfl
 ·exact SeqAt.notIn_list_reads p1 q1 ca q2 hd ⟨.bl _,H,I,rfl,q⟩
 ·exact SeqAt.notIn_tuple_reads p1 q1 ca q2 hd ⟨.bl _,H,I,rfl,q⟩
theorem Ek{neg:Bool}{x y:Wv}{a b:V}{st:Hs}{H:Hp}{m:Mp}{Q:VK}(S:bo X.K m st H)(rx:ai X.K m H x a)(ry:ai X.K m H y b)(p:dE X.K m H (qi neg x y st) Q):M' X.K neg a b H Q:=by
 unfold qi at p
 split at p
 ·rename_i ds d e1 e2
  exact⟨m,st,x,y,d,ds,_,S,rx,ry,e1,.inl rfl,e2,p _ m H Ext.refl S iJ⟩
 ·rename_i ds d e1 e2
  exact⟨m,st,x,y,d,ds,_,S,rx,ry,e1,.inr rfl,e2,p _ m H Ext.refl S iJ⟩
 ·exact aa p
theorem El(hu:X.A.units+64 < cLine):jv X (aar .In) (qi false):=⟨_,Na hu,λx y a b st H m Q S rx ry p=>Ek S rx ry p⟩
theorem rZ(hu:X.A.units+64 < cLine):jv X (aar .NotIn) (qi true):=⟨_,Bg hu,λx y a b st H m Q S rx ry p=>Ek S rx ry p⟩
end
section
variable {prog:aai} {w:aal} {A:aaf} {E:aak->aaj->Prop} {s:aaj}
end
section
variable {X:Cx} {tg:Expr}
end
section
variable {X:Cx} {a b c d:Expr} {pos:Pos}
end
section
variable {X:Cx} {pins:List (aae×Obj)} {σ:St} {E:aak->aaj->Prop} {p:aae}
end
section
variable {X:Cx} {pos:Pos}
abbrev ze(K:PySem.W.Frag)(m:Mp)(H:Hp):List (Wv×Wv)->List (V×V)->Prop:=Paired λp q=>ai K m H p.1 q.1/\ai K m H p.2 q.2
theorem ze.mono{K:PySem.W.Frag}{m m1:Mp}{H H1:Hp}(e:Ext K m H m1 H1):∀{a:List (Wv×Wv)}{b:List (V×V)},ze K m H a b->ze K m1 H1 a b
 | _,_,.nil=> .nil
 | _,_,.cons h t=> .cons ⟨ai.mono e _ _ h.1,ai.mono e _ _ h.2⟩ (ze.mono e t)
end
def getD(d k:Wv)(st:Hs):Option Wv:=match d with
 | .ref l=>(match st[l]? with
  | some (.dct kvs)=>(match keyOf k with | some kk=>dI kvs kk | none=>none)
  | some (.yK kvs)=>(match xD k with | some kk=>dI kvs kk | none=>none)
  | some (.CU kvs)=>(match xD k with | some kk=>dI kvs kk | none=>none)
  | _=>none)
 | _=>none
def Qz(d k:Wv)(st:Hs):Re Wv:=match getD d k st with
 | some w=> .ok w st
 | none=> .bad
def my(gd gk:GE):GE:=λρ st=>(gd ρ st).bind λd st1=>(gk ρ st1).bind λk st2=>Qz d k st2
section
variable {X:Cx}
theorem IE{m:Mp}{st:Hs}{H:Hp}{d k w:Wv}{x y:V}(S:bo X.K m st H)(rd:ai X.K m H d x)(rk:ai X.K m H k y)(e:getD d k st=some w):∃a v,x= .ref a/\kH H a y (some v)/\ai X.K m H w v:=by
 unfold getD at e
 cases d with
 | ref l=>
  dsimp only at e
  unfold ai at rd
  obtain⟨a,rfl,ha⟩:=rd
  cases e1:st[l]? with
  | none=>rw[e1] at e;cases e
  | some o=>
   rw[e1] at e
   cases o with
   | dct kvs=>
    dsimp only at e
    cases e2:keyOf k with
    | none=>rw[e2] at e;cases e
    | some kk=>
     rw[e2] at e
     obtain⟨xs,h1,h2⟩:=(show ∃ys,H a=some (.dK ys)/\RelK X.K m H kvs ys from S.obj _ _ _ ha e1)
     obtain⟨u,j1,j2⟩:=(h2.val kk).2 w e
     exact⟨a,u,rfl,by rw[fB rk e2,<-j1];exact kH.k h1,j2⟩
   | yK kvs=>
    dsimp only at e
    cases e2:xD k with
    | none=>rw[e2] at e;cases e
    | some kk=>
     rw[e2] at e
     obtain⟨xs,h1,h2⟩:=(show ∃ys,H a=some (.dT ys)/\RelK X.K m H kvs ys from S.obj _ _ _ ha e1)
     obtain⟨b,rfl,hb⟩:=qf rk e2
     obtain⟨u,j1,j2⟩:=(h2.val kk).2 w e
     exact⟨a,u,rfl,by rw[<-j1];exact kH.t h1 hb,j2⟩
   | CU kvs=>
    dsimp only at e
    cases e2:xD k with
    | none=>rw[e2] at e;cases e
    | some kk=>
     rw[e2] at e
     obtain⟨o,xs,h1,h2⟩:=(show ∃o ys,H a=some (.fb o (.dT ys))/\RelK X.K m H kvs ys from S.obj _ _ _ ha e1)
     obtain⟨b,rfl,hb⟩:=qf rk e2
     obtain⟨u,j1,j2⟩:=(h2.val kk).2 w e
     exact⟨a,u,rfl,by rw[<-j1];exact .inr ⟨xs,kk,b,.inr ⟨o,h1⟩,rfl,hb,rfl⟩,j2⟩
   | _=>cases e
 | _=>cases e
theorem IF{o i:Expr}{go gi:GE}{pos:Pos}(hu:X.A.units+1 < cLine)(ho:JE X o go)(hi:JE X i gi)(hs:CJ i):JE X (.Subscript o i pos) (my go gi) :=
 JE.of (Ho hu aG aG hs) λρ st σ H m Q S R p=>by
  refine ho.go S R (ar.bind p) λd st1 v m1 H1 p1 e1 S1 rd=>?_
  refine hi.go S1 (R.mono e1) ((ar.bind p1).imp e1 λ_ _ q=>q) λk st2 u m2 H2 p2 e2 S2 rk=>?_
  unfold Qz at p2
  cases e:getD d k st2 with
  | none=>rw[e] at p2;exact aa p2
  | some w=>
   rw[e] at p2
   obtain⟨a,v',ex,g,rw'⟩:=IE (X:=X) S2 (ai.mono e2 _ _ rd) rk e
   exact⟨a,v',ex,g,p2 v' m2 H2 (e1.trans e2) S2 rw'⟩
end
section
variable {X:Cx} {pins:List (aae×Obj)} {σ:St} {H:Hp} {s:aaj} {a:aae} {xs:List (List L2.Key×V)}
end
section
variable {K:PySem.W.Frag} {m:Mp} {st:Hs} {H:Hp}
theorem RelK.jj{κ:Type}{m1:Mp}{H1:Hp}{kvs:List (κ×Wv)}{xs:List (κ×V)}(e:CV K m H m1 H1)(h:RelK K m H kvs xs):RelK K m1 H1 kvs xs:=⟨h.1,ag.jj e _ _ h.2⟩
theorem av.jj{m1:Mp}{H1:Hp}{ρ:bA}{σ:St}(R:av K m H ρ σ)(e:CV K m H m1 H1):av K m1 H1 ρ σ:=⟨R.len,λi w h=>let ⟨v,h1,h2⟩:=R.get i w h;⟨v,h1,ai.jj e _ _ h2⟩⟩
end
section
variable {X:Cx}
end
section
variable {X:Cx} {tg:Expr}
end
section
variable {prog:aai} {w:aal} {A:aaf} {E:aak->aaj->Prop} {s:aaj} {d:aae} {es:Array DictEntry} {ep:Nat}
end
section
variable {prog:aai} {w:aal} {K:Type} [DecidableEq K] {knd:HeapKind prog w K} {A:aaf} {E:aak->aaj->Prop} {s:aaj} {d a:aae} {xs:List (K×aae×aak)} {k:K}
end
section
variable {prog:aai} {w:aal} {A:aaf} {E:aak->aaj->Prop} {s:aaj}
end
section
variable {prog:aai} {w:aal} {A:aaf} {E:aak->aaj->Prop} {s:aaj} {d it:aae} {i:Nat} {es:Array DictEntry} {ep:Nat} {ok ov:aak}
theorem Bh{Q:aak->aaj->Prop}(lo:(d == sysModules)=false)(x:xE s.heap d es ep)(h:Q (.ref s.heap.objs.size) { s with heap:=s.heap.push { cls:=.type "dict_items",data:=.fields #[.ref d] } }):aax (model prog w) A (call (.builtin "dict.items") [.ref d]) Q E s:=by
 have ty:=x.ty
 have M:MeetsIn prog w (Builtin.«dict.items» ⟨[.ref d],[]⟩) (λ_ R s'=>s'=s/\R (.ok (.ret (.ref s.heap.objs.size))) { s with heap:=s.heap.push { cls:=.type "dict_items",data:=.fields #[.ref d] } }):=.of_wp λA' R s' ⟨e,h⟩=>by
  subst e
  unfold Builtin.«dict.items»
  refine aay ?_
  unfold Builtin.Dict.noArgs Builtin.Dict.showsAll
  refine aay (wpAny_notOrdered_dict ty (show aax _ _ (pure d) _ _ s' from aaE ?_))
  rw[if_neg (by rw[lo];exact dN)]
  exact aay (aaE (aay (aaD (aaE ⟨_,rfl,h⟩))))
 exact call_meetsIn PySem.F.slot_dict_items ty PySem.F.entry_dict_items (PySem.F.args_dict_items_1 _) M ⟨rfl,h⟩
theorem Bi{v:aae}{Q:aak->aaj->Prop}(hv:s.heap.IsItemsView v d)(x:xE s.heap d es ep)
  (h:Q (.ref s.heap.objs.size) { s with heap:=s.heap.push { cls:=.type "dict_itemiterator",data:=.fields #[.none,.bool false,.ref d,.int 0 0,.int es.size 0,.int ep 0,.none,.none] } }):aax (model prog w) A (pyIter (.ref v)) Q E s:=by
 have ty:=hv.typeIs
 obtain⟨o1,a1,a2,a3⟩:=hv
 obtain⟨o,g1,g2,g3⟩:=x
 refine wpAny_pyIter_slot ty PySem.F.slot_dict_items_iter (wpAny_call_entry PySem.F.slot_dict_items_iter ty PySem.F.entry_dict_items_iter ?_ (PySem.F.args_dict_items_iter_1 _))
 unfold Builtin.«dict_items.__iter__»
 refine aay (aaE (aay ?_))
 unfold Builtin.Dict_items.dictOf
 refine aay (wpAny_field a1 a3 (x:=.ref d) rfl (aaE (aay ?_)))
 unfold Builtin.Dict_items.newIterator
 refine aay (aaz g1 g3 (aay (wpAny_dictEpoch g1 g3 ?_)))
 have own:Em "dict_itemiterator"=true:=by decide
 simp only[own,if_true]
 refine aaD (aaE ⟨_,rfl,"dict_itemiterator",_,⟨_,cq _ rfl,rfl⟩,PySem.F.slot_dict_itemiterator_next.lookup,?_⟩) (by simp only[sizeOk,Nb,a6,dH,lb,pz,sizeLine_eq];omega)
 simpa [rawInt,Nb] using h
theorem Bj{Q:Option aak->aaj->Prop}(ki:IsItemIter s.heap it d i es.size ep ok ov)(x:xE s.heap d es ep)(hi:i < es.size)
  (k:∀h',IsItemIterOut h' it d (i+1) es.size ep es[i].key es[i].val s.heap.objs.size->h'.get? s.heap.objs.size=some { cls:=.type "tuple",data:=.seq #[es[i].key,es[i].val] }->h'.objs.size=s.heap.objs.size+1->(∀b o,b≠it->s.heap.get? b=some o->h'.get? b=some o)->Q (some (.ref s.heap.objs.size)) { s with heap:=h' }):aax (model prog w) A (pyNext (.ref it)) Q E s:=by
 obtain⟨hp,g,dr,tk,os⟩:=s
 obtain⟨o,g1,g2,g3⟩:=x
 have ty:oK ⟨hp,g,dr,tk,os⟩ (.ref it) "dict_itemiterator":=⟨_,ki,rfl⟩
 have own:Em "dict_itemiterator"=true:=by decide
 have nn:¬((aU d == bG)=true):=dN
 have n0:¬((i:Int) < 0):=by omega
 have lt:it < hp.objs.size:=aE ki
 have gt:=yy lt
 unfold pyNext
 refine aay (wpAny_attempt (wpAny_callSpecial?_slot (name:=lO "__next__") ty PySem.F.slot_dict_itemiterator_next (wpAny_call_entry PySem.F.slot_dict_itemiterator_next ty PySem.F.entry_dict_itemiterator_next ?_ (PySem.F.args_dict_itemiterator_next_1 _))))
 refine aay (aaE (aay (aay ?_)))
 first | refine aay (wpAny_typeNameOfWhole_itemiter ty (aaE (aay (wpAny_fieldsOf ki rfl ?_)))) | refine aay (wpAny_typeNameOf_itemiter ty (aaE (aay (wpAny_fieldsOf ki rfl ?_))))
 simp only[own,if_true]
 refine(show aax _ _ (if(aU d == bG)=true then _ else _) _ _ _ from ?_);rw[if_neg nn]
 refine aay (aaE (aay (aaz g1 g3 ?_)))
 rw[if_neg (by simp)]
 refine aay (aaE (aay (wpAny_dictEpoch g1 g3 ?_)))
 rw[if_neg (by simp)]
 refine aaE ?_
 simp only[n0,if_false,En,Qx hi]
 refine aay ?_
 first | refine aay (wpAny_typeNameOfWhole_itemiter ty (aaE (aay (wpAny_isOneOf_itemiter ty ?_)))) | refine aay (wpAny_typeNameOf_itemiter ty (aaE (aay (wpAny_isOneOf_itemiter ty ?_))))
 refine(show aax _ _ (setField (.ref it) 3 (rawInt ((i:Int)+1)) >>= _) _ _ ⟨hp,g,dr,tk,os⟩ from aay (wpAny_setField_rec ki (by simp) λh1 e1 s1=>?_))
 have z1:h1.objs.size=hp.objs.size:=s1.1
 have t1:IsItemIter h1 it d (i+1) es.size ep ok ov:=by
  have e:((i+1:Nat):Int)=(i:Int)+1:=by omega
  unfold IsItemIter;rw[e];simpa [rawInt] using e1
 have y1:oK ⟨h1,g,dr,tk,os⟩ (.ref it) "dict_itemiterator":=⟨_,t1,rfl⟩
 refine aay (aaA (aay (wpAny_isOneOf_itemiter y1 (aay (wpAny_isOneOf_itemiter y1 ?_)))))
 refine(show aax _ _ (Nc (.ref it) 6 es[i].key es[i].val) _ _ ⟨h1,g,dr,tk,os⟩ from ?_)
 unfold Nc
 refine aay (wpAny_newTuple ?_)
 have t2:IsItemIter (h1.push { cls:=.type "tuple",data:=.seq #[es[i].key,es[i].val] }) it d (i+1) es.size ep ok ov:=aO _ t1
 generalize e2:h1.push { cls:=.type "tuple",data:=.seq #[es[i].key,es[i].val] }=h2 at t2
 have T2:h2.get? hp.objs.size=some { cls:=.type "tuple",data:=.seq #[es[i].key,es[i].val] }:=by rw[<-e2,<-z1];exact cq _ rfl
 have z2:h2.objs.size=hp.objs.size+1:=by rw[<-e2,Eo,z1]
 have k2:∀b o,b≠it->hp.get? b=some o->h2.get? b=some o:=λb o hb e=>by rw[<-e2];exact aO _ (s1.extBut b o hb e)
 refine(show aax _ _ (Nd (.ref it) >>= _) _ _ ⟨h2,g,dr,tk,os⟩ from aay ?_)
 rw[z1]
 unfold Nd
 refine aay (wpAny_field t2 rfl (x:=.none) rfl (aaE ?_))
 simp only[if_true]
 refine aay (wpAny_field t2 rfl (x:=ok) rfl (aay (wpAny_field t2 rfl (x:=ov) rfl (aay (wpAny_setField_rec t2 (by simp) λh3 t3 s3=>?_)))))
 refine aay (wpAny_setField_rec (show IsItemIter h3 it d (i+1) es.size ep es[i].key ov from t3) (by simp) λh4 t4 s4=>?_)
 refine aay (wpAny_setField_rec (show IsItemIter h4 it d (i+1) es.size ep es[i].key es[i].val from t4) (by simp) λh5 t5 s5=>?_)
 refine aay (wpAny_setField_rec (show IsItemIterOut h5 it d (i+1) es.size ep es[i].key es[i].val hp.objs.size from t5) (by simp) λh6 t6 s6=>?_)
 have sb:∀b,b≠it->∀o,h2.get? b=some o->h6.get? b=some o:=λb hb o e=>s6.extBut b o hb (s5.extBut b o hb (s4.extBut b o hb (s3.extBut b o hb e)))
 refine aay (wpAny_letGo (aaE (aaE ⟨_,rfl,aaE (k h6 t6 (sb _ gt _ T2) ?_ λb o hb e=>sb b hb o (k2 b o hb e))⟩)))
 exact(s6.1.trans (s5.1.trans (s4.1.trans s3.1))).trans z2
theorem Ep{Q:Option aak->aaj->Prop}(hh:A.handled=none)(ki:IsItemIter s.heap it d i es.size ep ok ov)(x:xE s.heap d es ep)(hi:es.size<=i)(k:∀h',Heap.ExtBut it s.heap h'->Q none { s with heap:=h' }):aax (model prog w) A (pyNext (.ref it)) Q E s:=by
 obtain⟨o,g1,g2,g3⟩:=x
 have ty:s.TypeIs (.ref it) "dict_itemiterator":=⟨_,ki,rfl⟩
 have own:Em "dict_itemiterator"=true:=by decide
 have nn:¬((aU d == bG)=true):=dN
 have n0:¬((i:Int) < 0):=by omega
 unfold pyNext
 refine aay (wpAny_attempt (wpAny_callSpecial?_slot (name:=lO "__next__") ty PySem.F.slot_dict_itemiterator_next (wpAny_call_entry PySem.F.slot_dict_itemiterator_next ty PySem.F.entry_dict_itemiterator_next ?_ (PySem.F.args_dict_itemiterator_next_1 _))))
 refine aay (aaE (aay (aay ?_)))
 first | refine aay (wpAny_typeNameOfWhole_itemiter ty (aaE (aay (wpAny_fieldsOf ki rfl ?_)))) | refine aay (wpAny_typeNameOf_itemiter ty (aaE (aay (wpAny_fieldsOf ki rfl ?_))))
 simp only[own,if_true]
 refine(show aax _ _ (if(aU d == bG)=true then _ else _) _ _ s from ?_);rw[if_neg nn]
 refine aay (aaE (aay (aaz g1 g3 ?_)))
 rw[if_neg (by simp)]
 refine aay (aaE (aay (wpAny_dictEpoch g1 g3 ?_)))
 rw[if_neg (by simp)]
 refine aaE ?_
 simp only[n0,if_false,En,Array.getElem?_eq_none hi]
 refine aay ?_
 first | refine aay (wpAny_typeNameOfWhole_itemiter ty (aaE ?_)) | refine aay (wpAny_typeNameOf_itemiter ty (aaE ?_))
 refine(show aax _ _ (setField (.ref it) 2 .none >>= _) _ _ s from aay (wpAny_setField ki rfl (by simp) ?_))
 refine(show aax _ _ (newExc (.type "StopIteration") [] >>= _) _ _ _ from ?_)
 simp only[newExc,newTuple,raiseNew]
 refine aay (aay (aaD (aay (m:=firstArgMember _ _) (wpAny_of_eq (a:=bG) (by first | rfl | (simp only[firstArgMember];rfl)) (aaD ?_ (by size_fits)))) (by size_fits)))
 refine(aay (wpAny_handled ?_))
 rw[show A.in1.handled=none by exact hh]
 refine(aay (aaE (wpAny_throw ?_)))
 refine aay (wpAny_isInstance (b:=true) (T:="StopIteration") ⟨_,cq _ rfl,rfl⟩ isSubtype_stop (aaE ?_))
 refine k _ ?_;exact((tZ ..).extBut.push _).push _
end
section
variable {X:Cx}
end
theorem Bk{o:Option V}(r:lK o none):o=none:=by
 cases o with
 | none=>rfl
 | some u=>exact(show False from r).elim
theorem Bl{o:Option V}{u:aak}(r:lK o (some u)):∃v,o=some v/\RelV v u:=by
 cases o with
 | none=>exact(show False from r).elim
 | some v=>exact⟨v,rfl,r⟩
section
variable {X:Cx} {o e f:Expr} {apos cpos:Pos} {td ty tx:TE}
def Er{κ:Type}[DecidableEq κ](kvs:List (κ×Wv))(k:κ):List (κ×Wv):=kvs.filter λkv=>decide (kv.1≠k)
theorem RelK.drop{κ:Type}[DecidableEq κ]{K:PySem.W.Frag}{m:Mp}{H:Hp}(k:κ):∀{kvs:List (κ×Wv)}{xs:List (κ×V)},RelK K m H kvs xs->RelK K m H (Er kvs k) (pv xs k)
 | [],xs,h=>by rw[h.nil_inv];exact RelK.nil
 | p::r,xs,h=>by
  obtain⟨v,t,rfl,h1,h2⟩:=h.cons_inv
  by_cases e:p.1=k
  ·rw[AD e]
   unfold Er
   rw[xf,if_neg (by simp[e])]
   exact h2.drop k
  ·rw[AE e]
   unfold Er
   rw[xf,if_pos (by simp[e])]
   exact RelK.cons h1 (h2.drop k)
end
structure M0(X:Cx)(o:Expr)(m:Str)(apos cpos:Pos):Prop where
 base:attributeBase o m X.env (eval o X.env)=eval o X.env
 line:(apos.endLine == cpos.line)=true
section
variable {X:Cx} {es':List Expr} {kt:Nat} {pt:Pos}
theorem vw{κ:Type}{K:PySem.W.Frag}{m:Mp}{H:Hp}:∀{kvs:List (κ×Wv)}{xs:List (κ×V)},RelK K m H kvs xs->∀{i:Nat}{kv:κ×Wv},kvs[i]? =some kv->∃v,xs[i]? =some (kv.1,v)/\ai K m H kv.2 v
 | [],xs,h,i,kv,e=>by cases e
 | p::r,xs,h,0,kv,e=>by
  obtain⟨v,t,rfl,h1,h2⟩:=h.cons_inv
  cases e
  exact⟨v,rfl,h1⟩
 | p::r,xs,h,i+1,kv,e=>by
  obtain⟨v,t,rfl,h1,h2⟩:=h.cons_inv
  exact vw h2 (i:=i) e
end
section
variable {X:Cx}
end
section
variable {prog:aai} {w:aal} {K:Type} [DecidableEq K] {knd:HeapKind prog w K} {A:aaf} {E:aak->aaj->Prop} {s:aaj} {a b:aae} {xs ys:List (K×aae×aak)}
end
section
variable {prog:aai} {w:aal} {K:Type} [DecidableEq K] {knd:HeapKind prog w K} {A:aaf} {E:aak->aaj->Prop} {s:aaj} {a b:aae} {xs ys:List (K×aae×aak)}
end
section
variable {X:Cx}
end
section
variable {X:Cx}
end
section
variable {prog:aai} {w:aal} {K:Type} [DecidableEq K] {knd:HeapKind prog w K} {A:aaf} {E:aak->aaj->Prop} {s:aaj} {d:aae} {xs:List (K×aae×aak)}
end
section
variable {X:Cx}
end
section
variable {X:Cx}
end
section
variable {X:Cx}
open Classical in
end
section
variable {X:Cx}
end
section
variable {prog:aai} {w:aal} {K:Type} [DecidableEq K] {knd:HeapKind prog w K} {A:aaf} {E:aak->aaj->Prop} {s:aaj} {d a:aae} {k:K} {xs:List (K×aae×aak)}
end
section
variable {X:Cx} {o e:Expr} {apos cpos:Pos} {td ty:TE}
end
def Nf(i:Int)(n:Nat):Nat:=if i < 0 then(i+n).toNat else min i.toNat n
def gy{α:Type}(xs:List α)(i:Int)(v:α):List α:=xs.take (Nf i xs.length)++v::xs.drop (Nf i xs.length)
theorem vx{α:Type}(xs:List α)(i:Int)(v:α):(gy xs i v).length=xs.length+1:=by
 unfold gy
 rw[dH,lb,jz,pb]
 omega
theorem nV{α β:Type}{F:α->β->Prop}:∀{l:List α}{k:List β}(n:Nat),Paired F l k->Paired F (l.take n) (k.take n)
 | _,_,0,_=> .nil
 | _,_,n+1,.nil=> .nil
 | _,_,n+1,.cons h t=> .cons h (nV n t)
theorem nX{α β:Type}{F:α->β->Prop}:∀{l:List α}{k:List β}(n:Nat),Paired F l k->Paired F (l.drop n) (k.drop n)
 | _,_,0,h=>h
 | _,_,n+1,.nil=> .nil
 | _,_,n+1,.cons h t=>nX n t
theorem Es{vs:List V}{us:List aak}{i:Int}{v:V}{u:aak}(r:Vals vs us)(h:RelV v u):Vals (gy vs i v) (gy us i u):=by
 unfold gy
 rw[r.length]
 exact Vals.append (nV _ r) (.cons h (nX _ r))
section
variable {X:Cx} {o e f:Expr} {apos cpos:Pos} {to te tf:TE}
def UA(to te tf:TE):TE:=λσ H Q=>to σ H λx H1=>∃l uF,x= .ref l/\H1 l=some (.lst uF)/\te σ H1 λy H2=>tf σ H2 λz H3=>∃xs i,H3 l=some (.lst xs)/\y= .int i/\t9 i=true/\xs.length < aav/\Q .aL (upd H3 l (.lst (gy xs i z)))
theorem Ng(ho:PE X o to)(he:PE X e te)(hf:PE X f tf)(m:M2 X o "insert" apos e f cpos):PE X (.Call (.Attribute o "insert" apos) [e,f] [] cpos) (UA to te tf):=by
 intro pins s σ H Q I h
 refine wpAny_Call_method m.base m.few m.line PySem.F.plainAttrs_list PySem.F.slot_list_insert PySem.F.type_list_insert (bx (ho pins s σ H _ I h) λu s1 ⟨x,H1,I1,rx,l,uF,ex,X',q1⟩=>?_)
 subst ex
 obtain rfl:u=aU l:=rx
 obtain⟨z0,Ya,n0,r0,ZX,e0⟩:=I1.CC X'
 refine⟨⟨_,e0,rfl⟩,λb q=>by cases q;exact⟨_,e0,rfl⟩,?_⟩
 rw[m.trees]
 refine mR rfl (mS (ip (bx (he pins s1 σ H1 _ I1 q1) λiv s2 ⟨y,H2,I2,ry,q2⟩=>
  ip (bx (hf pins s2 σ H2 _ I2 q2) λfv s3 ⟨z,H3,I3,rz,xs,i,ea,ey,hi,hz,q3⟩=>mQ ?_))))
 subst ey
 obtain⟨t,rfl⟩:=(show ∃t,iv=iT i t from ry)
 obtain⟨z1,its,n,r,hl,e1⟩:=I3.CC ea
 have hl1:its.length=xs.length:=r.length.symm
 refine call_meets PySem.F.slot_list_insert ⟨_,e1,rfl⟩ PySem.F.entry_list_insert (PySem.F.args_list_insert_3 _ _ _) (AutoSeq1.list_insert_list_int_val_1 l its.toArray n i t fv (by simp[hi]) (by rw[a6];omega)) ⟨e1,?_⟩
 refine⟨.aL,_,I3.LL (its':=gy its i fv) ea e1 ?_ (Es r rz) (by rw[vx];omega),rfl,q3⟩
 unfold gy Nf
 simp
 exact Ig (by rw[pb];exact ak _)
def Nh(l:Nat)(i v:Wv)(st:Hs):Re Wv:=match i,st[l]? with
 | .int i,some (.lst ws)=>if ws.length < lim/\t9 i=true then .ok .aL (st.set l (.lst (gy ws i v))) else .bad
 | _,_=> .bad
def Ni:Option Ob->Bool
 | some (.lst _)=>true
 | _=>false
def vy(go ge gf:GE):GE:=λρ st=>(go ρ st).bind λo st1=>match o with
 | .ref l=>if Ni st1[l]? =true then(ge ρ st1).bind λi st2=>(gf ρ st2).bind λv st3=>Nh l i v st3 else .bad
 | _=> .bad
theorem qj{K:PySem.W.Frag}{m:Mp}{H:Hp}:∀{ws:List Wv}{xs:List V}(n:Nat),ag K m H ws xs->ag K m H (ws.take n) (xs.take n)
 | _,_,0,_=>ag.nil
 | [],xs,n+1,r=>by unfold ag at r;subst r;exact ag.nil
 | w::ws,xs,n+1,r=>by
  unfold ag at r
  obtain⟨x,t,rfl,r1,r2⟩:=r
  exact ag.cons r1 (qj n r2)
theorem qk{K:PySem.W.Frag}{m:Mp}{H:Hp}:∀{ws:List Wv}{xs:List V}(n:Nat),ag K m H ws xs->ag K m H (ws.drop n) (xs.drop n)
 | _,_,0,r=>r
 | [],xs,n+1,r=>by unfold ag at r;subst r;exact ag.nil
 | w::ws,xs,n+1,r=>by
  unfold ag at r
  obtain⟨x,t,rfl,r1,r2⟩:=r
  exact qk n r2
theorem Nj{go ge gf:GE}(ho:JE X o go)(he:JE X e ge)(hf:JE X f gf)(M:M2 X o "insert" apos e f cpos):JE X (.Call (.Attribute o "insert" apos) [e,f] [] cpos) (vy go ge gf) :=
 JE.of (Ng aG aG aG M) λρ st σ H m Q S R p=>by
  refine ho.go S R (ar.bind p) λd st1 v m1 H1 p1 e1 S1 r1=>?_
  cases d with
  | ref l=>
   dsimp only at p1
   by_cases hd:Ni st1[l]? =true
   ·rw[if_pos hd] at p1
    unfold ai at r1
    obtain⟨a,rfl,ha⟩:=r1
    obtain⟨RS,hk1⟩:∃RS,st1[l]? =some (.lst RS):=by
     unfold Ni at hd
     split at hd
     ·rename_i ws q;exact⟨ws,q⟩
     ·cases hd
    obtain⟨Yb,Yc,_⟩:=S1.lV ha hk1
    refine⟨a,Yb,rfl,Yc,?_⟩
    refine he.go S1 (R.mono e1) ((ar.bind p1).imp e1 λ_ _ q=>q) λk st2 y m2 H2 p2 e2 S2 r2=>?_
    refine hf.go S2 (R.mono (e1.trans e2)) ((ar.bind p2).imp (e1.trans e2) λ_ _ q=>q) λx st3 z m3 H3 p3 e3 S3 r3=>?_
    unfold Nh at p3
    split at p3
    ·rename_i i ws q2
     by_cases c:ws.length < lim/\t9 i=true
     ·rw[if_pos c] at p3
      have M5:m3[l]? =some a:=(e2.trans e3).pre _ _ ha
      obtain⟨xs,y1,y2⟩:=S3.lV M5 q2
      unfold ai at r2
      subst r2
      have ex:Ext X.K m3 H3 m3 (upd H3 a (.lst (gy xs i z))):=Ext.upd (.inr ⟨xs,y1⟩)
      have ri:ag X.K m3 H3 (gy ws i x) (gy xs i z):=by
       unfold gy
       rw[y2.length]
       exact(qj _ y2).append (ag.cons r3 (qk _ y2))
      exact⟨xs,i,y1,rfl,c.2,by rw[<-y2.length];exact pH c.1,p3 _ m3 _ (e1.trans (e2.trans (e3.trans ex))) (S3.write M5 q2 ri) C9⟩
     ·rw[if_neg c] at p3;exact aa p3
    ·exact aa p3
   ·rw[if_neg hd] at p1;exact aa p1
  | _=>exact aa p1
end
section
variable {X:Cx}
end
section
variable {prog:aai} {w:aal} {A:aaf} {E:aak->aaj->Prop} {s:aaj}
end
section
variable {X:Cx}
end
section
variable {X:Cx}
def Ka(ws:List Wv)(st:Hs):Re Wk:=match ws with
 | [.int a,.int b,.int c]=>if WG a b c then .ok (none,Uz a c (Qy a b c)) st else .bad
 | _=> .bad
def UB(g:GA):GI:=λρ st=>(g ρ st).bind Ka
end
def UC:List Str->Nat
 | []=>0
 | x::r=>if x∈r then UC r else UC r+1
section
variable {prog:aai} {w:aal} {A:aaf} {R:Result->aaj->Prop} {I:aae} {fp wr:List aae} {n:Nat} {P:Nat->aak->Prop} {St:Nat->Heap->Prop}
abbrev Nk(prog:aai)(w:aal)(h:Heap)(S:aae)(l:List Str):Prop:=h.SetOf (PySem.strKind prog w) S (λq=>decide (q∈l)) (UC l)
theorem Nk.keep{h h':Heap}{S:aae}{l:List Str}(z:Nk prog w h S l)(k:∀o,h.get? S=some o->h'.get? S=some o):Nk prog w h' S l:=by
 obtain⟨o,es,ep,t,ho,rest⟩:=z
 exact⟨o,es,ep,t,k o ho,rest⟩
end
section
variable {prog:aai} {w:aal} {A:aaf} {E:aak->aaj->Prop} {s:aaj}
end
section
variable {X:Cx}
end
section
variable {lt:Nat->Nat->Bool} {N:Nat}
def uG(lt:Nat->Nat->Bool)(a b:Nat):Prop:=lt b a=false/\(lt a b=false->a < b)
theorem uG.trans(o:Ord lt){a b c:Nat}(h:uG lt a b)(k:uG lt b c):uG lt a c:=by
 refine⟨o.tr _ _ _ k.1 h.1,λe=>?_⟩
 have h1:lt a b=false:=by
  cases z:lt a b with
  | false=>rfl
  | true=>have:=o.vj z k.1;rw[e] at this;cases this
 have h2:lt b c=false:=o.tr _ _ _ h.1 e
 exact Nat.lt_trans (h.2 h1) (k.2 h2)
def wR(lt:Nat->Nat->Bool)(p:Array Nat)(k:Nat):Prop:=∀i j,i < j->j < k->uG lt (at_ p i) (at_ p j)
def Gk(lt:Nat->Nat->Bool)(p:Array Nat)(k:Nat):Prop:=∀i j,i < j->j < k->uG lt (at_ p j) (at_ p i)
structure Frs(N:Nat)(p:Array Nat)(n:Nat):Prop where
 pm:Pm N p
 hi:∀i,n<=i->i < N->at_ p i=i
 lo:∀i,i < n->at_ p i < n
theorem wR.up(o:Ord lt){p:Array Nat}{k:Nat}(h:wR lt p k):Up lt p k:=λi j hij hj=>by
 by_cases c:i=j
 ·subst c;exact o.Uq _
 ·exact(h i j (by omega) hj).1
theorem Frs.succ{p:Array Nat}{n:Nat}(h:Frs N p n)(hn:n < N):Frs N p (n+1):=⟨h.pm,λi a b=>h.hi i (by omega) b,λi a=>by
 by_cases c:i < n
 ·have:=h.lo i c;omega
 ·have e:i=n:=by omega
  rw[e,h.hi n (ak _) hn];omega⟩
theorem Frs.rev{p:Array Nat}{n i j:Nat}(h:Frs N p n)(hj:j<=n)(hn:n<=N):Frs N (kas_rev p i j) n:=by
 refine⟨h.pm.rev i j,λk a b=>?_,λk a=>?_⟩
 ·rw[dJ h.pm (by omega),if_neg (by omega)];exact h.hi k a b
 ·rw[dJ h.pm (by omega)]
  split
  ·exact h.lo _ (by omega)
  ·exact h.lo _ a
theorem wR.succ(o:Ord lt){p:Array Nat}{n:Nat}(h:wR lt p n)(f:Frs N p n)(h1:1<=n)(hn:n < N)(e:lt (at_ p n) (at_ p (n - 1))=false):wR lt p (n+1):=by
 intro i j hij hj
 by_cases c:j < n
 ·exact h i j hij c
 ·have ej:j=n:=by omega
  subst ej
  refine⟨?_,λ_=>by rw[f.hi j (ak _) hn];exact f.lo i hij⟩
  by_cases c2:i=j - 1
  ·rw[c2];exact e
  ·exact o.tr _ _ _ e (h i (j - 1) (by omega) (by omega)).1
theorem xH(o:Ord lt){p:Array Nat}:∀(f n:Nat),1<=n->n+f<=N->Frs N p n->wR lt p n->Kg lt N (kas_asc p f n) (λm=>n<=m/\m<=n+f/\Frs N p m/\wR lt p m/\(m < n+f->lt (at_ p m) (at_ p (m - 1))=true))
 | 0,n,h1,h2,h3,h4=>⟨ak _,ak _,h3,h4,λz=>absurd z (eK _)⟩
 | f+1,n,h1,h2,h3,h4=>by
  refine⟨⟨h3.pm.bd (by omega),h3.pm.bd (by omega)⟩,?_⟩
  cases e:lt (p.getD n 0) (p.getD (n - 1) 0) with
  | true=>
   dsimp only
   rw[if_pos rfl]
   exact⟨ak _,by omega,h3,h4,λ_=>e⟩
  | false=>
   dsimp only
   rw[if_neg (by simp)]
   exact(xH o f (n+1) (by omega) (by omega) (h3.succ (by omega)) (h4.succ o h3 h1 (by omega) e)).imp λm ⟨q1,q2,q3,q4,q5⟩=>⟨by omega,by omega,q3,q4,λz=>q5 (by omega)⟩
structure IG(lt:Nat->Nat->Bool)(p:Array Nat)(a n:Nat):Prop where
 d:∀i j,i < j->j < a->uG lt (at_ p j) (at_ p i)
 s:∀i j,i < a->a<=j->j < n->lt (at_ p j) (at_ p i)=true
 l:∀i j,a<=i->i < j->j < n->lt (at_ p i) (at_ p j)=false/\lt (at_ p j) (at_ p i)=false/\at_ p i < at_ p j
theorem xI(o:Ord lt){a b:Nat}(h:lt a b=true):uG lt a b:=⟨o.as _ _ h,λe=>by rw[h] at e;cases e⟩
theorem IG.rev(o:Ord lt){p:Array Nat}(hp:Pm N p){a n:Nat}(hn:n<=N)(ha:a<=n)(h:IG lt p a n):Gk lt (kas_rev p a n) n:=by
 intro i j hij hj
 rw[dJ hp hn i,dJ hp hn j]
 by_cases ci:a<=i
 ·rw[if_pos ⟨by omega,hj⟩,if_pos ⟨ci,by omega⟩]
  obtain⟨h1,h2,h3⟩:=h.l (a+n - 1 - j) (a+n - 1 - i) (by omega) (by omega) (by omega)
  exact⟨h2,λ_=>h3⟩
 ·rw[if_neg (c:=a<=i/\i < n) (by omega)]
  by_cases cj:a<=j
  ·rw[if_pos ⟨cj,hj⟩]
   exact xI o (h.s i _ (by omega) (by omega) (by omega))
  ·rw[if_neg (by omega)]
   exact h.d i j hij (by omega)
theorem Gk.UD{p:Array Nat}{n:Nat}(h:Gk lt p n)(s:∀i,i < n->lt (at_ p n) (at_ p i)=true):IG lt p n (n+1) :=
 ⟨h,λi j a b c=>by
  have e:j=n:=by omega
  rw[e];exact s i a,λi j a b c=>absurd b (by omega)⟩
theorem Gk.less(o:Ord lt){p:Array Nat}{n:Nat}(h:Gk lt p n)(h1:1<=n)(e:lt (at_ p n) (at_ p (n - 1))=true):∀i,i < n->lt (at_ p n) (at_ p i)=true:=λi hi=>by
 by_cases c:i=n - 1
 ·rw[c];exact e
 ·exact o.vj e (h i (n - 1) (by omega) (by omega)).1
theorem Gk.up{p:Array Nat}(hp:Pm N p){n:Nat}(hn:n<=N)(h:Gk lt p n):wR lt (kas_rev p 0 n) n:=by
 intro i j hij hj
 rw[dJ hp hn,dJ hp hn,if_pos ⟨by omega,by omega⟩,if_pos ⟨by omega,hj⟩]
 exact h _ _ (by omega) (by omega)
theorem IG.dn{p:Array Nat}{n:Nat}(h:IG lt p (n - 1) n)(o:Ord lt):Gk lt p n:=λi j hij hj=>by
 by_cases c:j < n - 1
 ·exact h.d i j hij c
 ·exact xI o (h.s i j (by omega) (by omega) hj)
theorem oM(o:Ord lt):∀(f:Nat)(p:Array Nat)(n q:Nat),Frs N p n->q+1<=n->n+f<=N->IG lt p (n - 1 - q) n->
  Kg lt N (kas_desc f p n q) (λr=>Frs N r.1 r.2.1/\r.2.2+1<=r.2.1/\r.2.1<=N/\IG lt r.1 (r.2.1 - 1 - r.2.2) r.2.1)
 | 0,p,n,q,hp,hq,hn,hd=>⟨hp,hq,by omega,hd⟩
 | f+1,p,n,q,hp,hq,hn,hd=>by
  refine⟨⟨hp.pm.bd (by omega),hp.pm.bd (by omega)⟩,?_⟩
  cases e:lt (p.getD n 0) (p.getD (n - 1) 0) with
  | true=>
   dsimp only
   rw[if_pos rfl]
   by_cases WH:q > 0
   ·rw[if_pos WH]
    have z:n - (q+1)=n - 1 - q:=by omega
    rw[z]
    have dn:=hd.rev o hp.pm (by omega) (by omega)
    refine oM o f _ (n+1) 0 ((hp.rev (ak _) (by omega)).succ (by omega)) (by omega) (by omega) (dn.UD (dn.less o (by omega) ?_))
    rw[dJ hp.pm (by omega) n,dJ hp.pm (by omega) (n - 1),if_neg (by omega),if_pos ⟨by omega,by omega⟩]
    have y:n - 1 - q+n - 1 - (n - 1)=n - 1 - q:=by omega
    rw[y]
    exact o.vj e (hd.l (n - 1 - q) (n - 1) (ak _) (by omega) (by omega)).1
   ·rw[if_neg WH]
    have e0:q=0:=by omega
    subst e0
    have dn:=IG.dn hd o
    exact oM o f p (n+1) 0 (hp.succ (by omega)) (by omega) (by omega) (dn.UD (dn.less o (by omega) e))
  | false=>
   dsimp only
   rw[if_neg (by simp)]
   refine⟨⟨hp.pm.bd (by omega),hp.pm.bd (by omega)⟩,?_⟩
   cases e2:lt (p.getD (n - 1) 0) (p.getD n 0) with
   | true=>
    dsimp only
    rw[if_pos rfl]
    exact⟨hp,hq,by show n<=N;omega,hd⟩
   | false=>
    dsimp only
    rw[if_neg (by simp)]
    refine oM o f p (n+1) (q+1) (hp.succ (by omega)) (by omega) (by omega) ?_
    have y:n+1 - 1 - (q+1)=n - 1 - q:=by omega
    rw[y]
    refine⟨hd.d,λi j a b c=>?_,λi j a b c=>?_⟩
    ·by_cases cj:j < n
     ·exact hd.s i j a b cj
     ·have ej:j=n:=by omega
      subst ej
      have z:=hd.s i (j - 1) a (by omega) (by omega)
      cases y:lt (at_ p j) (at_ p i) with
      | true=>rfl
      | false=>have:=o.tr _ _ _ e2 y;rw[z] at this;cases this
    ·by_cases cj:j < n
     ·exact hd.l i j a b cj
     ·have ej:j=n:=by omega
      subst ej
      have lo:=hp.lo i b
      have hi:=hp.hi j (ak _) (by omega)
      by_cases ci:i=j - 1
      ·subst ci;exact⟨e2,e,by omega⟩
      ·obtain⟨l1,l2,_⟩:=hd.l i (j - 1) a (by omega) (by omega)
       exact⟨o.tr _ _ _ l1 e2,o.tr _ _ _ e l2,by omega⟩
abbrev Nl(lt:Nat->Nat->Bool)(N:Nat)(r:Nat×Array Nat):Prop:=Frs N r.2 r.1/\1<=r.1/\r.1<=N/\wR lt r.2 r.1
theorem zg(o:Ord lt){p:Array Nat}{n:Nat}(hp:Frs N p n)(h1:1<=n)(hn:n<=N)(hd:Gk lt p n):Kg lt N (kas_tail3 n N p) (Nl lt N):=by
 unfold kas_tail3
 refine Kg.bind ((xH o (N - n) n h1 (by omega) (hp.rev (i:=0) (ak _) hn) (hd.up hp.pm hn)).imp λm ⟨q1,q2,q3,q4,_⟩=>?_)
 exact⟨q3,by show 1<=m;omega,by show m<=N;omega,q4⟩
theorem nY(o:Ord lt){p:Array Nat}{n:Nat}(hp:Frs N p n)(hn:n+1<=N)(h1:1<=n)(hd:Gk lt p n)(e:lt (at_ p n) (at_ p (n - 1))=true):Kg lt N (kas_descPart n N p) (Nl lt N):=by
 unfold kas_descPart
 refine Kg.bind ((oM o (N - (n+1)) p (n+1) 0 (hp.succ (by omega)) (by omega) (by omega) (hd.UD (hd.less o h1 e))).imp λr ⟨q1,q2,q3,q4⟩=>?_)
 by_cases c:r.2.2 > 0
 ·rw[if_pos c]
  have z:r.2.1 - (r.2.2+1)=r.2.1 - 1 - r.2.2:=by omega
  rw[z]
  exact zg o (q1.rev (ak _) q3) (by omega) q3 (q4.rev o q1.pm q3 (by omega))
 ·rw[if_neg c]
  have e0:r.2.2=0:=by omega
  rw[e0] at q4
  exact zg o q1 (by omega) q3 (IG.dn q4 o)
theorem Et(o:Ord lt){p:Array Nat}(hp:Frs N p 1)(h1:1<=N):Kg lt N (kas_count N p) (Nl lt N):=by
 unfold kas_count
 have u1:wR lt p 1:=λi j a b=>by omega
 refine Kg.bind ((xH o (N - 1) 1 (ak _) (by omega) hp u1).imp λn ⟨q1,q2,q0,q3,q4⟩=>?_)
 by_cases c:n=N
 ·rw[if_pos (by simp[c])]
  exact⟨q0,by show 1<=n;omega,by show n<=N;omega,q3⟩
 ·rw[if_neg (by simp[c])]
  have hs:=q4 (by omega)
  by_cases c2:n > 1
  ·rw[if_pos c2]
   refine⟨⟨q0.pm.bd (by omega),q0.pm.bd (by omega)⟩,?_⟩
   cases e:lt (p.getD 0 0) (p.getD (n - 1) 0) with
   | true=>
    dsimp only
    rw[if_pos rfl]
    exact⟨q0,by show 1<=n;omega,by show n<=N;omega,q3⟩
   | false=>
    dsimp only
    rw[if_neg (by simp)]
    have u:=q3.up o
    have lv:∀i j,i < n->j < n->lt (at_ p i) (at_ p j)=false:=λi j hi hj=>by
     have a1:=u 0 i (by omega) hi
     have a2:=u j (n - 1) (by omega) (by omega)
     exact o.tr _ _ _ (o.tr _ _ _ a1 e) a2
    refine nY o (q0.rev (ak _) (by omega)) (by omega) (by omega) (λi j hij hj=>?_) ?_
    ·rw[dJ q0.pm (by omega),dJ q0.pm (by omega),if_pos ⟨by omega,by omega⟩,if_pos ⟨by omega,by omega⟩]
     exact q3 _ _ (by omega) (by omega)
    ·rw[dJ q0.pm (by omega) n,dJ q0.pm (by omega) (n - 1),if_neg (by omega),if_pos ⟨by omega,by omega⟩]
     exact o.vj hs (lv _ _ (by omega) (by omega))
  ·rw[if_neg c2]
   have hn:n=1:=by omega
   subst hn
   exact nY o q0 (by omega) (by omega) (λi j a b=>by omega) hs
theorem Eu(o:Ord lt):∀(f:Nat)(p:Array Nat)(k:Nat),Frs N p k->k+f=N->wR lt p k->Kg lt N (kas_bin f p k) (λp'=>Pm N p'/\wR lt p' N)
 | 0,p,k,hp,hk,u=>by
  have:k=N:=by omega
  subst this
  exact⟨hp.pm,u⟩
 | f+1,p,k,hp,hk,u=>by
  unfold kas_bin
  refine Kg.bind ((qc o hp.pm (by omega) k 0 k (by omega) (ak _) (by omega) (u.up o) (λi h=>absurd h (by omega)) (λi h1 h2=>absurd h2 (by omega))).imp λl ⟨q1,q2,q3⟩=>?_)
  have bu:=λi=>M6 hp.pm (k:=k) (l:=l) (by omega) q1 i
  have kk:=hp.hi k (ak _) (by omega)
  have fr:Frs N (bubble p k (k - l)) (k+1):=by
   refine⟨hp.pm.X4 _ _,λi a b=>?_,λi a=>?_⟩
   ·rw[bu,if_neg (by omega),if_neg (by omega)];exact hp.hi i (by omega) b
   ·rw[bu]
    split
    ·omega
    ·split
     ·have:=hp.lo (i - 1) (by omega);omega
     ·have:=hp.lo i (by omega);omega
  refine Eu o f _ (k+1) fr (by omega) ?_
  intro i j hij hj
  rw[bu i,bu j]
  by_cases e:j=l
  ·rw[if_pos e,if_neg (by omega),if_neg (by omega)]
   exact⟨q2 i (by omega),λ_=>by have:=hp.lo i (by omega);omega⟩
  ·rw[if_neg e]
   by_cases d:l < j/\j<=k
   ·rw[if_pos d]
    by_cases e':i=l
    ·rw[if_pos e']
     exact xI o (q3 (j - 1) (by omega) (by omega))
    ·rw[if_neg e']
     by_cases d':l < i/\i<=k
     ·rw[if_pos d']
      exact u _ _ (by omega) (by omega)
     ·rw[if_neg d']
      exact u _ _ (by omega) (by omega)
   ·rw[if_neg d,if_neg (by omega),if_neg (by omega)]
    exact u _ _ hij (by omega)
theorem IH(o:Ord lt)(h1:1<=N):Kg lt N (kas_sort N) (λp=>Pm N p/\wR lt p N):=by
 have WI:∀i,i < N->at_ (List.toArray (dX N)) i=i:=λi hi=>by simp[at_,Array.getD,hi]
 have h0:Frs N (List.toArray (dX N)) 1:=⟨⟨by simp,by simp⟩,λi _ hi=>WI i hi,λi hi=>by rw[WI i (by omega)];exact hi⟩
 unfold kas_sort
 refine Kg.bind ((Et o h0 h1).imp λr ⟨q1,q2,q3,q4⟩=>?_)
 by_cases c:r.1 < N
 ·rw[if_pos c]
  have z:max r.1 1=r.1:=by omega
  rw[z]
  exact Eu o _ _ _ q1 (by omega) q4
 ·rw[if_neg c]
  have z:r.1=N:=by omega
  rw[z] at q4
  exact⟨q1.pm,q4⟩
end
section
variable {P:aai} {w:aal} {K:PySem.W.Frag} {mg:Str->Option aak} {base:Heap} {p:Lm} {scope:Scope} {x y:Str} {cy:aae}
end
def OD(P:aai)(w:aal)(K:PySem.W.Frag)(mg:Str->Option aak)(base:Heap)(k:Nat)(f:aae)(sp:V->Hp->VK->Prop):Prop :=
 ∀(A:aaf)(outer:List Env)(s:aaj)(H:Hp)(u:aak)(v:V)(Q:VK),fc k A->oa P w K mg base A outer s H->RelV v u->sp v H Q->aax (model P w) A (call (.ref f) [u]) (CE outer P w H s Q) (λ_ _=>False) s
def Yd(K:PySem.W.Frag)(p:Lm)(L:LF)(v:V)(H:Hp)(Q:VK):Prop:=∃m st w caps kw,bo K m st H/\ai K m H w v/\ag K m H caps p.xs/\H p.c=some (.ext (yL p.c p.q))/\L caps [w] st= .ok kw st/\BV K m H Q kw st
theorem Ej.Gm{P:aai}{w:aal}{K:PySem.W.Frag}{mg:Str->Option aak}{base:Heap}{k:Nat}{p:Lm}{L:LF}(G:Ej P w K mg base k p 1 L):OD P w K mg base k p.a (Yd K p L):=by
 intro A outer s H u v Q hr e0 rv sp
 obtain⟨m,st,w',caps,kw,S,rw',rc,hx,el,ok⟩:=sp
 obtain⟨fd,ps,ob,F,ho,hod,hb⟩:=G
 have QA:WD K 1 p L [v] H Q (λ_ _ _=>False):=⟨m,st,[w'],caps,S,ag.cons rw' ag.nil,rc,hx,rfl,by rw[el];exact ok⟩
 have rs:Vals [v] [u]:=.cons rv .nil
 have hl:[u].length=ps.length:=by rw[<-rs.length];exact F.len _ _ _ _ QA
 have B_:K.In s.heap:=e0.mod.B_.keeps λb o e=>(e0.bs b o e).1
 have bd:=hb s [u] B_ (by rw[ei];exact hl)
 rw[ei] at bd
 refine wpAny_call (codeAny_mono (F.run A outer s H ⟨[u],[]⟩ [u] [v] Q _ hr e0 bd rs QA) λrr s2 hq=>?_)
 cases rr with
 | error x=>obtain⟨H2,C,fl,z⟩:=hq;exact z
 | ok fw=>
  cases fw with
  | ret u=>exact hq
  | next=>exact hq
  | brk=>exact hq
  | cont=>exact hq
abbrev Kw:=Int×(Int ⊕ Str)
def oh:Kw->Bool
 | (a,.inl _)=>decide (a≠1)
 | (a,.inr _)=>decide (a=1)
def Kb(a b:Str):Bool:=decide (a.cps.toList < b.cps.toList)
def qQ:Kw->Kw->Bool
 | (a,.inl i),(b,.inl j)=>decide (a < b)||(decide (a=b)&&decide (i < j))
 | (a,.inr i),(b,.inr j)=>decide (a < b)||(decide (a=b)&&Kb i j)
 | (a,_),(b,_)=>decide (a < b)
theorem Ew{a b:Str}(h:Kb a b=true):Kb b a=false:=decide_eq_false (List.lt_asymm (of_decide_eq_true h))
theorem Nm{a b c:Str}(h:Kb a b=false)(k:Kb b c=false):Kb a c=false:=by
 have h:=of_decide_eq_false h
 have k:=of_decide_eq_false k
 refine decide_eq_false ?_
 rw[List.not_lt] at *
 exact List.le_trans k h
theorem Ex{p q:Kw}(hp:oh p=true)(hq:oh q=true)(h:qQ p q=true):qQ q p=false:=by
 obtain⟨a,i | i⟩:=p<;>obtain⟨b,j | j⟩:=q<;>simp[qQ,oh] at *
 ·omega
 ·omega
 ·omega
 ·refine⟨by omega,λe=>?_⟩
  rcases h with h | h
  ·omega
  ·exact Ew h.2
theorem Ey{p q r:Kw}(hp:oh p=true)(hq:oh q=true)(hr:oh r=true)(h:qQ p q=false)(k:qQ q r=false):qQ p r=false:=by
 obtain⟨a,i | i⟩:=p<;>obtain⟨b,j | j⟩:=q<;>obtain⟨c,l | l⟩:=r<;>simp[qQ,oh] at * <;>try omega
 ·exact⟨by omega,λe=>Nm (h.2 (by omega)) (k.2 (by omega))⟩
def vK:Int ⊕ Str->V
 | .inl i=> .int i
 | .inr x=> .str x
def Bm(h:Heap)(v:aak)(q:Kw):Prop:=∃(a:aae)(o:Obj)(t:Tok)(u:aak)(n:Nat),v= .ref a/\h.get? a=some o/\o.cls= .type "tuple"/\o.data= .seq #[.int q.1 t,u] n/\RelV (vK q.2) u
section
variable {prog:aai} {w:aal} {A:aaf} {E:aak->aaj->Prop} {s:aaj}
theorem II{v v':aak}{p q:Kw}{Q:Bool->aaj->Prop}(hp:Bm s.heap v p)(hq:Bm s.heap v' q)(op:oh p=true)(oq:oh q=true)(h:Q (qQ p q) s):aax (model prog w) A (keyLt' (tuples' true) v v') Q E s:=by
 obtain⟨x,ox,t1,u1,n,rfl,hx,_,dx,r1⟩:=hp
 obtain⟨y,oy,t2,u2,k,rfl,hy,_,dy,r2⟩:=hq
 have hq:∀b,b=qQ p q->Q b s:=λb e=>by rw[e];exact h
 obtain⟨a,i⟩:=p
 obtain⟨b,j⟩:=q
 refine kat_lt hx dx hy dy ?_
 refine kat_cons (wpAny_eqBool_int (kat_go (λe=>kat_yes ?_) (λe=>kat_no ?_)))
 ·have z1:a=b:=by simpa using e
  subst z1
  cases i with
  | inl i=>
   cases j with
   | inr j=>simp[oh] at op oq;omega
   | inl j=>
    obtain⟨t1,rfl⟩:=r1
    obtain⟨t2,rfl⟩:=r2
    refine kat_cons (wpAny_eqBool_int (kat_go (λe2=>kat_yes ?_) (λe2=>kat_no ?_)))
    ·refine kat_nil (hq _ ?_)
     have z2:i=j:=by simpa using e2
     subst z2
     simp[qQ]
    ·refine kat_one _ _ (PyProof.Rows.lt_int ?_)
     show Q (decide (i < j)) s
     exact hq _ (by simp[qQ])
  | inr i=>
   cases j with
   | inl j=>simp[oh] at op oq;omega
   | inr j=>
    obtain⟨t1,rfl⟩:=r1
    obtain⟨t2,rfl⟩:=r2
    refine kat_cons (wpAny_eqBool_str (kat_go (λe2=>kat_yes ?_) (λe2=>kat_no ?_)))
    ·refine kat_nil (hq _ ?_)
     have z2:i=j:=by simpa using e2
     subst z2
     cases e3:Kb i i with
     | false=>simp[qQ,e3]
     | true=>have:=Ew e3;rw[e3] at this;cases this
    ·refine kat_one _ _ (PyProof.Rows.lt_str ?_)
     show Q (decide (i.cps.toList < j.cps.toList)) s
     exact hq _ (by simp[qQ,Kb])
 ·refine oneLt_int (hq _ ?_)
  have z1:¬a=b:=by simpa using e
  cases i<;>cases j<;>simp[qQ,z1]
end
theorem r_{h:Heap}:∀{its:List aak}{ps:List Kw},Paired (Bm h) its ps->∃fs:List aak,KatTups h its fs/\fs.length=ps.length/\∀v∈fs,∃i t,v= .int i t
 | _,_,.nil=>⟨[],.nil,rfl,(λ_ z=>by cases z)⟩
 | _,_,.cons (b:=q) hd tl=>by
  obtain⟨fs,k1,k2,k3⟩:=r_ tl
  obtain⟨a,o,t,u,n,rfl,g1,g2,g3,_⟩:=hd
  refine⟨.int q.1 t::fs,.cons g1 g2 g3 rfl k1,by simp[k2],λv hv=>?_⟩
  rcases List.mem_cons.mp hv with z | z
  ·exact⟨_,_,z⟩
  ·exact k3 v z
def xJ:Wv->Option Kw
 | .tup [.int a,.int i]=>if a=1 then none else some (a,.inl i)
 | .tup [.int a,.str x]=>if a=1 then some (a,.inr x) else none
 | _=>none
def mz:List Wv->Option (List Kw)
 | []=>some []
 | w::r=>(match xJ w,mz r with | some k,some l=>some (k::l) | _,_=>none)
theorem zh{w:Wv}{k:Kw}(h:xJ w=some k):oh k=true/\∃x,w= .tup [.int k.1,x]/\(x=(match k.2 with | .inl i=>Wv.int i | .inr y=> .str y)):=by
 unfold xJ at h
 split at h
 ·split at h
  ·cases h
  ·rename_i n;cases h;exact⟨by simp[oh,n],_,rfl,rfl⟩
 ·split at h
  ·rename_i n;cases h;exact⟨by simp[oh,n],_,rfl,rfl⟩
  ·cases h
 ·cases h
theorem vz:∀{ws:List Wv}{ks:List Kw},mz ws=some ks->ks.length=ws.length/\∀k∈ks,oh k=true
 | [],ks,h=>by cases h;exact⟨rfl,(λ_ z=>by cases z)⟩
 | w::r,ks,h=>by
  unfold mz at h
  cases e1:xJ w with
  | none=>rw[e1] at h;cases h
  | some k=>
   cases e2:mz r with
   | none=>rw[e1,e2] at h;cases h
   | some l=>
    rw[e1,e2] at h
    cases h
    obtain⟨h1,h2⟩:=vz e2
    refine⟨by simp[h1],λz hz=>?_⟩
    rcases List.mem_cons.mp hz with q | q
    ·rw[q];exact(zh e1).1
    ·exact h2 z q
section
variable {X:Cx} {pins:List (aae×Obj)} {σ:L2.St} {H:Hp} {s:aaj} {m:Mp}
theorem IJ(I:Inv X pins σ H s){w:Wv}{v:V}{u:aak}{k:Kw}(h:xJ w=some k)(r:ai X.K m H w v)(ru:RelV v u):Bm s.heap u k:=by
 obtain⟨_,x,rfl,hx⟩:=zh h
 unfold ai at r
 obtain⟨a,xs,rfl,hT,rs⟩:=r
 cases ru
 obtain⟨its,rv,⟨o,g1,g2,n,g3⟩,_⟩:=I.tuple (fm.of hT)
 unfold ag at rs
 obtain⟨v1,t1,rfl,q1,rs⟩:=rs
 unfold ag at rs
 obtain⟨v2,t2,rfl,q2,rs⟩:=rs
 unfold ag at rs
 subst rs
 have e1:v1= .int k.1:=by unfold ai at q1;exact q1
 have e2:v2=vK k.2:=by
  obtain⟨b,y | y⟩:=k<;>subst hx<;>unfold ai at q2
  ·exact q2
  ·exact q2.1
 subst e1 e2
 cases rv with
 | cons z1 rv=>
  cases rv with
  | cons z2 rv=>
   cases rv
   obtain⟨t,rfl⟩:=z1
   exact⟨a,o,t,_,n,rfl,g1,g2,g3,z2⟩
theorem zi(I:Inv X pins σ H s):∀{ws:List Wv}{vs:List V}{us:List aak}{ks:List Kw},mz ws=some ks->ag X.K m H ws vs->Vals vs us->Paired (Bm s.heap) us ks
 | [],vs,us,ks,h,r,ru=>by
  unfold ag at r
  subst r
  cases h
  cases ru
  exact .nil
 | w::t,vs,us,ks,h,r,ru=>by
  unfold ag at r
  obtain⟨v,vr,rfl,r1,r2⟩:=r
  unfold mz at h
  cases e1:xJ w with
  | none=>rw[e1] at h;cases h
  | some k=>
   cases e2:mz t with
   | none=>rw[e1,e2] at h;cases h
   | some l=>
    rw[e1,e2] at h
    cases h
    cases ru with
    | cons z1 z2=>exact .cons (IJ I e1 r1 z1) (zi I e2 r2 z2)
end
def kd:Kw:=(0,.inl 0)
def ltB(b:Bool)(ks:List Kw)(i j:Nat):Bool:=if b then qQ (ks.getD j kd) (ks.getD i kd) else qQ (ks.getD i kd) (ks.getD j kd)
def OE(b:Bool)(ks:List Kw)(i j:Nat):Bool:=!ltB b ks j i&&(ltB b ks i j||decide (i < j))
def vA(b:Bool)(ks:List Kw)(n:Nat):List Nat->List Nat
 | []=>[n]
 | x::r=>if OE b ks n x then n::x::r else x::vA b ks n r
def Bn(b:Bool)(ks:List Kw):List Nat->List Nat
 | []=>[]
 | n::r=>vA b ks n (Bn b ks r)
theorem zj{b:Bool}{ks:List Kw}{i j:Nat}:OE b ks i j=true↔uG (ltB b ks) i j:=by
 unfold OE uG
 cases ltB b ks j i<;>cases ltB b ks i j<;>simp
theorem Kc{ks:List Kw}(h:∀k∈ks,oh k=true)(i:Nat):oh (ks.getD i kd)=true:=by
 by_cases c:i < ks.length
 ·have e:ks.getD i kd=ks[i]:=by simp[List.getD,c]
  rw[e];exact h _ (jL c)
 ·have e:ks.getD i kd=kd:=by rw[cL,List.getElem?_eq_none (by omega)];rfl
  rw[e];rfl
theorem oN{b:Bool}{ks:List Kw}(h:∀k∈ks,oh k=true):Ord (ltB b ks):=by
 have k:=Kc h
 refine⟨λx y e=>?_,λx y z e f=>?_⟩<;>unfold ltB at * <;>cases b<;>simp only[if_true,if_false,yT] at *
 ·exact Ex (k _) (k _) e
 ·exact Ex (k _) (k _) e
 ·exact Ey (k _) (k _) (k _) e f
 ·exact Ey (k _) (k _) (k _) f e
theorem IK{b:Bool}{ks:List Kw}(h:∀k∈ks,oh k=true){i j:Nat}(n:i≠j)(e:OE b ks i j=false):OE b ks j i=true:=by
 have o:=oN (b:=b) h
 unfold OE at *
 cases e1:ltB b ks j i with
 | true=>rw[o.as _ _ e1];simp
 | false=>
  rw[e1] at e
  simp at e
  simp[e.1]
  omega
theorem ng{b:Bool}{ks:List Kw}(n:Nat):∀l,(vA b ks n l).Perm (n::l)
 | []=> .refl _
 | x::r=>by
  unfold vA
  split
  ·exact .refl _
  ·exact((ng n r).cons x).trans (.swap n x r)
theorem gG{b:Bool}{ks:List Kw}:∀l,(Bn b ks l).Perm l
 | []=> .refl _
 | n::r=>(ng n _).trans ((gG r).cons n)
theorem zk{b:Bool}{ks:List Kw}(h:∀k∈ks,oh k=true)(n:Nat):∀l,n∉l->l.Pairwise (uG (ltB b ks))->(vA b ks n l).Pairwise (uG (ltB b ks))
 | [],_,_=>by simp[vA]
 | x::r,hn,hp=>by
  have o:=oN (b:=b) h
  unfold vA
  rw[List.pairwise_cons] at hp
  split
  ·rename_i e
   have e':=zj.mp e
   refine List.pairwise_cons.mpr ⟨λy hy=>?_,List.pairwise_cons.mpr hp⟩
   rcases List.mem_cons.mp hy with q | q
   ·rw[q];exact e'
   ·exact e'.trans o (hp.1 y q)
  ·rename_i e
   have e':=zj.mp (IK (i:=n) (j:=x) h (λz=>hn (by rw[z];exact bp)) (by simpa using e))
   refine List.pairwise_cons.mpr ⟨λy hy=>?_,zk h n r (λz=>hn (aX _ z)) hp.2⟩
   rcases List.mem_cons.mp ((ng n r).mem_iff.mp hy) with q | q
   ·rw[q];exact e'
   ·exact hp.1 y q
theorem zl{b:Bool}{ks:List Kw}(h:∀k∈ks,oh k=true):∀l:List Nat,l.Nodup->(Bn b ks l).Pairwise (uG (ltB b ks))
 | [],_=> .nil
 | n::r,hn=>by
  rw[List.nodup_cons] at hn
  exact zk h n _ (λz=>hn.1 ((gG r).mem_iff.mp z)) (zl h r hn.2)
theorem IL{lt:Nat->Nat->Bool}(o:Ord lt){a b:Nat}(h:uG lt a b)(k:uG lt b a):False:=by
 have h1:=h.2 k.1
 have h2:=k.2 h.1
 omega
theorem vB{b:Bool}{ks:List Kw}(h:∀k∈ks,oh k=true){l r:List Nat}(hn:r.Nodup)(hp:l.Perm r)(hu:l.Pairwise (uG (ltB b ks))):l=Bn b ks r :=
 List.Perm.eq_of_pairwise (λa b _ _ h1 h2=>(IL (oN h) h1 h2).elim) hu (zl h r hn) (hp.trans (gG r).symm)
structure Gn(X:Cx)(pins:List (aae×Obj))(base:Heap)(D kS:aae):Prop where
 ne:kS≠D
 D1:∀H:Hp,H D=none->dj X pins H D
 K1:∀H:Hp,H kS=none->dj X pins H kS
 bz:base.objs.size<=D
 bk:base.get? kS=none
 bL:base.get? X.env.locals=none
 bf:∀b∈frs X.stack,base.get? b=none
 mod:Mod X.K X.mg base
structure xK(X:Cx)(pins:List (aae×Obj))(σ:L2.St)(base:Heap)(m0:Mp)(H0:Hp)(st:Hs)(D kS:aae)(e1:Nat)(s:aaj)(H:Hp)(m:Mp):Prop where
 I:Inv X pins σ H s
 bs:∀b o,base.get? b=some o->s.heap.get? b=some o/\H b=none
 S:bo X.K m st H
 ex:Ext X.K m0 H0 m H
 hD:s.heap.get? D=some (seqObj "list" #[] e1)
 nD:H D=none
 nK:H kS=none
section
variable {X:Cx} {pins:List (aae×Obj)} {σ:L2.St} {base:Heap} {m0 m m':Mp} {H0 H H':Hp} {st:Hs} {D kS:aae} {e1:Nat} {s s':aaj}
theorem Gn.nf(d:Gn X pins base D kS)(I:Inv X pins σ H s)(hD:H D=none)(hK:H kS=none):D∉frs X.stack/\kS∉frs X.stack:=by
 obtain⟨_,a1,a2,_⟩:=d.D1 H hD
 obtain⟨_,b1,b2,_⟩:=d.K1 H hK
 exact⟨λz=>(List.mem_cons.mp (I.jx D z)).elim a1 a2,λz=>(List.mem_cons.mp (I.jx kS z)).elim b1 b2⟩
theorem xK.Ly(d:Gn X pins base D kS)(k:xK X pins σ base m0 H0 st D kS e1 s H m):oa X.prog X.w X.K X.mg base X.A X.stack s H :=
 ⟨k.I.ok.frames,d.mod,k.bs,bb d.bz (ow (aE k.hD)),zc (λenv he L hL=>d.bf L (List.mem_filterMap.mpr ⟨env,he,hL⟩)) k.I.stack,k.I.jZ,k.I.hok,k.I.bare⟩
theorem xK.call(d:Gn X pins base D kS)(k:xK X pins σ base m0 H0 st D kS e1 s H m){ks:Array aak}{e:Nat}(hk:s.heap.get? kS=some (seqObj "list" ks e))(os:s'.os=s.os)(bare:AllBare s'.gens)(un:Un (frs X.stack) [] H H' s.heap s'.heap)(hok:jh X.prog X.w H' s'.heap)
  (ex:Ext X.K m H m' H')(S:bo X.K m' st H'):xK X pins σ base m0 H0 st D kS e1 s' H' m'/\s'.heap.get? kS=some (seqObj "list" ks e):=by
 obtain⟨f1,f2⟩:=d.nf k.I k.nD k.nK
 refine⟨⟨k.I.rl (ch:=[]) os un hok bare (λb z=>absurd z (by simp)),λb o e=>?_,S,k.ex.trans ex,un.keep _ _ k.hD k.nD f1 (by simp),un.free _ _ k.hD k.nD (by simp),un.free _ _ hk k.nK (by simp)⟩,un.keep _ _ hk k.nK f2 (by simp)⟩
 obtain⟨h1,h2⟩:=k.bs b o e
 exact⟨un.keep b o h1 h2 (λz=>by rw[d.bf b z] at e;cases e) (by simp),un.free b o h1 h2 (by simp)⟩
theorem xK.wrote(d:Gn X pins base D kS)(k:xK X pins σ base m0 H0 st D kS e1 s H m){ks:Array aak}{e:Nat}(hk:s.heap.get? kS=some (seqObj "list" ks e))(f:Array aak->Array aak) :
  xK X pins σ base m0 H0 st D kS e1 { s with heap:=s.heap.update kS (dY f) } H m:=by
 obtain⟨_,a1,a2,a3,a4,a5⟩:=d.K1 H k.nK
 have keep:∀b o,b≠kS->s.heap.get? b=some o->(s.heap.update kS (dY f)).get? b=some o:=λb o n e=>((tZ s.heap kS (dY f)).2 b n).trans e
 refine⟨k.I.turned (t':=s.toks) keep k.nK a1 a3 a4 a5,λb o e=>?_,k.S,k.ex,keep _ _ (aW d.ne) k.hD,k.nD,k.nK⟩
 obtain⟨h1,h2⟩:=k.bs b o e
 exact⟨keep b o (λz=>by rw[z,d.bk] at e;cases e) h1,h2⟩
theorem vC{k0:Nat}{f:aae}{sp:V->Hp->VK->Prop}{body:aak->PUnit->Sem (ForInStep PUnit)}{R:PUnit->aaj->Prop}{E:aak->aaj->Prop}(d:Gn X pins base D kS)(kf:OD X.prog X.w X.K X.mg base k0 f sp)(hr:fc (k0+2) X.A)
  (hb:∀x (s:aaj) (Q:aaj->Prop),aax (model X.prog X.w) X.A.in1.in1 (call (.ref f) [x]) (λk s'=>∃(ks:Array aak)(e:Nat),s'.heap.get? kS=some (seqObj "list" ks e)/\ks.size < 64/\Q { s' with heap:=s'.heap.update kS (dY (·.push k)) }) (λ_ _=>False) s->
   aax (model X.prog X.w) X.A.in1.in1 (body x ⟨⟩) (λr s'=>r= .yield ⟨⟩/\Q s') E s) :
  ∀(r:List aak)(rv:List V)(rw' kr kd:List Wv)(kv:List V)(ks:List aak)(e:Nat)(s:aaj)(H:Hp)(m:Mp),xK X pins σ base m0 H0 st D kS e1 s H m->s.heap.get? kS=some (seqObj "list" ks.toArray e)->Vals kv ks->ag X.K m H kd kv->Vals rv r->ag X.K m H rw' rv->
   ks.length+r.length < 64->kr.length=rw'.length->(∀(i:Nat) w kw,rw'[i]? =some w->kr[i]? =some kw->∀(H':Hp)(m':Mp)(v:V)(Q:VK),Ext X.K m0 H0 m' H'->bo X.K m' st H'->ai X.K m' H' w v->BV X.K m' H' Q kw st->sp v H' Q)->
   (∀(s':aaj)(H':Hp)(m':Mp)(kv':List V)(ks':List aak)(e':Nat),xK X pins σ base m0 H0 st D kS e1 s' H' m'->Ext X.K m H m' H'->s'.heap.get? kS=some (seqObj "list" ks'.toArray e')->Vals kv' ks'->ag X.K m' H' (kd++kr) kv'->R ⟨⟩ s')->
   aax (model X.prog X.w) X.A.in1.in1 (forIn r PUnit.unit body) R E s
 | [],rv,rw',kr,kd,kv,ks,e,s,H,m,k,hk,vk,rk,vr,rr,hl,RY,hs,fin=>by
  cases vr
  have:rw'=[]:=by
   cases rw' with
   | nil=>rfl
   | cons a t=>unfold ag at rr;obtain⟨_,_,e,_⟩:=rr;cases e
  subst this
  have:kr=[]:=List.length_eq_zero_iff.mp RY
  subst this
  rw[List.forIn_nil]
  exact aaE (fin s H m kv ks e k Ext.refl hk vk (by rw[ei];exact rk))
 | x::r,rv,rw',kr,kd,kv,ks,e,s,H,m,k,hk,vk,rk,vr,rr,hl,RY,hs,fin=>by
  cases vr with
  | cons rx vr=>
   rename_i v rv
   cases rw' with
   | nil=>unfold ag at rr;cases rr
   | cons w rw'=>
    unfold ag at rr
    obtain⟨_,_,ee,r1,r2⟩:=rr
    cases ee
    cases kr with
    | nil=>cases RY
    | cons kw kr=>
     rw[List.forIn_cons]
     have QB:=kf X.A.in1.in1 X.stack s H x v (λv' H'=>∃m',Ext X.K m H m' H'/\bo X.K m' st H'/\ai X.K m' H' kw v') (fc.in1 (fc.in1 hr)) (oa.in1 (oa.in1 (k.Ly d))) rx
      (hs 0 w kw rfl rfl H m v _ k.ex k.S r1 λv' m' H' e' S' r'=>⟨m',e',S',r'⟩)
     refine aay (aaB (hb x s (λs2=>aax (model X.prog X.w) X.A.in1.in1 (forIn r PUnit.unit body) R E s2) (aaB QB (λu s1 hq=>?_) λ_ _ z=>z)) (λq s2 hq=>?_) λ_ _ z=>z)
     ·obtain⟨v',H1,os,bare,un,hok,ru,m1,RZ,S1,Ye⟩:=hq
      obtain⟨k1,hk1⟩:=k.call d hk os bare un hok RZ S1
      refine⟨ks.toArray,e,hk1,by simp at hl ⊢;omega,?_⟩
      have hk2:=get?_update_seq hk1 (·.push u)
      have ea:ks.toArray.push u=(ks++[u]).toArray:=by simp
      rw[ea] at hk2
      refine vC d kf hr hb r rv rw' kr (kd++[kw]) (kv++[v']) (ks++[u]) _ _ H1 m1 (k1.wrote d hk1 (·.push u)) hk2 (vk.append (.cons ru .nil)) (ag.append (ag.mono RZ _ _ rk) (ag.cons Ye ag.nil)) vr (ag.mono RZ _ _ r2) (by simp at hl ⊢;omega) (by simpa using RY) (λi w2 Yf h1 h2=>hs (i+1) w2 Yf (by simpa using h1) (by simpa using h2)) λs' H' m' kv' ks' e' k' ex' hk' UE R0=>?_
      exact fin s' H' m' kv' ks' e' k' (RZ.trans ex') hk' UE (by rw[xb] at R0;exact R0)
     ·obtain⟨rfl,hq⟩:=hq
      exact hq
end
def iy(b:Bool)(kk:List Kw):List Nat:=Bn b kk (dX kk.length)
theorem qm{α β:Type}{F:α->β->Prop}{l':List α}{k':List β}(h':Paired F l' k'):∀{l:List α}{k:List β},Paired F l k->Paired F (l++l') (k++k')
 | _,_,.nil=>h'
 | _,_,.cons h t=> .cons h (qm h' t)
theorem qo{α β:Type}{F:α->β->Prop}:∀{l:List α}{k:List β},Paired F l k->Paired F l.reverse k.reverse
 | _,_,.nil=> .nil
 | _,_,.cons h t=>by
  rw[List.reverse_cons,List.reverse_cons]
  exact qm (.cons h .nil) (qo t)
theorem qp{α:Type}{d:α}(l:List α){i:Nat}(h:i < l.length):l.reverse.getD i d=l.getD (l.length - 1 - i) d:=by
 simp[cL,List.getElem?_reverse h]
theorem zm{p:Array Nat}{i:Nat}(h:i < p.toList.length):at_ p i=p.toList[i]:=by
 have:i < p.size:=by simpa using h
 simp[at_,Array.getD,this]
theorem IM{b:Bool}{kk:List Kw}(hk:∀k∈kk,oh k=true){p:Array Nat}(h1:Pm kk.length p)(h2:wR (λi j=>qQ ((katRev b kk).getD i kd) ((katRev b kk).getD j kd)) p kk.length){α:Type}(its:List α)(dd:α)(hl:its.length=kk.length) :
  katRev b (p.toList.map λi=>(katRev b its).getD i dd)=(iy b kk).map λi=>its.getD i dd:=by
 have mem:∀i∈p.toList,i < kk.length:=λi hi=>List.mem_range.mp (h1.pm.mem_iff.mp hi)
 have pw:p.toList.Pairwise λa c=>uG (λi j=>qQ ((katRev b kk).getD i kd) ((katRev b kk).getD j kd)) a c:=by
  rw[List.pairwise_iff_getElem]
  intro i j hi hj hij
  rw[<-zm hi,<-zm hj]
  exact h2 i j hij (by have:=h1.sz;simp at hj;omega)
 cases b with
 | false=>
  have e:p.toList=iy false kk:=vB hk zo h1.pm (pw.imp λ{a c} h=>h)
  rw[<-e]
  simp[katRev]
 | true=>
  have e:(p.toList.map λi=>kk.length - 1 - i).reverse=iy true kk:=by
   refine vB hk zo ?_ ?_
   ·refine(List.reverse_perm _).trans ((h1.pm.map _).trans ?_)
    refine List.perm_iff_count.mpr λa=>?_
    have nd:((dX kk.length).map λi=>kk.length - 1 - i).Nodup:=by
     rw[IP,List.pairwise_map]
     have:=zo (n:=kk.length)
     rw[IP] at this
     refine this.imp_of_mem λ{x y} hx hy n=>?_
     rw[List.mem_range] at hx hy
     omega
    rw[nd.count,List.nodup_range.count]
    have:(a∈(dX kk.length).map λi=>kk.length - 1 - i)↔a∈dX kk.length:=by
     simp only[List.mem_map,List.mem_range]
     constructor
     ·rintro⟨x,hx,rfl⟩;omega
     ·intro h;exact⟨kk.length - 1 - a,by omega,by omega⟩
    simp only[this]
   ·rw[List.pairwise_reverse,List.pairwise_map]
    refine pw.imp_of_mem λ{x y} hx hy h=>?_
    have lx:=mem x hx
    have ly:=mem y hy
    simp only[katRev,if_true,uG,qp kk lx,qp kk ly] at h
    exact⟨by simpa [ltB] using h.1,λz=>by have:=h.2 (by simpa [ltB] using z);omega⟩
  rw[<-e]
  simp only[katRev,if_true,List.map_reverse,bS]
  congr 1
  refine lu λi hi=>?_
  simp only[Function.comp]
  have:=mem i hi
  rw[qp its (by omega),hl]
theorem oO{b:Bool}{kk:List Kw}{i:Nat}(h:i∈iy b kk):i < kk.length:=List.mem_range.mp ((gG _).mem_iff.mp h)
theorem qq{b:Bool}{kk:List Kw}:(iy b kk).length=kk.length:=by unfold iy;rw[(gG _).length_eq];simp
theorem zp{K:PySem.W.Frag}{m:Mp}{H:Hp}{ws:List Wv}{vs:List V}(r:ag K m H ws vs):∀(l:List Nat),(∀i∈l,i < ws.length)->ag K m H (l.map λi=>ws.getD i .aL) (l.map λi=>vs.getD i .aL)
 | [],_=>ag.nil
 | i::l,h=>by
  have hi:=h i (by simp)
  obtain⟨x,e,rx⟩:=r.get (i:=i) (w:=ws.getD i .aL) (by simp[cL,hi])
  have e2:vs.getD i .aL=x:=by rw[cL,e];rfl
  rw[aM,aM,e2]
  exact ag.cons rx (zp r l λj hj=>h j (by simp[hj]))
section
variable {X:Cx} {pins:List (aae×Obj)} {σ:L2.St} {base:Heap} {m0 m m':Mp} {H0 H H':Hp} {st:Hs} {D kS:aae} {e1:Nat} {s s':aaj}
theorem xK.done(d:Gn X pins base D kS)(k:xK X pins σ base m0 H0 st D kS e1 s H m){out:List aak}{vs:List V}(hv:Vals vs out)(hz:vs.length < 64) :
  Inv X pins σ (upd H D (.lst vs)) { s with heap:=s.heap.update D (dY λ_=>out.toArray) }:=by
 obtain⟨_,a1,a2,a3,a4,a5⟩:=d.D1 H k.nD
 have I:=k.I
 have keep:∀b o,b≠D->s.heap.get? b=some o->(s.heap.update D (dY λ_=>out.toArray)).get? b=some o:=λb o n e=>((tZ s.heap D _).2 b n).trans e
 have hD:=get?_update_seq k.hD λ_=>out.toArray
 have OF:∀b u,H b=some u->b≠D:=λb u e=>bH e k.nD
 refine I.step (g':=s.gens) (d':=s.drawn) (t':=s.toks) (ch:=[D]) (λb z=>?_) (λb o _ _ n e _=>keep b o (by simpa using n) e) (λb o _ _ n e _=>⟨o.slots,keep b o (by simpa using n) e⟩) (λb o n e z=>by rw[aw (by simpa using n)];exact z) (λb o n e=>⟨o,keep b o (by simpa using n) e⟩)
  (λb xs e=>by rw[aw (OF _ _ e)];exact e) (λb o u e=>by rw[aw (OF _ _ e)];exact e) (λb ps e=>⟨#[],by rw[aw (OF _ _ e),e];simp⟩) (λm' hm=>?_) (λb ob e=>?_) I.bare
 ·have e:b=D:=by simpa using z
  subst e
  exact⟨a3,a1,a4,a5⟩
 ·obtain⟨o,es,ep,ho,r⟩:=hm
  exact⟨o,es,ep,keep _ o (aW a1) ho,r⟩
 ·by_cases z:b=D
  ·subst z
   rw[aI] at e
   cases e
   exact⟨by rw[sizeLine_eq];omega,out,_,hv,hD⟩
  ·rw[aw z] at e
   refine(I.hok b ob e).stay (λc v hc q=>keep c v ?_ q) (λc q=>by rw[aw (OF _ _ q)];exact q) λc xs q=>by rw[aw (OF _ _ q)];exact q
   rcases hc with y | y
   ·rw[y];exact z
   ·exact OF c _ y
theorem vD{b:Bool}{UG:SortSt}{out:List aak}{vs:List V}{ks:Array aak}{e:Nat}{P:PySem.Fin->aaj->Prop}{A:aaf}{E:aak->aaj->Prop}(d:Gn X pins base D kS)(k:xK X pins σ base m0 H0 st D kS e1 s H m)(hk:s.heap.get? kS=some (seqObj "list" ks e))
  (hz:ks.size < 64)(ho:(arrOf UG).map (·.2)=out.toArray)(hf:failedOf UG=none)(hv:Vals vs (katRev b out))(hl:vs.length < 64)(fin:∀s',Inv X pins σ (upd H D (.lst vs)) s'->P (.done (.ret .none)) s'):aax (model X.prog X.w) A (ksk_tail D b e1 (.ref kS) UG) P E s:=by
 have k2:=k.wrote d hk λ_=>#[]
 have lo:out.length < 64:=by have:=hv.length;rw[kat_len] at this;omega
 unfold ksk_tail
 dsimp only
 rw[ho,kat_outs]
 refine aay (listUpdate_at hk rfl (aay (wpAny_letGo (aay (seqEpoch_at k2.hD rfl (aay (listUpdate_at k2.hD rfl ?_ (by simp) (by simp[kat_len,sizeLine_eq];omega))))))) (by rw[sizeLine_eq];omega) (by simp))
 rw[hf]
 simp only[bne_self_eq_false,yT,if_false]
 exact aaE (fin _ (k2.done d hv hl))
theorem IQ{b:Bool}{kk:List Kw}{its ks:List aak}{vs kv:List V}{ws kws:List Wv}{e:Nat}{P:PySem.Fin->aaj->Prop}{A:aaf}{E:aak->aaj->Prop}(d:Gn X pins base D kS)(k:xK X pins σ base m0 H0 st D kS e1 s H m)(hk:s.heap.get? kS=some (seqObj "list" ks.toArray e))
  (hv:Vals vs its)(rv:ag X.K m H ws vs)(hkv:Vals kv ks)(rk:ag X.K m H kws kv)(hkk:mz kws=some kk)(hl:kws.length=ws.length)(hz:ws.length < 64)
  (fin:∀s' vs',Inv X pins σ (upd H D (.lst vs')) s'->ag X.K m H ((iy b kk).map λi=>ws.getD i .aL) vs'->P (.done (.ret .none)) s'):aax (model X.prog X.w) A (ksk_end D b its.toArray e1 (.ref kS) ks.toArray) P E s:=by
 obtain⟨lk,UH⟩:=vz hkk
 have l1:=hv.length
 have l2:=rv.length
 have l3:=hkv.length
 have l4:=rk.length
 have tk:=zi k.I hkk rk hkv
 have step:∀t:Sem PySem.Fin,aax (model X.prog X.w) A t P E s->aax (model X.prog X.w) A (if b=true then(do let _ <-rule "list.sort.reverse";t) else t) P E s:=λt ht=>by
  cases b
  ·exact ht
  ·exact aay (wpAny_rule ht)
 have hvs:Vals ((iy b kk).map λi=>vs.getD i .aL) ((iy b kk).map λi=>its.getD i bG):=qd λi hi=>h_ hv (by have:=oO hi;omega)
 have Yg:=zp rv (iy b kk) λi hi=>by have:=oO hi;omega
 have fin':=λs' I=>fin s' _ I Yg
 unfold ksk_end
 dsimp only
 refine step _ ?_
 by_cases c:its.length < 2
 ·have c':its.toArray.size < 2:=by simpa using c
  rw[if_pos c',if_pos c']
  refine aay (aaE (aay ?_))
  rw[StateT.run_pure]
  refine aaE ?_
  refine vD (b:=b) (out:=katRev b its) d k hk (by simp;omega) ?_ rfl (vs:=(iy b kk).map λi=>vs.getD i .aL) ?_ (by rw[aA,qq];omega) fin'
  ·show Array.map (λx:Keyed=>x.2) (if b=true then(ks.toArray.zip its.toArray).reverse else ks.toArray.zip its.toArray)=_
   have:ks.length=its.length:=by omega
   match its,ks,this,c with
   | [],[],_,_=>cases b<;>simp[katRev]
   | [v],[u],_,_=>cases b<;>simp[katRev]
  ·have e:katRev b (katRev b its)=(iy b kk).map λi=>its.getD i bG:=by
    have z:katRev b (katRev b its)=its:=by cases b<;>simp[katRev]
    rw[z]
    have n:kk.length=its.length:=by omega
    match its,kk,n,c with
    | [],[],_,_=>rfl
    | [v],[u],_,_=>simp[iy,Bn,List.range_succ,vA]
   rw[e];exact hvs
 ·have c':¬its.toArray.size < 2:=by simpa using c
  rw[if_neg c',if_neg c']
  obtain⟨fs,k1,k2,k3⟩:=r_ tk
  refine aay (kat_kind (T:=.type "int") k1 (by omega) (λv hv=>by obtain⟨i,t,rfl⟩:=k3 v hv;exact Looks.of_pure rfl) (by decide) ?_)
  have et:(hJ "int" != hJ "tuple")=true:=by decide
  rw[et,kat_pairs b (by omega)]
  have hlr:(katRev b ks).length=(katRev b its).length:=by rw[kat_len,kat_len];omega
  refine aay (aaB (kat_run (Q:=λst' s'=>s'=s/\∃p:Array Nat,p.size=(katRev b its).length/\arrOf st'=p.map (kas_item ((katRev b ks).toArray.zip (katRev b its).toArray))/\failedOf st'=none/\Pm kk.length p/\wR (λi j=>qQ ((katRev b kk).getD i kd) ((katRev b kk).getD j kd)) p kk.length)
   (G:=λp s'=>s'=s/\Pm kk.length p/\wR (λi j=>qQ ((katRev b kk).getD i kd) ((katRev b kk).getD j kd)) p kk.length) hlr (by rw[kat_len];omega) (by rw[kat_len];omega) (λp st' s' a1 a2 a3 ⟨a4,a5⟩=>⟨a4,p,a1,a2,a3,a5⟩) ?_) ?_ λ_ _ x=>x)
  ·have od:Ord λi j=>qQ ((katRev b kk).getD i kd) ((katRev b kk).getD j kd):=by
    have R9:∀x∈katRev b kk,oh x=true:=λx hx=>UH x (by cases b<;>simpa [katRev] using hx)
    have q:=oN (b:=false) R9
    exact⟨λx y e=>q.as x y (by simpa [ltB] using e),λx y z e f=>by simpa [ltB] using q.tr x y z (by simpa [ltB] using e) (by simpa [ltB] using f)⟩
   have tr:Paired (Bm s.heap) (katRev b ks) (katRev b kk):=by cases b<;>simp only[katRev,if_true,yT,if_false];exact tk;exact qo tk
   have R9:∀i,i < kk.length->oh ((katRev b kk).getD i kd)=true:=λi _=>Kc (λx hx=>UH x (by cases b<;>simpa [katRev] using hx)) i
   have en:(katRev b its).length=kk.length:=by rw[kat_len];omega
   rw[en]
   refine Kg.wp (lt:=λi j=>qQ ((katRev b kk).getD i kd) ((katRev b kk).getD j kd)) (N:=kk.length) (P:=λs''=>s''=s) (λi j C s'' hi hj hs hC=>?_) rfl ((IH od (by omega)).imp λpm ⟨P1,P2⟩ s'' hs=>⟨hs,P1,P2⟩)
   subst hs
   have hi':i < (katRev b kk).length:=by rw[kat_len];exact hi
   have hj':j < (katRev b kk).length:=by rw[kat_len];exact hj
   unfold kas_ask
   exact II (h_ (a:=bG) (b:=kd) tr hi') (h_ (a:=bG) (b:=kd) tr hj') (R9 i hi) (R9 j hj) (hC _ rfl)
  ·rintro⟨⟨⟩,st'⟩ s' ⟨rfl,p,hp,har,hf,p1,p2⟩
   dsimp only
   refine vD (b:=b) (out:=p.toList.map λi=>(katRev b its).getD i bG) d k hk (by simp;omega) (kat_snds hlr har) hf (vs:=(iy b kk).map λi=>vs.getD i .aL) ?_ (by rw[aA,qq];omega) fin'
   rw[IM UH p1 p2 its bG (by omega)]
   exact hvs
end
section
variable {X:Cx} {pins:List (aae×Obj)} {σ:L2.St} {base:Heap} {m:Mp} {H:Hp} {st:Hs} {s:aaj}
def Ke(X:Cx)(m:Mp)(H:Hp)(st:Hs)(sp:V->Hp->VK->Prop)(ws kws:List Wv):Prop:=kws.length=ws.length/\∀(i:Nat) w kw,ws[i]? =some w->kws[i]? =some kw->∀(H':Hp)(m':Mp)(v:V)(Q:VK),Ext X.K m H m' H'->bo X.K m' st H'->ai X.K m' H' w v->BV X.K m' H' Q kw st->sp v H' Q
structure QC(X:Cx)(base:Heap)(s:aaj)(H:Hp):Prop where
 bs:∀b o,base.get? b=some o->s.heap.get? b=some o/\H b=none
 bz:base.objs.size<=s.heap.objs.size
 bL:base.get? X.env.locals=none
 bf:∀b∈frs X.stack,base.get? b=none
 mod:Mod X.K X.mg base
theorem Ez{k0:Nat}{f D:aae}{sp:V->Hp->VK->Prop}{b:Bool}{its:List aak}{n:Nat}{vs:List V}{ws kws:List Wv}{kk:List Kw}{P:PySem.Fin->aaj->Prop}{E:aak->aaj->Prop}(kf:OD X.prog X.w X.K X.mg base k0 f sp)(hr:fc (k0+2) X.A)(I:Inv X pins σ H s)(S:bo X.K m st H)
  (hD:s.heap.get? D=some (seqObj "list" its.toArray n))(nD:H D=none)(fD:∀H:Hp,H D=none->dj X pins H D)(B:QC X base s H)(bD:base.objs.size<=D)(hv:Vals vs its)(rv:ag X.K m H ws vs)(hs:Ke X m H st sp ws kws)(hkk:mz kws=some kk)(hz:ws.length < 64)
  (fin:∀s' H' m' vs',Inv X pins σ (upd H' D (.lst vs')) s'->H' D=none->Ext X.K m H m' H'->bo X.K m' st H'->ag X.K m' H' ((iy b kk).map λi=>ws.getD i .aL) vs'->P (.done (.ret .none)) s') :
  aax (model X.prog X.w) X.A.in1.in1 (ksk_tree D (.ref f) b) P E s:=by
 have l1:=hv.length
 have l2:=rv.length
 have z1:its.length < 64:=by omega
 have R_:=get?_update_seq hD λ_=>(#[]:Array aak)
 obtain⟨_,a1,a2,a3,a4,a5⟩:=fD H nD
 have I1:Inv X pins σ H { s with heap:=s.heap.update D (dY λ_=>(#[]:Array aak)) }:=I.turned (t':=s.toks) (λc o n e=>((tZ s.heap D _).2 c n).trans e) nD a1 a3 a4 a5
 generalize WJ:s.heap.update D (dY λ_=>(#[]:Array aak))=h1 at R_ I1
 have WK:∀b o,base.get? b=some o->h1.get? b=some o/\H b=none:=λc o e=>by
  obtain⟨q1,q2⟩:=B.bs c o e
  refine⟨?_,q2⟩
  rw[<-WJ]
  exact((tZ s.heap D _).2 c (λz=>by rw[z,wW bD] at e;cases e)).trans q1
 generalize hee:(if((#[]:Array aak).size == its.toArray.size)=true then n else n+1)=e1 at R_
 have I2:Inv X pins σ H { s with heap:=h1.push (seqObj "tuple" its.toArray 0) }:=I1.kept (t':=s.toks) λ_ _ e=>aO _ e
 have Sa:(h1.push (seqObj "tuple" its.toArray 0)).get? D=some (seqObj "list" #[] e1):=aO _ R_
 have UI:∀b o,base.get? b=some o->(h1.push (seqObj "tuple" its.toArray 0)).get? b=some o/\H b=none:=λc o e=>⟨aO _ (WK c o e).1,(WK c o e).2⟩
 unfold ksk_tree
 refine aay (listItems_at hD rfl (aay (listUpdate_at hD rfl ?_ (by simp[sizeLine_eq];omega) (by simp))))
 rw[WJ]
 refine aay (seqEpoch_at R_ rfl (aay (wpAny_newTuple (aay (aaC (aaA ?_))) (by simp[sizeLine_eq];omega))))
 show aax (model X.prog X.w) X.A.in1.in1 (ksk_rest D (.ref f) b its.toArray e1 (.ref (h1.push (seqObj "tuple" its.toArray 0)).objs.size)) P E { s with heap:=(h1.push (seqObj "tuple" its.toArray 0)).push (seqObj "list" #[] 0) }
 generalize h1.push (seqObj "tuple" its.toArray 0)=h2 at I2 Sa UI
 have nK:H h2.objs.size=none:=I2.hok.fresh (ak _)
 have d:Gn X pins base D h2.objs.size:=⟨yy (aE Sa),fD,λH' h=>I2.oY (H':=H') (ak _) h,bD,wW (bb bD (ow (aE Sa))),B.bL,B.bf,B.mod⟩
 have k:xK X pins σ base m H st D h2.objs.size e1 { s with heap:=h2.push (seqObj "list" #[] 0) } H m :=
  ⟨I2.kept (t':=s.toks) λ_ _ e=>aO _ e,λc o e=>⟨aO _ (UI c o e).1,(UI c o e).2⟩,S,Ext.refl,aO _ Sa,nD,nK⟩
 have hk:(h2.push (seqObj "list" #[] 0)).get? h2.objs.size=some (seqObj "list" ([]:List aak).toArray 0):=cq _ rfl
 unfold ksk_rest
 refine aay (wpAny_rule ?_)
 rw[List.forIn_toArray]
 refine aay (vC d kf hr (λx s0 Q hx=>?_) its vs ws kws [] [] [] 0 _ H m k hk .nil ag.nil hv rv (by simpa using z1) hs.1 (λi w kw e1 e2 H' m' v Q ex S' r ok=>hs.2 i w kw e1 e2 H' m' v Q ex S' r ok) λs' H' m' kv' ks' e' k' ex' hk' UE R0=>?_)
 ·refine aay (wpAny_attempt (aaB hx (λu s1 hq=>?_) λ_ _ z=>z.elim))
  obtain⟨ks,e,q1,q2,q3⟩:=hq
  dsimp only
  exact aay (listUpdate_at q1 rfl (aaE ⟨rfl,q3⟩) (by rw[sizeLine_eq];omega) (by simp[sizeLine_eq];omega))
 ·refine aay (listItems_at hk' rfl ?_)
  exact IQ d k' hk' hv (ag.mono ex' _ _ rv) UE R0 hkk hs.1 hz λs2 vs' I' r'=>fin s2 H' m' vs' I' k'.nD ex' k'.S r'
end
open Classical in
def sd(gb:GE)(wy:Wv)(st:Hs):List Wv->Option (List Wv)
 | []=>some []
 | w::r=>match gb [some w,some wy] st with
  | .ok kw st'=>if st'=st then(match sd gb wy st r with | some l=>some (kw::l) | none=>none) else none
  | _=>none
theorem vE{gb:GE}{wy:Wv}{st:Hs}:∀{ws kws:List Wv},sd gb wy st ws=some kws->kws.length=ws.length/\∀(i:Nat) w kw,ws[i]? =some w->kws[i]? =some kw->gb [some w,some wy] st= .ok kw st
 | [],kws,h=>by cases h;exact⟨rfl,λi w kw e=>by simp at e⟩
 | w::r,kws,h=>by
  unfold sd at h
  cases e:gb [some w,some wy] st with
  | ok kw st'=>
   rw[e] at h
   dsimp only at h
   by_cases c:st'=st
   ·rw[if_pos c] at h
    subst c
    cases e2:sd gb wy st' r with
    | none=>rw[e2] at h;cases h
    | some l=>
     rw[e2] at h
     cases h
     obtain⟨h1,h2⟩:=vE e2
     refine⟨by simp[h1],λi w' kw' g1 g2=>?_⟩
     cases i with
     | zero=>simp at g1 g2;subst g1 g2;exact e
     | succ i=>exact h2 i w' kw' (by simpa using g1) (by simpa using g2)
   ·rw[if_neg c] at h;cases h
  | err c st'=>rw[e] at h;cases h
  | bad=>rw[e] at h;cases h
section
variable {X:Cx}
end
section
variable {X:Cx}
theorem Bo:aao "sorted"=some (.builtin "sorted"):=by decide+kernel
abbrev UJ(e:Expr)(p:Pos):Keyword:=⟨some (lO "key"),e,p⟩
end
section
variable {X:Cx}
end
section
variable {prog:aai} {w:aal} {A:aaf} {E:aak->aaj->Prop} {s:aaj}
end
section
variable {X:Cx}
end
section
variable {X:Cx}
end
section
open PySem.SeqAt PySem.MeetsSeq PySem.MeetsSeq2 PySem.MeetsSeq3
end
variable {X:Cx}
def oLt:g_:=λx y st=>Qu x y st
theorem Nn(hu:X.A.units+64 < cLine):jv X (aar .Lt) oLt:=M8 hu
section
variable {X:Cx}
theorem IS:fu X (aar .IsNot) (λx y H Q=>∃a b,x= .bl a/\y= .bl b/\Q (.bl (a != b)) H):=by
 intro pins s σ H x y v u Q I rx ry h
 obtain⟨a,b,rfl,rfl,q⟩:=h
 cases rx
 cases ry
 exact isnot_bool ⟨.bl (a != b),H,I,rfl,q⟩
def Kf:g_:=λx y st=>match x,y with
 | .bl a,.bl b=> .ok (.bl (a != b)) st
 | x,y=>C_ x y st
theorem IT:jv X (aar .IsNot) Kf:=by
 obtain⟨r,h1,h2⟩:=Dd (X:=X)
 refine⟨_,fu.or h1 IS,λx y a b st H m Q S rx ry p=>?_⟩
 cases x with
 | bl c=>
  cases y with
  | bl d=>
   have e1:a= .bl c:=by unfold ai at rx;exact rx
   have e2:b= .bl d:=by unfold ai at ry;exact ry
   exact .inr ⟨c,d,e1,e2,p _ m H Ext.refl S iJ⟩
  | _=>exact .inl (h2 _ _ _ _ st H m Q S rx ry p)
 | _=>exact .inl (h2 _ _ _ _ st H m Q S rx ry p)
end
def Np(td ty tx:TE):TE:=λσ H Q=>td σ H λx H1=>∃a,x= .ref a/\Ov H1 a/\ty σ H1 λy H2=>tx σ H2 λz H3=>∃kvs k,H3 a=some (.dK kvs)/\y=kV k/\kvs.length < aav/\
 (∀v,kG kvs k=some v->Q v H3)/\(kG kvs k=none->Q z (upd H3 a (.dK (putK kvs k z))))
section
variable {X:Cx} {o e f:Expr} {apos cpos:Pos} {td ty tx:TE}
theorem EA(ho:PE X o td)(he:PE X e ty)(hf:PE X f tx)(m:M2 X o "setdefault" apos e f cpos):PE X (.Call (.Attribute o "setdefault" apos) [e,f] [] cpos) (Np td ty tx):=by
 intro pins s σ H Q I h
 refine wpAny_Call_method m.base m.few m.line PySem.F.plainAttrs_dict PySem.F.slot_dict_setdefault PySem.F.type_dict_setdefault (bx (ho pins s σ H _ I h) λu s1 ⟨x,H1,I1,rx,a,ex,d,q1⟩=>?_)
 subst ex
 obtain rfl:u=aU a:=rx
 obtain⟨t1,t2,_⟩:=tq I1 d
 refine⟨t1,t2,?_⟩
 rw[m.trees]
 refine mR rfl (mS (ip (bx (he pins s1 σ H1 _ I1 q1) λiv s2 ⟨y,H2,I2,ry,q2⟩=>
  ip (bx (hf pins s2 σ H2 _ I2 q2) λfv s3 ⟨z,H3,I3,rz,kvs,k,ea,ey,l,q3,q4⟩=>mQ ?_))))
 subst ey
 obtain⟨zz,hd,vs,rel,dd⟩:=JM I3.hok ea
 have vl:=rel.val k
 have hl:(putK kvs k z).length<=aav:=by have:=jA kvs k z;omega
 refine call_meetsIn PySem.F.slot_dict_setdefault dd.typeIs PySem.F.entry_dict_setdefault (PySem.F.args_dict_setdefault_3 _ _ _) (kt_meets_setdefault (aZ X.prog X.w) a (pA ry) hd fv) ⟨vs,dd,by rw[<-rel.length];exact zz,λv hv=>?_,λhn h' Hn hs=>?_⟩
 ·rw[hv] at vl
  obtain⟨v',ev,rv⟩:=Bl vl
  exact⟨v',H3,I3.tok _,rv,q3 v' ev⟩
 ·rw[hn] at vl
  have he':∃q,h'.get? a=some q:=let ⟨q,_,_,hq,_⟩:=Hn;⟨q,hq⟩
  exact⟨z,_,oC I3 (by rw[ea];exact lT) hs he' (xc hl hd (rel.put k rz) Hn),rz,q4 (Bk vl)⟩
def xM:Expr->Bool
 | .Call _ (_::_) _ _=>true
 | _=>false
theorem sf{o:Expr}{name:Str}{env:Env}(h:xM o=true):attributeBase o name env (eval o env)=eval o env:=by
 unfold xM at h
 split at h
 ·rename_i g e es ks p
  cases g<;>rfl
 ·cases h
def sg(st:Hs):Wv->Bool
 | .ref l=>(match st[l]? with | some (.dct _)=>true | _=>false)
 | _=>false
def QD(d k x:Wv)(st:Hs):Re Wv:=match d with
 | .ref l=>(match keyOf k,st[l]? with
  | some kk,some (.dct kvs)=>if kvs.length < lim then(match dI kvs kk with | some w=> .ok w st | none=> .ok x (st.set l (.dct (jM kvs kk x)))) else .bad
  | _,_=> .bad)
 | _=> .bad
def jN(gd gk gx:GE):GE:=λρ st=>(gd ρ st).bind λd st1=>if sg st1 d=true then(gk ρ st1).bind λk st2=>(gx ρ st2).bind λx st3=>QD d k x st3 else .bad
theorem EB{gd gk gx:GE}(ho:JE X o gd)(he:JE X e gk)(hf:JE X f gx)(M:M2 X o "setdefault" apos e f cpos):JE X (.Call (.Attribute o "setdefault" apos) [e,f] [] cpos) (jN gd gk gx) :=
 JE.of (EA aG aG aG M) λρ st σ H m Q S R p=>by
  refine ho.go S R (ar.bind p) λd st1 v m1 H1 p1 e1 S1 r1=>?_
  by_cases hd:sg st1 d=true
  ·rw[if_pos hd] at p1
   cases d with
   | ref l=>
    unfold ai at r1
    obtain⟨a,rfl,ha⟩:=r1
    have h0:∃uF,H1 a=some (.dK uF):=by
     unfold sg at hd
     dsimp only at hd
     cases e0:st1[l]? with
     | none=>rw[e0] at hd;cases hd
     | some ob=>
      cases ob with
      | dct kvs=>
       obtain⟨xs,y1,_⟩:=(show ∃ys,H1 a=some (.dK ys)/\RelK X.K m1 H1 kvs ys from S1.obj _ _ _ ha e0)
       exact⟨xs,y1⟩
      | _=>rw[e0] at hd;cases hd
    obtain⟨uF,h0⟩:=h0
    refine⟨a,rfl,.inl ⟨uF,.inl h0⟩,?_⟩
    refine he.go S1 (R.mono e1) ((ar.bind p1).imp e1 λ_ _ q=>q) λk st2 y m2 H2 p2 e2 S2 r2=>?_
    refine hf.go S2 (R.mono (e1.trans e2)) ((ar.bind p2).imp (e1.trans e2) λ_ _ q=>q) λx st3 z m3 H3 p3 e3 S3 r3=>?_
    unfold QD at p3
    dsimp only at p3
    cases q1:keyOf k with
    | none=>rw[q1] at p3;exact aa p3
    | some kk=>
     cases q2:st3[l]? with
     | none=>rw[q1,q2] at p3;exact aa p3
     | some ob=>
      rw[q1,q2] at p3
      cases ob with
      | dct kvs=>
       dsimp only at p3
       by_cases c:kvs.length < lim
       ·rw[if_pos c] at p3
        have M5:m3[l]? =some a:=(e2.trans e3).pre _ _ ha
        obtain⟨xs,y1,y2⟩:=(show ∃ys,H3 a=some (.dK ys)/\RelK X.K m3 H3 kvs ys from S3.obj _ _ _ M5 q2)
        obtain⟨i1,i2⟩:=y2.val kk
        refine⟨xs,kk,y1,fB (ai.mono e3 _ _ r2) q1,by rw[<-y2.length];exact pH c,λu UK=>?_,λhn=>?_⟩
        ·cases q3:dI kvs kk with
         | none=>rw[i1 q3] at UK;cases UK
         | some w=>
          rw[q3] at p3
          obtain⟨u',j1,j2⟩:=i2 w q3
          rw[UK] at j1
          cases j1
          exact p3 u m3 H3 (e1.trans (e2.trans e3)) S3 j2
        ·cases q3:dI kvs kk with
         | none=>
          rw[q3] at p3
          have ex:Ext X.K m3 H3 m3 (upd H3 a (.dK (putK xs kk z))):=Ext.iG (.inr (.inr (.inl ⟨_,y1⟩)))
          exact p3 z m3 _ (e1.trans (e2.trans (e3.trans ex))) (S3.pE M5 q2 rfl ⟨_,aI,(y2.put kk r3).mono ex⟩) (ai.mono ex _ _ r3)
         | some w=>
          obtain⟨u',j1,_⟩:=i2 w q3
          rw[hn] at j1
          cases j1
       ·rw[if_neg c] at p3;exact aa p3
      | _=>exact aa p3
   | _=>cases hd
  ·rw[if_neg hd] at p1;exact aa p1
end
def wK:L2.Key->Option Wv
 | .inl i=>some (.int i)
 | .inr x=>if aQ x=true then some (.str x) else none
 | .aL=>some .aL
def wKs:List L2.Key->Option (List Wv)
 | []=>some []
 | k::r=>(match wK k,wKs r with | some w,some l=>some (w::l) | _,_=>none)
theorem EC{K:PySem.W.Frag}{m:Mp}{H:Hp}{k:L2.Key}{w:Wv}(h:wK k=some w):ai K m H w (kV k):=by
 cases k with
 | inl i=>cases h;unfold ai;rfl
 | aL=>cases h;unfold ai;rfl
 | inr x=>
  have h:(if aQ x=true then some (Wv.str x) else none)=some w:=h
  by_cases c:aQ x=true
  ·rw[if_pos c] at h;cases h;unfold ai;exact⟨rfl,c⟩
  ·rw[if_neg c] at h;cases h
theorem zq{K:PySem.W.Frag}{m:Mp}{H:Hp}:∀{ks:List L2.Key}{ws:List Wv},wKs ks=some ws->ag K m H ws (ks.map kV)
 | [],ws,h=>by cases h;exact ag.nil
 | k::r,ws,h=>by
  unfold wKs at h
  cases e1:wK k with
  | none=>rw[e1] at h;cases h
  | some w=>
   cases e2:wKs r with
   | none=>rw[e1,e2] at h;cases h
   | some l=>rw[e1,e2] at h;cases h;exact ag.cons (EC e1) (zq e2)
theorem sh{prog:aai}{w:aal}:∀{kvs:List (L2.Key×aak)}{vs:List aak},vs.length=kvs.length->(∀(j:Nat)(v:aak),vs[j]? =some v->∃k x,kvs[j]? =some (k,x)/\(aZ prog w).is k v=true)->Vals ((kvs.map (·.1)).map kV) vs
 | [],[],_,_=> .nil
 | [],_::_,h,_=>by simp at h
 | _::_,[],h,_=>by simp at h
 | kv::r,v::vs,h,hv=>by
  obtain⟨k,x,e,hk⟩:=hv 0 v rfl
  cases e
  refine .cons ?_ (sh (by simpa using h) λj v' e=>hv (j+1) v' (by simpa using e))
  rcases b7 hk with ⟨i,t,rfl,rfl⟩ | ⟨x,t,rfl,rfl⟩ | ⟨rfl,rfl⟩
  ·exact⟨t,rfl⟩
  ·exact⟨t,rfl⟩
  ·rfl
section
variable {X:Cx} {pins:List (aae×Obj)} {σ:L2.St} {m:Mp} {H:Hp} {st:Hs} {s:aaj}
theorem ED(I:Inv X pins σ H s):QC X X.base s H:=by
 have nL:X.base.get? X.env.locals=none:=wW (bb I.ok.BS I.ok.above)
 refine⟨I.bs,bb I.ok.BS I.sz,nL,λb hb=>?_,I.mod⟩
 rcases List.mem_cons.mp (I.jx b hb) with e | e
 ·rw[e];exact nL
 ·cases q:X.base.get? b with
  | none=>rfl
  | some o=>exact absurd e (I.ok.OO q)
theorem vF{k0:Nat}{f l:aae}{sp:V->Hp->VK->Prop}{b:Bool}{kw:List (Str×aak)}{xs:List (L2.Key×V)}{ws kws:List Wv}{kk:List Kw}{Q:VK}(ha1:argsOk "sorted" ⟨[.ref l],kw⟩)(ha2:∀x,argsOk "list.sort" ⟨[.ref x],kw⟩)(ht:∀x,Builtin.«list.sort» ⟨[.ref x],kw⟩=ksk_tree x (.ref f) b)
  (hc:X.calm=true)(kf:OD X.prog X.w X.K X.mg X.base k0 f sp)(hr:fc (k0+2) X.A)(I:Inv X pins σ H s)(S:bo X.K m st H)(hq:Rd H l (.dK xs))(rv:ag X.K m H ws ((xs.map (·.1)).map kV))(hs:Ke X m H st sp ws kws)(hkk:mz kws=some kk)(hz:ws.length < 64)
  (fin:∀p H' m' vs',H' p=none->Ext X.K m H m' H'->bo X.K m' st H'->ag X.K m' H' ((iy b kk).map λi=>ws.getD i .aL) vs'->Q (.ref p) (upd H' p (.lst vs'))) :
  aax (model X.prog X.w) X.A (call (.builtin "sorted") [.ref l] kw) (EP X pins σ Q) X.xe s:=by
 obtain⟨z,lo,WL,rel,dd⟩:=pB I.hok hq
 obtain⟨ep,hat⟩:=dd.dictAt
 have l2:=rv.length
 have l3:=rel.length
 simp only[aA] at l2
 refine call_function_entry_kw kind_sorted plain_sorted entry_sorted ha1 ?_
 unfold Builtin.«sorted»
 refine aay (m:=checkCount "sorted" 1 1 _) (aaE (aay (kdu_collect (A:=X.A.in1) (kdl_dict (knd:=aZ X.prog X.w) (kvs:=WL) (ep:=ep) lo) (I.ok.hd hc) hat (by rw[<-l3];exact z) λh' tk acc hk hacc=>?_)))
 have hl:acc.toList.length=WL.length:=by rw[Cg];exact hacc.1
 have hv:Vals ((xs.map (·.1)).map kV) acc.toList:=by
  have:=sh (prog:=X.prog) (w:=X.w) hl λj v e=>hacc.2 j v (by rw[<-Pl];exact e)
  rwa [<-rel.keys] at this
 refine aay (aaC ?_ (by rw[hl,sizeLine_eq];omega))
 show aax _ _ _ _ _ { s with heap:=h'.push (seqObj "list" acc.toList.toArray 0),toks:=tk }
 have I0:Inv X pins σ H { s with heap:=h',toks:=tk }:=I.kept (t':=tk) hk
 have hh:(h'.push (seqObj "list" acc.toList.toArray 0)).get? h'.objs.size=some (seqObj "list" acc.toList.toArray 0):=cq _ rfl
 have I1:Inv X pins σ H { s with heap:=h'.push (seqObj "list" acc.toList.toArray 0),toks:=tk }:=I.kept (t':=tk) λc o e=>aO _ (hk c o e)
 refine aay (aaA (wpAny_call_entry_kw slot_list_sort ⟨_,hh,rfl⟩ entry_list_sort ?_ (ha2 _)))
 show aax (model X.prog X.w) X.A.in1.in1 (Builtin.«list.sort» ⟨[.ref h'.objs.size],kw⟩) _ _ _
 rw[ht]
 exact Ez kf hr I1 S hh (I0.hok.fresh (ak _)) (λH' h=>I0.oY (H':=H') (ak _) h) (ED I1) (ED I0).bz hv rv hs hkk hz λs' H' m' vs' I' hn ex S' r'=>⟨_,rfl,aaE ⟨_,rfl,.ref _,_,I',rfl,fin _ H' m' vs' hn ex S' r'⟩⟩
end
def vG(F:List Wv->Hs->Re Wv)(st:Hs)(ws:List Wv):Option (List Wv):=sd (λρ st=>match ρ with | [some w,_]=>F [w] st | _=> .bad) .aL st ws
theorem EE{F:List Wv->Hs->Re Wv}{st:Hs}{ws kws:List Wv}(h:vG F st ws=some kws):kws.length=ws.length/\∀(i:Nat) w kw,ws[i]? =some w->kws[i]? =some kw->F [w] st= .ok kw st:=vE h
def Bp(b:Bool)(F:List Wv->Hs->Re Wv)(w:Wv)(st:Hs):Re Wv:=match w with
 | .ref l=>(match st[l]? with
  | some (.dct kvs)=>(match wKs (kvs.map (·.1)) with
   | some ws=>if ws.length < 64 then(match vG F st ws with
     | some kws=>(match mz kws with | some kk=> .ok (.ref st.length) (st++[.lst ((iy b kk).map λi=>ws.getD i .aL)]) | none=> .bad)
     | none=> .bad) else .bad
   | none=> .bad)
  | _=> .bad)
 | _=> .bad
def si(b:Bool)(F:List Wv->Hs->Re Wv)(g:GE):GE:=λρ st=>(g ρ st).bind λw st1=>Bp b F w st1
def WM(K:PySem.W.Frag)(F:List Wv->Hs->Re Wv)(v:V)(H:Hp)(Q:VK):Prop:=∃m st w kw,bo K m st H/\ai K m H w v/\F [w] st= .ok kw st/\BV K m H Q kw st
theorem jw.Gm{P:aai}{w:aal}{K:PySem.W.Frag}{mg:Str->Option aak}{base:Heap}{k:Nat}{x:Str}{F:List Wv->Hs->Re Wv}(G:jw P w K mg base k x 1 F):∃f,mg x=some (.ref f)/\OD P w K mg base k f (WM K F):=by
 obtain⟨f,fd,ps,F0,hm,hk,hb⟩:=G
 refine⟨f,hm,?_⟩
 intro A outer s H u v Q hr e0 rv sp
 obtain⟨m,st,w',kw,S,rw',el,ok⟩:=sp
 have QA:spW K 1 F [v] H Q (λ_ _ _=>False):=⟨m,st,[w'],S,ag.cons rw' ag.nil,rfl,by rw[el];exact ok⟩
 have rs:Vals [v] [u]:=.cons rv .nil
 have hl:[u].length=ps.length:=by rw[<-rs.length];exact F0.len _ _ _ _ QA
 have B_:K.In s.heap:=e0.mod.B_.keeps λb o e=>(e0.bs b o e).1
 have bd:=hb s [u] B_ (by rw[ei];exact hl)
 rw[ei] at bd
 refine wpAny_call (codeAny_mono (F0.run A outer s H ⟨[u],[]⟩ [u] [v] Q _ hr e0 bd rs QA) λrr s2 hq=>?_)
 cases rr with
 | error x=>obtain⟨H2,C,fl,z⟩:=hq;exact z
 | ok fw=>
  cases fw with
  | ret u=>exact hq
  | next=>exact hq
  | brk=>exact hq
  | cont=>exact hq
section
variable {X:Cx}
theorem EF{j:Nat}{fx:Str}{f:aae}{F:List Wv->Hs->Re Wv}{b:Bool}{pins:List (aae×Obj)}{σ:L2.St}{H:Hp}{m:Mp}{Q:VK}{w:Wv}{v:V}{st:Hs}{s:aaj}{u:aak}{kw:List (Str×aak)}
  (hr:fc (j+2) X.A)(hc:X.calm=true)(kf:OD X.prog X.w X.K X.mg X.base j f (WM X.K F))
  (ha1:∀l,argsOk "sorted" ⟨[.ref l],kw⟩)(ha2:∀x,argsOk "list.sort" ⟨[.ref x],kw⟩)(ht:∀x,Builtin.«list.sort» ⟨[.ref x],kw⟩=ksk_tree x (.ref f) b)
  (I:Inv X pins σ H s)(S0:bo X.K m st H)(rw':ai X.K m H w v)(ru:RelV v u)(pq:dD X σ m H (Bp b F w st) Q) :
  aax (model X.prog X.w) X.A (call (.builtin "sorted") [u] kw) (EP X pins σ Q) X.xe s:=by
 unfold Bp at pq
 cases w with
 | ref l=>
  dsimp only at pq
  unfold ai at rw'
  obtain⟨a,rfl,hla⟩:=rw'
  cases ru
  cases e0:st[l]? with
  | none=>rw[e0] at pq;exact aa pq
  | some ob=>
   rw[e0] at pq
   cases ob with
   | dct kvs=>
    dsimp only at pq
    obtain⟨xs,y1,y2⟩:=(show ∃ys,H a=some (.dK ys)/\RelK X.K m H kvs ys from S0.obj _ _ _ hla e0)
    cases el:wKs (kvs.map (·.1)) with
    | none=>rw[el] at pq;exact aa pq
    | some ws=>
     rw[el] at pq
     dsimp only at pq
     by_cases UL:ws.length < 64
     ·rw[if_pos UL] at pq
      cases ek:vG F st ws with
      | none=>rw[ek] at pq;exact aa pq
      | some kws=>
       rw[ek] at pq
       dsimp only at pq
       cases UM:mz kws with
       | none=>rw[UM] at pq;exact aa pq
       | some kk=>
        rw[UM] at pq
        dsimp only at pq
        obtain⟨gl,gk⟩:=EE ek
        refine vF (b:=b) (ha1 a) ha2 ht hc kf hr I S0 (.inl y1) (by rw[<-y2.1];exact zq el) ⟨gl,λi w kw' e1 e2 H' m' v' Q' ex' S' UN ok=>?_⟩ UM UL λp H' m' vs' hn ex' S' UN=>?_
        ·exact⟨m',st,w,kw',S',UN,gk i w kw' e1 e2,ok⟩
        ·exact pq (.ref p) (m'++[p]) _ (ex'.trans (Ext.more.trans (Ext.upd (.inl hn)))) (S'.alloc hn UN) (S'.newest p _)
     ·rw[if_neg UL] at pq;exact aa pq
   | _=>exact aa pq
 | _=>exact aa pq
theorem IU{j:Nat}{x:Str}{p pos kp xp:Pos}{e:Expr}{g:GE}{F:List Wv->Hs->Re Wv}
  (hr:fc (j+2) X.A)(hc:X.calm=true)(hg:Gl X "sorted")(hm:X.mg "sorted"=none)(he:JE X e g)(hF:jw X.prog X.w X.K X.mg X.base j x 1 F)(hx:Gl X x)(hdb:(x == ("__debug__":Str))=false)
  (hs:aaw [e] X.env=[(false,eval e X.env)]):JE X (.Call (.Name "sorted" p) [e] [UJ (.Name x xp) kp] pos) (si false F g):=by
 intro ρ st σ H m Q S0 R pq pins s I
 unfold si at pq
 obtain⟨f,Yh,kf⟩:=hF.Gm
 have first:=he.go (T:=λv H1=>∃w st1 m1,dD X σ m H (Bp false F w st1) Q/\Ext X.K m H m1 H1/\bo X.K m1 st1 H1/\ai X.K m1 H1 w v) S0 R (ar.bind pq) λw st1 v m1 H1 p1 e1 S1 r1=>⟨w,st1,m1,p1,e1,S1,r1⟩
 refine wpAny_Call_Name_kw (mO I hg hm Bo ?_ (by decide) (by decide))
 refine callWith_kw ?_ (by rw[hs];rfl) (by rw[hs];rfl)
 rw[hs]
 show aax _ _ (spliced ((false,eval e X.env)::[])) _ _ s
 refine ip (bx (first pins s I) λu s1 ⟨v,H1,I1,ru,w,st1,m1,p1,e1,S1,Yi⟩=>?_)
 refine mQ ?_
 show aax _ _ (evalAll ((do let v <-eval (.Name x xp) X.env;standAt pos;pure v)::[])) _ _ s1
 refine wpAny_evalAll_cons (aay (lM I1 hx Yh ?_ hdb))
 refine aay (wpAny_standAt (aaE (wpAny_evalAll_nil ?_)))
 exact EF (b:=false) (kw:=[(lO "key",.ref f)]) (fx:=x) hr hc kf (λ_=>ksk_s1 _ _) (λ_=>ksk_l1 _ _) (λy=>ksk_t1 f y) I1 S1 Yi ru (dD.shift p1 e1)
end
theorem IV{P:aai}{w:aal}{k:L2.Key}{v:aak}(h:(aZ P w).is k v=true):RelV (kV k) v:=by
 rcases b7 h with ⟨i,t,rfl,rfl⟩ | ⟨x,t,rfl,rfl⟩ | ⟨rfl,rfl⟩
 ·exact⟨t,rfl⟩
 ·exact⟨t,rfl⟩
 ·rfl
theorem EG{P:aai}{w:aal}:∀{xs:List (L2.Key×V)}{vs:List (L2.Key×aak)}{es:List DictEntry},KV xs vs->Pairs (aZ P w) es vs->es.length=xs.length/\∀(i:Nat)(e:DictEntry),es[i]? =some e->∃x,xs[i]? =some x/\RelV (kV x.1) e.key/\RelV x.2 e.val
 | [],_,_,.nil,.nil=>⟨rfl,λi e h=>by simp at h⟩
 | _::_,_,_,.cons r t,.cons h1 h2 p=>by
  obtain⟨i1,i2⟩:=EG t p
  refine⟨by simp[i1],λi e h=>?_⟩
  cases i with
  | zero=>
   cases h
   exact⟨_,rfl,by rw[r.1];exact IV h1,by rw[h2];exact r.2⟩
  | succ i=>exact i2 i e (by simpa using h)
theorem qr{P:aai}{w:aal}{H:Hp}{h:Heap}{a:aae}{o:Obj}{xs:List (L2.Key×V)}(ok:jh P w H h)(e:H a=some (.fb o (.dK xs))) :
  ∃es ep,(a == sysModules)=false/\o.data= .dict es ep/\xE h a es ep/\es.size=xs.length/\∀(i:Nat)(hi:i < es.size),∃x,xs[i]? =some x/\RelV (kV x.1) es[i].key/\RelV x.2 es[i].val:=by
 obtain⟨ho,z,lo,vs,kv,o',es,ep,g1,g2,g3,_,g4,g5⟩:=ok a _ e
 rw[ho] at g1
 cases g1
 obtain⟨l1,l2⟩:=EG kv g4
 refine⟨es,ep,lo,g3,⟨o,ho,g2.1,g3⟩,by simpa using l1,λi hi=>l2 i es[i] ?_⟩
 simp[hi]
theorem Nq{X:Cx}{pins:List (aae×Obj)}{σ:St}{H:Hp}{s:aaj}{a:aae}{xs:List (L2.Key×V)}(I:Inv X pins σ H s)(e:H a=some (.dK xs)):∃o,s.heap.get? a=some o/\Inv X pins σ (upd H a (.fb o (.dK xs))) s:=by
 obtain⟨z,lo,vs,kv,o,es,ep,g1,g2⟩:=id (I.hok a _ e)
 exact⟨o,g1,oC (t':=s.toks) (h':=s.heap) I (by rw[e];exact lT) (Heap.SameBut.refl _ _) ⟨o,g1⟩ ⟨g1,z,lo,vs,kv,o,es,ep,g1,g2⟩⟩
def OG(a:aae)(o:Obj)(xs:List (L2.Key×V)):It :=
 ⟨λi H=>H a=some (.fb o (.dK xs))/\i < xs.length,λi H v H'=>∃p x,v= .ref p/\H p=none/\xs[i]? =some x/\H'=upd H p (.tup [kV x.1,x.2]),λi H=>H a=some (.fb o (.dK xs))/\xs.length<=i⟩
theorem vH{P:aai}{w:aal}{K:PySem.W.Frag}{es':List Expr}{kt:Nat}{pt:Pos}(a it:aae)(o:Obj)(xs:List (L2.Key×V)):Turn P w K (.Tuple es' kt pt) (OG a o xs) [it] it (λi h=>∃es ep ok ov,o.data= .dict es ep/\IsItemIter h it a i es.size ep ok ov) where
 mem:=by simp
 obj:=λi h st b hb=>by
  obtain⟨es,ep,ok,ov,_,q1⟩:=st
  have e:b=it:=by simpa using hb
  subst e
  exact⟨_,q1,λv z=>by cases z⟩
 keep:=λi h h' st k=>let ⟨es,ep,ok,ov,hd,ki⟩:=st;⟨es,ep,ok,ov,hd,k it (by simp) _ ki⟩
 self:=λ_ _ _ _ _ st h=>let ⟨_,_,_,_,_,ki⟩:=st;PySem.W.kcp_self ki h
 item:=by
  intro X hP hw hK hc i pins s σ H E I hf st hg
  subst hP hw hK
  obtain⟨es,ep,ok,ov,hd,ki⟩:=st
  obtain⟨he,hi⟩:=hg
  obtain⟨Yj,Yk,lo,hd2,raw,sz,keys⟩:=qr I.hok he
  rw[hd] at hd2
  cases hd2
  have fi:=hf it (by simp)
  have hi':i < es.size:=by omega
  obtain⟨x,e1,e2,e4⟩:=keys i hi'
  refine Bj ki raw hi' λh' ho hT hsz hk=>?_
  refine⟨.ref s.heap.objs.size,rfl,?_⟩
  refine wpAny_letOwnedTupleGo_items ho λh2 Us sb=>?_
  have hfr:H s.heap.objs.size=none:=I.hok.fresh (ak _)
  have lt:∀b o,s.heap.get? b=some o->b≠s.heap.objs.size:=λb o q=>a_ (aE q)
  have RX:it≠s.heap.objs.size:=lt _ _ ki
  have kp:∀b o,b≠it->s.heap.get? b=some o->h2.get? b=some o:=λb o b1 q=>(sb.2 b b1).trans (hk b o b1 q)
  have kt:∀b u,H b=some u->b≠s.heap.objs.size:=λb u q=>bH q hfr
  have ke:∀b u,H b=some u->b≠it:=λb u q=>bH q fi.1
  have T2:h2.get? s.heap.objs.size=some { cls:=.type "tuple",data:=.seq #[es[i].key,es[i].val] }:=(sb.2 _ (aW RX)).trans hT
  refine⟨.ref s.heap.objs.size,upd H s.heap.objs.size (.tup [kV x.1,x.2]),?_,rfl,⟨s.heap.objs.size,x,rfl,hfr,e1,rfl⟩,⟨es,ep,_,_,hd,Us⟩,λc hb=>?_⟩
  ·refine I.rl (s':={ s with heap:=h2 }) (ch:=[it]) rfl ?_ ?_ I.bare (λb hb=>⟨(hf b hb).2.2.2.1,(hf b hb).2.1,(hf b hb).2.2.2.2.1,(hf b hb).2.2.2.2.2⟩)
   ·refine⟨λb o q _ _ hx=>kp b o (λz=>hx (by simp[z])) q,λb o q _ _ hx=>⟨o.slots,kp b o (λz=>hx (by simp[z])) q⟩,λb o q n _=>by rw[aw (lt b o q)];exact n,λb o q hx=>⟨o,kp b o (λz=>hx (by simp[z])) q⟩,λb ys q=>by rw[aw (kt b _ q)];exact q,λb o y q=>by rw[aw (kt b _ q)];exact q,λb ps q=>⟨#[],by rw[aw (kt b _ q),q];simp⟩⟩
   ·intro c u q
    by_cases hb:c=s.heap.objs.size
    ·subst hb
     rw[aI] at q
     cases q
     exact⟨by show 2<=aav;decide,[es[i].key,es[i].val],.cons e2 (.cons e4 .nil),⟨_,T2,rfl,0,rfl⟩,λo q=>by rw[T2] at q;cases q;rfl⟩
    ·rw[aw hb] at q
     refine(I.hok c u q).stay (λc' v hc g=>?_) (λc' g=>by rw[aw (kt c' _ g)];exact g) λc' ys g=>by rw[aw (kt c' _ g)];exact g
     rcases hc with z | z
     ·subst z;exact kp _ _ (ke _ _ q) g
     ·exact kp _ _ (ke _ _ z) g
  ·have z:c=it:=by simpa using hb
   rw[z,aw RX];exact fi.1
 done:=by
  intro X hP hw hK hc i pins s σ H E I hf st hg
  subst hP hw hK
  obtain⟨es,ep,ok,ov,hd,ki⟩:=st
  obtain⟨he,hi⟩:=hg
  obtain⟨Yj,Yk,lo,hd2,raw,sz,keys⟩:=qr I.hok he
  rw[hd] at hd2
  cases hd2
  obtain⟨f0,f1,f2,f3,f4,f5⟩:=hf it (by simp)
  exact Ep (I.ok.hd hc) ki raw (by omega) λh' eb=>⟨rfl,I.turned (t':=s.toks) (λb ob hb e=>eb b ob hb e) f0 f1 f3 f4 f5⟩
section
variable {X:Cx} {es':List Expr} {kt:Nat} {pt:Pos}
def IW(te:TE):TI:=λσ H R=>te σ H λx H1=>∃a xs,x= .ref a/\((H1 a=some (.dK xs)/\∀o,R (OG a o xs) (upd H1 a (.fb o (.dK xs))))\/∃o,H1 a=some (.fb o (.dK xs))/\R (OG a o xs) H1)
theorem sj{pins:List (aae×Obj)}{σ:St}{H:Hp}{s:aaj}{R:It->Hp->Prop}{E:aak->aaj->Prop}{a:aae}{o:Obj}{xs:List (L2.Key×V)}(I:Inv X pins σ H s)(e:H a=some (.fb o (.dK xs)))(r:R (OG a o xs) H) :
  aax (model X.prog X.w) X.A (call (.builtin "dict.items") [.ref a]) (λv s1=>aax (model X.prog X.w) X.A (pyIter v) (Ts X pins σ (.Tuple es' kt pt) R) E s1) E s:=by
 obtain⟨es,ep,lo,hd,raw,sz,keys⟩:=qr I.hok e
 refine Bh lo raw ?_
 obtain⟨o1,a1,a2,a3⟩:=raw
 refine Bi (es:=es) (ep:=ep) ⟨_,cq _ rfl,rfl,rfl⟩ ⟨o1,aO _ a1,a2,a3⟩ ?_
 refine⟨_,[_],_,OG a o xs,H,rfl,I.kept (t':=s.toks) λb ob q=>aO _ (aO _ q),vH a _ o xs,⟨es,ep,_,_,hd,cq _ rfl⟩,λb hb=>?_,r⟩
 rw[List.mem_singleton.mp hb]
 exact I.oY (by rw[Eo];exact oA _) (I.hok.fresh (by rw[Eo];exact oA _))
theorem Bq{e:Expr}{te:TE}{apos cpos:Pos}(he:PE X e te)(m:M0 X e "items" apos cpos):PI X (.Tuple es' kt pt) (.Call (.Attribute e "items" apos) [] [] cpos) (IW te):=by
 intro pins s σ H R I h
 refine wpAny_Call_method m.base rfl m.line PySem.F.plainAttrs_dict PySem.F.slot_dict_items PySem.F.type_dict_items (bx (he pins s σ H _ I h) λu s1 ⟨x,H1,I1,rx,a,xs,ex,q⟩=>?_)
 subst ex
 obtain rfl:u=aU a:=rx
 have d:Ov H1 a:=by
  rcases q with ⟨e1,_⟩ | ⟨o,e1,_⟩
  ·exact .inl ⟨xs,.inl e1⟩
  ·exact .inl ⟨xs,.inr ⟨o,e1⟩⟩
 obtain⟨t1,t2,_⟩:=tq I1 d
 refine⟨t1,t2,mR rfl (show aax _ _ (evalArgs (j8 "dict.items") true [] []) _ _ _ from ?_)⟩
 refine PyProof.Rows.evalArgs_none ?_
 rcases q with ⟨e1,k⟩ | ⟨o,e1,k⟩
 ·obtain⟨o,_,I2⟩:=Nq I1 e1
  exact sj I2 aI (k o)
 ·exact sj I1 e1 k
def gz:List (L2.Key×Wv)->Option (List Wv)
 | []=>some []
 | kv::r=>(match wK kv.1,gz r with | some k,some l=>some (.tup [k,kv.2]::l) | _,_=>none)
def kl(w:Wv)(st:Hs):Re J8:=match w with
 | .ref l=>(match st[l]? with
  | some (.dct kvs)=>(match gz kvs with | some ws=> .ok (none,ws) (st.set l (.AF kvs)) | none=> .bad)
  | _=> .bad)
 | _=> .bad
def fV(g:GE):B0:=λρ st=>(g ρ st).bind kl
theorem nZ:∀{kvs:List (L2.Key×Wv)}{ws:List Wv},gz kvs=some ws->ws.length=kvs.length/\∀(i:Nat)(h:i < ws.length),∃kv k,kvs[i]? =some kv/\wK kv.1=some k/\ws[i]= .tup [k,kv.2]
 | [],ws,e=>by cases e;exact⟨rfl,λi h=>by cases h⟩
 | k::ks,ws,e=>by
  unfold gz at e
  cases q1:wK k.1 with
  | none=>rw[q1] at e;cases e
  | some ns=>
   cases q2:gz ks with
   | none=>rw[q1,q2] at e;cases e
   | some l=>
    rw[q1,q2] at e
    cases e
    obtain⟨h1,h2⟩:=nZ q2
    refine⟨by simp[h1],λi h=>?_⟩
    cases i with
    | zero=>exact⟨k,ns,rfl,q1,rfl⟩
    | succ i=>exact h2 i (by simpa using h)
theorem Br{m1:Mp}{H1:Hp}{a:aae}{o:Obj}{kvs:List (L2.Key×Wv)}{xs:List (L2.Key×V)}{ws:List Wv}(e:H1 a=some (.fb o (.dK xs)))(r:RelK X.K m1 H1 kvs xs)(hk:gz kvs=some ws):xF X (none,ws) m1 H1 (OG a o xs):=by
 obtain⟨l1,g1⟩:=nZ hk
 have l2:ws.length=xs.length:=by rw[l1,r.length]
 refine⟨λk H m' st e' S c h=>⟨e'.fb _ _ _ e,by rw[<-l2];exact h⟩,λk H m' st e' S c h=>⟨e'.fb _ _ _ e,by rw[<-l2];exact lQ h.symm⟩,λk h H v H' m' st e' S c y=>?_⟩
 obtain⟨p,x,rfl,fr,y1,rfl⟩:=y
 obtain⟨kv,kw,f1,f2,f3⟩:=g1 k h
 obtain⟨u,f4,f5⟩:=vw r f1
 rw[y1] at f4
 cases f4
 have eU:Ext X.K m' H m' (upd H p (.tup [kV kv.1,u])):=Ext.iG (.inl fr)
 refine⟨eU,S.fresh fr,?_⟩
 rw[f3]
 unfold ai
 exact⟨p,_,rfl,aI,ag.cons (EC f2) (ag.cons (ai.mono (e'.trans eU) _ _ f5) ag.nil)⟩
theorem xN{e:Expr}{g:GE}{apos cpos:Pos}(h:JE X e g)(m:M0 X e "items" apos cpos):IA X (.Tuple es' kt pt) (.Call (.Attribute e "items" apos) [] [] cpos) (fV g):=by
 refine⟨_,Bq aG m,λρ st σ H m Q S R p=>?_⟩
 refine h.go S R (ar.bind p) λw st1 v m1 H1 p1 e1 S1 rw'=>?_
 unfold kl at p1
 cases w with
 | ref l=>
  unfold ai at rw'
  obtain⟨a,rfl,ha⟩:=rw'
  dsimp only at p1
  cases el:st1[l]? with
  | none=>rw[el] at p1;exact aa p1
  | some ob=>
   rw[el] at p1
   cases ob with
   | dct kvs=>
    dsimp only at p1
    cases ek:gz kvs with
    | none=>rw[ek] at p1;exact aa p1
    | some ws=>
     rw[ek] at p1
     obtain⟨xs,h1,h2⟩:=(show ∃ys,H1 a=some (.dK ys)/\RelK X.K m1 H1 kvs ys from S1.obj _ _ _ ha el)
     refine⟨a,xs,rfl,.inl ⟨h1,λo=>?_⟩⟩
     have ex:Ext X.K m1 H1 m1 (upd H1 a (.fb o (.dK xs))):=Ext.iG (.inr (.inr (.inl ⟨_,h1⟩)))
     have S2:bo X.K m1 (st1.set l (.AF kvs)) (upd H1 a (.fb o (.dK xs))):=S1.pE ha el rfl ⟨o,xs,aI,h2.mono ex⟩
     exact p1 m1 _ _ (e1.trans ex) S2 trivial (Br aI (h2.mono ex) ek)
   | _=>exact aa p1
 | _=>exact aa p1
end
theorem jO:entryFor table "dict.update.loop"=some Builtin.«dict.update.loop»:=entryFor_of_tree (by kernel_rfl)
theorem eR:plainId "dict.update.loop"=true:=by decide+kernel
theorem Bs:typeLookup (.type "list") "keys"=pure none:=am_miss_of_fast (by decide+kernel)
def gQ(kvs more:List (L2.Key×aak)):List (L2.Key×aak):=more.foldl (λacc kv=>stored acc kv.1 kv.2) kvs
theorem xO(kvs:List (L2.Key×aak))(k:L2.Key)(v:aak):(stored kvs k v).length<=kvs.length+1:=by
 unfold stored
 split<;>simp
theorem lz:∀(more kvs:List (L2.Key×aak)),(gQ kvs more).length<=kvs.length+more.length
 | [],kvs=>ak _
 | kv::r,kvs=>by
  have h1:=lz r (stored kvs kv.1 kv.2)
  have h2:=xO kvs kv.1 kv.2
  show(gQ (stored kvs kv.1 kv.2) r).length<=_
  simp only[lb]
  omega
section
variable {prog:aai} {w:aal} {A:aaf}
theorem Bt{E:aak->aaj->Prop}{s:aaj}{a:aae}{o:Obj}{xs:Array aak}{k:Nat}{Q:Option aak->aaj->Prop}
  (hx:s.heap.get? a=some o)(hc:o.cls= .type "list")(hdat:o.data= .seq xs k)(hd:o.dict=none)(hA:A.handled=none)
  (h:∀h' tk,(∀b ob,s.heap.get? b=some ob->h'.get? b=some ob)->Q none { s with heap:=h',toks:=tk }):aax (model prog w) A (getAttr? (.ref a) "keys") Q E s:=by
 obtain⟨c,dct,dat,sl⟩:=o
 simp only at hc hdat hd
 subst hc hdat hd
 obtain⟨hp,g,d,tk,os⟩:=s
 have hT:∀tk',(⟨hp,g,d,tk',os⟩:aaj).TypeIs (.ref a) "list":=λ_=>⟨_,hx,rfl⟩
 have f1:=sub_AttributeError
 have f3:=F.slot_list_getattribute.lookup
 have f4:=F.slot_list_getattribute.bind (.ref a)
 have f5:=am_list_getattr_none
 unfold getAttr? getAttrBy? getAttrBy
 repeat (any_goals (first | assumption | exact hT _ | ((with_reducible show aax _ _ (call (j8 "list.__getattribute__") _ _) _ _ _);refine call_meets F.slot_list_getattribute (hT _) am_entry_list_getattribute (F.args_list_getattribute_2 _ _) (meets_getattribute_miss_list a xs k sl "keys" _ Bs (by decide) (by decide+kernel)) ⟨hx,hA,λh' tk e hx'=>?_⟩) | wp_step))
 obtain⟨t',u',he⟩:=hx'.there
 show aax _ _ (getattributeRaised _ _ _ _ _ _ _) _ _ _
 unfold getattributeRaised
 repeat (any_goals (first | assumption | wp_step))
 exact h _ _ hx'.keeps
def UO(h:Heap)(v:aak)(kv:L2.Key×aak)(D I:aae):Prop:=∃t o n u,v= .ref t/\t≠D/\t≠I/\h.get? t=some o/\o.cls= .type "tuple"/\o.data= .seq #[u,kv.2] n/\kO kv.1 u=true
theorem vI{R:Result->aaj->Prop}(hh:A.handled=none)(I ax D:aae)(UP:ax≠I)(hDI:D≠I)(WN:D≠ax)(items:Array aak)(kvs:List (L2.Key×aak))(hn:kvs.length=items.size)(hz:items.size<=aav) :
  ∀(k i:Nat)(s:aaj),items.size - i=k->i<=items.size->s.heap.IsListIter I ax i->s.heap.IsList ax items->s.heap.DictOf (aZ prog w) D (gQ [] (kvs.take i))->(∀(j:Nat)(v:aak)(kv:L2.Key×aak),items[j]? =some v->kvs[j]? =some kv->UO s.heap v kv D I)->
   (∀h' tk,(∀b o,b≠D->b≠I->s.heap.get? b=some o->h'.get? b=some o)->h'.DictOf (aZ prog w) D (gQ [] kvs)->R (.ok (.ret .none)) { s with heap:=h',toks:=tk })->
   aap (model prog w) A (.builtin "dict.update.loop" ⟨[.ref D,.ref I,rawInt i,.none],[]⟩) R s
 | 0,i,s,hk,hi,st1,st2,z,hp,q=>by
  have e:i=items.size:=by omega
  subst e
  refine codeAny_builtin jO ?_
  rw[QE eR _]
  have W:=Walks.list (prog:=prog) (w:=w) (A:=A.in1) (by simp[hh]) I ax UP items
  refine aay (m:=pyNext (.ref I)) (W.done s _ _ ⟨st1,st2⟩ λh' tk kp=>?_)
  refine(show aax _ _ (Builtin.Dict.addKeywords D [] >>= _) _ _ _ from aay (aaE (aaE (q h' tk (λb o n1 n2 eo=>kp b o (by simp[n2]) eo) ?_))))
  rw[<-hn,List.take_length] at z
  exact z.at λo eo=>kp D o (by simp[hDI]) eo
 | k+1,i,s,hk,hi,st1,st2,z,hp,q=>by
  refine codeAny_builtin jO ?_
  rw[QE eR _]
  have W:=Walks.list (prog:=prog) (w:=w) (A:=A.in1) (by simp[hh]) I ax UP items
  refine aay (m:=pyNext (.ref I)) (W.item i s _ _ (by omega) ⟨st1,st2⟩ λv h1 tk hP st kp=>?_)
  have hlt:i < kvs.length:=by omega
  obtain⟨t,o,n,u,rfl,n1,n2,ho,hc,hd,hu⟩:=hp i v kvs[i] hP (bR hlt)
  have WO:h1.get? t=some o:=kp t o (by simp[n2]) ho
  have z1:h1.DictOf (aZ prog w) D (gQ [] (kvs.take i)):=z.at λo eo=>kp D o (by simp[hDI]) eo
  have hl1:(gQ [] (kvs.take i)).length<=aav:=by
   have:=lz (kvs.take i) []
   simp only[jz,pz] at this
   omega
  refine aay (m:=holding [aU t] _) (aaA (aay (wpAny_tryCatch ?_)))
  unfold Builtin.Dict.pairItems
  refine aay (wpAny_typeOf (show oK { s with heap:=h1,toks:=tk } (.ref t) "tuple" from⟨o,WO,hc⟩) ?_)
  have ct:(hJ "tuple" == hJ "list"||hJ "tuple" == hJ "tuple")=true:=by decide
  rw[if_pos ct]
  refine aay (wpAny_seqItems (s:={ s with heap:=h1,toks:=tk }) WO hd (aaE ?_))
  refine(show aax _ _ (holding [u,kvs[i].2] (dictSet D u kvs[i].2)) _ _ _ from aaA (wpAny_dictSet_pairs (s:={ s with heap:=h1,toks:=tk }) (knd:=aZ prog w) (hsz:=hl1) hu z1 λh2 z2 sb=>?_))
  refine aaE ⟨plainId_quiet eR _,?_⟩
  have e2:gQ [] (kvs.take (i+1))=stored (gQ [] (kvs.take i)) kvs[i].1 kvs[i].2:=by
   unfold gQ
   rw[List.take_add_one,bR hlt,Option.toList_some,List.foldl_append]
   rfl
  refine vI hh I ax D UP hDI WN items kvs hn hz k (i+1) _ (by omega) (by omega) (st.1.at λo eo=>?_) (st.2.at λo eo=>?_) (by rw[e2];exact z2) (λj v kv e1 e3=>?_) λh' tk' UQ z'=>q h' tk' (λb o m1 m2 eo=>UQ b o m1 m2 ?_) z'
  ·exact(sb.2 I (aW hDI)).trans eo
  ·exact(sb.2 ax (aW WN)).trans eo
  ·obtain⟨t',o',n',u',g1,g2,g3,g4,g5⟩:=hp j v kv e1 e3
   exact⟨t',o',n',u',g1,g2,g3,(sb.2 t' g2).trans (kp t' o' (by simp[g3]) g4),g5⟩
  ·exact(sb.2 b m1).trans (kp b o (by simp[m2]) eo)
theorem vJ{E:aak->aaj->Prop}{s:aaj}{l:aae}{items:Array aak}{kvs:List (L2.Key×aak)}{n:Nat}{Q:aak->aaj->Prop}(hh:A.handled=none)(hl:s.heap.get? l=some { cls:=.type "list",data:=.seq items n })(hz:items.size<=aav)(hn:kvs.length=items.size)
  (hp:∀(j:Nat)(v:aak)(kv:L2.Key×aak),items[j]? =some v->kvs[j]? =some kv->∃t o n u,v= .ref t/\s.heap.get? t=some o/\o.cls= .type "tuple"/\o.data= .seq #[u,kv.2] n/\kO kv.1 u=true)
  (h:∀h' tk,h'.DictOf (aZ prog w) s.heap.objs.size (gQ [] kvs)->(∀b o,s.heap.get? b=some o->h'.get? b=some o)->Q (.ref s.heap.objs.size) { s with heap:=h',toks:=tk }) :
  aax (model prog w) A (call (.type "dict") [.ref l]) Q E s:=by
 refine callType_codes (Q₁:=λobj s₁=>obj= .ref s.heap.objs.size/\s₁={ s with heap:=s.heap.push { cls:=.type "dict",data:=.dict #[] } }) F.kt_called_dict (F.kt_typeCall_dict_1 _) F.entry_dict_init (kt_code_dict_new _ ⟨rfl,rfl⟩) ?_
 rintro obj s₁ ⟨rfl,rfl⟩
 have n1:(s.heap.push { cls:=.type "dict",data:=.dict #[] }).get? s.heap.objs.size=some { cls:=.type "dict",data:=.dict #[] }:=cq _ rfl
 have tn:oK { s with heap:=s.heap.push { cls:=.type "dict",data:=.dict #[] } } (.ref s.heap.objs.size) "dict":=⟨_,n1,rfl⟩
 have hl1:(s.heap.push { cls:=.type "dict",data:=.dict #[] }).get? l=some { cls:=.type "list",data:=.seq items n }:=aO _ hl
 have to:oK { s with heap:=s.heap.push { cls:=.type "dict",data:=.dict #[] } } (.ref l) "list":=⟨_,hl1,rfl⟩
 have D0:(s.heap.push { cls:=.type "dict",data:=.dict #[] }).DictOf (aZ prog w) s.heap.objs.size []:=LU s.heap
 refine⟨tn,F.args_dict_init_2 _ _,?_⟩
 unfold Builtin.«dict.__init__»
 refine aay ?_
 unfold Builtin.Dict.selfAndRest
 refine aay (wpAny_notOrdered_dict tn (show aax _ _ (pure (s.heap.objs.size,[aU l])) _ _ _ from aaE ?_))
 refine(show aax _ _ (Nr "dict.__init__" s.heap.objs.size (.ref l) [] .none) _ _ _ from ?_)
 unfold Nr
 refine aay (wpAny_typeOf to ?_)
 rw[if_pos (by decide)]
 refine aay (Bt (A:=A.in1.in1) (s:={ s with heap:=s.heap.push { cls:=.type "dict",data:=.dict #[] } }) hl1 rfl rfl rfl (by simp[hh]) λh1 tk kp=>?_)
 simp only[Option.isNone_none,if_true]
 have hl2:h1.get? l=some { cls:=.type "list",data:=.seq items n }:=kp _ _ hl1
 have il:h1.IsList l items:=⟨_,hl2,rfl,n,rfl⟩
 have D1:h1.DictOf (aZ prog w) s.heap.objs.size []:=D0.at λo eo=>kp _ _ eo
 have Yl:s.heap.objs.size < h1.objs.size:=by obtain⟨o,_,_,e,_⟩:=D1;exact aE e
 refine aay (wpAny_rule (aay (wpAny_pyIter_list (s:={ s with heap:=h1,toks:=tk }) il (aaE ⟨plainId_quiet eR _,?_⟩))))
 have hne:s.heap.objs.size≠l:=λe=>absurd (aE hl) (by rw[e];exact eK _)
 refine vI (by simp[hh]) h1.objs.size l s.heap.objs.size (a_ (aE hl2)) (a_ Yl) hne items kvs hn hz (items.size - 0) 0 _ rfl (bY _) ⟨_,cq _ rfl,rfl,rfl⟩ (il.push _) (D1.at λo eo=>aO _ eo) (λj v kv e1 e2=>?_) λh' tk' UQ z=>⟨rfl,h h' tk' z λb o eo=>?_⟩
 ·obtain⟨t,o,m,u,g1,g2,g3⟩:=hp j v kv e1 e2
  have e4:h1.get? t=some o:=kp _ _ (aO _ g2)
  exact⟨t,o,m,u,g1,a_ (aE g2),a_ (aE e4),aO _ e4,g3⟩
 ·have e4:h1.get? b=some o:=kp _ _ (aO _ eo)
  exact UQ b o (a_ (aE eo)) (a_ (aE e4)) (aO _ e4)
end
section
variable {X:Cx}
abbrev Nt(H:Hp):List V->List (L2.Key×V)->Prop:=Paired λv kv=>∃b,v= .ref b/\H b=some (.tup [kV kv.1,kv.2])
theorem EH{pins:List (aae×Obj)}{σ:St}{H:Hp}{s:aaj}(I:Inv X pins σ H s):∀{vs:List V}{ps:List (L2.Key×V)}{its:List aak},Nt H vs ps->Vals vs its->∃kvs:List (L2.Key×aak),KV ps kvs/\kvs.length=its.length/\
  ∀(j:Nat)(v:aak)(kv:L2.Key×aak),its[j]? =some v->kvs[j]? =some kv->∃t o n u,v=aU t/\s.heap.get? t=some o/\o.cls= .type "tuple"/\o.data= .seq #[u,kv.2] n/\kO kv.1 u=true
 | _,_,_,.nil,.nil=>⟨[],.nil,rfl,λj v kv e=>by simp at e⟩
 | _,_,_,.cons (a:=v) (b:=p) h t,.cons r rs=>by
  obtain⟨kvs,i1,i2,i3⟩:=EH I t rs
  obtain⟨b,rfl,hb⟩:=h
  cases r
  obtain⟨_,us,ru,⟨o,g1,g2,n,g3⟩,_⟩:=I.hok b _ hb
  cases ru with
  | cons Ym rt=>
   cases rt with
   | cons Yn Yo=>
    cases Yo
    rename_i u y
    refine⟨(p.1,y)::kvs,.cons ⟨rfl,Yn⟩ i1,by simp[i2],λj v kv e1 e2=>?_⟩
    cases j with
    | zero=>
     cases e1
     cases e2
     exact⟨b,o,n,u,rfl,g1,g2,g3,pA (P:=X.prog) (w:=X.w) Ym⟩
    | succ j=>exact i3 j v kv (by simpa using e1) (by simpa using e2)
theorem xP(hc:X.calm=true):dM X (.type "dict") (λxs H Q=>∃(l:aae)(vs:List V)(ps:List (L2.Key×V)),xs=[.ref l]/\H l=some (.lst vs)/\Nt H vs ps/\∀p,H p=none->Q (.ref p) (upd H p (.dK (lh [] ps)))):=by
 intro pins s σ H xs us Q I r h
 obtain⟨l,vs,ps,rfl,hl,hp,q⟩:=h
 obtain⟨u,rfl,rx⟩:=vals1 r
 cases rx
 obtain⟨z,its,n,hv,g⟩:=I.hok l _ hl
 obtain⟨kvs,i1,i2,i3⟩:=EH I hp hv
 have lv:=hv.length
 have hz:its.toArray.size<=aav:=by rw[a6];omega
 refine vJ (I.ok.hd hc) g hz (by rw[a6];exact i2) (λj v kv e1 e2=>i3 j v kv (by simpa using e1) e2) λh' tk dd kp=>?_
 have rel:KV (lh [] ps) (gQ [] kvs):=KV.merge i1 .nil
 have Yp:(lh [] ps).length<=aav:=by
  have h1:=rel.length
  have h2:=lz kvs []
  simp only[pz] at h2
  omega
 exact⟨.ref s.heap.objs.size,_,I.laid (a:=s.heap.objs.size) (o:=.dK (lh [] ps)) (t':=tk) kp (ak _) (xc Yp (beq_eq_false_iff_ne.mpr (aW (a_ I.big))) rel dd),rfl,q _ (I.hok.fresh (ak _))⟩
def EI:Wv->Option (L2.Key×Wv)
 | .tup [k,w]=>(match keyOf k with | some kk=>some (kk,w) | none=>none)
 | _=>none
def jP:List Wv->Option (List (L2.Key×Wv))
 | []=>some []
 | w::r=>(match EI w,jP r with | some p,some l=>some (p::l) | _,_=>none)
theorem qt{K:PySem.W.Frag}{m:Mp}{H:Hp}:∀{ws:List Wv}{vs:List V}{kvs:List (L2.Key×Wv)},ag K m H ws vs->jP ws=some kvs->∃ps,Nt H vs ps/\RelK K m H kvs ps
 | [],vs,kvs,r,e=>by
  cases e
  unfold ag at r
  subst r
  exact⟨[],.nil,RelK.nil⟩
 | w::ws,vs,kvs,r,e=>by
  unfold ag at r
  obtain⟨x,xs,rfl,r1,r2⟩:=r
  unfold jP at e
  cases e1:EI w with
  | none=>rw[e1] at e;cases e
  | some p=>
   cases e2:jP ws with
   | none=>rw[e1,e2] at e;cases e
   | some l=>
    rw[e1,e2] at e
    cases e
    obtain⟨ps,i1,i2⟩:=qt r2 e2
    unfold EI at e1
    split at e1
    ·rename_i k w'
     cases ek:keyOf k with
     | none=>rw[ek] at e1;cases e1
     | some kk=>
      rw[ek] at e1
      cases e1
      unfold ai at r1
      obtain⟨b,zs,rfl,hb,rz⟩:=r1
      unfold ag at rz
      obtain⟨v1,t1,rfl,q1,rz⟩:=rz
      unfold ag at rz
      obtain⟨v2,t2,rfl,q2,rz⟩:=rz
      unfold ag at rz
      subst rz
      rw[fB q1 ek] at hb
      exact⟨(kk,v2)::ps,.cons ⟨b,rfl,hb⟩ i1,RelK.cons q2 i2⟩
    ·cases e1
def ni:List Wv->Hs->Re Wv:=λws st=>match ws with
 | [.ref l]=>(match st[l]? with
  | some (.lst us)=>(match jP us with | some kvs=> .ok (.ref st.length) (st++[.dct (qb [] kvs)]) | none=> .bad)
  | _=> .bad)
 | _=> .bad
theorem EJ(hc:X.calm=true):cU X (.type "dict") ni:=by
 refine⟨_,xP hc,λws vs st H m Q S r p=>?_⟩
 unfold ni at p
 split at p
 ·rename_i l
  cases e:st[l]? with
  | none=>rw[e] at p;exact aa p
  | some ob=>
   rw[e] at p
   cases ob with
   | lst us=>
    dsimp only at p
    cases ek:jP us with
    | none=>rw[ek] at p;exact aa p
    | some kvs=>
     rw[ek] at p
     obtain⟨v,rfl,rx⟩:=kJ r
     unfold ai at rx
     obtain⟨a,rfl,ha⟩:=rx
     obtain⟨xs,y1,y2⟩:=S.lV ha e
     obtain⟨ps,i1,i2⟩:=qt y2 ek
     refine⟨a,xs,ps,rfl,y1,i1,λq hq=>?_⟩
     have ex:Ext X.K m H (m++[q]) (upd H q (.dK (lh [] ps))):=Ext.more.trans (Ext.iG (.inl hq))
     exact p (.ref q) (m++[q]) _ ex (S.tE hq ⟨_,aI,(RelK.merge RelK.nil i2).mono ex⟩) (S.newest q _)
   | _=>exact aa p
 ·exact aa p
theorem ag.erase{K:PySem.W.Frag}{m:Mp}{H:Hp}:∀{ws:List Wv}{xs:List V}(k:Nat),ag K m H ws xs->ag K m H (ws.eraseIdx k) (xs.eraseIdx k)
 | [],xs,k,r=>by unfold ag at r;subst r;exact ag.nil
 | w::ws,xs,0,r=>by
  unfold ag at r
  obtain⟨x,t,rfl,r1,r2⟩:=r
  exact r2
 | w::ws,xs,k+1,r=>by
  unfold ag at r
  obtain⟨x,t,rfl,r1,r2⟩:=r
  exact ag.cons r1 (ag.erase k r2)
def jl(o v:Wv)(st:Hs):Re Wv:=match o,v with
 | .ref l,.int i=>(match st[l]? with
  | some (.lst ws)=>if -(2 ^ 63)<=i/\i < 2 ^ 63 then(match seqIndex? i ws.length with
    | some k=>(match ws[k]? with | some w=> .ok w (st.set l (.lst (ws.eraseIdx k))) | none=> .bad)
    | none=> .bad) else .bad
  | _=> .bad)
 | _,_=> .bad
theorem IX:J3 X "list.pop" jl:=⟨_,CG,λo w x v st H m Q S ro rw' p=>by
 unfold jl at p
 split at p
 ·rename_i l i
  unfold ai at ro rw'
  obtain⟨a,rfl,ha⟩:=ro
  subst rw'
  split at p
  ·rename_i ws e
   by_cases c:-(2 ^ 63)<=i/\i < 2 ^ 63
   ·rw[if_pos c] at p
    obtain⟨xs,h1,h2⟩:=S.lV ha e
    cases ek:seqIndex? i ws.length with
    | none=>rw[ek] at p;exact aa p
    | some k=>
     rw[ek] at p
     dsimp only at p
     cases ew:ws[k]? with
     | none=>rw[ew] at p;exact aa p
     | some w=>
      rw[ew] at p
      obtain⟨y,f1,f2⟩:=h2.get ew
      have e4:Ext X.K m H m (upd H a (.lst (xs.eraseIdx k))):=Ext.upd (.inr ⟨xs,h1⟩)
      exact⟨a,xs,i,k,y,rfl,rfl,h1,c.1,c.2,by rw[<-h2.length];exact ek,f1,p _ m _ e4 (S.write ha e (ag.erase k h2)) (ai.mono e4 _ _ f2)⟩
   ·rw[if_neg c] at p;exact aa p
  ·exact aa p
 ·exact aa p⟩
def sr(gd gk:GE):GE:=λρ st=>(gd ρ st).bind λd st1=>if sg st1 d=true then(gk ρ st1).bind λk st2=>(match d,keyOf k with
  | .ref l,some kk=>(match st2[l]? with | some (.dct kvs)=> .ok ((dI kvs kk).getD .aL) st2 | _=> .bad)
  | _,_=> .bad) else .bad
theorem IY{o e:Expr}{gd gk:GE}{apos cpos:Pos}(hu:X.A.units+1 < cLine)(ho:JE X o gd)(he:JE X e gk)(M:M1 X o "get" apos e cpos):JE X (.Call (.Attribute o "get" apos) [e] [] cpos) (sr gd gk) :=
 JE.of (CO hu aG aG M) λρ st σ H m Q S R p=>by
  refine ho.go S R (ar.bind p) λd st1 v m1 H1 p1 e1 S1 r1=>?_
  by_cases hd:sg st1 d=true
  ·rw[if_pos hd] at p1
   cases d with
   | ref l=>
    unfold ai at r1
    obtain⟨a,rfl,ha⟩:=r1
    have h0:∃uF,H1 a=some (.dK uF):=by
     unfold sg at hd
     dsimp only at hd
     cases e0:st1[l]? with
     | none=>rw[e0] at hd;cases hd
     | some ob=>
      cases ob with
      | dct kvs=>
       obtain⟨xs,y1,_⟩:=(show ∃ys,H1 a=some (.dK ys)/\RelK X.K m1 H1 kvs ys from S1.obj _ _ _ ha e0)
       exact⟨xs,y1⟩
      | _=>rw[e0] at hd;cases hd
    obtain⟨uF,h0⟩:=h0
    refine⟨a,rfl,.inl ⟨uF,.inl h0⟩,?_⟩
    refine he.go S1 (R.mono e1) ((ar.bind p1).imp e1 λ_ _ q=>q) λk st2 y m2 H2 p2 e2 S2 r2=>?_
    cases q1:keyOf k with
    | none=>rw[q1] at p2;exact aa p2
    | some kk=>
     rw[q1] at p2
     dsimp only at p2
     cases q2:st2[l]? with
     | none=>rw[q2] at p2;exact aa p2
     | some ob=>
      rw[q2] at p2
      cases ob with
      | dct kvs=>
       dsimp only at p2
       have ha2:m2[l]? =some a:=e2.pre _ _ ha
       obtain⟨xs,y1,y2⟩:=(show ∃ys,H2 a=some (.dK ys)/\RelK X.K m2 H2 kvs ys from S2.obj _ _ _ ha2 q2)
       refine⟨_,by rw[fB r2 q1];exact kH.k y1,?_⟩
       obtain⟨i1,i2⟩:=y2.val kk
       cases q3:dI kvs kk with
       | none=>
        rw[i1 q3]
        rw[q3] at p2
        exact p2 .aL m2 H2 (e1.trans e2) S2 (by unfold ai;rfl)
       | some w=>
        obtain⟨u,j1,j2⟩:=i2 w q3
        rw[j1]
        rw[q3] at p2
        exact p2 u m2 H2 (e1.trans e2) S2 j2
      | _=>exact aa p2
   | _=>cases hd
  ·rw[if_neg hd] at p1;exact aa p1
end
structure Ct where
 N:List Str
 names:List (Str×aah)
 consts:List (Str×Wv)
 bl:List Str
 fns:List (Str×Nat×(List Wv->Hs->Re Wv))
 tb:Tab:=[]
 tt:u_:=[]
 clss:List Str:=[]
 xQ:List Str:=[]
 tc:Tab:=[]
 Bu:List (Str×Dc):=[]
 Sb:List Str:=[]
 Kh:List Str:=[]
 IZ:List Str:=[]
 EK:List Str:=[]
 loop:Bool:=true
 free:Bool:=true
 top:Bool:=true
 lam:Option (Lm×LF):=none
 B2:List (Str×WE):=[]
 Sd:List Str:=[]
 lj:Nat:=0
 sk:Nat:=0
 Gm:List Str:=[]
 self:Str:=""
def mB(x:Str):List Str->Option Nat
 | []=>none
 | y::r=>if x=y then some 0 else match mB x r with
  | some i=>some (i+1)
  | none=>none
theorem gR{x:Str}:∀{N:List Str}{i:Nat},mB x N=some i->N[i]? =some x
 | [],i,h=>by cases h
 | y::r,i,h=>by
  unfold mB at h
  by_cases e:x=y
  ·rw[if_pos e] at h;cases h;subst e;rfl
  ·rw[if_neg e] at h
   cases q:mB x r with
   | none=>rw[q] at h;cases h
   | some j=>rw[q] at h;cases h;simpa using gR q
def okN(x:Str):Bool:=!(x == ("__debug__":Str))&& !(x == ("__classdict__":Str))&& !(decide (x="__name__"))
theorem gn{x:Str}(h:okN x=true):(x == ("__debug__":Str))=false:=by unfold okN at h;revert h;cases (x == ("__debug__":Str))<;>simp
theorem EL{x:Str}(h:okN x=true):(x == ("__classdict__":Str))=false:=by unfold okN at h;revert h;cases (x == ("__classdict__":Str))<;>simp
theorem EM{x:Str}(h:okN x=true):x≠"__name__":=by
 intro e
 subst e
 unfold okN at h
 simp at h
def vL:List Wv->List V->Prop
 | [],[]=>True
 | .int i::r,.int j::t=>i=j/\vL r t
 | .str x::r,.str y::t=>(x=y/\aQ x=true)/\vL r t
 | _,_=>False
theorem vL.rel{K:PySem.W.Frag}{m:Mp}{H:Hp}:∀{ws:List Wv}{vs:List V},vL ws vs->ag K m H ws vs
 | [],[],_=>ag.nil
 | .int i::r,.int j::t,h=>by
  obtain⟨rfl,h⟩:=h
  exact ag.cons (by unfold ai;rfl) h.rel
 | .str x::r,.str y::t,h=>by
  obtain⟨⟨rfl,hx⟩,h⟩:=h
  exact ag.cons (by unfold ai;exact⟨rfl,hx⟩) h.rel
 | [],_::_,h=>aa h
 | .int i::r,[],h=>aa h
 | .str i::r,[],h=>aa h
 | .int i::r,.str _::_,h=>aa h
 | .str i::r,.int _::_,h=>aa h
def EN(K:PySem.W.Frag)(mg:Str->Option aak)(x:Str):Wv->Prop
 | .int i=>∃t,mg x=some (.int i t)
 | .str y=>(∃t,mg x=some (.str y t))/\aQ y=true
 | .pD ws=>∃(a:aae)(vs:List V)(o:Obj)(its:Array aak)(n:Nat),mg x=some (.ref a)/\K.lookup a=some o/\o.cls= .type "tuple"/\o.data= .seq its n/\its.size<=aav/\Vals vs its.toList/\vL ws vs
 | _=>False
structure QF(c:Ct)(k:Nat)(X:Cx):Prop where
 lam:∀p L,c.lam=some (p,L)->Ej X.prog X.w X.K X.mg X.base k p 3 L
 B2:∀x F,c.B2.lookup x=some F->Uy X.prog X.w X.K X.mg k c.lj x F
 Nu:∀x n F,c.fns.lookup x=some (n,F)->c.Sd.contains x=true->∀base,Bf X.K X.mg base->jw X.prog X.w X.K X.mg base c.lj x n F
 at':c.top=true->c.self∈dm->∃P,J_ X c.self P
 sk:c.sk<=k
 Ki:∀x n F,c.fns.lookup x=some (n,F)->c.Gm.contains x=true->jw X.prog X.w X.K X.mg X.base c.lj x n F
structure Good(c:Ct)(k:Nat)(X:Cx):Prop where
 N:X.N=c.N
 sc:X.env.scope.names=c.names
 nd:c.N.Nodup
 un:X.A.units+64 < cLine
 free:c.free=true->fc k X.A/\X.calm=true
 loop:c.loop=true->X.calm=true/\PassesOwn (model X.prog X.w) X.A X.env X.xe
 cst:∀x w,c.consts.lookup x=some w->EN X.K X.mg x w
 bl:∀x,c.bl.contains x=true->X.mg x=none
 fns:∀x n F,c.fns.lookup x=some (n,F)->jw X.prog X.w X.K X.mg X.base k x n F
 stk:c.top=true->T5 X
 fn:c.top=true->∀x,X.fn x=true
 kind:X.env.scope.kind= .function
 tab:TabOk X.K c.tb c.tt c.tc
 cls:∀x,c.clss.contains x=true->∃C,X.mg x=some (.ref C)/\HS X.K x C
 xQ:∀x,c.xQ.contains x=true->∃C,X.mg x=some (.ref C)/\ClsAt X.K x C
 Bu:∀x kvs,c.Bu.lookup x=some kvs->m8 X.K X.w X.mg x kvs
 rm:rW k X.A
 EK:∀x n F,c.EK.contains x=true->c.fns.lookup x=some (n,F)->M9 X.prog X.w X.K X.mg X.base k x n F
 x:QF c k X
 fr:DJ X
 hd:MD X
theorem zr{k:Nat}{A:aaf}(hr:fc k A):A.units+64 < cLine:=by have:=hr.un;omega
def Ct.Kj(c:Ct):Ct:={ c with loop:=false }
def Ct.zt(c:Ct):Ct:={ c with loop:=false,free:=false }
theorem Good.body{c:Ct}{k:Nat}{X:Cx}(G:Good c k X)(hf:c.free=true)(pn:List (aae×Obj))(E:aak->aaj->Prop):Good c.Kj k (HV X X.A true pn E) :=
 ⟨G.N,G.sc,G.nd,G.un,λ_=>⟨(G.free hf).1,rfl⟩,(λz=>by cases z),G.cst,G.bl,G.fns,λz=>⟨(G.stk z).st,(G.stk z).fr,(G.stk z).ex⟩,G.fn,G.kind,G.tab,G.cls,G.xQ,G.Bu,⟨G.rm.d,G.rm.u⟩,G.EK,⟨G.x.lam,G.x.B2,G.x.Nu,λt m=>(G.x.at' t m).imp λP L=>⟨L.code,L.qual,L.tab,L.mem,L.uniq,L.bm⟩,G.x.sk,G.x.Ki⟩,G.fr,G.hd⟩
theorem Good.suite{c:Ct}{k:Nat}{X:Cx}(G:Good c k X){a:aae}{o:Obj}{u:HO}(nx:AS o)(pn:List (aae×Obj))(E:aak->aaj->Prop):Good c.zt k (P7 X a (.fb o u) pn E) :=
 ⟨G.N,G.sc,G.nd,G.un,(λz=>by cases z),(λz=>by cases z),G.cst,G.bl,G.fns,λz=>⟨(G.stk z).st,(G.stk z).fr,(G.stk z).ex⟩,G.fn,G.kind,G.tab,G.cls,G.xQ,G.Bu,⟨G.rm.d,G.rm.u⟩,G.EK,⟨G.x.lam,G.x.B2,G.x.Nu,λt m=>(G.x.at' t m).imp λP L=>⟨L.code,L.qual,L.tab,L.mem,L.uniq,L.bm⟩,G.x.sk,G.x.Ki⟩,G.fr,.inr ⟨a,o,u,rfl,nx,aI⟩⟩
theorem EO:aao "ValueError"=some (.type "ValueError"):=by decide+kernel
theorem vM:aao "dict"=some (.type "dict"):=by decide+kernel
def I_(x:Str):Option String :=
 if x="int" then some "int" else if x="str" then some "str" else if x="bool" then some "bool" else if x="tuple" then some "tuple" else if x="list" then some "list" else if x="ValueError" then some "ValueError" else if x="dict" then some "dict" else none
theorem Ja{x:Str}{T:String}(h:I_ x=some T):aao x=some (.type T):=by
 unfold I_ at h
 by_cases e:x="int"
 ·rw[if_pos e] at h;cases h;subst e;exact Ds
 rw[if_neg e] at h
 by_cases e:x="str"
 ·rw[if_pos e] at h;cases h;subst e;exact Dt
 rw[if_neg e] at h
 by_cases e:x="bool"
 ·rw[if_pos e] at h;cases h;subst e;exact Du
 rw[if_neg e] at h
 by_cases e:x="tuple"
 ·rw[if_pos e] at h;cases h;subst e;exact u5
 rw[if_neg e] at h
 by_cases e:x="list"
 ·rw[if_pos e] at h;cases h;subst e;exact u6
 rw[if_neg e] at h
 by_cases e:x="ValueError"
 ·rw[if_pos e] at h;cases h;subst e;exact EO
 rw[if_neg e] at h
 by_cases e:x="dict"
 ·rw[if_pos e] at h;cases h;subst e;exact vM
 rw[if_neg e] at h
 cases h
section
variable {X:Cx}
def QG:g_:=λ_ _ _=> .bad
theorem Nv{f:aak->aak->Sem aak}:jv X f QG:=⟨λ_ _ _ _=>False,λ_ _ _ _ _ _ _ _ _ _ _ _ h=>h.elim,λ_ _ _ _ _ _ _ _ _ _ _ p=>p⟩
def QH:Operator->g_
 | .Add=>dO
 | .Sub=>Mh
 | .Mult=>gj
 | .FloorDiv=>cT
 | .Mod=>oMod
 | .Pow=>pK
 | _=>QG
theorem Jb(o:Operator):jv X (aan o) (QH o):=by
 cases o<;>first | exact Ml | exact Mi | exact Ei | exact Hx | exact Mj | exact Mk | exact Nv
def xR:CmpOp->g_
 | .Eq=>oEq
 | .NotEq=>uE
 | .Lt=>oLt
 | .LtE=>oLe
 | .Gt=>Oy
 | .GtE=>TY
 | .Is=>RO
 | .IsNot=>Kf
 | .In=>MY
 | .NotIn=>me
theorem ko(hu:X.A.units+64 < cLine)(o:CmpOp):jv X (aar o) (xR o):=by
 cases o<;>first | exact PR hu | exact PU hu | exact Nn hu | exact M7 hu | exact PJ | exact PK | exact PL | exact IT | exact MZ | exact A8
def ER(c:Ct)(x:Str):GE:=if okN x=true then
  match c.names.lookup x with
  | some .local=>(match mB x c.N with | some i=>af i | none=>bF)
  | some .cell=>(match mB x c.N with | some i=>af i | none=>bF)
  | some .free=>(match mB x c.N with | some i=>af i | none=>bF)
  | some .globalImplicit=>(match c.consts.lookup x with
   | some w=>gC w
   | none=>if c.clss.contains x=true then gC (.cls x) else if c.xQ.contains x=true then gC (.cls x) else if c.bl.contains x=true then(match I_ x with | some T=>gC (.ty T) | none=>bF) else bF)
  | _=>bF
 else bF
theorem ES{c:Ct}{k:Nat}(G:Good c k X)(x:Str)(pos:Pos):JE X (.Name x pos) (ER c x):=by
 unfold ER
 by_cases hx:okN x=true
 ·rw[if_pos hx]
  cases e:c.names.lookup x with
  | none=>exact az
  | some kd=>
   have el:X.env.scope.names.lookup x=some kd:=by rw[G.sc];exact e
   cases kd with
   | «local»=>
    dsimp only
    cases e2:mB x c.N with
    | none=>exact az
    | some i=>exact xi i (by rw[G.N];exact gR e2) (Or.inl el) (gn hx) (EL hx)
   | cell=>
    dsimp only
    cases e2:mB x c.N with
    | none=>exact az
    | some i=>exact xi i (by rw[G.N];exact gR e2) (j4 (Or.inl el)) (gn hx) (EL hx)
   | free=>
    dsimp only
    cases e2:mB x c.N with
    | none=>exact az
    | some i=>exact xi i (by rw[G.N];exact gR e2) (j4 (j4 el)) (gn hx) (EL hx)
   | globalImplicit=>
    dsimp only
    have hg:Gl X x:=el
    cases e2:c.consts.lookup x with
    | some w=>
     have q:=G.cst x w e2
     cases w with
     | int i=>obtain⟨t,q⟩:=q;exact C2 hg q (gn hx)
     | str y=>obtain⟨⟨t,q⟩,z⟩:=q;exact C3 hg q z (gn hx)
     | pD ws=>
      obtain⟨a,vs,o,its,n,q1,q2,q3,q4,q5,q6,q7⟩:=q
      exact JE.of (gq (v:=.ref a) hg q1 rfl (gn hx)) λρ st σ H m Q S R p=>p (.ref a) m H Ext.refl S (by unfold ai;exact⟨a,vs,rfl,⟨o,its,n,q2,q3,q4,q5,q6⟩,q7.rel⟩)
     | _=>exact aa q
    | none=>
     dsimp only
     by_cases e5:c.clss.contains x=true
     ·rw[if_pos e5]
      obtain⟨C,q1,q2⟩:=G.cls x e5
      exact JE.of (gq (v:=.ref C) hg q1 rfl (gn hx)) λρ st σ H m Q S R p=>p (.ref C) m H Ext.refl S (by unfold ai;exact⟨C,rfl,q2.cls⟩)
     rw[if_neg e5]
     by_cases e6:c.xQ.contains x=true
     ·rw[if_pos e6]
      obtain⟨C,q1,q2⟩:=G.xQ x e6
      exact JE.of (gq (v:=.ref C) hg q1 rfl (gn hx)) λρ st σ H m Q S R p=>p (.ref C) m H Ext.refl S (by unfold ai;exact⟨C,rfl,q2⟩)
     rw[if_neg e6]
     by_cases e3:c.bl.contains x=true
     ·rw[if_pos e3]
      cases e4:I_ x with
      | none=>exact az
      | some T=>exact Pu hg (G.bl x e3) (Ja e4) (EM hx) (gn hx)
     ·rw[if_neg e3];exact az
   | _=>exact az
 ·rw[if_neg hx];exact az
def ET:Const->GE
 | .none=>gC .aL
 | .bool b=>gC (.bl b)
 | .int i=>gC (.int i)
 | .str x=>if aQ x=true then gC (.str x) else bF
 | _=>bF
theorem Bv(k:Const)(j:Nat)(pos:Pos):JE X (.Constant k j pos) (ET k):=by
 cases k with
 | none=>exact L6
 | bool b=>exact Pt
 | int i=>exact L5
 | str x=>
  show JE X _ (if aQ x=true then gC (.str x) else bF)
  by_cases h:aQ x=true
  ·rw[if_pos h];exact L7 h
  ·rw[if_neg h];exact az
 | _=>exact az
def plain:Expr->Bool
 | .Starred .. =>false
 | _=>true
theorem ay{e:Expr}{es:List Expr}{env:Env}(h:plain e=true):aaw (e::es) env=(false,eval e env)::aaw es env:=by
 cases e<;>first | rfl | cases h
theorem gH{pos:Pos}{env:Env}:∀{es:List Expr},es.all plain=true->(backTo pos (aaw es env)).any (·.1)=false
 | [],_=>rfl
 | e::es,h=>by
  rw[eL,dC] at h
  rw[ay h.1]
  have q:=gH (pos:=pos) (env:=env) h.2
  unfold backTo at q ⊢
  rw[aM,fz,q]
  rfl
def kR(f:Expr->GE):List Expr->GA
 | []=>ao
 | e::es=>ae (f e) (kR f es)
theorem gA{f:Expr->GE}(h:∀e,JE X e (f e)):∀es:List Expr,es.all plain=true->JA X es (kR f es)
 | [],_=>tI
 | e::es,g=>by
  rw[eL,dC] at g
  exact oD (h e) (gA h es g.2) (ay g.1)
def Se(c:Ct)(x:Str):Option (aak×(List Wv->Hs->Re Wv)) :=
 if x="len" then some (.builtin "len",cP) else if x="abs" then some (.builtin "abs",HF) else if x="isinstance" then some (.builtin "isinstance",gO c.tb c.tt) else if x="list"/\c.free=true then some (.type "list",eB) else if x="tuple" then some (.type "tuple",eO) else if x="max"/\c.free=true then some (.builtin "max",nT) else if x="min"/\c.free=true then some (.builtin "min",nU) else if x="sum"/\c.free=true then some (.builtin "sum",xw) else if x="dict"/\c.free=true then some (.type "dict",ni) else none
theorem Bw:aao "max"=some (.builtin "max"):=by decide+kernel
theorem Bx:aao "min"=some (.builtin "min"):=by decide+kernel
theorem By:aao "sum"=some (.builtin "sum"):=by decide+kernel
theorem Nw{c:Ct}{x:Str}{v:aak}{op:List Wv->Hs->Re Wv}(O:TabOk X.K c.tb c.tt c.tc)(hc:c.free=true->X.calm=true)(h:Se c x=some (v,op)):aao x=some v/\cU X v op/\((∃id,v= .builtin id)\/∃T,v= .type T):=by
 unfold Se at h
 by_cases e:x="len"
 ·rw[if_pos e] at h;cases h;subst e;exact⟨AO,Mo,.inl ⟨_,rfl⟩⟩
 rw[if_neg e] at h
 by_cases e:x="abs"
 ·rw[if_pos e] at h;cases h;subst e;exact⟨AN,Mq,.inl ⟨_,rfl⟩⟩
 rw[if_neg e] at h
 by_cases e:x="isinstance"
 ·rw[if_pos e] at h;cases h;subst e;exact⟨Dr,MB O,.inl ⟨_,rfl⟩⟩
 rw[if_neg e] at h
 by_cases e:x="list"/\c.free=true
 ·rw[if_pos e] at h;cases h;obtain⟨rfl,e2⟩:=e;exact⟨u6,D_ (hc e2),.inr ⟨_,rfl⟩⟩
 rw[if_neg e] at h
 by_cases e:x="tuple"
 ·rw[if_pos e] at h;cases h;subst e;exact⟨u5,MU,.inr ⟨_,rfl⟩⟩
 rw[if_neg e] at h
 by_cases e:x="max"/\c.free=true
 ·rw[if_pos e] at h;cases h;obtain⟨rfl,e2⟩:=e;exact⟨Bw,Ij (hc e2),.inl ⟨_,rfl⟩⟩
 rw[if_neg e] at h
 by_cases e:x="min"/\c.free=true
 ·rw[if_pos e] at h;cases h;obtain⟨rfl,e2⟩:=e;exact⟨Bx,Ik (hc e2),.inl ⟨_,rfl⟩⟩
 rw[if_neg e] at h
 by_cases e:x="sum"/\c.free=true
 ·rw[if_pos e] at h;cases h;obtain⟨rfl,e2⟩:=e;exact⟨By,MV (hc e2),.inl ⟨_,rfl⟩⟩
 rw[if_neg e] at h
 by_cases e:x="dict"/\c.free=true
 ·rw[if_pos e] at h;cases h;obtain⟨rfl,e2⟩:=e;exact⟨vM,EJ (hc e2),.inr ⟨_,rfl⟩⟩
 rw[if_neg e] at h
 cases h
def xT(c:Ct)(fE:Expr->GE)(x:Str)(es:List Expr):GE:=if okN x=true/\es.all plain=true/\c.names.lookup x=some .globalImplicit then
   (match c.fns.lookup x with
   | some (n,F)=>if c.free=true then aP n F (kR fE es) else bF
   | none=>if c.bl.contains x=true then(match Se c x with | some (_,op)=>au op (kR fE es) | none=>bF) else bF)
  else bF
def EU(fE:Expr->GE)(o:Expr)(name:Str)(e:Expr)(apos cpos:Pos):GE:=if plain e=true/\(apos.endLine == cpos.line)=true then
   (if name="append" then cI iL (fE o) (fE e) else bF)
  else bF
def xU(fE:Expr->GE)(o:Expr)(name:Str)(e:Expr)(apos cpos:Pos):GE:=if plain e=true/\(apos.endLine == cpos.line)=true then
   (if name="count" then cI tX (fE o) (fE e) else if name="index" then cI hZ (fE o) (fE e) else bF)
  else bF
theorem Bz{fE:Expr->GE}(h:∀e,JE X e (fE e))(x name:Str)(e:Expr)(p apos cpos:Pos):JE X (.Call (.Attribute (.Name x p) name apos) [e] [] cpos) (xU fE (.Name x p) name e apos cpos):=by
 unfold xU
 by_cases g:plain e=true/\(apos.endLine == cpos.line)=true
 ·rw[if_pos g]
  by_cases n1:name="count"
  ·rw[if_pos n1]
   subst n1
   exact oF Bb PySem.F.slot_list_count PySem.F.type_list_count (h _) (h e) (ay g.1) g.2
  rw[if_neg n1]
  by_cases n2:name="index"
  ·rw[if_pos n2]
   subst n2
   exact oF rT PySem.F.slot_list_index PySem.F.type_list_index (h _) (h e) (ay g.1) g.2
  rw[if_neg n2]
  exact az
 ·rw[if_neg g];exact az
def xV:Expr->Bool
 | .Name .. =>true
 | .Constant (.str _) _ _=>true
 | .Subscript .. =>true
 | _=>false
def jQ(fE:Expr->GE)(o:Expr)(name:Str)(es:List Expr)(apos cpos:Pos):GE:=if xV o=true/\es.all plain=true/\es.length < 20/\(apos.endLine == cpos.line)=true then
   (if name="index" then pZ p5 (fE o) (kR fE es) else bF)
  else bF
theorem Jc{o:Expr}{name:Str}{env:Env}(h:xV o=true):attributeBase o name env (eval o env)=eval o env:=by
 cases o with
 | Constant k j p=>cases k<;>first | rfl | cases h
 | _=>first | rfl | cases h
theorem all_plain{pos:Pos}{env:Env}:∀{es:List Expr},es.all plain=true->(backTo pos (aaw es env)).all (λx=> !x.1)=true
 | [],_=>rfl
 | e::es,h=>by
  rw[eL,dC] at h
  rw[ay h.1]
  have q:=all_plain (pos:=pos) (env:=env) h.2
  unfold backTo at q ⊢
  rw[aM,eL,q]
  rfl
theorem gI{fE:Expr->GE}(h:∀e,JE X e (fE e))(o:Expr)(name:Str)(e:Expr)(es:List Expr)(apos cpos:Pos):JE X (.Call (.Attribute o name apos) (e::es) [] cpos) (jQ fE o name (e::es) apos cpos):=by
 unfold jQ
 by_cases g:xV o=true/\(e::es).all plain=true/\(e::es).length < 20/\(apos.endLine == cpos.line)=true
 ·rw[if_pos g]
  obtain⟨g1,g2,g3,g4⟩:=g
  have gp:plain e=true/\es.all plain=true:=by rw[eL,dC] at g2;exact g2
  have hfew:((backTo cpos (aaw (e::es) X.env)).all (λx=> !x.1)&&(backToKw cpos (keywordEach [] X.env)).all (λx=>x.1.isSome)&&decide ((e::es).length+([]:List Keyword).length+(if([]:List Keyword).isEmpty then 0 else 1) < 30))=true:=by
   rw[all_plain g2]
   have g5:(e::es).length+([]:List Keyword).length+(if([]:List Keyword).isEmpty then 0 else 1) < 30:=by
    show(e::es).length+0+0 < 30
    omega
   rw[decide_eq_true g5]
   rfl
  by_cases n1:name="index"
  ·rw[if_pos n1]
   subst n1
   exact DV DZ PySem.F.slot_str_index PySem.F.type_str_index (h o) (gA h (e::es) g2) (Jc g1) hfew g4 (ay gp.1) (gH gp.2)
  rw[if_neg n1]
  exact az
 ·rw[if_neg g];exact az
def EV(fE:Expr->GE)(o:Expr)(e f:Expr)(apos cpos:Pos):GE:=if plain e=true/\plain f=true/\(apos.endLine == cpos.line)=true then D4 (fE o) (fE e) (fE f) else bF
theorem EW{c:Ct}{k:Nat}(G:Good c k X){fE:Expr->GE}(h:∀e,JE X e (fE e))(o:Expr)(ho:attributeBase o "get" X.env (eval o X.env)=eval o X.env)(e f:Expr)(apos cpos:Pos):JE X (.Call (.Attribute o "get" apos) [e,f] [] cpos) (EV fE o e f apos cpos):=by
 unfold EV
 by_cases g:plain e=true/\plain f=true/\(apos.endLine == cpos.line)=true
 ·rw[if_pos g]
  obtain⟨g1,g2,g3⟩:=g
  refine D6 (by have:=G.un;omega) (h _) (h e) (h f) ⟨ho,?_,g3,?_⟩
  ·rw[all_plain (es:=[e,f]) (by simp[g1,g2])]
   rfl
  ·rw[ay g1,ay g2]
   rfl
 ·rw[if_neg g];exact az
def mC(c:Ct)(x:Str):Option Dc:=if okN x=true/\c.names.lookup x=some .globalImplicit then c.Bu.lookup x else none
theorem ku{c:Ct}{k:Nat}(G:Good c k X){x:Str}{kvs:Dc}(h:mC c x=some kvs):Gl X x/\(x == ("__debug__":Str))=false/\m8 X.K X.w X.mg x kvs:=by
 unfold mC at h
 by_cases g:okN x=true/\c.names.lookup x=some .globalImplicit
 ·rw[if_pos g] at h
  refine⟨?_,gn g.1,G.Bu x kvs h⟩
  show X.env.scope.names.lookup x=_
  rw[G.sc];exact g.2
 ·rw[if_neg g] at h;cases h
def oP:Expr->Bool
 | .Call (.Name _ _) (_::_) [] _=>true
 | _=>false
theorem EY{o:Expr}{name:Str}{env:Env}(h:oP o=true):attributeBase o name env (eval o env)=eval o env:=by
 unfold oP at h
 split at h
 ·rfl
 ·cases h
def oQ:Expr->Bool
 | .Subscript .. =>true
 | _=>false
theorem EZ{o:Expr}{name:Str}{env:Env}(h:oQ o=true):attributeBase o name env (eval o env)=eval o env:=by
 unfold oQ at h
 split at h
 ·rfl
 ·cases h
def t_(fE:Expr->GE)(o e:Expr)(apos cpos:Pos):GE:=if plain e=true/\(apos.endLine == cpos.line)=true then
   (if oP o=true then cI hZ (fE o) (fE e) else if oQ o=true then qh kj (fE o) (fE e) else bF)
  else bF
theorem xW{fE:Expr->GE}(h:∀e,JE X e (fE e))(o e:Expr)(apos cpos:Pos):JE X (.Call (.Attribute o "index" apos) [e] [] cpos) (t_ fE o e apos cpos):=by
 unfold t_
 by_cases g:plain e=true/\(apos.endLine == cpos.line)=true
 ·rw[if_pos g]
  by_cases b1:oP o=true
  ·rw[if_pos b1]
   exact vp rT PySem.F.slot_list_index PySem.F.type_list_index (EY b1) (h o) (h e) (ay g.1) g.2
  rw[if_neg b1]
  by_cases b2:oQ o=true
  ·rw[if_pos b2]
   exact Ee Be PySem.F.slot_tuple_index PySem.F.type_tuple_index (EZ b2) (h o) (h e) (ay g.1) g.2
  rw[if_neg b2]
  exact az
 ·rw[if_neg g];exact az
def E2(fE:Expr->GE)(x:Str)(p:Pos)(e:Expr)(apos cpos:Pos):GE:=if plain e=true/\(apos.endLine == cpos.line)=true then cI jl (fE (.Name x p)) (fE e) else bF
theorem E3{fE:Expr->GE}(h:∀e,JE X e (fE e))(x:Str)(p:Pos)(e:Expr)(apos cpos:Pos):JE X (.Call (.Attribute (.Name x p) "pop" apos) [e] [] cpos) (E2 fE x p e apos cpos):=by
 unfold E2
 by_cases g:plain e=true/\(apos.endLine == cpos.line)=true
 ·rw[if_pos g];exact oF IX PySem.F.slot_list_pop PySem.F.type_list_pop (h _) (h e) (ay g.1) g.2
 ·rw[if_neg g];exact az
def Nx(fE:Expr->GE)(x:Str)(p:Pos)(e f:Expr)(apos cpos:Pos):GE:=if plain e=true/\plain f=true/\(apos.endLine == cpos.line)=true then vy (fE (.Name x p)) (fE e) (fE f) else bF
theorem Jd{fE:Expr->GE}(h:∀e,JE X e (fE e))(x:Str)(p:Pos)(e f:Expr)(apos cpos:Pos):JE X (.Call (.Attribute (.Name x p) "insert" apos) [e,f] [] cpos) (Nx fE x p e f apos cpos):=by
 unfold Nx
 by_cases g:plain e=true/\plain f=true/\(apos.endLine == cpos.line)=true
 ·rw[if_pos g]
  obtain⟨g1,g2,g3⟩:=g
  refine Nj (h _) (h e) (h f) ⟨rfl,?_,g3,?_⟩
  ·rw[all_plain (es:=[e,f]) (by simp[g1,g2])]
   rfl
  ·rw[ay g1,ay g2]
   rfl
 ·rw[if_neg g];exact az
def xX(c:Ct)(fE:Expr->GE)(x:Str)(p:Pos)(e f:Expr)(apos cpos:Pos):GE:=if c.Kh.contains x=true/\plain e=true/\plain f=true/\(apos.endLine == cpos.line)=true then jN (fE (.Name x p)) (fE e) (fE f) else bF
theorem BA{c:Ct}{k:Nat}(G:Good c k X){fE:Expr->GE}(h:∀e,JE X e (fE e))(x:Str)(p:Pos)(e f:Expr)(apos cpos:Pos):JE X (.Call (.Attribute (.Name x p) "setdefault" apos) [e,f] [] cpos) (xX c fE x p e f apos cpos):=by
 unfold xX
 by_cases g:c.Kh.contains x=true/\plain e=true/\plain f=true/\(apos.endLine == cpos.line)=true
 ·rw[if_pos g]
  obtain⟨_,g1,g2,g3⟩:=g
  refine EB (h _) (h e) (h f) ⟨rfl,?_,g3,?_⟩
  ·rw[all_plain (es:=[e,f]) (by simp[g1,g2])]
   rfl
  ·rw[ay g1,ay g2]
   rfl
 ·rw[if_neg g];exact az
def E4(c:Ct)(fE:Expr->GE)(x:Str)(p:Pos)(e:Expr)(apos cpos:Pos):GE:=if c.Kh.contains x=true/\plain e=true/\(apos.endLine == cpos.line)=true then sr (fE (.Name x p)) (fE e) else bF
theorem E5{c:Ct}{k:Nat}(G:Good c k X){fE:Expr->GE}(h:∀e,JE X e (fE e))(x:Str)(p:Pos)(e:Expr)(apos cpos:Pos):JE X (.Call (.Attribute (.Name x p) "get" apos) [e] [] cpos) (E4 c fE x p e apos cpos):=by
 unfold E4
 by_cases g:c.Kh.contains x=true/\plain e=true/\(apos.endLine == cpos.line)=true
 ·rw[if_pos g]
  obtain⟨_,g1,g3⟩:=g
  refine IY (by have:=G.un;omega) (h _) (h e) ⟨rfl,?_,g3,?_⟩
  ·rw[all_plain (es:=[e]) (by simp[g1])]
   rfl
  ·rw[ay g1]
   rfl
 ·rw[if_neg g];exact az
def zu(c:Ct)(fE:Expr->GE)(cpos:Pos):Expr->List Expr->List Keyword->GE
 | .Name x _,e::es,[]=>xT c fE x (e::es)
 | .Attribute (.Name x p) name apos,[e],[]=>if name="get" then E4 c fE x p e apos cpos else if name="pop" then E2 fE x p e apos cpos else if name="append"\/name="extend" then EU fE (.Name x p) name e apos cpos else if name="count"\/name="index" then pX (jQ fE (.Name x p) name [e] apos cpos) (xU fE (.Name x p) name e apos cpos) else jQ fE (.Name x p) name [e] apos cpos
 | .Attribute (.Name x p) name apos,[e,f],[]=>if name="get" then(match mC c x with | some kvs=>(if plain e=true/\plain f=true/\(apos.endLine == cpos.line)=true then Ef kvs (fE e) (fE f) else bF) | none=>EV fE (.Name x p) e f apos cpos) else if name="insert" then Nx fE x p e f apos cpos else if name="setdefault" then xX c fE x p e f apos cpos else jQ fE (.Name x p) name [e,f] apos cpos
 | .Attribute o name apos,[e],[]=>if name="append"/\xM o=true/\plain e=true/\(apos.endLine == cpos.line)=true then cI iL (fE o) (fE e) else if name="index" then pX (jQ fE o name [e] apos cpos) (t_ fE o e apos cpos) else jQ fE o name [e] apos cpos
 | .Attribute o name apos,e::es,[]=>jQ fE o name (e::es) apos cpos
 | _,_,_=>bF
theorem BB{c:Ct}{k:Nat}(G:Good c k X){fE:Expr->GE}(h:∀e,JE X e (fE e))(x:Str)(e:Expr)(es:List Expr)(p pos:Pos):JE X (.Call (.Name x p) (e::es) [] pos) (xT c fE x (e::es)):=by
 unfold xT
 by_cases g:okN x=true/\(e::es).all plain=true/\c.names.lookup x=some .globalImplicit
 ·rw[if_pos g]
  obtain⟨g1,g2,g3⟩:=g
  have hg:Gl X x:=by
   show X.env.scope.names.lookup x=_
   rw[G.sc];exact g3
  have gp:plain e=true/\es.all plain=true:=by rw[eL,dC] at g2;exact g2
  have ha:=gA h (e::es) g2
  cases e1:c.fns.lookup x with
  | some nF=>
   obtain⟨n,F⟩:=nF
   dsimp only
   by_cases cf:c.free=true
   ·rw[if_pos cf]
    obtain⟨a,fd,ps,G1,G2,G3,G4⟩:=G.fns x n F e1
    exact HM G1 (G.free cf).1 G2 G3 G4 ha hg (gn g1) (ay gp.1) (gH gp.2)
   ·rw[if_neg cf]
    exact az
  | none=>
   dsimp only
   by_cases e3:c.bl.contains x=true
   ·rw[if_pos e3]
    cases e4:Se c x with
    | none=>exact az
    | some io=>
     obtain⟨v,op⟩:=io
     obtain⟨b1,b2,b3⟩:=Nw (X:=X) G.tab (λz=>(G.free z).2) e4
     rcases b3 with ⟨id,rfl⟩ | ⟨T,rfl⟩
     ·exact Dg b2 hg (G.bl x e3) b1 ha (EM g1) (gn g1) (ay gp.1) (gH gp.2)
     ·exact AJ b2 hg (G.bl x e3) b1 ha (EM g1) (gn g1) (ay gp.1) (gH gp.2)
   ·rw[if_neg e3]
    exact az
 ·rw[if_neg g];exact az
theorem E6{fE:Expr->GE}(h:∀e,JE X e (fE e))(x name:Str)(e:Expr)(p apos cpos:Pos):JE X (.Call (.Attribute (.Name x p) name apos) [e] [] cpos) (EU fE (.Name x p) name e apos cpos):=by
 unfold EU
 by_cases g:plain e=true/\(apos.endLine == cpos.line)=true
 ·rw[if_pos g]
  by_cases n1:name="append"
  ·rw[if_pos n1]
   subst n1
   exact oF tR PySem.F.slot_list_append PySem.F.type_list_append (h _) (h e) (ay g.1) g.2
  rw[if_neg n1]
  exact az
 ·rw[if_neg g];exact az
theorem E7{c:Ct}{k:Nat}(G:Good c k X){fE:Expr->GE}(h:∀e,JE X e (fE e))(f:Expr)(as:List Expr)(ks:List Keyword)(pos:Pos):JE X (.Call f as ks pos) (zu c fE pos f as ks):=by
 unfold zu
 split
 ·exact BB G h _ _ _ _ _
 ·rename_i x p name apos e
  by_cases gg:name="get"
  ·rw[if_pos gg];subst gg;exact E5 G h _ _ _ _ _
  rw[if_neg gg]
  by_cases gp:name="pop"
  ·rw[if_pos gp];subst gp;exact E3 h _ _ _ _ _
  rw[if_neg gp]
  by_cases g:name="append"\/name="extend"
  ·rw[if_pos g];exact E6 h _ _ _ _ _ _
  ·rw[if_neg g]
   by_cases g2:name="count"\/name="index"
   ·rw[if_pos g2];exact DQ (gI h _ _ _ _ _ _) (Bz h _ _ _ _ _ _)
   ·rw[if_neg g2];exact gI h _ _ _ _ _ _
 ·rename_i x p name apos e f
  by_cases g:name="get"
  ·rw[if_pos g]
   subst g
   cases ed:mC c x with
   | none=>exact EW G h _ rfl _ _ _ _
   | some kvs=>
    dsimp only
    by_cases g:plain e=true/\plain f=true/\(apos.endLine == pos.line)=true
    ·rw[if_pos g]
     obtain⟨g1,g2,g3⟩:=g
     obtain⟨q1,q2,q3⟩:=ku G ed
     refine Eg (h e) (h f) ⟨rfl,?_,g3,?_⟩ q1 q2 q3
     ·rw[all_plain (es:=[e,f]) (by simp[g1,g2])]
      rfl
     ·rw[ay g1,ay g2]
      rfl
    ·rw[if_neg g];exact az
  ·rw[if_neg g]
   by_cases g3:name="insert"
   ·rw[if_pos g3];subst g3;exact Jd h _ _ _ _ _ _
   rw[if_neg g3]
   by_cases g4:name="setdefault"
   ·rw[if_pos g4];subst g4;exact BA G h _ _ _ _ _ _
   ·rw[if_neg g4];exact gI h _ _ _ _ _ _
 ·rename_i o name apos e _
  by_cases ga:name="append"/\xM o=true/\plain e=true/\(apos.endLine == pos.line)=true
  ·rw[if_pos ga];obtain⟨rfl,g0,g1,g2⟩:=ga;exact vp tR PySem.F.slot_list_append PySem.F.type_list_append (sf g0) (h _) (h e) (ay g1) g2
  rw[if_neg ga]
  by_cases g:name="index"
  ·rw[if_pos g];subst g;exact DQ (gI h _ _ _ _ _ _) (xW h _ _ _ _)
  ·rw[if_neg g];exact gI h _ _ _ _ _ _
 ·exact gI h _ _ _ _ _ _
 ·exact az
def BC:Expr->Bool
 | .Slice .. =>true
 | _=>false
def E8(f:Expr->GE):Option Expr->GO
 | none=>hX
 | some e=>f' (f e)
theorem zv{f:Expr->GE}(h:∀e,JE X e (f e))(o:Option Expr):JO X o (E8 f o):=by
 cases o with
 | none=>exact HD
 | some e=>exact HE (h e)
def Je(f:Expr->GE)(a:Expr):Expr->GE
 | .Slice lo hi none _=>du (f a) (E8 f lo) (E8 f hi)
 | .Slice .. =>bF
 | b=>aq fh (f a) (f b)
theorem E9{f:Expr->GE}(h:∀e,JE X e (f e))(a b:Expr)(pos:Pos):JE X (.Subscript a b pos) (Je f a b):=by
 unfold Je
 split
 ·exact A7 (h a) (zv h _) (zv h _)
 ·exact az
 ·rename_i n1 n2
  refine PY (h a) (h b) ?_
  intro o i
  cases b<;>first | rfl | (rename_i lo hi st p;exact(n2 _ _ _ _ rfl).elim)
def E_(f:Expr->GE)(a:Expr):List CmpOp->List Expr->GE
 | [o],[b]=>if aam o b=false then aq (xR o) (f a) (f b) else bF
 | [o,o'],[b,b']=>if lastMarks [o,o'] [b,b']=false then pI (xR o) (xR o') (f a) (f b) (f b') else bF
 | _,_=>bF
theorem xY(hu:X.A.units+64 < cLine){f:Expr->GE}(h:∀e,JE X e (f e))(a:Expr)(os:List CmpOp)(bs:List Expr)(pos:Pos):JE X (.Compare a os bs pos) (E_ f a os bs):=by
 unfold E_
 split
 ·rename_i o b
  by_cases g:aam o b=false
  ·rw[if_pos g];exact xj (ko hu o) (h a) (h b) g
  ·rw[if_neg g];exact az
 ·rename_i o o' b b'
  by_cases g:lastMarks [o,o'] [b,b']=false
  ·rw[if_pos g];exact C5 (ko hu o) (ko hu o') (h a) (h b) (h b') g
  ·rw[if_neg g];exact az
 ·exact az
def Fb(f:Expr->GE)(a:Expr):List CmpOp->List Expr->GT
 | [o],[b]=>if aam o b=false then cA (aq (xR o) (f a) (f b)) else jE
 | [o,o'],[b,b']=>if lastMarks [o,o'] [b,b']=false then cA (pI (xR o) (xR o') (f a) (f b) (f b')) else jE
 | _,_=>jE
theorem ua(hu:X.A.units+64 < cLine){f:Expr->GE}(h:∀e,JE X e (f e))(a:Expr)(os:List CmpOp)(bs:List Expr)(pos:Pos):JT X (.Compare a os bs pos) (Fb f a os bs):=by
 unfold Fb
 split
 ·rename_i o b
  by_cases g:aam o b=false
  ·rw[if_pos g];exact xk (ko hu o) (h a) (h b) g
  ·rw[if_neg g];exact jF
 ·rename_i o o' b b'
  by_cases g:lastMarks [o,o'] [b,b']=false
  ·rw[if_pos g];exact C6 (ko hu o) (ko hu o') (h a) (h b) (h b') g
  ·rw[if_neg g];exact jF
 ·exact jF
def Ny(c:Ct)(f:Expr->GE)(a:Expr):List CmpOp->List Expr->GE
 | [.In],[.Name x p]=>(match mC c x with | some kvs=>mh false kvs (f a) | none=>if c.IZ.contains x=true then(if aam .In (.Name x p)=false then aq (qi false) (f a) (f (.Name x p)) else bF) else E_ f a [.In] [.Name x p])
 | [.NotIn],[.Name x p]=>(match mC c x with | some kvs=>mh true kvs (f a) | none=>if c.IZ.contains x=true then(if aam .NotIn (.Name x p)=false then aq (qi true) (f a) (f (.Name x p)) else bF) else E_ f a [.NotIn] [.Name x p])
 | os,bs=>E_ f a os bs
theorem Jf{c:Ct}{k:Nat}(G:Good c k X){f:Expr->GE}(h:∀e,JE X e (f e))(a:Expr)(os:List CmpOp)(bs:List Expr)(pos:Pos):JE X (.Compare a os bs pos) (Ny c f a os bs):=by
 unfold Ny
 split
 ·rename_i x p
  cases e:mC c x with
  | none=>
   dsimp only
   by_cases gd:c.IZ.contains x=true
   ·rw[if_pos gd]
    by_cases gm:aam .In (.Name x p)=false
    ·rw[if_pos gm];exact xj (El G.un) (h a) (h _) gm
    ·rw[if_neg gm];exact az
   ·rw[if_neg gd];exact xY G.un h a _ _ pos
  | some kvs=>obtain⟨g1,g2,g3⟩:=ku G e;exact Il (h a) g1 g2 g3
 ·rename_i x p
  cases e:mC c x with
  | none=>
   dsimp only
   by_cases gd:c.IZ.contains x=true
   ·rw[if_pos gd]
    by_cases gm:aam .NotIn (.Name x p)=false
    ·rw[if_pos gm];exact xj (rZ G.un) (h a) (h _) gm
    ·rw[if_neg gm];exact az
   ·rw[if_neg gd];exact xY G.un h a _ _ pos
  | some kvs=>obtain⟨g1,g2,g3⟩:=ku G e;exact xB (h a) g1 g2 g3
 ·exact xY G.un h a _ _ pos
def Fc(c:Ct)(f:Expr->GE)(a:Expr):List CmpOp->List Expr->GT
 | [.In],[.Name x p]=>(match mC c x with | some kvs=>cA (mh false kvs (f a)) | none=>if c.IZ.contains x=true then(if aam .In (.Name x p)=false then cA (aq (qi false) (f a) (f (.Name x p))) else jE) else Fb f a [.In] [.Name x p])
 | [.NotIn],[.Name x p]=>(match mC c x with | some kvs=>cA (mh true kvs (f a)) | none=>if c.IZ.contains x=true then(if aam .NotIn (.Name x p)=false then cA (aq (qi true) (f a) (f (.Name x p))) else jE) else Fb f a [.NotIn] [.Name x p])
 | os,bs=>Fb f a os bs
theorem Fd{c:Ct}{k:Nat}(G:Good c k X){f:Expr->GE}(h:∀e,JE X e (f e))(a:Expr)(os:List CmpOp)(bs:List Expr)(pos:Pos):JT X (.Compare a os bs pos) (Fc c f a os bs):=by
 unfold Fc
 split
 ·rename_i x p
  cases e:mC c x with
  | none=>
   dsimp only
   by_cases gd:c.IZ.contains x=true
   ·rw[if_pos gd]
    by_cases gm:aam .In (.Name x p)=false
    ·rw[if_pos gm];exact xk (El G.un) (h a) (h _) gm
    ·rw[if_neg gm];exact jF
   ·rw[if_neg gd];exact ua G.un h a _ _ pos
  | some kvs=>obtain⟨g1,g2,g3⟩:=ku G e;exact Io (h a) g1 g2 g3
 ·rename_i x p
  cases e:mC c x with
  | none=>
   dsimp only
   by_cases gd:c.IZ.contains x=true
   ·rw[if_pos gd]
    by_cases gm:aam .NotIn (.Name x p)=false
    ·rw[if_pos gm];exact xk (rZ G.un) (h a) (h _) gm
    ·rw[if_neg gm];exact jF
   ·rw[if_neg gd];exact ua G.un h a _ _ pos
  | some kvs=>obtain⟨g1,g2,g3⟩:=ku G e;exact xC (h a) g1 g2 g3
 ·exact ua G.un h a _ _ pos
def fD(f:Expr->GE):Expr->GE
 | .Dict [] [] _=>D9
 | e=>f e
def Jg(c:Ct):Expr->Bool
 | .Name x _=>c.Sb.contains x||c.Kh.contains x
 | _=>false
def Nz(c:Ct)(f:Expr->GE):Expr->Expr->GE
 | .Name x p,b=>(match mC c x with | some kvs=>if BC b=false then J7 kvs (f b) else bF | none=>if Jg c (.Name x p)=true/\BC b=false then my (f (.Name x p)) (f b) else Je f (.Name x p) b)
 | a,b=>Je f a b
theorem Jh{c:Ct}{k:Nat}(G:Good c k X){f:Expr->GE}(h:∀e,JE X e (f e))(a b:Expr)(pos:Pos):JE X (.Subscript a b pos) (Nz c f a b):=by
 unfold Nz
 split
 ·rename_i x p
  cases e:mC c x with
  | none=>
   dsimp only
   by_cases g:Jg c (.Name x p)=true/\BC b=false
   ·rw[if_pos g]
    refine IF (by have:=G.un;omega) (h _) (h b) ?_
    intro o i
    cases b<;>first | rfl | cases g.2
   ·rw[if_neg g];exact E9 h _ b pos
  | some kvs=>
   dsimp only
   by_cases g:BC b=false
   ·rw[if_pos g]
    obtain⟨g1,g2,g3⟩:=ku G e
    refine Iq (h b) ?_ g1 g2 g3
    intro o i
    cases b<;>first | rfl | cases g
   ·rw[if_neg g];exact az
 ·exact E9 h _ b pos
def pairsOf(f:Expr->GE):List (Option Expr)->List Expr->Option (List (GE×GE))
 | [],[]=>some []
 | some k::ks,v::vs=>(match pairsOf f ks vs with | some r=>some ((f k,f v)::r) | none=>none)
 | _,_=>none
def QI:List (Option Expr)->Bool
 | some (.Tuple ..)::_=>true
 | _=>false
def QJ(c:Ct):List (Option Expr)->Bool
 | some (.Name x _)::_=>c.Sb.contains x
 | _=>false
def Fe(b:Bool)(f:Expr->GE)(ks:List (Option Expr))(vs:List Expr):GE:=if(!ks.isEmpty&&decide (ks.length<=15))=true then(match pairsOf f ks vs with | some gs=>if b=true then bF else bF | none=>bF) else bF
theorem zw(hu:X.A.units+1 < cLine)(b:Bool){f:Expr->GE}(h:∀e,JE X e (f e))(ks:List (Option Expr))(vs:List Expr)(pos:Pos):JE X (.Dict ks vs pos) (Fe b f ks vs):=by
 unfold Fe
 by_cases g:(!ks.isEmpty&&decide (ks.length<=15))=true
 ·rw[if_pos g]
  simp only[dC,decide_eq_true_eq] at g
  cases e:pairsOf f ks vs with
  | none=>exact az
  | some gs=>
   dsimp only
   by_cases t:b=true
   ·rw[if_pos t];exact az
   ·rw[if_neg t];exact az
 ·rw[if_neg g];exact az
def NA(f:Expr->GE):List Expr->GE
 | []=>bF
 | [a]=>f a
 | a::b::r=>yO (f a) (NA f (b::r))
def UR(f:Expr->GE):List Expr->GE
 | []=>bF
 | [a]=>f a
 | a::b::r=>Px (f a) (UR f (b::r))
theorem zx{f:Expr->GE}(h:∀e,JE X e (f e))(pos:Pos):∀es,JE X (.BoolOp .And es pos) (NA f es)
 | []=>az
 | [a]=>C7 (h a)
 | a::b::r=>Md (h a) (zx h pos (b::r))
theorem Ff{f:Expr->GE}(h:∀e,JE X e (f e))(pos:Pos):∀es,JE X (.BoolOp .Or es pos) (UR f es)
 | []=>az
 | [a]=>C7 (h a)
 | a::b::r=>Py (h a) (Ff h pos (b::r))
def NC(f:Expr->GT):List Expr->GT
 | []=>jE
 | [a]=>f a
 | a::b::r=>lX (f a) (NC f (b::r))
def US(f:Expr->GT):List Expr->GT
 | []=>jE
 | [a]=>f a
 | a::b::r=>L' (f a) (US f (b::r))
theorem Fg{e:Expr}:JW X e jE:=λρ st σ H m Q S R p=>aa p
theorem zy{f:Expr->GT}(h:∀e,JT X e (f e))(pos:Pos):∀es,JW X (.BoolOp .And es pos) (NC f es)
 | []=>Fg
 | [a]=>Hu (h a)
 | a::b::r=>Mb (h a) (zy h pos (b::r))
theorem Fh{f:Expr->GT}(h:∀e,JT X e (f e))(pos:Pos):∀es,JW X (.BoolOp .Or es pos) (US f es)
 | []=>Fg
 | [a]=>Ma (h a)
 | a::b::r=>Pw (h a) (Fh h pos (b::r))
def Yq(f:Expr->GE):UnaryOp->Expr->GE
 | .USub,a=>L9 pJ (f a)
 | .Not,a=>JX (f a)
 | _,_=>bF
def BD(f:Expr->GE)(g:GA->GE)(es:List Expr):GE:=if es.all plain=true then g (kR f es) else bF
def isSet:Expr->Bool
 | .Set .. =>true
 | _=>false
theorem ia{e:Expr}{env:Env}(h:isSet e=false)(x:aak):aas e env x=pure x:=by
 cases e<;>first | rfl | cases h
def kx(c:Ct)(x:Str):Bool:=decide (x="range")&&decide (c.names.lookup x=some .globalImplicit)&&c.bl.contains x&&(match c.fns.lookup x with | some _=>false | none=>true)
theorem vN{c:Ct}{k:Nat}(G:Good c k X)(y:Str)(hy:kx c y=true):y="range"/\Gl X y/\X.mg y=none:=by
 unfold kx at hy
 simp only[dC,decide_eq_true_eq] at hy
 refine⟨hy.1.1.1,?_,G.bl y hy.1.2⟩
 show X.env.scope.names.lookup y=_
 rw[G.sc];exact hy.1.1.2
def sv(c:Ct)(f:Expr->GE):Expr->GI
 | .Call (.Name x p) [a] [] q=>if kx c x=true then(if plain a=true then DN (kR f [a]) else DO) else bM (f (.Call (.Name x p) [a] [] q))
 | e=>if isSet e=false then bM (f e) else DO
theorem mD{c:Ct}{k:Nat}(G:Good c k X){f:Expr->GE}(h:∀e,JE X e (f e))(tg e:Expr):JI X tg e (sv c f e):=by
 unfold sv
 split
 ·rename_i y p a q
  by_cases g:kx c y=true
  ·rw[if_pos g]
   obtain⟨rfl,g2,g3⟩:=vN G y g
   by_cases ga:plain a=true
   ·rw[if_pos ga]
    exact Qn g2 g3 (gA h [a] (by simp[ga])) (ay ga)
   ·rw[if_neg ga];exact DP
  ·rw[if_neg g];exact y7 (h _)
 ·by_cases g:isSet e=false
  ·rw[if_pos g];exact y7 (h _)
  ·rw[if_neg g];exact DP
def Fi(c:Ct)(x:Str):Bool:=decide (x="enumerate")&&decide (c.names.lookup x=some .globalImplicit)&&c.bl.contains x&&(match c.fns.lookup x with | some _=>false | none=>true)
theorem QK{c:Ct}{k:Nat}(G:Good c k X)(y:Str)(hy:Fi c y=true):y="enumerate"/\Gl X y/\X.mg y=none:=by
 unfold Fi at hy
 simp only[dC,decide_eq_true_eq] at hy
 refine⟨hy.1.1.1,?_,G.bl y hy.1.2⟩
 show X.env.scope.names.lookup y=_
 rw[G.sc];exact hy.1.1.2
def BE(gi:GI):B0:=λρ st=>(gi ρ st).bind λw st1=> .ok (w.1.map λl=>(l,w.2),w.2) st1
def ub(c:Ct)(f:Expr->GE):Expr->B0
 | .Call (.Name x p) [a] [] q=>if Fi c x=true then(if plain a=true then m_ (kR f [a]) else Ea) else BE (sv c f (.Call (.Name x p) [a] [] q))
 | .Call (.Attribute o nm apos) [] [] q=>if nm="items"/\xM o=true/\(apos.endLine == q.line)=true then fV (f o) else BE (sv c f (.Call (.Attribute o nm apos) [] [] q))
 | e=>BE (sv c f e)
theorem qu{c:Ct}{k:Nat}(G:Good c k X){f:Expr->GE}(h:∀e,JE X e (f e))(es:List Expr)(kt:Nat)(pt:Pos)(e:Expr):IA X (.Tuple es kt pt) e (ub c f e):=by
 unfold ub
 split
 ·rename_i y p a q
  by_cases g:Fi c y=true
  ·rw[if_pos g]
   obtain⟨rfl,g2,g3⟩:=QK G y g
   by_cases ga:plain a=true
   ·rw[if_pos ga]
    exact Eb g2 g3 (gA h [a] (by simp[ga])) (ay ga)
   ·rw[if_neg ga];exact IB
  ·rw[if_neg g]
   exact xG (mD G h _ _)
 ·rename_i o nm apos q
  by_cases g:nm="items"/\xM o=true/\(apos.endLine == q.line)=true
  ·rw[if_pos g];obtain⟨rfl,g1,g2⟩:=g;exact xN (h _) ⟨sf g1,g2⟩
  ·rw[if_neg g];exact xG (mD G h _ _)
 ·exact xG (mD G h _ _)
def Kk(c:Ct):Expr->Bool
 | .Call (.Name x _) [_] [] _=>Fi c x
 | .Call (.Attribute o nm apos) [] [] q=>decide (nm="items")&&xM o&&(apos.endLine == q.line)
 | _=>false
def nj:List Expr->Option (List Str)
 | []=>some []
 | .Name x _::r=>(nj r).map (x::·)
 | _=>none
theorem sx:∀{es:List Expr}{xs:List Str},nj es=some xs->eQ es xs
 | [],xs,h=>by cases h;exact .nil
 | e::r,xs,h=>by
  cases e with
  | Name x p=>
   unfold nj at h
   cases e1:nj r with
   | none=>rw[e1] at h;cases h
   | some ys=>
    rw[e1] at h
    cases h
    exact .cons (sx e1)
  | _=>cases h
def kT(c:Ct):List (Str×aah)->Option dR
 | []=>some []
 | (n,.free)::r=>if c.names.lookup n=some .cell\/c.names.lookup n=some .free then(match mB n c.N,kT c r with | some i,some l=>some ((n,i)::l) | _,_=>none) else none
 | _::r=>kT c r
theorem qv{c:Ct}:∀{ns:List (Str×aah)}{cs:dR},kT c ns=some cs->(∀y∈ns,y.2= .free->c.names.lookup y.1=some .cell\/c.names.lookup y.1=some .free)/\∀p∈cs,(p.1,dZ)∈ns/\c.N[p.2]? =some p.1
 | [],cs,h=>by cases h;exact⟨(λ_ z=>by cases z),(λ_ z=>by cases z)⟩
 | (n,k)::r,cs,h=>by
  unfold kT at h
  split at h
  ·cases ‹_::_=[]›
  ·rename_i n' r' he
   cases he
   by_cases g:c.names.lookup n=some .cell\/c.names.lookup n=some .free
   ·rw[if_pos g] at h
    cases e1:mB n c.N with
    | none=>rw[e1] at h;cases h
    | some i=>
     cases e2:kT c r with
     | none=>rw[e1,e2] at h;cases h
     | some l=>
      rw[e1,e2] at h
      cases h
      obtain⟨q1,q2⟩:=qv e2
      refine⟨λy hy e=>?_,λp hp=>?_⟩
      ·rcases List.mem_cons.mp hy with z | z
       ·subst z;exact g
       ·exact q1 y z e
      ·rcases List.mem_cons.mp hp with z | z
       ·subst z;exact⟨bp,gR e1⟩
       ·exact⟨aX _ (q2 p z).1,(q2 p z).2⟩
   ·rw[if_neg g] at h;cases h
  ·rename_i kk r' hk he
   cases he
   obtain⟨q1,q2⟩:=qv h
   refine⟨λy hy e=>?_,λp hp=>⟨aX _ (q2 p hp).1,(q2 p hp).2⟩⟩
   rcases List.mem_cons.mp hy with z | z
   ·subst z
    have e':k= .free:=e
    subst e'
    exact(hk n rfl).elim
   ·exact q1 y z e
def nr(c:Ct)(ns:List (Str×aah)):List (Str×aah):=ns.map λ(n,k)=>if(k == .free&&c.names.lookup n == some .cell) then(n,.cell) else(n,k)
def QL:ScopeKind->Bool
 | .function=>true
 | _=>false
def d_(scope:Scope)(x:Str):Bool:=QL scope.kind&&scope.names.all (λy=>decide (scope.names.lookup y.1=some y.2))&&scope.names.all (λy=>decide (y.2≠.cell))&&decide (scope.names.lookup x=some .local)
def Ct.block(c:Ct)(scope:Scope)(x:Str)(cs:dR):Ct:={ c with N:=x::cs.map (·.1),names:=nr c scope.names,loop:=false,top:=false }
def vO(c:Ct)(sub:Ct->(Expr->GE)×(Expr->GT))(f:Expr->GE)(elt:Expr)(x:Str)(iter:Expr)(xZ:Ct->GT)(scope:Scope):GE :=
 if d_ scope x=true/\c.free=true/\isSet iter=false then(match kT c scope.names with
  | some cs=>if(x::cs.map (·.1)).Nodup then cC cs (sv c f iter) (xZ (c.block scope x cs)) ((sub (c.block scope x cs)).1 elt) else bF
  | none=>bF) else bF
def Ct.qw(c:Ct)(scope:Scope)(xs:List Str)(cs:dR):Ct:={ c with N:=xs++cs.map (·.1),names:=nr c scope.names,loop:=false,top:=false }
def qx(c:Ct)(sub:Ct->(Expr->GE)×(Expr->GT))(f:Expr->GE)(elt:Expr)(es:List Expr)(iter:Expr)(xZ:Ct->GT)(scope:Scope):GE:=match nj es with
 | some (x::xr)=>if(x::xr).all (d_ scope)=true/\c.free=true/\isSet iter=false then(match kT c scope.names with
  | some cs=>if((x::xr)++cs.map (·.1)).Nodup then iu (x::xr).length cs (ub c f iter) (xZ (c.qw scope (x::xr) cs)) ((sub (c.qw scope (x::xr) cs)).1 elt) else bF
  | none=>bF) else bF
 | _=>bF
def Sf(c:Ct)(sub:Ct->(Expr->GE)×(Expr->GT))(f:Expr->GE)(elt:Expr)(scope:Scope):List Comprehension->GE
 | [⟨.Name x _,iter,[],0⟩]=>vO c sub f elt x iter (λ_=>λ_ st=> .ok true st) scope
 | [⟨.Name x _,iter,[q],0⟩]=>vO c sub f elt x iter (λc'=>(sub c').2 q) scope
 | [⟨.Tuple es _ _,iter,[],0⟩]=>qx c sub f elt es iter (λ_=>λ_ st=> .ok true st) scope
 | [⟨.Tuple es _ _,iter,[q],0⟩]=>qx c sub f elt es iter (λc'=>(sub c').2 q) scope
 | _=>bF
theorem qy{c:Ct}{k:Nat}(G:Good c k X){scope:Scope}{x:Str}{cs:dR}(hs:d_ scope x=true)(nd:(x::cs.map (·.1)).Nodup)(C:aae)(s0:aaj)(H0:Hp)(fp:List aae)(pn:List (aae×Obj))(E:aak->aaj->Prop)(hA:AW X.A H0) :
  Good (c.block scope x cs) k (fU X scope x cs C s0 H0 fp pn E):=by
 unfold d_ at hs
 simp only[dC,decide_eq_true_eq] at hs
 have hk:scope.kind= .function:=by
  have:=hs.1.1.1
  revert this
  cases scope.kind<;>intro z<;>first | rfl | cases z
 refine⟨rfl,?_,nd,G.un,G.free,(λz=>by cases z),G.cst,G.bl,G.fns,(λz=>by cases z),(λz=>by cases z),hk,G.tab,G.cls,G.xQ,G.Bu,⟨G.rm.d,G.rm.u⟩,G.EK,⟨G.x.lam,G.x.B2,G.x.Nu,(λz=>by cases z),G.x.sk,G.x.Ki⟩,G.fr,hA⟩
 show(relabel scope X.env).names=nr c scope.names
 unfold relabel nr Env.kindOf
 rw[G.kind,G.sc]
 simp
theorem n6{c:Ct}{k:Nat}(G:Good c k X){scope:Scope}{x:Str}{xr:List Str}{cs:dR}(hs:d_ scope x=true)(hf:c.free=true)(nd:((x::xr)++cs.map (·.1)).Nodup)(C:aae)(s0:aaj)(H0:Hp)(fp:List aae)(pn:List (aae×Obj)) :
  Good (c.qw scope (x::xr) cs) k (eP X scope (x::xr) cs C s0 H0 fp pn):=by
 unfold d_ at hs
 simp only[dC,decide_eq_true_eq] at hs
 have hk:scope.kind= .function:=by
  have:=hs.1.1.1
  revert this
  cases scope.kind<;>intro z<;>first | rfl | cases z
 refine⟨rfl,?_,nd,G.un,G.free,(λz=>by cases z),G.cst,G.bl,G.fns,(λz=>by cases z),(λz=>by cases z),hk,G.tab,G.cls,G.xQ,G.Bu,⟨G.rm.d,G.rm.u⟩,G.EK,⟨G.x.lam,G.x.B2,G.x.Nu,(λz=>by cases z),G.x.sk,G.x.Ki⟩,G.fr,.inl (G.free hf).1.hd⟩
 show(relabel scope X.env).names=nr c scope.names
 unfold relabel nr Env.kindOf
 rw[G.kind,G.sc]
 simp
theorem vP{c:Ct}{k:Nat}(G:Good c k X){scope:Scope}{x:Str}{cs:dR}(hs:d_ scope x=true)(hcs:kT c scope.names=some cs)(nd:(x::cs.map (·.1)).Nodup):ez X scope x cs:=by
 unfold d_ at hs
 simp only[dC,decide_eq_true_eq,List.all_eq_true] at hs
 obtain⟨⟨⟨h1,h2⟩,h3⟩,h4⟩:=hs
 have hk:scope.kind= .function:=by
  revert h1
  cases scope.kind<;>intro z<;>first | rfl | cases z
 obtain⟨q1,q2⟩:=qv hcs
 refine⟨hk,h2,h3,h4,λy hy e=>?_,λp hp=>⟨by rw[G.N];exact(q2 p hp).2,h2 _ (q2 p hp).1⟩,nd⟩
 show X.env.scope.names.lookup y.1=_\/X.env.scope.names.lookup y.1=_
 rw[G.sc];exact q1 y hy e
def Kl(X:Cx)(e:Expr)(g:GE):Prop:=∀(i:Nat)(y:Str)(py spos:Pos),X.N.Nodup->X.N[i]? =some y->Loc X.env.scope y->(X.fn y=true\/X.env.scope.names.lookup y=some .local)->JS X (.Assign [.Name y py] e spos) (aY i g)
theorem BF{i:Nat}{s:Stmt}:JS X s (aY i bF):=λρ st σ H m D S R p=>aa p
theorem dv{e:Expr}:Kl X e bF:=λi y py spos _ _ _ _=>BF
theorem zE{c:Ct}{k:Nat}(G:Good c k X){sub:Ct->(Expr->GE)×(Expr->GT)}(hb:∀c X,Good c k X->(∀e,JE X e ((sub c).1 e))/\∀e,JT X e ((sub c).2 e)){f:Expr->GE}(h:∀e,JE X e (f e))(elt:Expr)(scope:Scope)(gens:List Comprehension)(pos:Pos) :
  JE X (.ListComp elt gens scope pos) (Sf c sub f elt scope gens)/\Kl X (.ListComp elt gens scope pos) (Sf c sub f elt scope gens):=by
 have core:∀(x:Str)(px:Pos)(iter:Expr)(ifs:List Expr)(xZ:Ct->GT),(∀c X,Good c k X->yW X ifs (xZ c))->
   JE X (.ListComp elt [⟨.Name x px,iter,ifs,0⟩] scope pos) (vO c sub f elt x iter xZ scope)/\Kl X (.ListComp elt [⟨.Name x px,iter,ifs,0⟩] scope pos) (vO c sub f elt x iter xZ scope):=by
  intro x px iter ifs xZ hg
  unfold vO
  by_cases g:d_ scope x=true/\c.free=true/\isSet iter=false
  ·rw[if_pos g]
   obtain⟨g1,g2,g3⟩:=g
   cases ec:kT c scope.names with
   | none=>exact⟨az,dv⟩
   | some cs=>
    dsimp only
    by_cases nd:(x::cs.map (·.1)).Nodup
    ·rw[if_pos nd]
     have CS:=vP G g1 ec nd
     have hE:∀C s0 H0 fp pn E,AW X.A H0->JE (fU X scope x cs C s0 H0 fp pn E) elt ((sub (c.block scope x cs)).1 elt):=λC s0 H0 fp pn E z=>(hb _ _ (qy G g1 nd C s0 H0 fp pn E z)).1 elt
     have hT:∀C s0 H0 fp pn E,AW X.A H0->yW (fU X scope x cs C s0 H0 fp pn E) ifs (xZ (c.block scope x cs)):=λC s0 H0 fp pn E z=>hg _ _ (qy G g1 nd C s0 H0 fp pn E z)
     exact⟨y6 G.fr CS (ve (G.free g2).2) G.hd (mD G h _ iter).y hE hT (ia g3),λi y py spos hN hi hl hf=>H_ i hN G.fr CS (ve (G.free g2).2) G.hd (mD G h _ iter).y hE hT (ia g3) hi hl hf⟩
    ·rw[if_neg nd];exact⟨az,dv⟩
  ·rw[if_neg g];exact⟨az,dv⟩
 have Km:∀(es:List Expr)(kt:Nat)(pt:Pos)(iter:Expr)(ifs:List Expr)(xZ:Ct->GT),(∀c X,Good c k X->yW X ifs (xZ c))->
   JE X (.ListComp elt [⟨.Tuple es kt pt,iter,ifs,0⟩] scope pos) (qx c sub f elt es iter xZ scope)/\Kl X (.ListComp elt [⟨.Tuple es kt pt,iter,ifs,0⟩] scope pos) (qx c sub f elt es iter xZ scope):=by
  intro es kt pt iter ifs xZ hg
  unfold qx
  cases en:nj es with
  | none=>exact⟨az,dv⟩
  | some xs=>
   cases xs with
   | nil=>exact⟨az,dv⟩
   | cons x xr=>
    dsimp only
    by_cases g:(x::xr).all (d_ scope)=true/\c.free=true/\isSet iter=false
    ·rw[if_pos g]
     obtain⟨g1,g2,g3⟩:=g
     have gx:∀y∈x::xr,d_ scope y=true:=List.all_eq_true.mp g1
     cases ec:kT c scope.names with
     | none=>exact⟨az,dv⟩
     | some cs=>
      dsimp only
      by_cases nd:((x::xr)++cs.map (·.1)).Nodup
      ·rw[if_pos nd]
       have Yr:(x::cs.map (·.1)).Nodup:=nd.sublist (List.Sublist.cons₂ x (List.sublist_append_right xr _))
       have vr:∀y∈x::xr,scope.names.lookup y=some .local:=λy hy=>by
        have q:=gx y hy
        unfold d_ at q
        simp only[dC,decide_eq_true_eq] at q
        exact q.2
       have CS:kh X scope x xr cs:=⟨vP G (gx x bp) ec Yr,vr,nd⟩
       have sl:=sx en
       have hE:∀C s0 H0 fp pn,JE (eP X scope (x::xr) cs C s0 H0 fp pn) elt ((sub (c.qw scope (x::xr) cs)).1 elt):=λC s0 H0 fp pn=>(hb _ _ (n6 G (gx x bp) g2 nd C s0 H0 fp pn)).1 elt
       have hT:∀C s0 H0 fp pn,yW (eP X scope (x::xr) cs C s0 H0 fp pn) ifs (xZ (c.qw scope (x::xr) cs)):=λC s0 H0 fp pn=>hg _ _ (n6 G (gx x bp) g2 nd C s0 H0 fp pn)
       exact⟨vo CS sl (G.free g2).2 (qu G h es kt pt iter) hE hT (ia g3),λi y py spos hN hi hl hf=>Ed i hN CS sl (G.free g2).2 (qu G h es kt pt iter) hE hT (ia g3) hi hl hf⟩
      ·rw[if_neg nd];exact⟨az,dv⟩
    ·rw[if_neg g];exact⟨az,dv⟩
 unfold Sf
 split
 ·exact core _ _ _ _ _ λ_ _ _=>yX
 ·exact core _ _ _ _ _ λc X G'=>yY ((hb c X G').2 _)
 ·exact Km _ _ _ _ _ _ λ_ _ _=>yX
 ·exact Km _ _ _ _ _ _ λc X G'=>yY ((hb c X G').2 _)
 ·exact⟨az,dv⟩
def Kn:List Keyword->Option (Expr×Bool)
 | [⟨some n,l,_⟩]=>if n="key" then some (l,false) else none
 | [⟨some n,l,_⟩,⟨some r,.Constant (.bool true) _ _,_⟩]=>if n="key"/\r="reverse" then some (l,true) else none
 | _=>none
def Fj(c:Ct)(f:Expr->GE)(z:Str)(e l:Expr)(b:Bool)(d:GE):GE:=match l with
 | .Name y _=>(match c.fns.lookup y with
  | some (n,F)=>if z="sorted"/\b=false/\n=1/\okN y=true/\plain e=true/\c.names.lookup z=some .globalImplicit/\c.names.lookup y=some .globalImplicit/\c.bl.contains z=true/\c.Gm.contains y=true/\c.free=true/\c.lj+2<=c.sk then si false F (f e) else d
  | none=>d)
 | _=>d
theorem vQ{c:Ct}{k:Nat}(G:Good c k X){f:Expr->GE}(h:∀e,JE X e (f e))(z:Str)(e l:Expr)(b:Bool){p kp pos:Pos}{kr:List Keyword}{d:GE}(Ys:b=false->kr=[])(hd:JE X (.Call (.Name z p) [e] (UJ l kp::kr) pos) d):JE X (.Call (.Name z p) [e] (UJ l kp::kr) pos) (Fj c f z e l b d):=by
 unfold Fj
 split
 ·rename_i y yp
  cases ef:c.fns.lookup y with
  | none=>exact hd
  | some q=>
   obtain⟨n,F⟩:=q
   dsimp only
   by_cases g:z="sorted"/\b=false/\n=1/\okN y=true/\plain e=true/\c.names.lookup z=some .globalImplicit/\c.names.lookup y=some .globalImplicit/\c.bl.contains z=true/\c.Gm.contains y=true/\c.free=true/\c.lj+2<=c.sk
   ·rw[if_pos g]
    obtain⟨rfl,rfl,rfl,g1,g2,g3,g4,g5,g6,g7,g8⟩:=g
    rw[Ys rfl]
    exact IU ((G.free g7).1.mono (by have:=G.x.sk;omega)) (G.free g7).2 (by show X.env.scope.names.lookup _=_;rw[G.sc];exact g3) (G.bl _ g5) (h e) (G.x.Ki y 1 F ef g6) (by show X.env.scope.names.lookup _=_;rw[G.sc];exact g4) (gn g1) (ay g2)
   ·rw[if_neg g];exact hd
 ·exact hd
def Fl(c:Ct)(sub:Ct->(Expr->GE)×(Expr->GT))(f:Expr->GE)(g:Expr)(e:Expr)(ks:List Keyword)(d:GE):GE:=match g,Kn ks with
 | .Name z _,some (l,b)=>Fj c f z e l b d
 | _,_=>d
theorem Fm{c:Ct}{k:Nat}(G:Good c k X){sub:Ct->(Expr->GE)×(Expr->GT)}(hb:∀k c X,Good c k X->(∀e,JE X e ((sub c).1 e))/\∀e,JT X e ((sub c).2 e)){f:Expr->GE}(h:∀e,JE X e (f e))(g e:Expr)(ks:List Keyword)(pos:Pos){d:GE}(hd:JE X (.Call g [e] ks pos) d):JE X (.Call g [e] ks pos) (Fl c sub f g e ks d):=by
 unfold Fl
 split
 ·rename_i z p l b hk
  unfold Kn at hk
  split at hk
  ·split at hk
   ·rename_i e1
    cases hk
    subst e1
    exact vQ G h _ _ _ _ (λ_=>rfl) hd
   ·cases hk
  ·split at hk
   ·rename_i e1
    cases hk
    obtain⟨rfl,rfl⟩:=e1
    exact vQ G h _ _ _ _ (λz=>by cases z) hd
   ·cases hk
  ·cases hk
 ·exact hd
def Fn(c:Ct)(sub:Ct->(Expr->GE)×(Expr->GT))(fE:Expr->GE)(pos:Pos)(f:Expr)(as:List Expr)(ks:List Keyword):GE:=match as with
 | [e]=>Fl c sub fE f e ks (zu c fE pos f [e] ks)
 | _=>zu c fE pos f as ks
theorem BG{c:Ct}{k:Nat}(G:Good c k X){sub:Ct->(Expr->GE)×(Expr->GT)}(hb:∀k c X,Good c k X->(∀e,JE X e ((sub c).1 e))/\∀e,JT X e ((sub c).2 e)){fE:Expr->GE}(h:∀e,JE X e (fE e))(f:Expr)(as:List Expr)(ks:List Keyword)(pos:Pos):JE X (.Call f as ks pos) (Fn c sub fE pos f as ks):=by
 have d:=E7 G h f as ks pos
 rcases as with _ | ⟨e,_ | ⟨l,_ | ⟨l2,r⟩⟩⟩
 ·exact d
 ·exact Fm G hb h f e ks pos d
 ·exact d
 ·exact d
def Fo(c:Ct)(sub:Ct->(Expr->GE)×(Expr->GT))(f:Expr->GE)(t:Expr->GT):Expr->GE
 | .Name x _=>ER c x
 | .Constant k _ _=>ET k
 | .BinOp a o b _=>aq (QH o) (f a) (f b)
 | .UnaryOp o a _=>Yq f o a
 | .BoolOp .And es _=>NA f es
 | .BoolOp .Or es _=>UR f es
 | .Compare a os bs _=>Ny c f a os bs
 | .IfExp q a b _=>AG (t q) (f a) (f b)
 | .Tuple es _ _=>BD f eJ es
 | .List es _=>BD f eu es
 | .Subscript a b _=>Nz c f a b
 | .Dict [] [] _=>qg
 | .Dict ks vs _=>Fe (QI ks||QJ c ks) f ks vs
 | .Call g as ks p=>Fn c sub f p g as ks
 | .ListComp elt gens scope _=>Sf c sub f elt scope gens
 | _=>bF
def stepT(c:Ct)(f:Expr->GE)(t:Expr->GT):Expr->GT
 | .UnaryOp .Not a _=>tH (t a)
 | .BoolOp .And es _=>NC t es
 | .BoolOp .Or es _=>US t es
 | .Compare a os bs _=>Fc c f a os bs
 | .Name x p=>iK (f (.Name x p))
 | .Call g as ks p=>iK (f (.Call g as ks p))
 | .Subscript a b p=>iK (f (.Subscript a b p))
 | .Constant k j p=>iK (f (.Constant k j p))
 | .BinOp a o b p=>iK (f (.BinOp a o b p))
 | _=>jE
theorem vR{c:Ct}{k:Nat}(G:Good c k X){sub:Ct->(Expr->GE)×(Expr->GT)}(hb:∀k c X,Good c k X->(∀e,JE X e ((sub c).1 e))/\∀e,JT X e ((sub c).2 e)){f:Expr->GE}{t:Expr->GT}(h:∀e,JE X e (f e))(ht:∀e,JT X e (t e))(e:Expr):JE X e (Fo c sub f t e):=by
 have hu:X.A.units+64 < cLine:=G.un
 cases e with
 | Name x p=>exact ES G x p
 | Constant v j p=>exact Bv v j p
 | BinOp a o b p=>exact L8 (Jb o) (h a) (h b)
 | UnaryOp o a p=>
  cases o with
  | USub=>exact L_ (h a)
  | Not=>exact Me (h a)
  | _=>exact az
 | BoolOp o es p=>
  cases o with
  | And=>exact zx h p es
  | Or=>exact Ff h p es
 | Compare a os bs p=>exact Jf G h a os bs p
 | IfExp q a b p=>exact Pz (ht q) (h a) (h b)
 | Tuple es j p=>
  show JE X _ (BD f eJ es)
  unfold BD
  by_cases g:es.all plain=true
  ·rw[if_pos g];exact Mf (gA h es g)
  ·rw[if_neg g];exact az
 | List es p=>
  show JE X _ (BD f eu es)
  unfold BD
  by_cases g:es.all plain=true
  ·rw[if_pos g];exact Mg (gA h es g)
  ·rw[if_neg g];exact az
 | Subscript a b p=>exact Jh G h a b p
 | Dict ks vs p=>
  cases ks with
  | cons k ks=>exact zw (by have:=G.un;omega) _ h (k::ks) vs p
  | nil=>
   cases vs with
   | nil=>exact Iu
   | cons v vs=>exact zw (by have:=G.un;omega) (QI []||QJ c []) h [] (v::vs) p
 | Call g as ks p=>exact BG G hb h g as ks p
 | ListComp elt gens scope p=>exact(zE G (hb k) h elt scope gens p).1
 | _=>exact az
def BH:Expr->Bool
 | .ListComp .. =>true
 | .SetComp .. =>true
 | .DictComp .. =>true
 | .Set .. =>true
 | _=>false
theorem ud{e:Expr}{t:Option Expr}{n:Nat}{env:Env}(h:BH e=false):swapsWith e t n env=pure false:=by
 cases e<;>first | rfl | cases h
theorem vS{e o i:Expr}{p:Pos}{n:Nat}{env:Env}:swapsWith e (some (.Subscript o i p)) n env=pure false:=by
 cases e<;>rfl
theorem Fp{c:Ct}{k:Nat}(G:Good c k X){sub:Ct->(Expr->GE)×(Expr->GT)}(hb:∀k c X,Good c k X->(∀e,JE X e ((sub c).1 e))/\∀e,JT X e ((sub c).2 e)){f:Expr->GE}{t:Expr->GT}(h:∀e,JE X e (f e))(ht:∀e,JT X e (t e))(e:Expr):Kl X e (Fo c sub f t e):=by
 by_cases g:BH e=false
 ·exact λi y py spos hN hi hl hf=>tO i hN (vR G hb h ht e) hi hl (ud g) hf
 ·cases e with
  | ListComp elt gens scope p=>exact(zE G (hb k) h elt scope gens p).2
  | SetComp=>exact dv
  | DictComp=>exact dv
  | Set=>exact dv
  | _=>exact absurd rfl g
theorem Fq{c:Ct}{k:Nat}(G:Good c k X){f:Expr->GE}{t:Expr->GT}(h:∀e,JE X e (f e))(ht:∀e,JT X e (t e))(e:Expr):JT X e (stepT c f t e):=by
 have hu:X.A.units+64 < cLine:=G.un
 cases e with
 | UnaryOp o a p=>
  cases o with
  | Not=>exact Mc (ht a)
  | _=>exact jF
 | BoolOp o es p=>
  cases o with
  | And=>exact(zy ht p es).jt
  | Or=>exact(Fh ht p es).jt
 | Compare a os bs p=>exact Fd G h a os bs p
 | Name x p=>exact pL (h _) (λ_=>rfl)
 | Call g as ks p=>exact pL (h _) (λ_=>rfl)
 | Subscript a b p=>exact pL (h _) (λ_=>rfl)
 | Constant v j p=>exact pL (h _) (λ_=>rfl)
 | BinOp a o b p=>exact pL (h _) (λ_=>rfl)
 | _=>exact jF
end
def kU:Nat->Ct->(Expr->GE)×(Expr->GT)
 | 0,_=>(λ_=>bF,λ_=>jE)
 | n+1,c=>(Fo c (kU n) (kU n c).1 (kU n c).2,stepT c (kU n c).1 (kU n c).2)
section
variable {X:Cx}
theorem dS:∀(n:Nat)(k:Nat)(c:Ct)(X:Cx),Good c k X->(∀e,JE X e ((kU n c).1 e))/\∀e,JT X e ((kU n c).2 e)
 | 0,_,_,_,_=>⟨λ_=>az,λ_=>jF⟩
 | n+1,k,c,X,G=>⟨λe=>vR G (λk c X G=>dS n k c X G) (dS n k c X G).1 (dS n k c X G).2 e,λe=>Fq G (dS n k c X G).1 (dS n k c X G).2 e⟩
theorem Fs{k:Nat}:∀(n:Nat)(c:Ct)(X:Cx),Good c k X->∀e,Kl X e ((kU n c).1 e)
 | 0,_,_,_,_=>dv
 | n+1,c,X,G,e=>Fp G (λk c X G=>dS n k c X G) (dS n k c X G).1 (dS n k c X G).2 e
def slot(c:Ct)(x:Str):Option Nat:=if c.names.lookup x=some .local\/(c.names.lookup x=some .cell/\c.top=true) then mB x c.N else none
def zF(c:Ct)(x:Str):Option Nat:=if c.names.lookup x=some .local then mB x c.N else none
theorem Ft{c:Ct}{k:Nat}(G:Good c k X){x:Str}{i:Nat}(h:zF c x=some i):X.N[i]? =some x/\X.env.scope.names.lookup x=some .local:=by
 unfold zF at h
 by_cases e:c.names.lookup x=some .local
 ·rw[if_pos e] at h
  exact⟨by rw[G.N];exact gR h,by rw[G.sc];exact e⟩
 ·rw[if_neg e] at h;cases h
theorem ue{c:Ct}{k:Nat}(G:Good c k X){x:Str}{i:Nat}(h:slot c x=some i):X.N[i]? =some x/\(Loc X.env.scope x/\(X.fn x=true\/X.env.scope.names.lookup x=some .local)):=by
 unfold slot at h
 by_cases e:c.names.lookup x=some .local\/(c.names.lookup x=some .cell/\c.top=true)
 ·rw[if_pos e] at h
  refine⟨by rw[G.N];exact gR h,?_⟩
  rcases e with e | ⟨e,e2⟩
  ·have q:X.env.scope.names.lookup x=some .local:=by rw[G.sc];exact e
   exact⟨.inl q,.inr q⟩
  ·have q:X.env.scope.names.lookup x=some .cell:=by rw[G.sc];exact e
   exact⟨.inr q,.inl (G.fn e2 x)⟩
 ·rw[if_neg e] at h;cases h
def slots(c:Ct):List Expr->Option (List Nat)
 | []=>some []
 | .Name x _::es=>(match slot c x,slots c es with | some i,some is=>some (i::is) | _,_=>none)
 | _=>none
theorem mE{c:Ct}{k:Nat}(G:Good c k X):∀{es:List Expr}{is:List Nat},slots c es=some is->Slots X es is
 | [],is,h=>by cases h;exact .nil
 | e::es,is,h=>by
  cases e with
  | Name x p=>
   have h:(match slot c x,slots c es with | some i,some is=>some (i::is) | _,_=>none)=some is:=h
   cases e1:slot c x with
   | none=>rw[e1] at h;cases h
   | some i=>
    cases e2:slots c es with
    | none=>rw[e1,e2] at h;cases h
    | some js=>
     rw[e1,e2] at h
     cases h
     obtain⟨q1,q2⟩:=ue G e1
     exact .cons q1 q2 (mE G e2)
  | _=>cases h
def QM:Expr->Bool
 | .Tuple .. =>true
 | _=>false
def Ji(es:List Expr)(v:Expr):Bool:=!QM v||decide (4<=es.length)
def ND:Expr->Bool
 | .Dict [] [] _=>true
 | _=>false
theorem BI{es:List Expr}{k:Nat}{p:Pos}{v:Expr}(h:Ji es v=true):swappedStores [.Tuple es k p] v X.env=pure none:=by
 cases v with
 | Tuple vs k2 p2=>
  have h4:4<=es.length:=by simpa [Ji,QM] using h
  unfold swappedStores
  have:(!(es.length == 2||es.length == 3)||vs.length != es.length||X.env.blockKind != .function)=true:=by
   have h2:(es.length == 2)=false:=by simp;omega
   have h3:(es.length == 3)=false:=by simp;omega
   rw[h2,h3];rfl
  dsimp only
  rw[if_pos this]
 | _=>rfl
def NF(c:Ct)(f:Expr->GE)(v:Expr):List Expr->GS
 | [.Name x _]=>(match slot c x with | some i=>if ND v=true/\c.Sb.contains x=true then aY i D9 else aY i (f v) | none=>cw)
 | [.Subscript o i _]=>if BC i=false then(if Jg c o=true then y_ (f v) (f o) (f i) else kP (f v) (f o) (f i)) else cw
 | [.Tuple es _ _]=>if BH v=false/\Ji es v=true/\c.free=true then(match slots c es with | some is=>yS is (f v) | none=>cw) else cw
 | _=>cw
theorem NG{c:Ct}{k:Nat}(G:Good c k X){f:Expr->GE}(h:∀e,JE X e (f e))(ha:∀e,Kl X e (f e))(v:Expr)(ts:List Expr)(pos:Pos):JS X (.Assign ts v pos) (NF c f v ts):=by
 unfold NF
 split
 ·rename_i x p
  cases e:slot c x with
  | none=>exact bP
  | some i=>
   obtain⟨e1,e2⟩:=ue G e
   dsimp only
   by_cases g:ND v=true/\c.Sb.contains x=true
   ·rw[if_pos g]
    have gv:=g.1
    unfold ND at gv
    split at gv
    ·exact tO i (by rw[G.N];exact G.nd) Ir e1 e2.1 rfl e2.2
    ·cases gv
   ·rw[if_neg g];exact ha v i x _ _ (by rw[G.N];exact G.nd) e1 e2.1 e2.2
 ·rename_i o i p
  by_cases g2:BC i=false
  ·rw[if_pos g2]
   by_cases gd:Jg c o=true
   ·rw[if_pos gd];exact Iy (by have:=G.un;omega) (h v) (h o) (h i) vS
   rw[if_neg gd]
   refine HK (h v) (h o) (h i) (by unfold swapsWithSole;exact vS) ?_ rfl ?_
   ·cases v<;>rfl
   ·intro _
    cases i<;>first | rfl | cases g2
  ·rw[if_neg g2];exact bP
 ·rename_i es kk p
  by_cases g:BH v=false/\Ji es v=true/\c.free=true
  ·rw[if_pos g]
   cases e1:slots c es with
   | none=>exact bP
   | some is=>
    have g2:=g.2.1
    refine HW (by rw[G.N];exact G.nd) (G.free g.2.2).2 (mE G e1) (h v) (ud g.1) ?_
    exact BI g2
  ·rw[if_neg g];exact bP
 ·exact bP
def NH(c:Ct)(f:Expr->GE)(i:Nat)(gb:GS):Expr->GS
 | .Call (.Name x p) [a] [] q=>if kx c x=true then(if plain a=true then tQ i (kR f [a]) gb else cw) else xt i (f (.Call (.Name x p) [a] [] q)) gb
 | e=>if isSet e=false then xt i (f e) gb else cw
theorem NI{c:Ct}{k:Nat}(G:Good c k X)(hl:c.loop=true){f:Expr->GE}(h:∀e,JE X e (f e)){x:Str}{i:Nat}(hx:slot c x=some i){body:List Stmt}{gb:GS}(hb:mU X body gb)(e:Expr)(pos pos':Pos):JS X (.For (.Name x pos') e body [] pos) (NH c f i gb e):=by
 have nd:X.N.Nodup:=by rw[G.N];exact G.nd
 obtain⟨e1,e2⟩:=ue G hx
 have rg:=vN G
 unfold NH
 split
 ·rename_i y p a q
  by_cases g:kx c y=true
  ·rw[if_pos g]
   obtain⟨rfl,g2,g3⟩:=rg y g
   by_cases ga:plain a=true
   ·rw[if_pos ga]
    exact Dy i nd (G.loop hl).2 (G.loop hl).1 g2 g3 (gA h [a] (by simp[ga])) hb e1 e2.1 e2.2 (ay ga)
   ·rw[if_neg ga];exact bP
  ·rw[if_neg g];exact Dw i nd (G.loop hl).2 (G.loop hl).1 (h _) hb e1 e2.1 e2.2 (ia rfl)
 ·by_cases g:isSet e=false
  ·rw[if_pos g];exact Dw i nd (G.loop hl).2 (G.loop hl).1 (h _) hb e1 e2.1 e2.2 (ia g)
  ·rw[if_neg g];exact bP
def x8(c:Ct)(f:Expr->GE):Expr->GS
 | .Call (.Name x _) (e::es) [] _=>if okN x=true/\(e::es).all plain=true/\c.names.lookup x=some .globalImplicit/\c.clss.contains x=true/\c.free=true then pP x (kR f (e::es)) else cw
 | _=>cw
theorem Fv{c:Ct}{k:Nat}(G:Good c k X){f:Expr->GE}(h:∀e,JE X e (f e))(e:Expr)(pos:Pos):JS X (.Raise (some e) none pos) (x8 c f e):=by
 unfold x8
 split
 ·rename_i x p e es q
  by_cases g:okN x=true/\(e::es).all plain=true/\c.names.lookup x=some .globalImplicit/\c.clss.contains x=true/\c.free=true
  ·rw[if_pos g]
   obtain⟨g1,g2,g3,g4,g5⟩:=g
   have hg:Gl X x:=by
    show X.env.scope.names.lookup x=_
    rw[G.sc];exact g3
   have gp:plain e=true/\es.all plain=true:=by rw[eL,dC] at g2;exact g2
   obtain⟨C,q1,q2⟩:=G.cls x g4
   exact Dz (G.free g5).2 q2 hg q1 (gA h (e::es) g2) (gn g1) (ay gp.1) (gH gp.2)
  ·rw[if_neg g];exact bP
 ·exact bP
def NJ(c:Ct)(b:Ct->List Stmt->GS)(body:List Stmt):List ExceptHandler->GS
 | [.ExceptHandler (some (.Name x _)) (some n) (b0::suite) _]=>if okN x=true/\c.names.lookup x=some .globalImplicit/\c.clss.contains x=true/\c.free=true/\c.top=true then
   (match zF c n with
   | some i=>AX (λy=>c.tc.lookup (y,x)) i (b c.Kj body) (b c.zt (b0::suite))
   | none=>cw) else cw
 | _=>cw
theorem NK{c:Ct}{k:Nat}(G:Good c k X){b:Ct->List Stmt->GS}(hb:∀c X,Good c k X->∀s,mU X s (b c s))(body:List Stmt)(hs:List ExceptHandler)(pos:Pos):JS X (.Try body hs [] [] pos) (NJ c b body hs):=by
 unfold NJ
 split
 ·rename_i x p n b0 suite q
  by_cases g:okN x=true/\c.names.lookup x=some .globalImplicit/\c.clss.contains x=true/\c.free=true/\c.top=true
  ·rw[if_pos g]
   obtain⟨g1,g3,g4,g5,g6⟩:=g
   have hg:Gl X x:=by
    show X.env.scope.names.lookup x=_
    rw[G.sc];exact g3
   obtain⟨D,q1,q2⟩:=G.cls x g4
   cases e1:zF c n with
   | none=>exact bP
   | some i=>
    obtain⟨e2,e3⟩:=Ft G e1
    exact MF (G.stk g6) (by rw[G.N];exact G.nd) e2 e3 (G.free g5).2 G.tab hg q1 q2.cls (gn g1) (λpn E=>hb _ _ (G.body g5 pn E) _) λa o u pn E nx=>hb _ _ (G.suite nx pn E) _
  ·rw[if_neg g];exact bP
 ·exact bP
def Fw(c:Ct)(f:Expr->GE)(t:Expr->GT)(b:Ct->List Stmt->GS):Stmt->GS
 | .Return (some e) _=>cY (f e)
 | .Return none _=>cY (gC .aL)
 | .Expr e _=>if BH e=false then fj (f e) else cw
 | .If q x y _=>nO (t q) (b c x) (b c y)
 | .Assign ts v _=>NF c f v ts
 | .For (.Name x _) e body [] _=>if c.loop=true then(match slot c x with | some i=>NH c f i (b c body) e | none=>cw) else cw
 | .For (.Tuple es _ _) e body [] _=>if c.loop=true/\isSet e=false then(match slots c es with | some is=>(if Kk c e=true then mv is (ub c f e) (b c body) else va is (f e) (b c body)) | none=>cw) else cw
 | .Raise (some e) none _=>x8 c f e
 | .Try body hs [] [] _=>NJ c b body hs
 | .Pass _=>cH
 | _=>cw
theorem Fx{c:Ct}{k:Nat}(G:Good c k X){f:Expr->GE}{t:Expr->GT}{b:Ct->List Stmt->GS}(h:∀e,JE X e (f e))(ha:∀e,Kl X e (f e))(ht:∀e,JT X e (t e))(hb:∀c X,Good c k X->∀s,mU X s (b c s))(s:Stmt):JS X s (Fw c f t b s):=by
 unfold Fw
 split
 ·exact Mt (h _)
 ·exact HR
 ·rename_i e p
  by_cases g:BH e=false
  ·rw[if_pos g];exact HJ (h _) (ud g)
  ·rw[if_neg g];exact bP
 ·exact P0 (ht _) (hb c X G _) (hb c X G _)
 ·exact NG G h ha _ _ _
 ·rename_i x p e body q
  by_cases g:c.loop=true
  ·rw[if_pos g]
   cases e1:slot c x with
   | none=>exact bP
   | some i=>exact NI G g h e1 (hb c X G body) e _ _
  ·rw[if_neg g];exact bP
 ·rename_i es kk p e body q
  by_cases g:c.loop=true/\isSet e=false
  ·rw[if_pos g]
   cases e1:slots c es with
   | none=>exact bP
   | some is=>
    dsimp only
    by_cases ge:Kk c e=true
    ·rw[if_pos ge];exact IC (by rw[G.N];exact G.nd) (G.loop g.1).2 (G.loop g.1).1 (mE G e1) (qu G h es kk p e) (hb c X G body) (ia g.2)
    ·rw[if_neg ge]
     exact HX (by rw[G.N];exact G.nd) (G.loop g.1).2 (G.loop g.1).1 (mE G e1) (h e) (hb c X G body) (ia g.2)
  ·rw[if_neg g];exact bP
 ·exact Fv G h _ _
 ·exact NK G hb _ _ _
 ·exact HI
 ·exact bP
end
def x9(f:Stmt->GS):List Stmt->GS
 | []=>cH
 | [s]=>f s
 | s::s'::r=>aH (f s) (x9 f (s'::r))
theorem vT{X:Cx}{f:Stmt->GS}(h:∀s,JS X s (f s)):∀ss,mU X ss (x9 f ss)
 | []=>HG
 | [s]=>HH (h s)
 | s::s'::r=>Dj (h s) (vT h (s'::r))
def cV:Nat->Ct->List Stmt->GS
 | 0,_=>λ_=>cw
 | n+1,c=>x9 (Fw c (kU 40 c).1 (kU 40 c).2 (cV n))
theorem qz{k:Nat}:∀(n:Nat)(c:Ct)(X:Cx),Good c k X->∀ss:List Stmt,mU X ss (cV n c ss)
 | 0,_,_,_,_=>AL
 | n+1,c,X,G,ss=>vT (λs=>Fx G (dS 40 k c X G).1 (Fs 40 c X G) (dS 40 k c X G).2 (qz n) s) ss
structure Fy(K:PySem.W.Frag)(mg:Str->Option aak)(q:Str)(P:aae):Prop where
 tab:iU K q=some P
 code:∃c o vs file tf flags tg UT text tt,PySem.W.tabIn K q=some (c,P)/\K.lookup c=some o/\o.cls= .type "code"/\o.data= .fields vs/\vs[11]? =some (.ref P)/\vs.getD 11 .none= .ref P/\vs.getD 18 .none= .str file tf/\
  vs.getD 7 .none= .int flags tg/\vs.getD 9 .none= .bool UT/\vs.getD 10 .none= .int text tt/\c≠P
 mem:q∈dm
 uniq:∀q',q'∈dm->iU K q'=some P->q'=q
theorem Fy.at'{X:Cx}{q:Str}{P f:aae}{cdv:aak}(h:Fy X.K X.mg q P)(M:Bf X.K X.mg X.base)(hn:PySem.W.nsIn X.K aau q=some (some (.ref f)))(hc:Dp X.K f cdv)(e1:X.env.code=cdv)(e2:X.env.qual=q++".<locals>."):J_ X q P:=by
 obtain⟨c,o,vs,file,tf,flags,tg,UT,text,tt,t,l,r⟩:=h.code
 refine⟨⟨c,?_,o,vs,file,tf,flags,tg,UT,text,tt,M.1.B_ _ _ l,r⟩,e2,h.tab,h.mem,h.uniq,M.2⟩
 ·obtain⟨of,lf,fd,d,cd⟩:=hc
  rw[e1,<-cd]
  unfold PySem.W.tabIn at t
  rw[hn] at t
  dsimp only at t
  rw[lf] at t
  obtain⟨oc,od,da,sl⟩:=of
  dsimp only at d
  subst d
  dsimp only at t
  cases q1:fd.code with
  | ref c2=>
   rw[q1] at t
   dsimp only at t
   split at t
   ·split at t
    ·cases t;rfl
    ·cases t
   ·cases t
  | _=>rw[q1] at t;cases t
structure BJ(c:Ct)(k:Nat)(P:aai)(w:aal)(K:PySem.W.Frag)(mg:Str->Option aak)(base:Heap):Prop where
 lam:∀p L,c.lam=some (p,L)->Ej P w K mg base k p 3 L
 B2:∀x F,c.B2.lookup x=some F->Uy P w K mg k c.lj x F
 Nu:∀x n F,c.fns.lookup x=some (n,F)->c.Sd.contains x=true->∀base,Bf K mg base->jw P w K mg base c.lj x n F
 at':c.self∈dm->∃P,Fy K mg c.self P
 sk:c.sk<=k
 Ki:∀x n F,c.fns.lookup x=some (n,F)->c.Gm.contains x=true->jw P w K mg base c.lj x n F
theorem BJ.no{c:Ct}{k:Nat}{P:aai}{w:aal}{K:PySem.W.Frag}{mg:Str->Option aak}{base:Heap}(h1:c.lam=none)(h2:c.B2=[])(h3:c.Sd=[])(h4:c.self="")(h5:c.sk=0:=by rfl)(h6:c.Gm=[]:=by rfl):BJ c k P w K mg base :=
 ⟨(λp L e=>by rw[h1] at e;cases e),(λx F e=>by rw[h2] at e;cases e),(λx n F _ e=>by rw[h3] at e;cases e),(λe=>by rw[h4] at e;exact absurd e (by decide)),by rw[h5];exact bY _,(λx n F _ e=>by rw[h6] at e;cases e)⟩
structure Fz(c:Ct)(k:Nat)(P:aai)(w:aal)(K:PySem.W.Frag)(mg:Str->Option aak)(base:Heap):Prop where
 cst:∀x w,c.consts.lookup x=some w->EN K mg x w
 bl:∀x,c.bl.contains x=true->mg x=none
 fns:∀x n F,c.fns.lookup x=some (n,F)->jw P w K mg base k x n F
 tab:TabOk K c.tb c.tt c.tc
 cls:∀x,c.clss.contains x=true->∃C,mg x=some (.ref C)/\HS K x C
 xQ:∀x,c.xQ.contains x=true->∃C,mg x=some (.ref C)/\ClsAt K x C
 Bu:∀x kvs,c.Bu.lookup x=some kvs->m8 K w mg x kvs
 EK:∀x n F,c.EK.contains x=true->c.fns.lookup x=some (n,F)->M9 P w K mg base k x n F
 x:BJ c k P w K mg base
theorem bU{P:aai}{w:aal}{K:PySem.W.Frag}{mg:Str->Option aak}{base:Heap}{h:Heap}{k:Nat}{c:Ct}{x:Str}{st:Stmt}{ps:List Str}{g:GS}(KX:K.In h)(NS:h.Ns aau mg)(D:de K x st)(T:Fz c k P w K mg base)
  (S:FnScope c.N ps (defScope st))(hn:(defScope st).names=c.names)(hg:cV 30 c (defBody st)=g)
  (hb:∀(kV doc pm:aak)(an:Option aae)(cdv ct:aak)(us:List aak),us.length=ps.length->bindArgs (PySem.W.fnOf x x (defArgs st) (defBody st) (defScope st) .none kV doc pm an cdv ct) ⟨us,[]⟩=pure (ps.zip us))(hM:c.self∈dm->Bf K mg base/\c.self=x:=by exact λz=>absurd (show("":Str)∈dm from z) (by decide)) :
  jw P w K mg base (k+1) x ps.length (kQ c.N.length g):=by
 obtain⟨f,fd,a,F⟩:=D
 refine⟨f,fd,ps,?_,PySem.W.mg_of KX NS a,F.kp,F.binds hb⟩
 subst hg
 refine J1 F S λcdv UU A outer s H E hr=>?_
 refine qz (k:=k) 30 c _ ⟨rfl,hn,S.nd,zr hr,λ_=>⟨hr,rfl⟩,λ_=>⟨rfl,Jj⟩,T.cst,T.bl,T.fns,λ_=>⟨rfl,rfl,rfl⟩,λ_ _=>rfl,S.kind,T.tab,T.cls,T.xQ,T.Bu,rW.of hr,T.EK,⟨T.x.lam,T.x.B2,T.x.Nu,λ_ z=>?_,T.x.sk,T.x.Ki⟩,⟨_,_,_,rfl,rfl,rfl⟩,.inl hr.hd⟩ _
 obtain⟨P',L⟩:=T.x.at' z
 obtain⟨M,e⟩:=hM z
 exact⟨P',Fy.at' L M (by rw[e];exact a) UU rfl (by rw[e];rfl)⟩
theorem Jk{P:aai}{w:aal}{K:PySem.W.Frag}{mg:Str->Option aak}{h:Heap}{k:Nat}{F:List Wv->Hs->Re Wv}{fa:aae}{st:Stmt}(KX:K.In h)(NS:h.Ns aau mg)(hmg:mg "law"=some (.ref fa))(D:de K "law" st)
  (hp:∀(kV doc pm:aak)(an:Option aae)(cdv ct:aak)(s:aaj)(u:aak),BindsTo s (PySem.W.fnOf "law" "law" (defArgs st) (defBody st) (defScope st) .none kV doc pm an cdv ct) ⟨[u],[]⟩ [("script",u)])
  (FN:∀(f:aae)(fd:aag),LR K "law" "law" st f fd->∀base:Heap,K.In base->base.Ns aau mg->FnOk P w K mg base (CXJ P w) k f fd ["script"] (spW K 1 F)) :
  ∃fd:aag,(∀(s:aaj)(u:aak),BindsTo s fd ⟨[u],[]⟩ [("script",u)])/\∀base:Heap,K.In base->base.Ns aau mg->FnOk P w K mg base (CXJ P w) k fa fd ["script"] (spW K 1 F):=by
 obtain⟨f,fd,a,Fu⟩:=D
 have e:=hmg.symm.trans (PySem.W.mg_of KX NS a)
 cases e
 refine⟨fd,λs u=>?_,FN fa fd Fu⟩
 obtain⟨oc,od,kV,doc,pm,an,cdv,ct,osl,rfl,lk,hcd⟩:=Fu.ex
 exact hp kV doc pm an cdv ct s u
theorem NL{P:aai}{w:aal}{K:PySem.W.Frag}{mg:Str->Option aak}{base:Heap}{k:Nat}{c:Ct}{x:Str}{st:Stmt}{ps:List Str}{g:GS}{f:aae}{fd:aag}(F:LR K x x st f fd)(T:Fz c k P w K mg base)
  (S:FnScope c.N ps (defScope st))(hn:(defScope st).names=c.names)(hg:cV 30 c (defBody st)=g)(hs:c.self∉dm:=by exact(show("":Str)∉dm by decide)):FnOk P w K mg base (CXJ P w) (k+1) f fd ps (spW K ps.length (kQ c.N.length g)):=by
 subst hg
 refine J1 F S λcdv _ A outer s H E hr=>?_
 exact qz (k:=k) 30 c _ ⟨rfl,hn,S.nd,zr hr,λ_=>⟨hr,rfl⟩,λ_=>⟨rfl,Jj⟩,T.cst,T.bl,T.fns,λ_=>⟨rfl,rfl,rfl⟩,λ_ _=>rfl,S.kind,T.tab,T.cls,T.xQ,T.Bu,rW.of hr,T.EK,⟨T.x.lam,T.x.B2,T.x.Nu,λ_ z=>absurd z hs,T.x.sk,T.x.Ki⟩,⟨_,_,_,rfl,rfl,rfl⟩,.inl hr.hd⟩ _
def AllP{α:Type}(P:α->Prop):List α->Prop
 | []=>True
 | a::l=>P a/\AllP P l
theorem AllP.look{κ β:Type}[BEq κ][LawfulBEq κ]{P:κ×β->Prop}:∀{l:List (κ×β)}{x:κ}{b:β},AllP P l->l.lookup x=some b->P (x,b)
 | [],_,_,_,h=>by cases h
 | (y,c)::l,x,b,a,h=>by
  rw[jI] at h
  cases e:x == y with
  | true=>
   rw[e] at h
   cases h
   have e':=eq_of_beq e
   subst e'
   exact a.1
  | false=>rw[e] at h;exact AllP.look a.2 h
theorem AllP.mem{P:Str->Prop}:∀{l:List Str}{x:Str},AllP P l->l.contains x=true->P x
 | [],_,_,h=>by cases h
 | y::l,x,a,h=>by
  rw[xu,Bool.or_eq_true] at h
  rcases h with e | h
  ·have e':=eq_of_beq e
   subst e'
   exact a.1
  ·exact AllP.mem a.2 h
theorem mF{K:PySem.W.Frag}{c:PySem.Str}{C D:aae}(h:ClsAt K c C)(k:ClsAt K c D):C=D:=by
 unfold ClsAt at h k
 rw[h] at k
 cases k
 rfl
theorem NM{K:PySem.W.Frag}{tb:Tab}{tt:u_}{tc:Tab}(h:AllP (λp=>∃C D,ClsAt K p.1.1 C/\ClsAt K p.1.2 D/\ll K C/\PySem.W.kitOne K (.ref C) (.ref D)=some p.2) tb)
  (g:AllP (λp=>∃C,ClsAt K p.1.1 C/\ll K C/\PySem.W.kitOne K (.ref C) (.type p.1.2)=some p.2) tt)
  (f:AllP (λp=>∃C D,ClsAt K p.1.1 C/\ClsAt K p.1.2 D/\PySem.W.excIn K C yQ yR=true/\PySem.W.excIn K D yQ yR=true/\PySem.W.mroIn K C (.ref D)=some p.2) tc):TabOk K tb tt tc :=
 ⟨λc d b C D e hC hD=>by
  obtain⟨C',D',q1,q2,r⟩:=AllP.look h e
  cases mF hC q1
  cases mF hD q2
  exact r,λc d b C D e hC hD=>by
  obtain⟨C',D',q1,q2,r⟩:=AllP.look f e
  cases mF hC q1
  cases mF hD q2
  exact r,λc T b C e hC=>by
  obtain⟨C',q1,r⟩:=AllP.look g e
  cases mF hC q1
  exact r⟩
theorem bB{c:Ct}{k:Nat}{P:aai}{w:aal}{K:PySem.W.Frag}{mg:Str->Option aak}{base:Heap}(hc:AllP (λp=>EN K mg p.1 p.2) c.consts)(hb:AllP (λx=>mg x=none) c.bl)(hf:AllP (λp=>jw P w K mg base k p.1 p.2.1 p.2.2) c.fns)
  (ht:TabOk K c.tb c.tt c.tc)(hk:AllP (λx=>∃C,mg x=some (.ref C)/\HS K x C) c.clss)(hn:AllP (λx=>∃C,mg x=some (.ref C)/\ClsAt K x C) c.xQ)(hd:AllP (λp=>m8 K w mg p.1 p.2) c.Bu)
  (hu:AllP (λx=>∀n F,c.fns.lookup x=some (n,F)->M9 P w K mg base k x n F) c.EK:=by exact trivial)(hx:BJ c k P w K mg base:=by exact BJ.no rfl rfl rfl rfl):Fz c k P w K mg base :=
 ⟨λ_ _ h=>hc.look h,λ_ h=>hb.mem h,λx n F h=>hf.look (b:=(n,F)) h,ht,λ_ h=>hk.mem h,λ_ h=>hn.mem h,λx kvs h=>hd.look (b:=kvs) h,λx n F h k=>hu.mem h n F k,hx⟩
theorem Jl{c:Ct}{k:Nat}{P:aai}{w:aal}{K:PySem.W.Frag}{mg:Str->Option aak}{base:Heap}(hl:c.lam=none)(hf:AllP (λq=>Uy P w K mg k c.lj q.1 q.2) c.B2)
  (hj:AllP (λx=>∀n F,c.fns.lookup x=some (n,F)->∀base,Bf K mg base->jw P w K mg base c.lj x n F) c.Sd)(ha:c.self∈dm->∃P,Fy K mg c.self P)(hk:c.sk<=k:=by exact bY _)(hK:AllP (λx=>∀n F,c.fns.lookup x=some (n,F)->jw P w K mg base c.lj x n F) c.Gm:=by exact trivial):BJ c k P w K mg base :=
 ⟨(λp L e=>by rw[hl] at e;cases e),λx F e=>hf.look (b:=F) e,λx n F e h=>hj.mem h n F e,ha,hk,λx n F e h=>hK.mem h n F e⟩
def Rs.sq(r:Rs)(h:GS):Rs:=match r with
 | .nx ρ st=>h ρ st
 | r=>r
section
variable {α β:Type} {ρ ρ':bA} {st:Hs} {h g ZY ZZ:GS} {ga gb gc:GE} {gt gu:GT} {w:Wv} {c:PySem.Str} {f:α->Hs->Re β} {k:α->Hs->Rs} {a:α} {i:Nat}
@[simp] theorem fk:(Rs.nx ρ st).sq h=h ρ st:=rfl
@[simp] theorem WQ:(Rs.rt w st).sq h= .rt w st:=rfl
@[simp] theorem WR:(Rs.bk ρ st).sq h= .bk ρ st:=rfl
@[simp] theorem WS:(Rs.ct ρ st).sq h= .ct ρ st:=rfl
@[simp] theorem UW:(Rs.err c ρ st).sq h= .err c ρ st:=rfl
@[simp] theorem UX:Rs.bad.sq h= .bad:=rfl
@[simp] theorem aR:(Re.ok a st).bind f=f a st:=rfl
@[simp] theorem QN:(Re.err c st).bind f= .err c st:=rfl
@[simp] theorem QO:(Re.bad:Re α).bind f= .bad:=rfl
@[simp] theorem iz:(Re.ok a st).bx ρ k=k a st:=rfl
@[simp] theorem Sg:(Re.err c st:Re α).bx ρ k= .err c ρ st:=rfl
@[simp] theorem lA:(Re.ok a st).ju= .ok a st:=rfl
@[simp] theorem Sh:(Re.bad:Re α).ju= .bad:=rfl
@[simp] theorem Si:(Re.bad:Re α).bx ρ k= .bad:=rfl
@[simp] theorem eS:aH g h ρ st=(g ρ st).sq h:=by unfold aH Rs.sq;cases g ρ st<;>rfl
@[simp] theorem e_next:cH ρ st= .nx ρ st:=rfl
@[simp] theorem Ko:cY ga ρ st=(ga ρ st).bx ρ λw st'=> .rt w st':=rfl
@[simp] theorem e_expr:fj ga ρ st=(ga ρ st).bx ρ λ_ st'=> .nx ρ st':=rfl
@[simp] theorem QP:aY i ga ρ st=(ga ρ st).bx ρ λw st'=> .nx (ρ.set i (some w)) st':=rfl
def UY(ga gb:GS)(ρ:bA):Bool->Hs->Rs:=λb st'=>if b=true then ga ρ st' else gb ρ st'
@[simp] theorem WT:UY g h ρ true st=g ρ st:=rfl
@[simp] theorem WU:UY g h ρ false st=h ρ st:=rfl
@[simp] theorem NN:nO gt g h ρ st=(gt ρ st).bx ρ (UY g h ρ):=rfl
def WV(o:Option (Option Wv))(st:Hs):Re Wv:=match o with
 | some (some w)=> .ok w st
 | _=> .bad
@[simp] theorem kW:WV (some (some w)) st= .ok w st:=rfl
@[simp] theorem kX:af i ρ st=WV ρ[i]? st:=rfl
@[simp] theorem e_c:gC w ρ st= .ok w st:=rfl
def kB(op:g_)(gb:GE)(ρ:bA):Wv->Hs->Re Wv:=λx st1=>(gb ρ st1).bind λy st2=>(op x y st2).ju
@[simp] theorem vU{op:g_}{x:Wv}:kB op gb ρ x st=(gb ρ st).bind λy st2=>(op x y st2).ju:=rfl
@[simp] theorem n8{op:g_}:aq op ga gb ρ st=(ga ρ st).bind (kB op gb ρ):=rfl
@[simp] theorem Kq:cA ga ρ st=(ga ρ st).bind C4:=rfl
@[simp] theorem Kr{b:Bool}:C4 (.bl b) st= .ok b st:=rfl
@[simp] theorem WW:iK ga ρ st=(ga ρ st).bind tP:=rfl
@[simp] theorem UZ{b:Bool}:tP (.bl b) st= .ok b st:=rfl
@[simp] theorem WX:tH gt ρ st=(gt ρ st).bind λb st1=> .ok (!b) st1:=rfl
def NO(gb:GT)(ρ:bA):Bool->Hs->Re Bool:=λb st1=>if b=true then gb ρ st1 else .ok false st1
@[simp] theorem NP:NO gu ρ true st=gu ρ st:=rfl
@[simp] theorem U0:NO gu ρ false st= .ok false st:=rfl
@[simp] theorem QQ:lX gt gu ρ st=(gt ρ st).bind (NO gu ρ):=rfl
def U1(gb:GT)(ρ:bA):Bool->Hs->Re Bool:=λb st1=>if b=true then .ok true st1 else gb ρ st1
@[simp] theorem WY:U1 gu ρ true st= .ok true st:=rfl
@[simp] theorem WZ:U1 gu ρ false st=gu ρ st:=rfl
@[simp] theorem Yt:L' gt gu ρ st=(gt ρ st).bind (U1 gu ρ):=rfl
def FA(gb:GE)(ρ:bA):Wv->Hs->Re Wv:=λw st1=>match w with
 | .bl true=>gb ρ st1
 | .bl false=> .ok (.bl false) st1
 | _=> .bad
@[simp] theorem Sj:FA gb ρ (.bl true) st=gb ρ st:=rfl
@[simp] theorem Sk:FA gb ρ (.bl false) st= .ok (.bl false) st:=rfl
@[simp] theorem U2:yO ga gb ρ st=(ga ρ st).bind (FA gb ρ):=rfl
def QR:Wv->Hs->Re Wv:=λw st1=>match w with
 | .bl b=> .ok (.bl (!b)) st1
 | _=> .bad
@[simp] theorem Sl{b:Bool}:QR (.bl b) st= .ok (.bl (!b)) st:=rfl
def NQ(ga gb:GE)(ρ:bA):Bool->Hs->Re Wv:=λb st1=>if b=true then ga ρ st1 else gb ρ st1
@[simp] theorem U3:NQ ga gb ρ true st=ga ρ st:=rfl
@[simp] theorem U4:NQ ga gb ρ false st=gb ρ st:=rfl
@[simp] theorem W0:AG gt ga gb ρ st=(gt ρ st).bind (NQ ga gb ρ):=rfl
@[simp] theorem zG:ao ρ st= .ok [] st:=rfl
def Ks(gr:GA)(ρ:bA):Wv->Hs->Re (List Wv):=λx st1=>(gr ρ st1).bind λxs st2=> .ok (x::xs) st2
@[simp] theorem oR{gr:GA}{x:Wv}:Ks gr ρ x st=(gr ρ st).bind λxs st2=> .ok (x::xs) st2:=rfl
@[simp] theorem uf{gr:GA}:ae ga gr ρ st=(ga ρ st).bind (Ks gr ρ):=rfl
def Jm:List Wv->Hs->Re Wv:=λws st1=>if ws.length<=lim then .ok (.tup ws) st1 else .bad
theorem FC{ws:List Wv}(hl:ws.length<=lim):Jm ws st= .ok (.tup ws) st:=if_pos hl
@[simp] theorem FD{gr:GA}:eJ gr ρ st=(gr ρ st).bind Jm:=rfl
def q_:List Wv->Hs->Re Wv:=λws st1=>if ws.length<=lim then .ok (.ref st1.length) (st1++[.lst ws]) else .bad
theorem jR{ws:List Wv}(hl:ws.length<=lim):q_ ws st= .ok (.ref st.length) (st++[.lst ws]):=if_pos hl
@[simp] theorem QT{gr:GA}:eu gr ρ st=(gr ρ st).bind q_:=rfl
section
variable {x x0 x1 x2 x3 x4 x5 x6 x7:Wv}
@[simp] theorem FE:Jm [x0] st= .ok (.tup [x0]) st:=FC (by simp[lim])
@[simp] theorem FF:Jm [x0,x1] st= .ok (.tup [x0,x1]) st:=FC (by simp[lim])
@[simp] theorem U5:q_ [] st= .ok (.ref st.length) (st++[.lst []]):=jR (by simp[lim])
@[simp] theorem NR:q_ [x0] st= .ok (.ref st.length) (st++[.lst [x0]]):=jR (by simp[lim])
@[simp] theorem U6:q_ [x0,x1] st= .ok (.ref st.length) (st++[.lst [x0,x1]]):=jR (by simp[lim])
@[simp] theorem NT:q_ [x0,x1,x2,x3] st= .ok (.ref st.length) (st++[.lst [x0,x1,x2,x3]]):=jR (by simp[lim])
@[simp] theorem NU:q_ [x0,x1,x2,x3,x4,x5,x6,x7] st= .ok (.ref st.length) (st++[.lst [x0,x1,x2,x3,x4,x5,x6,x7]]):=jR (by simp[lim])
end
def n9(n:Nat)(F:List Wv->Hs->Re Wv):List Wv->Hs->Re Wv:=λws st1=>if ws.length=n then F ws st1 else .bad
section
variable {F:List Wv->Hs->Re Wv} {x0 x1 x2 x3:Wv} {gr:GA}
@[simp] theorem Sm:n9 1 F [x0] st=F [x0] st:=rfl
@[simp] theorem Sn:n9 2 F [x0,x1] st=F [x0,x1] st:=rfl
@[simp] theorem So:n9 3 F [x0,x1,x2] st=F [x0,x1,x2] st:=rfl
@[simp] theorem Sq:n9 4 F [x0,x1,x2,x3] st=F [x0,x1,x2,x3] st:=rfl
@[simp] theorem U7{n:Nat}:aP n F gr ρ st=(gr ρ st).bind (n9 n F):=rfl
@[simp] theorem Jn{op:List Wv->Hs->Re Wv}:au op gr ρ st=(gr ρ st).bind λws st1=>(op ws st1).ju:=rfl
end
@[simp] theorem Yu{op:Wv->Hs->Re Wv}:L9 op ga ρ st=(ga ρ st).bind op:=rfl
@[simp] theorem W2{i:Int}:pJ (.int i) st= .ok (.int (-i)) st:=rfl
@[simp] theorem W3{i j:Int}:dO (.int i) (.int j) st= .ok (.int (i+j)) st:=rfl
@[simp] theorem W4{i j:Int}:Mh (.int i) (.int j) st= .ok (.int (i - j)) st:=rfl
@[simp] theorem Yv{i j:Int}:oLt (.int i) (.int j) st= .ok (.bl (decide (i < j))) st:=rfl
@[simp] theorem Yw{i j:Int}:oLe (.int i) (.int j) st= .ok (.bl (decide (i<=j))) st:=rfl
@[simp] theorem Yx{i j:Int}:Oy (.int i) (.int j) st= .ok (.bl (decide (j < i))) st:=rfl
@[simp] theorem Yy{i j:Int}:TY (.int i) (.int j) st= .ok (.bl (decide (j<=i))) st:=rfl
@[simp] theorem Yz{i j:Int}:oEq (.int i) (.int j) st= .ok (.bl (i == j)) st:=rfl
@[simp] theorem YA{i j:Int}:uE (.int i) (.int j) st= .ok (.bl (!(i == j))) st:=rfl
@[simp] theorem YB{i j:PySem.Str}:oEq (.str i) (.str j) st= .ok (.bl (i == j)) st:=rfl
@[simp] theorem YC{i j:PySem.Str}:uE (.str i) (.str j) st= .ok (.bl (!(i == j))) st:=rfl
@[simp] theorem YD{i j:Bool}:oEq (.bl i) (.bl j) st= .ok (.bl (i == j)) st:=by cases i<;>cases j<;>rfl
@[simp] theorem YE{i j:Bool}:uE (.bl i) (.bl j) st= .ok (.bl (!(i == j))) st:=by cases i<;>cases j<;>rfl
theorem iA{i j:Int}(h:j≠0/\j.natAbs.log2 < 9000):cT (.int i) (.int j) st= .ok (.int (i.fdiv j)) st:=by show(if _ then _ else _)=_;rw[if_pos h]
theorem jS{i j:Int}(h:j≠0):oMod (.int i) (.int j) st= .ok (.int (i.fmod j)) st:=by show(if _ then _ else _)=_;rw[if_pos h]
theorem QU{i j:Int}(h:IntMulOk i j):gj (.int i) (.int j) st= .ok (.int (i * j)) st:=by show(if _ then _ else _)=_;rw[if_pos h]
theorem sy{i j:Int}(h1:-(2 ^ 64) < i)(h2:i < 2 ^ 64):gj (.int i) (.int j) st= .ok (.int (i * j)) st:=QU (IntMulOk.of_left (intBits_le_64 h1 h2))
theorem Kt{i j:Int}(h:0<=j/\j<=1000000/\i.natAbs < 2 ^ 64):pK (.int i) (.int j) st= .ok (.int (i ^ j.toNat)) st:=by show(if _ then _ else _)=_;rw[if_pos h]
theorem vV{l:Nat}{i:Int}{ws:List Wv}{v:Wv}(h:aj st l=some ws)(h2:pf ws i=some v):fh (.ref l) (.int i) st= .ok v st:=by
 show(match aj st l with | some ws=>(match pf ws i with | some w=>Re.ok w st | none=> .bad) | none=> .bad)=_
 rw[h]
 dsimp only
 rw[h2]
theorem add_l{l k:Nat}{xs ys:List Wv}(h1:aj st l=some xs)(h2:aj st k=some ys)(hl:xs.length+ys.length<=lim):dO (.ref l) (.ref k) st= .ok (.ref st.length) (st++[.lst (xs++ys)]):=by
 show(match aj st l,aj st k with | some i,some j=>if i.length+j.length<=lim then Re.ok (Wv.ref st.length) (st++[Ob.lst (i++j)]) else .bad | _,_=> .bad)=_
 rw[h1,h2]
 exact if_pos hl
theorem x_{i:Int}{ws:List Wv}{v:Wv}(h2:pf ws i=some v):fh (.tup ws) (.int i) st= .ok v st:=by
 show(match pf ws i with | some w=>Re.ok w st | none=> .bad)=_
 rw[h2]
end
theorem fW{n:Nat}{g:GS}{ws:List Wv}{st st':Hs}{w:Wv}(h:g (ws.map some++aJ (n - ws.length) none) st= .rt w st'):kQ n g ws st= .ok w st':=by unfold kQ;rw[h]
theorem nu{n:Nat}{g:GS}{ws:List Wv}{st st':Hs}{ρ:bA}{c:PySem.Str}(h:g (ws.map some++aJ (n - ws.length) none) st= .err c ρ st'):kQ n g ws st= .err c st':=by unfold kQ;rw[h]
section
variable {ρ:bA} {st:Hs} {ga gb gc:GE} {gl gh:GO}
def W5(gl gh:GO)(ρ:bA):Wv->Hs->Re Wv:=λx st1=>(gl ρ st1).bind λlo st2=>(gh ρ st2).bind λhi st3=>DX x lo hi st3
@[simp] theorem Jo:du ga gl gh ρ st=(ga ρ st).bind (W5 gl gh ρ):=rfl
@[simp] theorem QV{x:Wv}:W5 gl gh ρ x st=(gl ρ st).bind λlo st2=>(gh ρ st2).bind λhi st3=>DX x lo hi st3:=rfl
@[simp] theorem QW:hX ρ st= .ok none st:=rfl
def Ku:Wv->Hs->Re (Option Int):=λw st1=>match w with
 | .int i=> .ok (some i) st1
 | _=> .bad
@[simp] theorem NV:f' ga ρ st=(ga ρ st).bind Ku:=rfl
@[simp] theorem Jp{i:Int}:Ku (.int i) st= .ok (some i) st:=rfl
theorem FG{l:Nat}{ws:List Wv}{lo hi:Option Int}(h:aj st l=some ws):DX (.ref l) lo hi st= .ok (.ref st.length) (st++[.lst (lZ ws lo hi)]):=by
 show(match aj st l with | some ws=>Re.ok (Wv.ref st.length) (st++[Ob.lst (lZ ws lo hi)]) | none=> .bad)=_
 rw[h]
theorem Kv{l:Nat}{ws:List Wv}(h:aj st l=some ws):cP [.ref l] st= .ok (.int ws.length) st:=by
 show(match aj st l with | some ws=>Re.ok (Wv.int ws.length) st | none=> .bad)=_
 rw[h]
def U8(op':g_)(gc:GE)(y:Wv)(ρ:bA):Wv->Hs->Re Wv:=λz st3=>match z with
 | .bl true=>(gc ρ st3).bind λu Gi=>(op' y u Gi).ju
 | .bl false=> .ok (.bl false) st3
 | _=> .bad
def U9(op' NW:g_)(gc gd:GE)(y:Wv)(ρ:bA):Wv->Hs->Re Wv:=λz st3=>match z with
 | .bl true=>(gc ρ st3).bind λu Gi=>(op' y u Gi).ju.bind (U8 NW gd u ρ)
 | .bl false=> .ok (.bl false) st3
 | _=> .bad
@[simp] theorem U_{op' NW:g_}{gd:GE}{y:Wv}:U9 op' NW gc gd y ρ (.bl false) st= .ok (.bl false) st:=rfl
def BK(cat:PySem.Str->Option Bool)(i:Nat)(gs:GS)(r:Rs):Rs:=match r with
 | .err c ρ' st'=>(match cat c with
  | some true=>(match gs (ρ'.set i (some (.kI c))) st' with
   | .nx ρ2 st2=> .nx (ρ2.set i none) st2
   | .rt w st2=> .rt w st2
   | _=> .bad)
  | _=> .bad)
 | r=>r
@[simp] theorem W6{cat:PySem.Str->Option Bool}{i:Nat}{g gs:GS}:AX cat i g gs ρ st=BK cat i gs (g ρ st):=by
 unfold AX BK
 cases g ρ st<;>rfl
@[simp] theorem Sr{cat:PySem.Str->Option Bool}{i:Nat}{gs:GS}:BK cat i gs (.nx ρ st)= .nx ρ st:=rfl
@[simp] theorem Ss{cat:PySem.Str->Option Bool}{i:Nat}{gs:GS}{w:Wv}:BK cat i gs (.rt w st)= .rt w st:=rfl
def Kx(cat:PySem.Str->Option Bool)(gs:GS)(r:Rs):Rs:=match r with
 | .err c ρ' st'=>(match cat c with
  | some true=>(match gs ρ' st' with
   | .nx ρ2 st2=> .nx ρ2 st2
   | .rt w st2=> .rt w st2
   | _=> .bad)
  | _=> .bad)
 | r=>r
@[simp] theorem QX{cat:PySem.Str->Option Bool}{gs:GS}:Kx cat gs (.nx ρ st)= .nx ρ st:=rfl
@[simp] theorem QY{cat:PySem.Str->Option Bool}{gs:GS}{w:Wv}:Kx cat gs (.rt w st)= .rt w st:=rfl
theorem vW{cat:PySem.Str->Option Bool}{i:Nat}{gs:GS}{c:PySem.Str}{ρ2:bA}{st2:Hs}(h:cat c=some true)(k:gs (ρ.set i (some (.kI c))) st= .nx ρ2 st2):BK cat i gs (.err c ρ st)= .nx (ρ2.set i none) st2:=by
 unfold BK
 simp only[h,k]
end
theorem aD{st:Hs}{ws:List Wv}:aj (st++[.lst ws]) st.length=some ws:=by unfold aj;simp
theorem iO{st:Hs}{o:Ob}{l:Nat}{ws:List Wv}(h:aj st l=some ws):aj (st++[o]) l=some ws:=by
 have hl:l < st.length:=by
  unfold aj at h
  cases e:st[l]? with
  | none=>rw[e] at h;cases h
  | some o=>exact(List.getElem?_eq_some_iff.mp e).1
 unfold aj at h ⊢
 rw[cu hl]
 exact h
theorem qA{st:Hs}{l:Nat}{ws:List Wv}(h:aj st l=some ws):l < st.length:=by
 unfold aj at h
 cases e:st[l]? with
 | none=>rw[e] at h;cases h
 | some o=>exact(List.getElem?_eq_some_iff.mp e).1
def bK(l:Nat)(st st':Hs):Prop:=st.length<=st'.length/\∀k,k < st.length->k≠l->st'[k]? =st[k]?
theorem bK.refl{l:Nat}{st:Hs}:bK l st st:=⟨ak _,λ_ _ _=>rfl⟩
theorem bK.trans{l:Nat}{a b c:Hs}(h:bK l a b)(k:bK l b c):bK l a c:=⟨bb h.1 k.1,λj h1 h2=>(k.2 j (bN h1 h.1) h2).trans (h.2 j h1 h2)⟩
theorem bK.push{l:Nat}{st:Hs}{o:Ob}:bK l st (st++[o]):=⟨by simp,λk h _=>cu h⟩
theorem bK.set{l:Nat}{st:Hs}{o:Ob}:bK l st (st.set l o):=⟨by simp,λk _ h=>bE (λz=>h z.symm)⟩
theorem bK.lst{l:Nat}{st st':Hs}(k:bK l st st'){j:Nat}{ws:List Wv}(h:aj st j=some ws)(hj:j≠l):aj st' j=some ws:=by
 unfold aj at h ⊢
 rw[k.2 j (qA (st:=st) (ws:=ws) (by unfold aj;exact h)) hj]
 exact h
@[simp] theorem Su{i:Nat}{ga:GA}{gb:GS}{ρ:bA}{st:Hs}:tQ i ga gb ρ st=(ga ρ st).bx ρ λws st1=>match ws with
 | [.int j]=>if mY j then kL i gb (cZ 0 j.toNat) ρ st1 else .bad
 | _=> .bad:=rfl
@[simp] theorem Sv{c:PySem.Str}{ga:GA}{ρ:bA}{st:Hs}:pP c ga ρ st=(ga ρ st).bx ρ λws st1=>if ws.length<=lim then .err c ρ st1 else .bad:=rfl
def Ky(mt:Wv->Wv->Hs->Re Wv)(ga:GE)(ρ:bA):Wv->Hs->Re Wv:=λo st1=>match o with
 | .ref l=>(match aj st1 l with
  | some _=>(ga ρ st1).bind λv st2=>(mt o v st2).ju
  | none=> .bad)
 | _=> .bad
@[simp] theorem U'{mt:Wv->Wv->Hs->Re Wv}{go ga:GE}{ρ:bA}{st:Hs}:cI mt go ga ρ st=(go ρ st).bind (Ky mt ga ρ):=rfl
theorem oS{mt:Wv->Wv->Hs->Re Wv}{ga:GE}{ρ:bA}{st:Hs}{l:Nat}{ws:List Wv}(h:aj st l=some ws):Ky mt ga ρ (.ref l) st=(ga ρ st).bind λv st2=>(mt (.ref l) v st2).ju:=by
 show(match aj st l with | some _=>(ga ρ st).bind λv st2=>(mt (.ref l) v st2).ju | none=> .bad)=_
 rw[h]
theorem zH{st:Hs}{l:Nat}{v:Wv}{ws:List Wv}(h:st[l]? =some (.lst ws))(hl:ws.length < lim):iL (.ref l) v st= .ok .aL (st.set l (.lst (ws++[v]))):=by
 show(match st[l]? with | some (.lst ws)=>if ws.length < lim then Re.ok Wv.aL (st.set l (.lst (ws++[v]))) else .bad | _=> .bad)=_
 rw[h]
 exact if_pos hl
def kFor(i:Nat)(gb:GS)(ρ:bA):Wv->Hs->Rs:=λw st1=>match w with
 | .ref l=>(match aj st1 l with | some ws=>forL i gb l ws ws ρ st1 | none=> .bad)
 | .tup ws=>kL i gb ws ρ st1
 | .pD ws=>kL i gb ws ρ st1
 | _=> .bad
@[simp] theorem QZ{i:Nat}{ga:GE}{gb:GS}{ρ:bA}{st:Hs}:xt i ga gb ρ st=(ga ρ st).bx ρ (kFor i gb ρ):=rfl
theorem NX{i:Nat}{gb:GS}{ρ:bA}{st:Hs}{l:Nat}{ws:List Wv}(h:aj st l=some ws):kFor i gb ρ (.ref l) st=forL i gb l ws ws ρ st:=by
 show(match aj st l with | some ws=>forL i gb l ws ws ρ st | none=> .bad)=_
 rw[h]
@[simp] theorem Va{i:Nat}{gb:GS}{ρ:bA}{st:Hs}{ws:List Wv}:kFor i gb ρ (.tup ws) st=kL i gb ws ρ st:=rfl
theorem zI{i:Nat}{gb:GS}(P:Nat->bA->Hs->Prop):∀(ws:List Wv)(k:Nat)(ρ:bA)(st:Hs),P k ρ st->
  (∀(j:Nat)(w:Wv),ws[j]? =some w->∀ρ st,P (k+j) ρ st->∃ρ' st',gb (ρ.set i (some w)) st= .nx ρ' st'/\P (k+j+1) ρ' st')->∃ρ' st',kL i gb ws ρ st= .nx ρ' st'/\P (k+ws.length) ρ' st'
 | [],k,ρ,st,h,_=>⟨ρ,st,rfl,h⟩
 | w::r,k,ρ,st,h,step=>by
  obtain⟨ρ1,st1,e1,p1⟩:=step 0 w rfl ρ st h
  obtain⟨ρ2,st2,e2,p2⟩:=zI P r (k+1) ρ1 st1 p1 λj w hw ρ st hp=>by
   have e:k+(j+1)=k+1+j:=by omega
   have q:=step (j+1) w hw ρ st (by rw[e];exact hp)
   rw[e] at q
   exact q
  refine⟨ρ2,st2,?_,?_⟩
  ·unfold kL
   rw[e1]
   exact e2
  ·have e:k+(w::r).length=k+1+r.length:=by simp;omega
   rw[e]
   exact p2
@[simp] theorem Vb{i:Int}{st:Hs}:Qb [.int i] st=Qa [.int i] st:=rfl
@[simp] theorem Vc{cs:dR}{gi:GI}{gt:GT}{ge:GE}{ρ:bA}{st:Hs}:cC cs gi gt ge ρ st=(gi ρ st).bind (eN cs gt ge ρ):=rfl
@[simp] theorem Sw{g:GE}{ρ:bA}{st:Hs}:bM g ρ st=(g ρ st).bind vi:=rfl
@[simp] theorem Vd{g:GA}{ρ:bA}{st:Hs}:DN g ρ st=(g ρ st).bind yZ:=rfl
@[simp] theorem Ve{g:GA}{ρ:bA}{st:Hs}:Ul g ρ st=(g ρ st).bind J6:=rfl
@[simp] theorem Vf{g:GA}{ρ:bA}{st:Hs}:UB g ρ st=(g ρ st).bind Ka:=rfl
theorem FH{j:Int}{st:Hs}(h:mY j):yZ [.int j] st= .ok (none,cZ 0 j.toNat) st:=if_pos h
theorem gS{l:Nat}{st:Hs}{ws:List Wv}(h:aj st l=some ws):vi (.ref l) st= .ok (some l,ws) st:=by
 show(match aj st l with | some ws=>Re.ok (some l,ws) st | none=> .bad)=_
 rw[h]
@[simp] theorem Vg{st:Hs}{z:PySem.Str}:vi (.str z) st= .ok (none,ir z) st:=rfl
@[simp] theorem NY{st:Hs}{ws:List Wv}:vi (.tup ws) st= .ok (none,ws) st:=rfl
theorem zJ{st:Hs}{acc:List Wv}{v:Wv}(h:acc.length < lim):iL (.ref st.length) v (st++[.lst acc])= .ok .aL (st++[.lst (acc++[v])]):=by
 rw[zH (ws:=acc) (by simp) h]
 congr 1
 simp
theorem lB{w:Wk}{gt:Wv->Hs->Re Bool}{ge:Wv->Hs->Re Wv}{st:Hs}{t:Wv->Bool}{f:Wv->Wv}(ck:jK w st):∀(ws acc:List Wv),(∀v∈ws,∀acc,gt v (st++[.lst acc])= .ok (t v) (st++[.lst acc]))->
  (∀v∈ws,t v=true->∀acc,ge v (st++[.lst acc])= .ok (f v) (st++[.lst acc]))->acc.length+ws.length < lim->jJ (jK w) gt ge st.length ws (st++[.lst acc])=some (st++[.lst (acc++(ws.filter t).map f)])
 | [],acc,_,_,_=>by simp[jJ]
 | v::r,acc,h1,h2,hl=>by
  have hl':acc.length+(r.length+1) < lim:=hl
  unfold jJ
  rw[h1 v bp acc]
  cases e:t v with
  | false=>
   dsimp only
   rw[if_pos (pV ck),lB ck r acc (λv hv=>h1 v (aX _ hv)) (λv hv=>h2 v (aX _ hv)) (by omega),NZ (by simp[e])]
  | true=>
   dsimp only
   rw[h2 v bp e acc]
   dsimp only
   rw[zJ (by omega)]
   dsimp only
   rw[if_pos (pV ck),lB ck r (acc++[f v]) (λv hv=>h1 v (aX _ hv)) (λv hv=>h2 v (aX _ hv)) (by simp;omega),N0 e]
   simp
theorem cD{cs:dR}{gt:GT}{ge:GE}{ρ:bA}{w:Wk}{st:Hs}{t:Wv->Bool}{f:Wv->Wv}(ck:jK w st)(h1:∀v∈w.2,∀acc,gt (some v::c4 cs ρ) (st++[.lst acc])= .ok (t v) (st++[.lst acc]))
  (h2:∀v∈w.2,t v=true->∀acc,ge (some v::c4 cs ρ) (st++[.lst acc])= .ok (f v) (st++[.lst acc]))(hl:w.2.length < lim):eN cs gt ge ρ w st= .ok (.ref st.length) (st++[.lst ((w.2.filter t).map f)]):=by
 unfold eN
 rw[lB ck w.2 [] h1 h2 (by simpa using hl)]
 simp
theorem FI{α:Type}{ws:List α}{d:Int}(h0:0<=d)(h1:d < ws.length):∃v,L2.pf ws d=some v/\v∈ws:=by
 have hk:d.toNat < ws.length:=by omega
 have ek:d=((d.toNat:Nat):Int):=by omega
 refine⟨ws[d.toNat],?_,jL hk⟩
 have q:=L2.j0 (bR hk)
 rw[<-ek] at q
 exact q
theorem cz{st:Hs}{l:Nat}{o o':Ob}(h:st[l]? =some o):(st.set l o')[l]? =some o':=kZ (List.getElem?_eq_some_iff.mp h).1
theorem bI{st:Hs}{l:Nat}{o o':Ob}(h:st[l]? =some o):(st++[o'])[l]? =some o:=by rw[cu (List.getElem?_eq_some_iff.mp h).1];exact h
theorem aT{st:Hs}{l:Nat}{ws:List Wv}(h:st[l]? =some (.lst ws)):aj st l=some ws:=by unfold aj;rw[h]
theorem bT{st:Hs}{l:Nat}{o:Ob}(h:st[l]? =some o):l < st.length:=(List.getElem?_eq_some_iff.mp h).1
theorem bZ{st:Hs}{o:Ob}:(st++[o])[st.length]? =some o:=by simp
def FJ(mt:PySem.Str->List Wv->Hs->Re Wv)(ga:GA)(ρ:bA):Wv->Hs->Re Wv:=λo st1=>match o with
 | .str z=>(ga ρ st1).bind λws st2=>(mt z ws st2).ju
 | _=> .bad
@[simp] theorem Sx{mt:PySem.Str->List Wv->Hs->Re Wv}{go:GE}{ga:GA}{ρ:bA}{st:Hs}:pZ mt go ga ρ st=(go ρ st).bind (FJ mt ga ρ):=rfl
@[simp] theorem Q1{mt:PySem.Str->List Wv->Hs->Re Wv}{ga:GA}{ρ:bA}{st:Hs}{z:PySem.Str}:FJ mt ga ρ (.str z) st=(ga ρ st).bind λws st2=>(mt z ws st2).ju:=rfl
@[simp] theorem W7{i:Int}{st:Hs}:HF [.int i] st= .ok (.int (if i < 0 then -i else i)) st:=rfl
@[simp] theorem FK{l:Nat}{st:Hs}{ns:List Int}(h:aj st l=some (ns.map Wv.int)):xw [.ref l] st= .ok (.int ns.sum) st:=by
 show(match aj st l with | some ws=>(match intsOf ws with | some ns=>Re.ok (Wv.int ns.sum) st | none=> .bad) | none=> .bad)=_
 rw[h]
 dsimp only
 rw[iW]
theorem zK{lo:Int}{n:Nat}{w:Wv}(h:w∈cZ lo n):∃k:Int,w= .int k/\lo<=k/\k < lo+n:=by
 unfold cZ at h
 obtain⟨k,hk,rfl⟩:=List.mem_map.mp h
 have:=List.mem_range.mp hk
 exact⟨lo+k,rfl,by omega,by omega⟩
theorem Q4{i:Int}(h1:-1000000<=i)(h2:i<=1000000):mY i:=⟨by omega,by omega⟩
@[simp] theorem Sy{F:List Wv->Hs->Re Wv}{st:Hs}:n9 0 F [] st=F [] st:=rfl
theorem FO{ga gb:GE}{ρ:bA}{st:Hs}(h:ga ρ st= .bad):pX ga gb ρ st=gb ρ st:=by unfold pX;rw[h]
theorem sA{w:Wk}{gt:Wv->Hs->Re Bool}{ge:Wv->Hs->Re Wv}{rr:Nat}(P:Hs->Prop)(E:Wv->Prop)(hP:∀st acc,P st->P (st.set rr (.lst acc)))(hck:∀st,P st->jK w st) :
  ∀(ws:List Wv),(∀v∈ws,∀st acc,P st->st[rr]? =some (.lst acc)->∃st1,gt v st= .ok true st1/\P st1/\st1[rr]? =some (.lst acc)/\∃u st2,ge v st1= .ok u st2/\E u/\P st2/\st2[rr]? =some (.lst acc))->
   ∀(acc:List Wv)(st:Hs),P st->st[rr]? =some (.lst acc)->acc.length+ws.length < lim->(∀a∈acc,E a)->∃st' acc',jJ (jK w) gt ge rr ws st=some st'/\P st'/\st'[rr]? =some (.lst acc')/\(∀a∈acc',E a)/\acc'.length=acc.length+ws.length
 | [],_,acc,st,hp,hg,_,ha=>⟨st,acc,rfl,hp,hg,ha,rfl⟩
 | v::r,step,acc,st,hp,hg,hl,ha=>by
  obtain⟨st1,e1,p1,g1,u,st2,e2,hu,p2,g2⟩:=step v bp st acc hp hg
  have hl':acc.length+(r.length+1) < lim:=hl
  obtain⟨st3,Vh,f1,f2,f3,f4,f5⟩:=sA P E hP hck r (λv hv=>step v (aX _ hv)) (acc++[u]) (st2.set rr (.lst (acc++[u]))) (hP _ _ p2) (cz g2) (by simp;omega) (by
   intro a h
   rcases List.mem_append.mp h with z | z
   ·exact ha a z
   ·simp at z;rw[z];exact hu)
  refine⟨st3,Vh,?_,f2,f3,f4,?_⟩
  ·unfold jJ
   rw[e1]
   dsimp only
   rw[e2]
   dsimp only
   rw[zH g2 (by omega)]
   dsimp only
   rw[if_pos (hck _ (hP _ _ p2)),f1]
  ·rw[f5];simp;omega
def Gr(st st':Hs):Prop:=st.length<=st'.length/\∀k,k < st.length->st'[k]? =st[k]?
theorem Gr.refl{st:Hs}:Gr st st:=⟨ak _,λ_ _=>rfl⟩
theorem Gr.trans{a b c:Hs}(h:Gr a b)(k:Gr b c):Gr a c:=⟨bb h.1 k.1,λj h1=>(k.2 j (bN h1 h.1)).trans (h.2 j h1)⟩
theorem Gr.push{st:Hs}{o:Ob}:Gr st (st++[o]):=⟨by simp,λk h=>cu h⟩
theorem Gr.app{st xs:Hs}:Gr st (st++xs):=⟨by simp,λk h=>cu h⟩
theorem Gr.lst{st st':Hs}(k:Gr st st'){j:Nat}{ws:List Wv}(h:aj st j=some ws):aj st' j=some ws:=by
 unfold aj at h ⊢
 rw[k.2 j (qA (st:=st) (ws:=ws) (by unfold aj;exact h))]
 exact h
theorem Gr.get{st st':Hs}(k:Gr st st'){j:Nat}{o:Ob}(h:st[j]? =some o):st'[j]? =some o:=by rw[k.2 j (bT h)];exact h
theorem Gr.keep{st st':Hs}{l:Nat}(k:Gr st st'):bK l st st':=⟨k.1,λj h _=>k.2 j h⟩
theorem bK.gr{st st':Hs}{l:Nat}(h:st.length<=l)(k:bK l st st'):Gr st st':=⟨k.1,λj h1=>k.2 j h1 (by omega)⟩
theorem Gr.N1{st s1 s2:Hs}{l:Nat}(h:st.length<=l)(g:Gr st s1)(k:bK l s1 s2):Gr st s2:=⟨bb g.1 k.1,λj h1=>(k.2 j (bN h1 g.1) (by omega)).trans (g.2 j h1)⟩
theorem vX{α:Type}(f:α->Wv){i:Nat}{gb:GS}{l:Nat}{all:List Wv}(full:List α)(P:List α->bA->Hs->Prop)
  (step:∀a pre post ρ st,full=pre++a::post->P pre ρ st->aj st l=some all->∃ρ' st',gb (ρ.set i (some (f a))) st= .nx ρ' st'/\aj st' l=some all/\P (pre++[a]) ρ' st') :
  ∀(post pre:List α)(ρ:bA)(st:Hs),full=pre++post->P pre ρ st->aj st l=some all->∃ρ' st',forL i gb l all (post.map f) ρ st= .nx ρ' st'/\P full ρ' st'/\aj st' l=some all
 | [],pre,ρ,st,hf,h,hl=>⟨ρ,st,rfl,by rw[hf];simpa using h,hl⟩
 | a::r,pre,ρ,st,hf,h,hl=>by
  obtain⟨ρ1,st1,e1,l1,p1⟩:=step a pre r ρ st hf h hl
  obtain⟨ρ2,st2,e2,p2,l2⟩:=vX f full P step r (pre++[a]) ρ1 st1 (by rw[hf];simp) p1 l1
  refine⟨ρ2,st2,?_,p2,l2⟩
  rw[aM]
  unfold forL
  rw[e1]
  simp only[if_pos l1]
  exact e2
theorem FP{st:Hs}{x y:Wv}{d:PyData}(h1:aC st 20 x=some d)(h2:aC st 20 y=some d)(h:aV d d=true):uE x y st= .ok (.bl false) st:=by
 unfold uE
 rw[h1,h2]
 show Re.ok (Wv.bl (!PyData.eqv d d)) st=_
 rw[h]
 rfl
theorem mG{st:Hs}{n l:Nat}{ws:List Wv}(h:aj st l=some ws):aC st (n+1) (.ref l)=(c_ (aC st n) ws).map tL:=by
 show(match aj st l with | some ws=>(c_ (aC st n) ws).map tL | none=>none)=_
 rw[h]
theorem sC{α:Type}{f:α->Wv}{xs:List α}{lo hi:Option Int}:∃ys:List α,lZ (xs.map f) lo hi=ys.map f/\ys.length<=xs.length:=by
 unfold lZ
 rw[<-FQ,<-ya]
 exact⟨_,rfl,by simp;omega⟩
theorem Q5{l:Nat}{st:Hs}{n:Int}{ns:List Int}(h:aj st l=some ((n::ns).map Wv.int)):nT [.ref l] st= .ok (.int (A1 n ns)) st:=by
 unfold nT
 simp only[h,iW]
theorem Q6{l:Nat}{st:Hs}{n:Int}{ns:List Int}(h:aj st l=some ((n::ns).map Wv.int)):nU [.ref l] st= .ok (.int (A2 n ns)) st:=by
 unfold nU
 simp only[h,iW]
@[simp] theorem W8{i j:Int}{st:Hs}:nT [.int i,.int j] st= .ok (.int (if j > i then j else i)) st:=rfl
@[simp] theorem W9{i j:Int}{st:Hs}:nU [.int i,.int j] st= .ok (.int (if j < i then j else i)) st:=rfl
theorem Q7{α:Type}{a:α}{r:List α}:L2.pf (a::r) 0=some a:=L2.j0 (j:=0) rfl
open PySem L2
theorem tb_none{K:PySem.W.Frag}{H:Hp}(h1:PySem.W.nsIn K aau "form_of"=some none)(h2:PySem.W.nsIn K aau "formula_by"=some none)(h3:PySem.W.nsIn K aau "turned"=some none)(h4:PySem.W.nsIn K aau "readied_content"=some none)(h5:PySem.W.nsIn K aau "ordered"=some none):tD K H:=λq P hq e=>by
 have no:∀q,PySem.W.nsIn K aau q=some none->iU K q=none:=λq h=>by
  unfold iU PySem.W.tabIn
  rw[h]
 simp only[dm,List.mem_cons,List.not_mem_nil,or_false] at hq
 rcases hq with rfl | rfl | rfl | rfl | rfl
 ·rw[no _ h1] at e;cases e
 ·rw[no _ h2] at e;cases e
 ·rw[no _ h3] at e;cases e
 ·rw[no _ h4] at e;cases e
 ·rw[no _ h5] at e;cases e
theorem N2{fd:aag}{ps:List Str}(us:List aak)(hl:us.length=1)(h:∀a0:aak,bindArgs fd { pos:=[a0] }=pure (ps.zip [a0])):bindArgs fd { pos:=us }=pure (ps.zip us):=match us,hl with | [a0],_=>h a0
theorem ln2{fd:aag}{ps:List Str}(us:List aak)(hl:us.length=2)(h:∀a0 a1:aak,bindArgs fd { pos:=[a0,a1] }=pure (ps.zip [a0,a1])):bindArgs fd { pos:=us }=pure (ps.zip us):=match us,hl with | [a0,a1],_=>h a0 a1
theorem Sz{fd:aag}{ps:List Str}(us:List aak)(hl:us.length=3)(h:∀a0 a1 a2:aak,bindArgs fd { pos:=[a0,a1,a2] }=pure (ps.zip [a0,a1,a2])):bindArgs fd { pos:=us }=pure (ps.zip us):=match us,hl with | [a0,a1,a2],_=>h a0 a1 a2
theorem W_{fd:aag}{ps:List Str}(us:List aak)(hl:us.length=4)(h:∀a0 a1 a2 a3:aak,bindArgs fd { pos:=[a0,a1,a2,a3] }=pure (ps.zip [a0,a1,a2,a3])):bindArgs fd { pos:=us }=pure (ps.zip us):=match us,hl with | [a0,a1,a2,a3],_=>h a0 a1 a2 a3
theorem YF{fd:aag}{ps:List Str}(us:List aak)(hl:us.length=5)(h:∀a0 a1 a2 a3 a4:aak,bindArgs fd { pos:=[a0,a1,a2,a3,a4] }=pure (ps.zip [a0,a1,a2,a3,a4])):bindArgs fd { pos:=us }=pure (ps.zip us):=match us,hl with | [a0,a1,a2,a3,a4],_=>h a0 a1 a2 a3 a4
theorem YG{fd:aag}{ps:List Str}(us:List aak)(hl:us.length=6)(h:∀a0 a1 a2 a3 a4 a5:aak,bindArgs fd { pos:=[a0,a1,a2,a3,a4,a5] }=pure (ps.zip [a0,a1,a2,a3,a4,a5])):bindArgs fd { pos:=us }=pure (ps.zip us):=match us,hl with | [a0,a1,a2,a3,a4,a5],_=>h a0 a1 a2 a3 a4 a5
end J
namespace K76
open PySem J
open L2 (defScope defBody defArgs FnScope CX0 FnOk XK Hp)
def top (i:Nat):Stmt:=PySem.Challenge.pw_onelook_k76_whole_sums_kept.main.body.getD i (.Pass ⟨0,0,0,0⟩)
def jr:Tab:=[(("NoColumn","NoColumn"),true),(("NoColumn","BadTable"),false),(("NoColumn","SheetError"),true),(("BadTable","NoColumn"),false),(("BadTable","BadTable"),true),(("BadTable","SheetError"),true)]
def hG:u_:=[(("NoColumn","ValueError"),true),(("BadTable","ValueError"),true)]
def yb:Tab:=[(("NoColumn","SheetError"),true),(("BadTable","SheetError"),true)]
def cB(s:Stmt)(n b:List Str)(f:List (Str×Nat×(List Wv->Hs->Re Wv))):Ct:={ N:=n,names:=(defScope s).names,consts:=[],bl:=b,fns:=f,tb:=jr,tt:=hG,tc:=yb }
theorem sD{N P:List Str}{sc:Scope}(h:sc.kind= .function/\sc.isCoroutine=false/\sc.isGenerator=false/\N.take P.length=P)(k:N.Nodup/\(∀x∈P,sc.names.lookup x=some .local\/sc.names.lookup x=some .cell)/\∀y∈sc.names,y.2≠.free):FnScope N P sc:=⟨h.1,h.2.1,h.2.2.1,k.1,h.2.2.2,k.2.1,k.2.2⟩
abbrev iZ:Stmt:=top 20
def i0:GS:=(aH (aY 2 (aq oMod (aq dO (aq gj (aq oMod (af 0) (gC (.int 1000000007))) (gC (.int 48271))) (aq gj (aq gj (aq dO (af 1) (gC (.int 1))) (aq dO (af 1) (gC (.int 1)))) (gC (.int 69621)))) (gC (.int 2147483647))))
  (cY (aq cT (aq oMod (aq gj (af 2) (af 2)) (gC (.int 2147483629))) (gC (.int 8)))))
def cM:List Wv->Hs->Re Wv:=kQ 3 i0
def lC:Ct:=cB iZ ["cell","k","m"] [] []
theorem yc:cV 30 (lC) (defBody iZ)=i0:=by kernel_rfl
theorem vY:FnScope (lC).N ["cell","k"] (defScope iZ):=sD ⟨rfl,rfl,rfl,rfl⟩ (by decide+kernel)
abbrev fJ:Stmt:=top 21
def fF:GS:=(aH (fj (cI iL (af 3) (aq oMod (af 4) (af 1))))
  (aY 4 (aq cT (af 4) (af 1))))
def ib:GT:=(λ_ st=> .ok true st)
def eT:GE:=(aq oMod (aP 2 cM (ae (af 1) (ae (af 0) ao))) (af 2))
def cQ:GS:=(aH (aY 3 (eu ao))
  (aH (nO (cA (aq oEq (aq oMod (af 0) (gC (.int 2))) (gC (.int 1)))) (aH (aY 4 (aq cT (af 0) (gC (.int 2))))
    (tQ 5 (ae (af 2) ao) fF)) (aY 3 (cC [("cell",0),("size",1)] (DN (ae (af 2) ao)) ib eT)))
  (cY (af 3))))
def fK:List Wv->Hs->Re Wv:=kQ 6 cQ
def iB:Ct:=cB fJ ["cell","size","many","found","rest","k"] ["range"] [("_law_mix",2,cM)]
theorem rb:cV 30 (iB) (defBody fJ)=cQ:=by kernel_rfl
theorem qB:FnScope (iB).N ["cell","size","many"] (defScope fJ):=sD ⟨rfl,rfl,rfl,rfl⟩ (by decide+kernel)
abbrev fL:Stmt:=top 22
def ic:GT:=(λ_ st=> .ok true st)
def eV:GE:=(aq fh (af 1) (af 0))
def fM:GS:=(aH (aY 2 (eu (ae (gC .aL) (ae (gC (.int 0)) (ae (gC (.int 1)) (ae (gC (.int 2)) (ae (L9 pJ (gC (.int 1))) (ae (gC (.str "a")) (ae (gC (.str "b")) (ae (gC (.str "ab")) (ae (gC (.str "")) (ae (aq pK (gC (.int 10)) (gC (.int 60))) (ae (L9 pJ (aq pK (gC (.int 10)) (gC (.int 60)))) (ae (gC (.str "1")) (ae (aq gj (gC (.str "x")) (gC (.int 200))) ao)))))))))))))))
  (cY (cC [("some",2)] (bM (aP 3 fK (ae (af 0) (ae (au cP (ae (af 2) ao)) (ae (af 1) ao))))) ic eV)))
def cx:List Wv->Hs->Re Wv:=kQ 3 fM
def iC:Ct:=cB fL ["cell","many","some"] ["len"] [("_law_digits",3,fK)]
theorem rf:cV 30 (iC) (defBody fL)=fM:=by kernel_rfl
theorem qC:FnScope (iC).N ["cell","many"] (defScope fL):=sD ⟨rfl,rfl,rfl,rfl⟩ (by decide+kernel)
abbrev gB:Stmt:=top 23
def fG:GT:=(λ_ st=> .ok true st)
def dw:GE:=(au eO (ae (du (af 1) (f' (aq gj (af 0) (af 2))) (f' (aq dO (aq gj (af 0) (af 2)) (af 2)))) ao))
def gD:GS:=(aH (aY 3 (aq fh (aq dO (af 0) (aq gj (eu (ae (gC (.int 0)) ao)) (gC (.int 4)))) (af 1)))
  (aH (aY 4 (aq dO (gC (.int 1)) (aq oMod (af 3) (gC (.int 4)))))
  (aH (aY 5 (aq oMod (aq cT (af 3) (gC (.int 4))) (aq dO (af 2) (gC (.int 1)))))
  (aH (aY 6 (du (au eO (ae (aq dO (du (eu (ae (gC (.str "b")) (ae (gC (.str "a")) (ae (gC (.str "ab")) (ae (gC (.str "c")) ao))))) (f' (aq oMod (aq cT (af 3) (gC (.int 64))) (gC (.int 4)))) hX) (du (eu (ae (gC (.str "b")) (ae (gC (.str "a")) (ae (gC (.str "ab")) (ae (gC (.str "c")) ao))))) hX (f' (aq oMod (aq cT (af 3) (gC (.int 64))) (gC (.int 4)))))) ao)) hX (f' (af 4))))
  (aH (aY 7 (aP 2 cx (ae (au xw (ae (du (af 0) (f' (aq dO (af 1) (gC (.int 1)))) hX) ao)) (ae (aq gj (af 4) (af 5)) ao))))
  (aH (aY 8 (au eO (ae (cC [("worths",7),("wide",4)] (DN (ae (af 5) ao)) fG dw) ao)))
  (cY (eJ (ae (af 6) (ae (af 8) ao))))))))))
def eW:List Wv->Hs->Re Wv:=kQ 9 gD
def i5:Ct:=cB gB ["script","at","rows_most","cell","wide","high","heads","worths","rows"] ["tuple","sum","range"] [("_law_worths",2,cx)]
theorem ug:cV 30 (i5) (defBody gB)=gD:=by kernel_rfl
theorem rh:FnScope (i5).N ["script","at","rows_most"] (defScope gB):=sD ⟨rfl,rfl,rfl,rfl⟩ (by decide+kernel)
abbrev i6:Stmt:=top 8
def lD:GS:=(cY (aq Oy (au HF (ae (af 0) ao)) (aq pK (gC (.int 10)) (gC (.int 60)))))
def gT:List Wv->Hs->Re Wv:=kQ 1 lD
def lE:Ct:=cB i6 ["number"] ["abs"] []
theorem yd:cV 30 (lE) (defBody i6)=lD:=by kernel_rfl
theorem vZ:FnScope (lE).N ["number"] (defScope i6):=sD ⟨rfl,rfl,rfl,rfl⟩ (by decide+kernel)
abbrev oT:Stmt:=top 6
def zL:GS:=(cY (eJ (ae (gC (.str "fault")) (ae (af 0) ao))))
def i7:List Wv->Hs->Re Wv:=kQ 1 zL
def uh:Ct:=cB oT ["word"] [] []
theorem Jq:cV 30 (uh) (defBody oT)=zL:=by kernel_rfl
theorem FR:FnScope (uh).N ["word"] (defScope oT):=sD ⟨rfl,rfl,rfl,rfl⟩ (by decide+kernel)
abbrev ky:Stmt:=top 9
def ny:GS:=(cY (AG (iK (aP 1 gT (ae (af 0) ao))) (aP 1 i7 (ae (gC (.str "great")) ao)) (af 0)))
def gJ:List Wv->Hs->Re Wv:=kQ 1 ny
def nz:Ct:=cB ky ["number"] [] [("is_great",1,gT),("fault",1,i7)]
theorem BL:cV 30 (nz) (defBody ky)=ny:=by kernel_rfl
theorem ye:FnScope (nz).N ["number"] (defScope ky):=sD ⟨rfl,rfl,rfl,rfl⟩ (by decide+kernel)
abbrev i_:Stmt:=top 7
def qD:GS:=(cY (yO (au (gO jr hG) (ae (af 0) (ae (gC (.ty "tuple")) ao))) (aq oEq (du (af 0) hX (f' (gC (.int 1)))) (eJ (ae (gC (.str "fault")) ao)))))
def ja:List Wv->Hs->Re Wv:=kQ 1 qD
def lF:Ct:=cB i_ ["worth"] ["isinstance","tuple"] []
theorem yf:cV 30 (lF) (defBody i_)=qD:=by kernel_rfl
theorem v5:FnScope (lF).N ["worth"] (defScope i_):=sD ⟨rfl,rfl,rfl,rfl⟩ (by decide+kernel)
abbrev jb:Stmt:=top 10
def gU:GT:=(iK (au (gO jr hG) (ae (af 0) (ae (gC (.ty "int")) ao))))
def jT:GE:=(af 0)
def gW:GT:=(iK (aP 1 ja (ae (af 0) ao)))
def jU:GE:=(af 0)
def jc:GS:=(aH (aY 2 (cC [] (bM (af 1)) gW jU))
  (aH (nO (iK (af 2)) (cY (aq fh (af 2) (gC (.int 0)))) cH)
  (aH (aY 3 (cC [] (bM (af 1)) gU jT))
  (aH (nO (cA (aq oEq (af 0) (gC (.str "sum")))) (cY (aP 1 gJ (ae (au xw (ae (af 3) ao)) ao))) cH)
  (aH (nO (cA (aq oEq (af 0) (gC (.str "count")))) (cY (au cP (ae (af 3) ao))) cH)
  (aH (nO (tH (iK (af 3))) (cY (aP 1 i7 (ae (gC (.str "none")) ao))) cH)
  (cY (aP 1 gJ (ae (AG (cA (aq oEq (af 0) (gC (.str "least")))) (au nU (ae (af 3) ao)) (au nT (ae (af 3) ao))) ao)))))))))
def bX:List Wv->Hs->Re Wv:=kQ 4 jc
def lG:Ct:=cB jb ["word","worths","faults","numbers"] ["len","isinstance","int","sum","min","max"] [("bounded",1,gJ),("fault",1,i7),("is_fault",1,ja)]
theorem yg:cV 30 (lG) (defBody jb)=jc:=by kernel_rfl
theorem v_:FnScope (lG).N ["word","worths"] (defScope jb):=sD ⟨rfl,rfl,rfl,rfl⟩ (by decide+kernel)
abbrev ie:Stmt:=top 12
def jm:GT:=(λ_ st=> .ok true st)
def fY:GE:=(aq fh (af 0) (af 1))
def eD:GS:=(aH (nO (cA (aq me (af 1) (aq fh (af 0) (gC (.int 0))))) (pP "NoColumn" (ae (gC (.str "no head of the table")) ao)) cH)
  (aH (aY 2 (pX bF (cI hZ (au eB (ae (aq fh (af 0) (gC (.int 0))) ao)) (af 1))))
  (cY (cC [("number",2)] (bM (aq fh (af 0) (gC (.int 1)))) jm fY))))
def cJ:List Wv->Hs->Re Wv:=kQ 3 eD
def jV:Ct:={ cB ie ["table","head","number"] ["list"] [] with clss:=["NoColumn"] }
theorem wa:cV 30 (jV) (defBody ie)=eD:=by kernel_rfl
theorem ui:FnScope (jV).N ["table","head"] (defScope ie):=sD ⟨rfl,rfl,rfl,rfl⟩ (by decide+kernel)
abbrev ig:Stmt:=top 13
def ij:GS:=(aH (nO (cA (aq RO (af 0) (gC .aL))) (cY (eJ (ae (gC (.int 2)) (ae (gC (.int 0)) ao)))) cH)
  (cY (AG (iK (au (gO jr hG) (ae (af 0) (ae (gC (.ty "str")) ao)))) (eJ (ae (gC (.int 1)) (ae (af 0) ao))) (eJ (ae (gC (.int 0)) (ae (af 0) ao))))))
def df:List Wv->Hs->Re Wv:=kQ 1 ij
def jW:Ct:=cB ig ["worth"] ["isinstance","str"] []
theorem wb:cV 30 (jW) (defBody ig)=ij:=by kernel_rfl
theorem uj:FnScope (jW).N ["worth"] (defScope ig):=sD ⟨rfl,rfl,rfl,rfl⟩ (by decide+kernel)
abbrev ik:Stmt:=top 15
def jn:GT:=(λ_ st=> .ok true st)
def fZ:GE:=(eJ (ae (af 0) (ae (my (af 1) (af 0)) ao)))
def cE:GS:=(fj (cI iL (jN (af 2) (af 4) (eu ao)) (af 3)))
def eE:GS:=(aH (aY 2 qg)
  (aH (mv [3,4] (m_ (ae (aP 2 cJ (ae (af 0) (ae (af 1) ao))) ao)) cE)
  (cY (cC [("groups",2)] (bM (si false df (af 2))) jn fZ))))
def cK:List Wv->Hs->Re Wv:=kQ 5 eE
def jX:Ct:={ cB ik ["table","head","groups","number","worth"] ["enumerate","sorted"] [("column_of",2,cJ),("order_key",1,df)] with Kh:=["groups"],lj:=1,sk:=3,Gm:=["order_key"] }
theorem wc:cV 30 (jX) (defBody ik)=eE:=by kernel_rfl
theorem uk:FnScope (jX).N ["table","head"] (defScope ik):=sD ⟨rfl,rfl,rfl,rfl⟩ (by decide+kernel)
abbrev cN:Stmt:=top 17
def cO:GT:=(λ_ st=> .ok true st)
def bV:GE:=(aq fh (af 1) (af 0))
def bQ:GS:=(y_ (cC [("column",4)] (bM (af 7)) cO bV) (af 5) (af 6))
def bj:GS:=(aH (aY 3 (aP 2 cK (ae (af 0) (ae (af 1) ao))))
  (aH (aY 4 (aP 2 cJ (ae (af 0) (ae (af 2) ao))))
  (aH (aY 5 qg)
  (aH (va [6,7] (af 3) bQ)
  (cY (af 5))))))
def aN:List Wv->Hs->Re Wv:=kQ 8 bj
def eC:Ct:={ cB cN ["table","head","other","groups","column","told","worth","numbers"] [] [("groups_by",2,cK),("column_of",2,cJ)] with Kh:=["told"] }
theorem lH:cV 30 (eC) (defBody cN)=bj:=by kernel_rfl
theorem kM:FnScope (eC).N ["table","head","other"] (defScope cN):=sD ⟨rfl,rfl,rfl,rfl⟩ (by decide+kernel)
abbrev kz:Stmt:=top 16
def fN:GT:=(λ_ st=> .ok true st)
def dU:GE:=(eJ (ae (af 0) (ae (aP 2 bX (ae (af 2) (ae (af 1) ao))) ao)))
def iP:GS:=(cY (iu 2 [("word",2)] (fV (aP 3 aN (ae (af 0) (ae (af 1) (ae (af 3) ao))))) fN dU))
def dz:List Wv->Hs->Re Wv:=kQ 4 iP
def nA:Ct:=cB kz ["table","head","word","other"] [] [("gathered",2,bX),("worths_by_groups",3,aN)]
theorem BM:cV 30 (nA) (defBody kz)=iP:=by kernel_rfl
theorem yh:FnScope (nA).N ["table","head","word","other"] (defScope kz):=sD ⟨rfl,rfl,rfl,rfl⟩ (by decide+kernel)
abbrev eX:Stmt:=top 24
def gX:GS:=(aH (aY 2 (aP 2 cM (ae (af 1) (ae (gC (.int 8)) ao))))
  (aH (yS [3,4] (af 0))
  (aH (aY 4 (au eB (ae (af 4) ao)))
  (aH (aY 5 (aq fh (eu (ae (gC .aL) (ae (gC (.int 0)) (ae (gC (.int 1)) (ae (gC (.int 2)) (ae (L9 pJ (gC (.int 1))) (ae (gC (.str "a")) (ae (gC (.str "b")) (ae (aq pK (gC (.int 10)) (gC (.int 60))) ao))))))))) (aq oMod (aq cT (af 2) (gC (.int 7))) (gC (.int 8)))))
  (aH (aY 6 (au eO (ae (aP 2 cx (ae (af 1) (ae (au cP (ae (af 3) ao)) ao))) ao)))
  (aH (aY 7 (aq oMod (aq cT (af 2) (gC (.int 56))) (aq dO (au cP (ae (af 4) ao)) (gC (.int 1)))))
  (aH (nO (lX (cA (aq oLt (aq oMod (af 2) (gC (.int 7))) (gC (.int 3)))) (cA (aq oLt (af 7) (au cP (ae (af 4) ao))))) (aH (aY 8 (au eB (ae (aq fh (af 4) (af 7)) ao)))
    (aH (kP (af 5) (af 8) (aq oMod (aq cT (af 2) (gC (.int 2000))) (au cP (ae (af 3) ao))))
    (kP (au eO (ae (af 8) ao)) (af 4) (af 7)))) cH)
  (aH (nO (lX (cA (aq oEq (aq oMod (af 2) (gC (.int 7))) (gC (.int 3)))) (cA (aq oLt (af 7) (au cP (ae (af 4) ao))))) (fj (cI jl (af 4) (af 7))) cH)
  (aH (nO (lX (cA (aq oEq (aq oMod (af 2) (gC (.int 7))) (gC (.int 4)))) (cA (aq oLt (au cP (ae (af 4) ao)) (gC (.int 14))))) (fj (vy (af 4) (af 7) (af 6))) cH)
  (aH (nO (lX (cA (aq oEq (aq oMod (af 2) (gC (.int 7))) (gC (.int 5)))) (cA (aq Oy (au cP (ae (af 4) ao)) (gC (.int 0))))) (aH (aY 9 (cI jl (af 4) (aq oMod (aq cT (af 2) (gC (.int 2000))) (au cP (ae (af 4) ao)))))
    (fj (vy (af 4) (aq oMod (af 7) (aq dO (au cP (ae (af 4) ao)) (gC (.int 1)))) (af 9)))) cH)
  (cY (eJ (ae (af 3) (ae (au eO (ae (af 4) ao)) ao))))))))))))))
def eZ:List Wv->Hs->Re Wv:=kQ 10 gX
def gY:Ct:=cB eX ["table","cell","n","heads","rows","worth","row","at","line","moved"] ["list","tuple","len"] [("_law_mix",2,cM),("_law_worths",2,cx)]
theorem qE:cV 30 (gY) (defBody eX)=gX:=by kernel_rfl
theorem oi:FnScope (gY).N ["table","cell"] (defScope eX):=sD ⟨rfl,rfl,rfl,rfl⟩ (by decide+kernel)
abbrev kC:Stmt:=top 18
def dA:GS:=(nO (cA (aq oEq (sr (af 6) (af 10)) (af 11))) (fj (cI iL (af 8) (eJ (ae (af 10) (ae (my (af 7) (af 10)) ao))))) (aH (fj (cI iL (af 8) (eJ (ae (af 10) (ae (aP 2 bX (ae (af 4) (ae (af 11) ao))) ao)))))
    (fj (cI iL (af 9) (af 10)))))
def eF:GS:=(aH (nO (cA (aq uE (aq fh (af 0) (gC (.int 0))) (aq fh (af 2) (gC (.int 0))))) (pP "BadTable" (ae (gC (.str "the heads are not the same")) ao)) cH)
  (aH (aY 6 (aP 3 aN (ae (af 0) (ae (af 3) (ae (af 5) ao)))))
  (aH (aY 7 (au ni (ae (af 1) ao)))
  (aH (aY 8 (eu ao))
  (aH (aY 9 (eu ao))
  (aH (mv [10,11] (fV (aP 3 aN (ae (af 2) (ae (af 3) (ae (af 5) ao))))) dA)
  (cY (eJ (ae (af 8) (ae (af 9) ao))))))))))
def cR:List Wv->Hs->Re Wv:=kQ 12 eF
def nB:Ct:={ cB kC ["table","sums","further","head","word","other","before","kept","sums_now","turned","worth","worths"] ["dict"] [("worths_by_groups",3,aN),("gathered",2,bX)] with clss:=["BadTable"],Kh:=["before","kept"] }
theorem BN:cV 30 (nB) (defBody kC)=eF:=by kernel_rfl
theorem yi:FnScope (nB).N ["table","sums","further","head","word","other"] (defScope kC):=sD ⟨rfl,rfl,rfl,rfl⟩ (by decide+kernel)
abbrev e_:Stmt:=top 27
def b_:GS:=(fj (aP 6 cR (ae (af 0) (ae (af 1) (ae (af 2) (ae (af 3) (ae (gC (.str "sum")) (ae (af 4) ao))))))))
def bJ:GS:=(aH (nO (lX (iK (au (gO jr hG) (ae (af 6) (ae (gC (.cls "BadTable")) ao)))) (tH (iK (au (gO jr hG) (ae (af 6) (ae (gC (.cls "NoColumn")) ao)))))) (aY 5 (gC (.str "table"))) cH)
  (nO (lX (iK (au (gO jr hG) (ae (af 6) (ae (gC (.cls "NoColumn")) ao)))) (tH (iK (au (gO jr hG) (ae (af 6) (ae (gC (.cls "BadTable")) ao)))))) (aY 5 (gC (.str "column"))) cH))
def cF:GS:=(aH (aY 5 (gC (.str "")))
  (aH (AX (λy=>yb.lookup (y,("SheetError":PySem.Str))) 6 b_ bJ)
  (cY (af 5))))
def aF:List Wv->Hs->Re Wv:=kQ 7 cF
def gZ:Ct:={ cB e_ ["table","sums","further","head","other","word","e"] ["isinstance"] [("sums_on",6,cR)] with clss:=["SheetError"],xQ:=["BadTable","NoColumn"] }
theorem qF:cV 30 (gZ) (defBody e_)=cF:=by kernel_rfl
theorem oj:FnScope (gZ).N ["table","sums","further","head","other"] (defScope e_):=sD ⟨rfl,rfl,rfl,rfl⟩ (by decide+kernel)
abbrev dB:Stmt:=top 25
def dh:GT:=(λ_ st=> .ok true st)
def cb:GE:=(aq fh (af 1) (af 0))
def cg:GT:=(λ_ st=> .ok true st)
def bC:GE:=(eJ (ae (af 0) (ae (cC [("column",2)] (bM (af 1)) dh cb) ao)))
def di:GT:=(λ_ st=> .ok true st)
def cn:GE:=(aq fh (af 0) (pX (pZ p5 (aq fh (af 1) (gC (.int 0))) (ae (af 2) ao)) (qh kj (aq fh (af 1) (gC (.int 0))) (af 2))))
def fH:GS:=(aH (aY 3 (cC [("table",0),("other",2)] (bM (aq fh (af 0) (gC (.int 1)))) di cn))
  (cY (iu 2 [("column",3)] (BE (bM (aP 2 cK (ae (af 0) (ae (af 1) ao))))) cg bC)))
def cG:List Wv->Hs->Re Wv:=kQ 4 fH
def fI:Ct:=cB dB ["table","head","other","column"] [] [("groups_by",2,cK)]
theorem nC:cV 30 (fI) (defBody dB)=fH:=by kernel_rfl
theorem mH:FnScope (fI).N ["table","head","other"] (defScope dB):=sD ⟨rfl,rfl,rfl,rfl⟩ (by decide+kernel)
abbrev fO:Stmt:=top 26
def cW:GT:=(cA (aq (qi true) (af 0) (af 1)))
def cX:GE:=(aq fh (af 0) (gC (.int 0)))
def fP:GS:=(aH (aY 4 (aP 3 cG (ae (af 0) (ae (af 2) (ae (af 3) ao)))))
  (cY (cC [("before",4)] (bM (aP 3 cG (ae (af 1) (ae (af 2) (ae (af 3) ao))))) cW cX)))
def fQ:List Wv->Hs->Re Wv:=kQ 5 fP
def iD:Ct:={ cB fO ["table","further","head","other","before"] [] [("_law_by_groups",3,cG)] with IZ:=["before"] }
theorem rj:cV 30 (iD) (defBody fO)=fP:=by kernel_rfl
theorem qG:FnScope (iD).N ["table","further","head","other"] (defScope fO):=sD ⟨rfl,rfl,rfl,rfl⟩ (by decide+kernel)
abbrev zM:Stmt:=top 28
def gK:GT:=(λ_ st=> .ok true st)
def eG:GE:=(aq dO (af 0) (eJ (ae (gC (.int 1)) ao)))
def iQ:GS:=(aH (aY 9 (aP 2 eZ (ae (af 1) (ae (af 8) ao))))
  (aH (aY 10 (au eB (ae (af 7) ao)))
  (aH (aY 11 (aP 6 cR (ae (af 1) (ae (af 10) (ae (af 9) (ae (af 4) (ae (af 6) (ae (af 5) ao))))))))
  (aH (nO (L' (tH (iK (au (gO jr hG) (ae (af 11) (ae (gC (.ty "tuple")) ao))))) (L' (cA (aq uE (au cP (ae (af 11) ao)) (gC (.int 2)))) (cA (aq uE (af 10) (af 7))))) (cY (gC (.bl false))) cH)
  (aH (nO (L' (tH (iK (au (gO jr hG) (ae (aq fh (af 11) (gC (.int 0))) (ae (gC (.ty "list")) ao))))) (cA (aq uE (aq fh (af 11) (gC (.int 0))) (aP 4 dz (ae (af 9) (ae (af 4) (ae (af 6) (ae (af 5) ao)))))))) (cY (gC (.bl false))) cH)
  (aH (nO (L' (tH (iK (au (gO jr hG) (ae (aq fh (af 11) (gC (.int 1))) (ae (gC (.ty "list")) ao))))) (cA (aq uE (aq fh (af 11) (gC (.int 1))) (aP 4 fQ (ae (af 1) (ae (af 9) (ae (af 4) (ae (af 5) ao)))))))) (cY (gC (.bl false))) cH)
  (aH (aY 7 (aq fh (af 11) (gC (.int 0))))
  (aY 1 (af 9)))))))))
def zN:GS:=(aH (aY 1 (aP 3 eW (ae (af 0) (ae (gC (.int 0)) (ae (gC (.int 10)) ao)))))
  (aH (aY 2 (aP 2 cM (ae (au xw (ae (af 0) ao)) (ae (gC (.int 9)) ao))))
  (aH (aY 3 (aq fh (af 1) (gC (.int 0))))
  (aH (aY 4 (aq fh (af 3) (aq oMod (af 2) (au cP (ae (af 3) ao)))))
  (aH (aY 5 (aq fh (af 3) (aq oMod (aq cT (af 2) (gC (.int 5))) (au cP (ae (af 3) ao)))))
  (aH (aY 6 (aq fh (eu (ae (gC (.str "sum")) (ae (gC (.str "count")) (ae (gC (.str "least")) (ae (gC (.str "greatest")) ao))))) (aq oMod (aq cT (af 2) (gC (.int 25))) (gC (.int 4)))))
  (aH (aY 7 (aP 4 dz (ae (af 1) (ae (af 4) (ae (af 6) (ae (af 5) ao))))))
  (aH (xt 8 (aq dO (du (af 0) (f' (gC (.int 2))) (f' (gC (.int 10)))) (eu (ae (af 2) ao))) iQ)
  (aH (aY 12 (eJ (ae (aq dO (af 3) (eJ (ae (gC (.str "zz")) ao))) (ae (au eO (ae (cC [] (bM (aq fh (af 1) (gC (.int 1)))) gK eG) ao)) ao))))
  (aH (aY 13 (aP 4 dz (ae (af 12) (ae (af 4) (ae (gC (.str "sum")) (ae (af 5) ao))))))
  (aH (aY 14 (eu (ae (aP 5 aF (ae (af 1) (ae (af 7) (ae (af 12) (ae (gC (.str "q")) (ae (gC (.str "q")) ao)))))) (ae (aP 5 aF (ae (af 12) (ae (af 13) (ae (af 1) (ae (af 4) (ae (af 5) ao)))))) ao))))
  (aH (aY 14 (aq dO (af 14) (eu (ae (aP 5 aF (ae (af 1) (ae (af 7) (ae (af 1) (ae (gC (.str "q")) (ae (af 5) ao)))))) (ae (aP 5 aF (ae (af 1) (ae (af 7) (ae (af 1) (ae (af 4) (ae (gC (.str "q")) ao)))))) ao)))))
  (cY (aq oEq (af 14) (eu (ae (gC (.str "table")) (ae (gC (.str "table")) (ae (gC (.str "column")) (ae (gC (.str "column")) ao)))))))))))))))))))
def F_law:List Wv->Hs->Re Wv:=kQ 15 zN
def FT:Ct:=cB zM ["script","table","n","heads","head","other","word","sums","cell","further","handed","found","strange","known","words"] ["sum","list","tuple","len","isinstance"] [("_law_table",3,eW),("_law_mix",2,cM),("sums_by",4,dz),("_law_changed",2,eZ),("sums_on",6,cR),("_law_refused",5,aF),("_law_turned",4,fQ)]
theorem Q8:cV 30 (FT) (defBody zM)=zN:=by kernel_rfl
theorem N3:FnScope (FT).N ["script"] (defScope zM):=sD ⟨rfl,rfl,rfl,rfl⟩ (by decide+kernel)
inductive Wo
 | aL
 | int (i:Int)
 | str (z:PySem.Str)
 deriving DecidableEq
def Wo.w:Wo->Wv
 | .aL=> .aL
 | .int i=> .int i
 | .str z=> .str z
def Wo.eq:Wo->Wo->Bool
 | .aL,.aL=>true
 | .int i,.int j=>i == j
 | .str x,.str y=>x == y
 | _,_=>false
def Wo.lt:Wo->Wo->Bool
 | .int i,.int j=>decide (i < j)
 | .str x,.str y=>decide (x.cps.toList < y.cps.toList)
 | _,_=>false
def Wo.nn:Wo->Bool
 | .aL=>false
 | _=>true
def SD:Wv->Wo
 | .int i=> .int i
 | .str z=> .str z
 | _=> .aL
theorem Kz(a:Wo):SD a.w=a:=by cases a<;>rfl
section
variable {st:Hs}
theorem YH(a:Wo):RO a.w .aL st= .ok (.bl (!a.nn)) st:=by cases a<;>rfl
theorem N4{x:Wv}{T:String}{b:Bool}(hT:xn T=true)(h:Oz st T x=some b)(hx:∀c,x≠.kI c):gO jr hG [x,.ty T] st= .ok (.bl b) st:=by
 have e:gO jr hG [x,.ty T] st=Mr [x,.ty T] st:=by
  cases x<;>first | rfl | exact absurd rfl (hx _)
 rw[e]
 show(if xn T=true then(match Oz st T x with | some b=>Re.ok (Wv.bl b) st | none=> .bad) else .bad)=_
 rw[if_pos hT,h]
def Wo.SF:Wo->Bool
 | .str _=>true
 | _=>false
def Wo.W':Wo->Bool
 | .int _=>true
 | _=>false
theorem aS(a:Wo):gO jr hG [a.w,.ty "str"] st= .ok (.bl a.SF) st:=N4 (by decide) (by cases a<;>rfl) (by cases a<;>intro c h<;>cases h)
end
def a7(r:List Wo):Wv:=.tup (r.map Wo.w)
def aB(hs:List PySem.Str)(rows:List (List Wo)):Wv:=.tup [.tup (hs.map Wv.str),.tup (rows.map a7)]
def Wo.ok:Wo->Bool
 | .str x=>aQ x
 | _=>true
structure Tb(hs:List PySem.Str)(rows:List (List Wo)):Prop where
 nd:hs.Nodup
 lo:1<=hs.length
 hi:hs.length<=5
 of:∀h∈hs,h="b"\/h="a"\/h="ab"\/h="c"\/h="zz"
 rw':rows.length<=14
 wd:∀r∈rows,r.length=hs.length
 ok:∀r∈rows,∀w∈r,w.ok=true
def col(rows:List (List Wo))(at':Nat):List Wo:=rows.map λr=>r.getD at' .aL
section
variable {hs:List PySem.Str} {rows:List (List Wo)} {st:Hs}
theorem Jr:fh (aB hs rows) (.int 0) st= .ok (.tup (hs.map Wv.str)) st:=x_ rfl
theorem Vi:fh (aB hs rows) (.int 1) st= .ok (.tup (rows.map a7)) st:=x_ rfl
theorem yj(l:List PySem.Str):(l.map Wv.str).all bO=true:=by
 rw[List.all_eq_true]
 intro w hw
 obtain⟨z,_,rfl⟩:=List.mem_map.mp hw
 rfl
theorem Q9(l:List PySem.Str)(h:PySem.Str):((l.map Wv.str).any λz=>wO z (.str h))=decide (h∈l):=by
 rw[zO]
 simp only[List.any_eq_true,List.mem_map,decide_eq_true_eq]
 constructor
 ·rintro⟨_,⟨z,hz,rfl⟩,e⟩
  have e':(z == h)=true:=e
  have:=eq_of_beq e'
  subst this
  exact hz
 ·intro hm
  exact⟨_,⟨h,hm,rfl⟩,show(h == h)=true from beq_self_eq_true h⟩
theorem KA{h:PySem.Str}:me (.str h) (.tup (hs.map Wv.str)) st= .ok (.bl (!(decide (h∈hs)))) st:=by
 show(if bO (.str h)=true/\(hs.map Wv.str).all bO=true then Re.ok (Wv.bl (!((hs.map Wv.str).any λz=>wO z (.str h)))) st else .bad)=_
 rw[if_pos ⟨rfl,yj hs⟩,Q9]
theorem FU{at':Nat}{h:PySem.Str}(nd:hs.Nodup)(e:hs[at']? =some h):(hs.map Wv.str).findIdx? (λz=>wO z (.str h))=some at':=by
 obtain⟨hl,e'⟩:=List.getElem?_eq_some_iff.mp e
 rw[D3]
 refine⟨by simpa using hl,?_,λj hj=>?_⟩
 ·rw[List.getElem_map,e']
  exact show(h == h)=true from beq_self_eq_true h
 ·rw[List.getElem_map]
  intro c
  have c':(hs[j] == h)=true:=c
  have:=eq_of_beq c'
  rw[<-e'] at this
  have:=(List.getElem_inj nd).mp this
  omega
theorem N5{at':Nat}{h:PySem.Str}(nd:hs.Nodup)(e:hs[at']? =some h):kj (.tup (hs.map Wv.str)) (.str h) st= .ok (.int at') st:=by
 show(if bO (.str h)=true/\(hs.map Wv.str).all bO=true then(match(hs.map Wv.str).findIdx? (λz=>wO z (.str h)) with | some j=>Re.ok (Wv.int (j:Nat)) st | none=> .bad) else .bad)=_
 rw[if_pos ⟨rfl,yj hs⟩,FU nd e]
theorem N6{l at':Nat}{h:PySem.Str}(hl:aj st l=some (hs.map Wv.str))(nd:hs.Nodup)(e:hs[at']? =some h):hZ (.ref l) (.str h) st= .ok (.int at') st:=by
 show(match aj st l with | some ws=>(if bO (.str h)=true/\ws.all bO=true then(match ws.findIdx? (λz=>wO z (.str h)) with | some j=>Re.ok (Wv.int (j:Nat)) st | none=> .bad) else .bad) | none=> .bad)=_
 rw[hl]
 dsimp only
 rw[if_pos ⟨rfl,yj hs⟩,FU nd e]
def pick(at':Nat):Wv->Wv
 | .tup us=>us.getD at' .aL
 | _=> .aL
theorem we{at':Nat}{r:List Wo}:pick at' (a7 r)=(r.getD at' .aL).w:=by
 show(r.map Wo.w).getD at' .aL=_
 simp only[cL,gM]
 cases r[at']?<;>rfl
theorem FV{at':Nat}{r:List Wo}(h:at' < r.length):fh (a7 r) (.int at') st= .ok (pick at' (a7 r)) st:=by
 refine x_ ?_
 rw[L2.j0 (v:=(r.map Wo.w)[at']'(by simpa using h)) (bR _),we]
 simp[h]
theorem wg{at':Nat}:((rows.map a7).filter λ_=>true).map (pick at')=(col rows at').map Wo.w:=by
 rw[List.filter_eq_self.mpr (λ_ _=>rfl),bS]
 unfold col
 rw[bS]
 exact lu λr _=>we
theorem column{at':Nat}{h:PySem.Str}(T:Tb hs rows)(e:hs[at']? =some h):cJ [aB hs rows,.str h] st= .ok (.ref (st.length+1)) (st++[.lst (hs.map Wv.str),.lst ((col rows at').map Wo.w)]):=by
 have hl:=(List.getElem?_eq_some_iff.mp e).1
 have hm:h∈hs:=sS e
 have li:eB [.tup (hs.map Wv.str)] st= .ok (.ref st.length) (st++[.lst (hs.map Wv.str)]):=rfl
 have ix:=N6 (st:=st++[.lst (hs.map Wv.str)]) aD T.nd e
 have km:=λga ρ=>oS (mt:=hZ) (ga:=ga) (ρ:=ρ) (st:=st++[.lst (hs.map Wv.str)]) aD
 have nb:∀(ρ:bA)(st:Hs),bF ρ st= .bad:=λ_ _=>rfl
 have q:=cD (cs:=[("number",2)]) (gt:=jm) (ge:=fY) (ρ:=[some (aB hs rows),some (.str h),some (.int at')]) (w:=(none,rows.map a7)) (st:=st++[.lst (hs.map Wv.str)]) (t:=λ_=>true) (f:=pick at') trivial
  (λv _ acc=>rfl) (λv hv _ acc=>by
   obtain⟨r,hr,rfl⟩:=List.mem_map.mp hv
   unfold fY
   simp[c4,FV (show at' < r.length by rw[T.wd r hr];exact hl)])
  (by show(rows.map a7).length < lim;rw[aA];have:=T.rw';unfold lim;omega)
 rw[show((none,rows.map a7):Wk).2=rows.map a7 from rfl,wg] at q
 refine fW (n:=3) (g:=eD) ?_
 have ga:pX bF (cI hZ (au eB (ae (aq fh (af 0) (gC (.int 0))) ao)) (af 1)) [some (aB hs rows),some (.str h),none] st= .ok (.int at') (st++[.lst (hs.map Wv.str)]):=by
  rw[FO (nb _ _)]
  simp[Jr,li,km,ix]
 unfold eD
 simp[Jr,Vi,KA,hm,ga,q]
theorem sE{h:PySem.Str}(hn:h∉hs):cJ [aB hs rows,.str h] st= .err "NoColumn" st:=by
 refine nu (n:=3) (g:=eD) (ρ:=[some (aB hs rows),some (.str h),none]) ?_
 unfold eD
 simp[Jr,KA,hn,lim]
end
section
variable {st:Hs}
theorem um{l k:Nat}{c:List Wo}(h:aj st l=some (c.map Wo.w))(hk:k < c.length):fh (.ref l) (.int (k:Int)) st= .ok (c.getD k .aL).w st:=by
 refine vV h ?_
 rw[L2.j0 (v:=(c.map Wo.w)[k]'(by simpa using hk)) (bR _)]
 simp[hk]
theorem Q_{l:Nat}{c:List Wo}(h:aj st l=some (c.map Wo.w)):cP [.ref l] st= .ok (.int (c.length:Int)) st:=by
 have:cP [.ref l] st= .ok (.int ((c.map Wo.w).length:Int)) st:=by
  show(match aj st l with | some ws=>Re.ok (Wv.int ws.length) st | none=> .bad)=_
  rw[h]
 rw[this,aA]
end
section
variable {st:Hs}
theorem uo{x m:Int}(h:0 < m):0<=x.fmod m/\x.fmod m < m:=⟨Int.fmod_nonneg_of_pos x h,Int.fmod_lt_of_pos x h⟩
def qH(c k:Int):Int:=(c.fmod 1000000007 * 48271+(k+1) * (k+1) * 69621).fmod 2147483647
def wj(c k:Int):Int:=((qH c k * qH c k).fmod 2147483629).fdiv 8
theorem mix{c k:Int}(h0:0<=k)(h1:k<=100):cM [.int c,.int k] st= .ok (.int (wj c k)) st:=by
 have b1:=uo (x:=c) (m:=1000000007) (by omega)
 have b2:=uo (x:=c.fmod 1000000007 * 48271+(k+1) * (k+1) * 69621) (m:=2147483647) (by omega)
 have k1:(k+1) * (k+1)<=101 * 101:=Int.mul_le_mul (by omega) (by omega) (by omega) (by omega)
 have k2:0<=(k+1) * (k+1):=Int.mul_nonneg (by omega) (by omega)
 have m1:=sy (st:=st) (i:=c.fmod 1000000007) (j:=48271) (by omega) (by omega)
 have m2:=sy (st:=st) (i:=k+1) (j:=k+1) (by omega) (by omega)
 have m3:=sy (st:=st) (i:=(k+1) * (k+1)) (j:=69621) (by omega) (by omega)
 have m4:=sy (st:=st) (i:=qH c k) (j:=qH c k) (by unfold qH;omega) (by unfold qH;omega)
 have a1:=jS (st:=st) (i:=c) (j:=1000000007) (by decide)
 have a2:oMod (.int (c.fmod 1000000007 * 48271+(k+1) * (k+1) * 69621)) (.int 2147483647) st= .ok (.int (qH c k)) st:=jS (by decide)
 have a3:=jS (st:=st) (i:=qH c k * qH c k) (j:=2147483629) (by decide)
 have a4:=iA (st:=st) (i:=(qH c k * qH c k).fmod 2147483629) (j:=8) ⟨by decide,by decide⟩
 refine fW (n:=3) (g:=i0) ?_
 unfold i0
 simp[a1,m1,m2,m3,a2,m4,a3,a4,wj]
def zP:Wv->Int
 | .int i=>i
 | _=>0
theorem digits{c:Int}{many:Nat}(hm:many<=60):∃(l:Nat)(st':Hs)(ds:List Int),fK [.int c,.int 13,.int (many:Int)] st= .ok (.ref l) st'/\aj st' l=some (ds.map Wv.int)/\ds.length=many/\(∀d∈ds,0<=d/\d < 13)/\Gr st st':=by
 have cr:mY (many:Int):=Q4 (by omega) (by omega)
 have Vj:(13:Int)≠0/\(13:Int).natAbs.log2 < 9000:=⟨by decide,by decide⟩
 have md:=jS (st:=st++[.lst []]) (i:=c) (j:=2) (by decide)
 have fd:=iA (st:=st++[.lst []]) (i:=c) (j:=2) ⟨by decide,by decide⟩
 by_cases odd:c.fmod 2=1
 ·obtain⟨ρ',s1,e1,rest,o5,ds,rfl,rfl,hl,hb⟩:=zI (i:=5) (gb:=fF) (λk ρ st'=>∃(rest:Int)(o5:Option Wv)(ds:List Int),ρ=[some (.int c),some (.int 13),some (.int (many:Int)),some (.ref st.length),some (.int rest),o5]/\st'=st++[.lst (ds.map Wv.int)]/\ds.length=k/\∀d∈ds,0<=d/\d < 13)
   (cZ 0 many) 0 [some (.int c),some (.int 13),some (.int (many:Int)),some (.ref st.length),some (.int (c.fdiv 2)),none] (st++[.lst []]) ⟨_,_,[],rfl,rfl,rfl,λd h=>by cases h⟩ (λj w hw ρ st' hP=>by
    obtain⟨rest,o5,ds,rfl,rfl,hl,hb⟩:=hP
    have hj:j < many:=by
     have q:=(List.getElem?_eq_some_iff.mp hw).1
     rw[dQ] at q
     exact q
    have km:=λga ρ=>oS (mt:=iL) (ga:=ga) (ρ:=ρ) (st:=st++[.lst (ds.map Wv.int)]) aD
    have ap:=zJ (st:=st) (acc:=ds.map Wv.int) (v:=.int (rest.fmod 13)) (by rw[aA];unfold lim;omega)
    have ed:ds.map Wv.int++[.int (rest.fmod 13)]=(ds++[rest.fmod 13]).map Wv.int:=by simp
    rw[ed] at ap
    refine⟨[some (.int c),some (.int 13),some (.int (many:Int)),some (.ref st.length),some (.int (rest.fdiv 13)),some w],st++[.lst ((ds++[rest.fmod 13]).map Wv.int)],?_,_,_,ds++[rest.fmod 13],rfl,rfl,by simp[hl],λd hd=>?_⟩
    ·unfold fF
     simp[-qI,km,jS Vj.1,ap,iA Vj]
    ·rcases List.mem_append.mp hd with z | z
     ·exact hb d z
     ·simp at z
      rw[z]
      exact uo (by omega))
  rw[dQ,Nat.zero_add] at hl
  refine⟨st.length,st++[.lst (ds.map Wv.int)],ds,?_,aD,hl,hb,Gr.push⟩
  refine fW (n:=6) (g:=cQ) ?_
  unfold cQ
  simp[md,odd,fd,cr,e1]
 ·have zf:(c.fmod 2 == 1)=false:=by simpa using odd
  have q:=cD (cs:=[("cell",0),("size",1)]) (gt:=ib) (ge:=eT) (ρ:=[some (.int c),some (.int 13),some (.int (many:Int)),some (.ref st.length),none,none]) (w:=(none,cZ 0 many)) (st:=st++[.lst []]) (t:=λ_=>true) (f:=λv=> .int ((wj c (zP v)).fmod 13)) trivial
   (λv _ acc=>rfl) (λv hv _ acc=>by
    obtain⟨k,rfl,h0,h1⟩:=zK hv
    unfold eT
    simp[c4,mix (c:=c) (k:=k) (by omega) (by omega),jS Vj.1,zP])
   (by show(cZ 0 many).length < lim;rw[dQ];unfold lim;omega)
  rw[show((none,cZ 0 many):Wk).2=cZ 0 many from rfl,List.filter_eq_self.mpr (λ_ _=>rfl)] at q
  have e2:(cZ 0 many).map (λv=>Wv.int ((wj c (zP v)).fmod 13))=((cZ 0 many).map λv=>(wj c (zP v)).fmod 13).map Wv.int:=by rw[bS];rfl
  rw[e2] at q
  refine⟨(st++[Ob.lst []]).length,(st++[.lst []])++[.lst (((cZ 0 many).map λv=>(wj c (zP v)).fmod 13).map Wv.int)],_,?_,aD,by rw[aA,dQ],λd hd=>?_,Gr.push.trans Gr.push⟩
  ·refine fW (n:=6) (g:=cQ) ?_
   unfold cQ
   simp[-xb,-dH,-bS,md,zf,FH cr,q]
  ·obtain⟨v,_,rfl⟩:=List.mem_map.mp hd
   exact uo (by omega)
def xS:PySem.Str:=qY 200 "x"
def SM:List Wo:=[.aL,.int 0,.int 1,.int 2,.int (-1),.str "a",.str "b",.str "ab",.str "",.int 1000000000000000000000000000000000000000000000000000000000000,.int (-1000000000000000000000000000000000000000000000000000000000000),.str "1",.str xS]
theorem Vk:gj (.str "x") (.int 200) st= .ok (.str xS) st:=by
 show(if nP "x" 200 then Re.ok (Wv.str (qY (200:Int).toNat "x")) st else .bad)=_
 rw[if_pos (by unfold nP lim;decide)]
 rfl
theorem SG:pK (.int 10) (.int 60) st= .ok (.int 1000000000000000000000000000000000000000000000000000000000000) st:=Kt (i:=10) (j:=60) (st:=st) (by decide)
theorem Ra:∀i:Fin 13,(SM.getD i.1 .aL).ok=true:=by decide+kernel
theorem yk{c:Int}{many:Nat}(hm:many<=60):∃(l:Nat)(st':Hs)(ws:List Wo),cx [.int c,.int (many:Int)] st= .ok (.ref l) st'/\aj st' l=some (ws.map Wo.w)/\ws.length=many/\Gr st st'/\∀w∈ws,w.ok=true:=by
 have SH:q_ [.aL,.int 0,.int 1,.int 2,.int (-1),.str "a",.str "b",.str "ab",.str "",.int 1000000000000000000000000000000000000000000000000000000000000,.int (-1000000000000000000000000000000000000000000000000000000000000),.str "1",.str xS] st= .ok (.ref st.length) (st++[.lst (SM.map Wo.w)]):=jR (by simp[lim])
 obtain⟨s0,hs0⟩:∃s0,st++[Ob.lst (SM.map Wo.w)]=s0:=⟨_,rfl⟩
 rw[hs0] at SH
 have ls:aj s0 st.length=some (SM.map Wo.w):=by rw[<-hs0];exact aD
 have ln:cP [.ref st.length] s0= .ok (.int 13) s0:=Q_ ls
 obtain⟨l,s1,ds,e1,l1,n1,b1,g1⟩:=digits (c:=c) (many:=many) hm (st:=s0)
 have YI:=g1.lst ls
 have q:=cD (cs:=[("some",2)]) (gt:=ic) (ge:=eV) (ρ:=[some (.int c),some (.int (many:Int)),some (.ref st.length)]) (w:=(some l,ds.map Wv.int)) (st:=s1) (t:=λ_=>true) (f:=λv=>(SM.getD (zP v).toNat .aL).w) l1
  (λv _ acc=>rfl) (λv hv _ acc=>by
   obtain⟨d,hd,rfl⟩:=List.mem_map.mp hv
   have b:=b1 d hd
   have ix:=um (st:=s1++[.lst acc]) (k:=d.toNat) (iO YI) (show d.toNat < 13 by omega)
   rw[show((d.toNat:Nat):Int)=d by omega] at ix
   unfold eV
   simp[-cL,c4,ix,zP])
  (by show(ds.map Wv.int).length < lim;rw[aA];unfold lim;omega)
 rw[show((some l,ds.map Wv.int):Wk).2=ds.map Wv.int from rfl,List.filter_eq_self.mpr (λ_ _=>rfl)] at q
 have e2:(ds.map Wv.int).map (λv=>(SM.getD (zP v).toNat .aL).w)=(ds.map λd=>SM.getD d.toNat .aL).map Wo.w:=by rw[bS,bS];rfl
 rw[e2] at q
 refine⟨s1.length,s1++[.lst ((ds.map λd=>SM.getD d.toNat .aL).map Wo.w)],_,?_,aD,by rw[aA];exact n1,by rw[<-hs0] at g1;exact Gr.push.trans (g1.trans Gr.push),λw hw=>by
  obtain⟨d,hd,rfl⟩:=List.mem_map.mp hw
  have b:=b1 d hd
  exact Ra ⟨d.toNat,by show d.toNat < 13;omega⟩⟩
 refine fW (n:=3) (g:=fM) ?_
 unfold fM
 simp[-cL,-bS,SG,Vk,SH,ln,e1,gS l1,q]
end
section
variable {st:Hs}
def HA:List PySem.Str:=["b","a","ab","c"]
def B6(r:Nat):List PySem.Str:=HA.drop r++HA.take r
theorem N7{l:Nat}{n:Int}{ws:List Wv}(h:st[l]? =some (.lst ws))(hc:AZ ws.length n):gj (.ref l) (.int n) st= .ok (.ref st.length) (st++[.lst (aJ n.toNat ws).flatten]):=by
 show(match st[l]? with | some (.lst ws)=>if AZ ws.length n then Re.ok (Wv.ref st.length) (st++[Ob.lst (aJ n.toNat ws).flatten]) else .bad | _=> .bad)=_
 rw[h]
 exact if_pos hc
theorem qJ{l:Nat}{ws:List Wv}(h:aj st l=some ws):eO [.ref l] st= .ok (.tup ws) st:=by
 show(match aj st l with | some ws=>Re.ok (Wv.tup ws) st | none=> .bad)=_
 rw[h]
theorem Vl:∀r:Fin 4,lZ (HA.map Wv.str) (some (r.1:Int)) none=(HA.drop r.1).map Wv.str:=λr=>by
 obtain⟨r,h⟩:=r
 match r,h with
 | 0,_=>rfl
 | 1,_=>rfl
 | 2,_=>rfl
 | 3,_=>rfl
theorem Vm:∀r:Fin 4,lZ (HA.map Wv.str) none (some (r.1:Int))=(HA.take r.1).map Wv.str:=λr=>by
 obtain⟨r,h⟩:=r
 match r,h with
 | 0,_=>rfl
 | 1,_=>rfl
 | 2,_=>rfl
 | 3,_=>rfl
theorem Vn{r w:Nat}(hr:r < 4)(h1:1<=w)(h4:w<=4):DX (.tup ((B6 r).map Wv.str)) none (some (w:Int)) st= .ok (.tup (((B6 r).take w).map Wv.str)) st:=by
 match r,hr with
 | 0,_=>match w,h1,h4 with
  | 1,_,_=>rfl
  | 2,_,_=>rfl
  | 3,_,_=>rfl
  | 4,_,_=>rfl
 | 1,_=>match w,h1,h4 with
  | 1,_,_=>rfl
  | 2,_,_=>rfl
  | 3,_,_=>rfl
  | 4,_,_=>rfl
 | 2,_=>match w,h1,h4 with
  | 1,_,_=>rfl
  | 2,_,_=>rfl
  | 3,_,_=>rfl
  | 4,_,_=>rfl
 | 3,_=>match w,h1,h4 with
  | 1,_,_=>rfl
  | 2,_,_=>rfl
  | 3,_,_=>rfl
  | 4,_,_=>rfl
theorem N8:∀r:Fin 4,(B6 r.1).Nodup:=by decide
theorem Js:∀r:Fin 4,(B6 r.1).length=4:=by decide
theorem FW:∀r:Fin 4,∀h∈B6 r.1,h="b"\/h="a"\/h="ab"\/h="c":=by decide
theorem Rb{ws:List Wo}{a n:Nat}(h:a+n<=ws.length):lZ (ws.map Wo.w) (some (a:Int)) (some ((a:Int)+(n:Int)))=((ws.drop a).take n).map Wo.w:=by
 have i1:HT.c7 (ws.map Wo.w).length 0 (some (a:Int))=a:=by
  unfold HT.c7
  simp
  rw[if_neg (by omega)]
  omega
 have i2:HT.c7 (ws.map Wo.w).length (ws.map Wo.w).length (some ((a:Int)+(n:Int)))=a+n:=by
  unfold HT.c7
  simp
  rw[if_neg (by omega)]
  omega
 unfold lZ
 rw[i1,i2,<-FQ,<-ya,Nat.add_sub_cancel_left]
theorem zQ{w:Nat}:∀{us:List Wv},(∀u∈us,∃r:List Wo,(r.length=w/\∀z∈r,z.ok=true)/\u=a7 r)->∃rows:List (List Wo),us=rows.map a7/\∀r∈rows,r.length=w/\∀z∈r,z.ok=true
 | [],_=>⟨[],rfl,λ_ h=>by cases h⟩
 | u::t,h=>by
  obtain⟨r,hr,rfl⟩:=h u bp
  obtain⟨rows,rfl,k⟩:=zQ (us:=t) λu hu=>h u (aX _ hu)
  refine⟨r::rows,rfl,λx hx=>?_⟩
  rcases List.mem_cons.mp hx with z | z
  ·rw[z];exact hr
  ·exact k x z
theorem cells{at':Nat}{ns:List Int}(h:at' < 4):∃c:Int,L2.pf ((ns.map Wv.int)++[.int 0,.int 0,.int 0,.int 0]) (at':Int)=some (.int c):=by
 have hl:at' < ((ns.map Wv.int)++[Wv.int 0,.int 0,.int 0,.int 0]).length:=by simp;omega
 obtain⟨v,e,hv⟩:=FI (ws:=(ns.map Wv.int)++[Wv.int 0,.int 0,.int 0,.int 0]) (d:=(at':Int)) (by omega) (by omega)
 rcases List.mem_append.mp hv with z | z
 ·obtain⟨c,_,rfl⟩:=List.mem_map.mp z
  exact⟨c,e⟩
 ·simp at z
  exact⟨0,by rw[e,z]⟩
theorem table{ns:List Int}{at' most:Nat}(hs:st[0]? =some (.tw ns))(hn:ns.length<=63)(ha:at' < 4)(hm:most<=12):∃(hs':List PySem.Str)(rows:List (List Wo))(st':Hs),eW [.ref 0,.int (at':Int),.int (most:Int)] st= .ok (aB hs' rows) st'/\Tb hs' rows/\(hs'.length<=4/\("zz":PySem.Str)∉hs')/\Gr st st':=by
 have l0:aj st 0=some (ns.map Wv.int):=by unfold aj;rw[hs]
 have b0:=bT hs
 obtain⟨s1,hs1⟩:∃s1,st++[Ob.lst [.int 0]]=s1:=⟨_,rfl⟩
 have g1:s1[st.length]? =some (.lst [.int 0]):=by rw[<-hs1];exact bZ
 have G1:Gr st s1:=by rw[<-hs1];exact Gr.push
 have mu:gj (.ref st.length) (.int 4) s1= .ok (.ref s1.length) (s1++[.lst [.int 0,.int 0,.int 0,.int 0]]):=N7 g1 (by unfold AZ lim;simp)
 obtain⟨s2,hs2⟩:∃s2,s1++[Ob.lst [.int 0,.int 0,.int 0,.int 0]]=s2:=⟨_,rfl⟩
 rw[hs2] at mu
 have G2:Gr s1 s2:=by rw[<-hs2];exact Gr.push
 have k2:aj s2 s1.length=some [.int 0,.int 0,.int 0,.int 0]:=by rw[<-hs2];exact aD
 have ad:=add_l (st:=s2) ((G1.trans G2).lst l0) k2 (by simp;unfold lim;omega)
 obtain⟨s3,wQ⟩:∃s3,s2++[Ob.lst ((ns.map Wv.int)++[.int 0,.int 0,.int 0,.int 0])]=s3:=⟨_,rfl⟩
 rw[wQ] at ad
 have G3:Gr s2 s3:=by rw[<-wQ];exact Gr.push
 have k3:aj s3 s2.length=some ((ns.map Wv.int)++[.int 0,.int 0,.int 0,.int 0]):=by rw[<-wQ];exact aD
 obtain⟨c,ec⟩:=cells (ns:=ns) ha
 have ix:=vV k3 ec
 have w1:=jS (st:=s3) (i:=c) (j:=4) (by decide)
 have bw:=uo (x:=c) (m:=4) (by omega)
 obtain⟨w,hw⟩:∃w:Nat,(1+c.fmod 4)=(w:Int):=⟨(1+c.fmod 4).toNat,by omega⟩
 have f1:=iA (st:=s3) (i:=c) (j:=4) ⟨by decide,by decide⟩
 have h1:=jS (st:=s3) (i:=c.fdiv 4) (j:=(most:Int)+1) (by omega)
 have bh:=uo (x:=c.fdiv 4) (m:=(most:Int)+1) (by omega)
 obtain⟨hg,hh⟩:∃hg:Nat,(c.fdiv 4).fmod ((most:Int)+1)=(hg:Int):=⟨((c.fdiv 4).fmod ((most:Int)+1)).toNat,by omega⟩
 rw[hh] at h1 bh
 obtain⟨r,hr⟩:∃r:Nat,(c.fdiv 64).fmod 4=(r:Int):=⟨((c.fdiv 64).fmod 4).toNat,by have:=uo (x:=c.fdiv 64) (m:=4) (by omega);omega⟩
 have br:r < 4:=by have:=uo (x:=c.fdiv 64) (m:=4) (by omega);omega
 have fr:∀st:Hs,cT (.int c) (.int 64) st= .ok (.int (c.fdiv 64)) st:=λst=>iA ⟨by decide,by decide⟩
 have mr:∀st:Hs,oMod (.int (c.fdiv 64)) (.int 4) st= .ok (.int (r:Int)) st:=λst=>by rw[<-hr];exact jS (by decide)
 -- the heads
 obtain⟨s4,wk⟩:∃s4,s3++[Ob.lst (HA.map Wv.str)]=s4:=⟨_,rfl⟩
 have k4:aj s4 s3.length=some (HA.map Wv.str):=by rw[<-wk];exact aD
 have sa:=FG (lo:=some (r:Int)) (hi:=none) k4
 rw[Vl ⟨r,br⟩] at sa
 obtain⟨s5,N9⟩:∃s5,s4++[Ob.lst ((HA.drop r).map Wv.str)]=s5:=⟨_,rfl⟩
 rw[N9] at sa
 have k5:aj s5 s4.length=some ((HA.drop r).map Wv.str):=by rw[<-N9];exact aD
 obtain⟨s6,FX⟩:∃s6,s5++[Ob.lst (HA.map Wv.str)]=s6:=⟨_,rfl⟩
 have k6:aj s6 s5.length=some (HA.map Wv.str):=by rw[<-FX];exact aD
 have sb:=FG (lo:=none) (hi:=some (r:Int)) k6
 rw[Vm ⟨r,br⟩] at sb
 obtain⟨s7,Vo⟩:∃s7,s6++[Ob.lst ((HA.take r).map Wv.str)]=s7:=⟨_,rfl⟩
 rw[Vo] at sb
 have k7:aj s7 s6.length=some ((HA.take r).map Wv.str):=by rw[<-Vo];exact aD
 have G4:Gr s3 s4:=by rw[<-wk];exact Gr.push
 have G5:Gr s4 s5:=by rw[<-N9];exact Gr.push
 have G6:Gr s5 s6:=by rw[<-FX];exact Gr.push
 have G7:Gr s6 s7:=by rw[<-Vo];exact Gr.push
 have ah:=add_l (st:=s7) ((G6.trans G7).lst k5) k7 (by rw[aA,aA,pb,jz];unfold lim HA;simp;omega)
 have er:(HA.drop r).map Wv.str++(HA.take r).map Wv.str=(B6 r).map Wv.str:=by unfold B6;rw[qI]
 rw[er] at ah
 obtain⟨s8,OH⟩:∃s8,s7++[Ob.lst ((B6 r).map Wv.str)]=s8:=⟨_,rfl⟩
 rw[OH] at ah
 have G8:Gr s7 s8:=by rw[<-OH];exact Gr.push
 have k8:aj s8 s7.length=some ((B6 r).map Wv.str):=by rw[<-OH];exact aD
 have tc:=qJ k8
 have ch:=Vn (st:=s8) br (show 1<=w by omega) (show w<=4 by omega)
 -- the yk
 have Xa:Gr st s8:=G1.trans (G2.trans (G3.trans (G4.trans (G5.trans (G6.trans (G7.trans G8))))))
 have sc:=FG (lo:=some ((at':Int)+1)) (hi:=none) (Xa.lst l0)
 obtain⟨ys,ey,_⟩:=sC (f:=Wv.int) (xs:=ns) (lo:=some ((at':Int)+1)) (hi:=none)
 rw[ey] at sc
 obtain⟨s9,Vp⟩:∃s9,s8++[Ob.lst (ys.map Wv.int)]=s9:=⟨_,rfl⟩
 rw[Vp] at sc
 have G9:Gr s8 s9:=by rw[<-Vp];exact Gr.push
 have k9:aj s9 s8.length=some (ys.map Wv.int):=by rw[<-Vp];exact aD
 have su:=FK k9
 have wh:((w:Int) * (hg:Int))=((w * hg:Nat):Int):=by push_cast;rfl
 have YJ:w * hg<=60:=bb (Nat.mul_le_mul (show w<=4 by omega) (show hg<=12 by omega)) (by omega)
 have mw:=sy (st:=s9) (i:=(w:Int)) (j:=(hg:Int)) (by omega) (by omega)
 obtain⟨lw,tU,ws,MP,SI,YK,Xb,YL⟩:=yk (c:=ys.sum) (many:=w * hg) YJ (st:=s9)
 rw[<-wh] at MP
 -- the rows
 have cr:mY (hg:Int):=Q4 (by omega) (by omega)
 obtain⟨ρ,hρ⟩:∃ρ:bA,[some (.ref 0),some (.int (at':Int)),some (.int (most:Int)),some (.int c),some (.int (w:Int)),some (.int (hg:Int)),some (.tup (((B6 r).take w).map Wv.str)),some (.ref lw),none]=ρ:=⟨_,rfl⟩
 have bl:=qA SI
 obtain⟨OC,us,YM,nE,YN,YO,Xd⟩:=sA (w:=(none,cZ 0 hg)) (gt:=λv=>fG (some v::c4 [("worths",7),("wide",4)] ρ)) (ge:=λv=>dw (some v::c4 [("worths",7),("wide",4)] ρ)) (rr:=tU.length)
  (λst=>aj st lw=some (ws.map Wo.w)/\tU.length < st.length/\∀k,k < tU.length->st[k]? =tU[k]?) (λu=>∃r:List Wo,(r.length=w/\∀z∈r,z.ok=true)/\u=a7 r)
  (λst acc h=>by
   refine⟨?_,by rw[ph];exact h.2.1,λk hk=>by rw[bE (by omega)];exact h.2.2 k hk⟩
   have q:=h.1
   unfold aj at q ⊢
   rw[bE (by omega)]
   exact q)
  (λst h=>trivial) (cZ 0 hg)
  (λv hv st acc hp hg'=>by
   obtain⟨k,rfl,h0,h1⟩:=zK hv
   refine⟨st,rfl,hp,hg',?_⟩
   obtain⟨kn,rfl⟩:∃kn:Nat,k=(kn:Int):=⟨k.toNat,by omega⟩
   have m1:=sy (st:=st) (i:=(kn:Int)) (j:=(w:Int)) (by omega) (by omega)
   have em:(kn:Int) * (w:Int)=((kn * w:Nat):Int):=by push_cast;rfl
   have le:kn * w+w<=ws.length:=by
    rw[YK]
    have:(kn+1) * w<=hg * w:=Nat.mul_le_mul_right w (by omega)
    rw[Nat.succ_mul] at this
    rw[Nat.mul_comm w hg]
    exact this
   have sl:=FG (lo:=some ((kn * w:Nat):Int)) (hi:=some (((kn * w:Nat):Int)+(w:Int))) hp.1
   rw[Rb le] at sl
   rw[<-em] at sl
   have tt:=qJ (st:=st++[.lst (((ws.drop (kn * w)).take w).map Wo.w)]) aD
   refine⟨a7 ((ws.drop (kn * w)).take w),st++[.lst (((ws.drop (kn * w)).take w).map Wo.w)],?_,⟨_,⟨by rw[jz,pb];omega,λz hz=>YL z (Jt (uq hz))⟩,rfl⟩,⟨iO hp.1,by rw[dH];have:=hp.2.1;omega,λk hk=>by rw[cu (by have:=hp.2.1;omega)];exact hp.2.2 k hk⟩,bI hg'⟩
   rw[<-hρ]
   unfold dw
   simp[-ya,-FQ,c4,m1,sl,tt,a7])
  [] (tU++[.lst []]) ⟨iO SI,by simp,λk hk=>cu hk⟩ bZ (by rw[dQ];simp;unfold lim;omega) (λa h=>by cases h)
 obtain⟨rows,rfl,wd⟩:=zQ YO
 rw[aA,dQ] at Xd
 simp at Xd
 have ym:eN [("worths",7),("wide",4)] fG dw ρ (none,cZ 0 hg) tU= .ok (.ref tU.length) OC:=by
  unfold eN
  rw[show((none,cZ 0 hg):Wk).2=cZ 0 hg from rfl,YM]
 have tr:=qJ (aT YN)
 have YQ:((B6 r).take w).length=w:=by rw[jz,Js ⟨r,br⟩];omega
 refine⟨(B6 r).take w,rows,OC,?_,⟨(N8 ⟨r,br⟩).sublist (List.take_sublist _ _),by omega,by omega,λh hm=>by rcases FW ⟨r,br⟩ h (uq hm) with z | z | z | z<;>simp[z],by omega,λx hx=>by rw[YQ];exact(wd x hx).1,λx hx=>(wd x hx).2⟩,⟨by omega,λhm=>by rcases FW ⟨r,br⟩ _ (uq hm) with z | z | z | z<;>exact absurd z (by decide)⟩,?_⟩
 ·refine fW (n:=9) (g:=gD) ?_
  have kA:∀st:Hs,q_ [.str "b",.str "a",.str "ab",.str "c"] st= .ok (.ref st.length) (st++[.lst (HA.map Wv.str)]):=λst=>jR (by simp[lim])
  rw[<-hρ] at ym
  unfold gD
  simp[-xb,-dH,-ya,-NT,kA,hs1,mu,ad,ix,w1,hw,f1,h1,fr,mr,wk,sa,FX,sb,ah,tc,ch,sc,su,mw,MP,FH cr,ym,tr,aB]
 ·have YR:=Xa.trans (G9.trans Xb)
  exact YR.trans ⟨by have:=nE.2.1;omega,nE.2.2⟩
end
def N_:Wo->Kw
 | .aL=>(2,.inl 0)
 | .int i=>(0,.inl i)
 | .str z=>(1,.inr z)
def yo:Wo->Wv
 | .aL=> .tup [.int 2,.int 0]
 | .int i=> .tup [.int 0,.int i]
 | .str z=> .tup [.int 1,.str z]
theorem Ju(a:Wo):xJ (yo a)=some (N_ a):=by cases a<;>rfl
theorem zR:∀l:List Wo,mz (l.map yo)=some (l.map N_)
 | []=>rfl
 | a::l=>by rw[aM,mz,Ju,zR l];rfl
abbrev nW(ms:List Nat):List Wv:=ms.map λi=>Wv.int (i:Nat)
theorem wo{is:List Nat}{gb:GS}{c:Option (Nat×List Wv)}(f:Nat->Wv)(P:Nat->bA->Hs->Prop):∀(n k:Nat)(ρ:bA)(st:Hs),P k ρ st->
  (∀j,k<=j->j < k+n->∀ρ st,P j ρ st->∃ρ1 ρ' st',J5 is (f j) ρ=some ρ1/\gb ρ1 st= .nx ρ' st'/\rX c st'/\P (j+1) ρ' st')->∃ρ' st',mq is gb c ((gw k n).map f) ρ st= .nx ρ' st'/\P (k+n) ρ' st'
 | 0,k,ρ,st,h,_=>⟨ρ,st,rfl,h⟩
 | n+1,k,ρ,st,h,step=>by
  obtain⟨ρ1,ρ2,st2,e1,e2,c2,p2⟩:=step k (ak _) (by omega) ρ st h
  obtain⟨ρ3,st3,e3,p3⟩:=wo f P n (k+1) ρ2 st2 p2 λj h1 h2=>step j (by omega) (by omega)
  refine⟨ρ3,st3,?_,by rw[show k+(n+1)=k+1+n by omega];exact p3⟩
  rw[List.range'_succ,aM]
  unfold mq
  rw[e1]
  dsimp only
  rw[e2]
  dsimp only
  rw[if_pos c2]
  exact e3
theorem Oa(c:List Wo):mn (c.map Wo.w)=(dX c.length).map λk:Nat=> .tup [.int (k:Int),(c.getD k .aL).w]:=by
 refine List.ext_getElem (by rw[gF];simp) λk h1 h2=>?_
 rw[gF,aA] at h1
 rw[rY (by simpa using h1)]
 simp[h1]
section
variable {st:Hs}
theorem Vq(a:Wo):df [a.w] st= .ok (yo a) st:=by
 refine fW (n:=1) (g:=ij) ?_
 have i:=YH (st:=st) a
 have s:=aS (st:=st) a
 unfold ij
 cases a with
 | aL=>simp only[Wo.w,Wo.nn,Wo.SF] at i s ⊢;simp[i,yo]
 | int n=>simp only[Wo.w,Wo.nn,Wo.SF] at i s ⊢;simp[i,s,yo]
 | str z=>simp only[Wo.w,Wo.nn,Wo.SF] at i s ⊢;simp[i,s,yo]
end
def Wo.key:Wo->L2.Key
 | .aL=> .aL
 | .int i=> .inl i
 | .str x=> .inr x
theorem jd{a b:Wo}(h:a.key=b.key):a=b:=by cases a<;>cases b<;>simp_all [Wo.key]
theorem je(a:Wo):keyOf a.w=some a.key:=by cases a<;>rfl
theorem FY{a:Wo}(h:a.ok=true):wK a.key=some a.w:=by
 cases a with
 | str x=>show(if aQ x=true then some (Wv.str x) else none)=_;rw[if_pos (show aQ x=true from h)];rfl
 | _=>rfl
abbrev Qg:=Wo×Nat×List Nat
def qK(qs:List Qg):List (L2.Key×Wv):=qs.map λq=>(q.1.key,Wv.ref q.2.1)
def wq:List Qg->Wo->Nat->Nat->List Qg
 | [],a,i,l=>[(a,l,[i])]
 | q::r,a,i,l=>if q.1=a then(q.1,q.2.1,q.2.2++[i])::r else q::wq r a i l
abbrev Gp:=Wo×List Nat
def om:List Gp->Wo->Nat->List Gp
 | [],a,i=>[(a,[i])]
 | q::r,a,i=>if q.1=a then(q.1,q.2++[i])::r else q::om r a i
def B7(q:Qg):Gp:=(q.1,q.2.2)
theorem FZ(a:Wo)(i l:Nat):∀qs:List Qg,(wq qs a i l).map B7=om (qs.map B7) a i
 | []=>rfl
 | q::r=>by
  unfold wq
  rw[aM]
  unfold om
  by_cases h:q.1=a
  ·rw[if_pos h,if_pos (by exact h)];rfl
  ·rw[if_neg h,if_neg (by exact h),aM,FZ a i l r]
theorem qL(a:Wo)(i l:Nat):∀qs:List Qg,(∃pre q post,qs=pre++q::post/\q.1=a/\(∀p∈pre,p.1≠a)/\dI (qK qs) a.key=some (.ref q.2.1)/\wq qs a i l=pre++(q.1,q.2.1,q.2.2++[i])::post)\/
  ((∀p∈qs,p.1≠a)/\dI (qK qs) a.key=none/\wq qs a i l=qs++[(a,l,[i])])
 | []=> .inr ⟨λ_ h=>by simp at h,rfl,rfl⟩
 | q::r=>by
  by_cases h:q.1=a
  ·refine .inl ⟨[],q,r,rfl,h,λ_ h=>by simp at h,?_,?_⟩
   ·show(if q.1.key=a.key then _ else _)=_
    rw[if_pos (by rw[h])]
   ·show(if q.1=a then _ else _)=_
    rw[if_pos h]
    rfl
  ·have hk:¬q.1.key=a.key:=λz=>h (jd z)
   have hv:dI (qK (q::r)) a.key=dI (qK r) a.key:=by
    show(if q.1.key=a.key then _ else _)=_
    rw[if_neg hk]
    rfl
   have hp:wq (q::r) a i l=q::wq r a i l:=by
    show(if q.1=a then _ else _)=_
    rw[if_neg h]
   rcases qL a i l r with ⟨pre,p,post,e1,e2,e3,e4,e5⟩ | ⟨e1,e2,e3⟩
   ·refine .inl ⟨q::pre,p,post,by rw[e1];rfl,e2,λx hx=>?_,by rw[hv];exact e4,by rw[hp,e5];rfl⟩
    rcases List.mem_cons.mp hx with z | z
    ·rw[z];exact h
    ·exact e3 x z
   ·refine .inr ⟨λx hx=>?_,by rw[hv];exact e2,by rw[hp,e3];rfl⟩
    rcases List.mem_cons.mp hx with z | z
    ·rw[z];exact h
    ·exact e1 x z
theorem F1{a:Wo}:∀{qs:List Qg},(∀p∈qs,p.1≠a)->((qK qs).any λkv=>decide (kv.1=a.key))=false
 | [],_=>rfl
 | q::r,h=>by
  have h1:¬q.1.key=a.key:=λz=>h q bp (jd z)
  have h2:=F1 (qs:=r) λp hp=>h p (aX _ hp)
  unfold qK at h2 ⊢
  rw[aM,fz,h2]
  simp[h1]
structure QS(d b:Nat)(qs:List Qg)(st:Hs):Prop where
 dc:st[d]? =some (.dct (qK qs))
 ls:∀q∈qs,st[q.2.1]? =some (.lst (nW q.2.2))
 lt:∀q∈qs,b < q.2.1
 nd:(qs.map λq=>q.2.1).Nodup
 bd:d<=b/\b < st.length
def Kd(d b:Nat)(st st':Hs):Prop:=st.length<=st'.length/\∀k,k<=b->k≠d->st'[k]? =st[k]?
theorem Kd.trans{d b:Nat}{x y z:Hs}(h:Kd d b x y)(k:Kd d b y z):Kd d b x z:=⟨bb h.1 k.1,λj a c=>(k.2 j a c).trans (h.2 j a c)⟩
theorem Kd.refl{d b:Nat}{x:Hs}:Kd d b x x:=⟨ak _,λ_ _ _=>rfl⟩
section
variable {st:Hs}
theorem yq{d l:Nat}{ρ:bA}{gd gk gx:GE}{kvs:List (L2.Key×Wv)}{a:Wo}{x:Wv}{st2:Hs}(h1:gd ρ st= .ok (.ref d) st)(h2:st[d]? =some (.dct kvs))(h3:gk ρ st= .ok a.w st)(h4:gx ρ st= .ok x st2)(h5:st2[d]? =some (.dct kvs))(hl:kvs.length < lim)(hv:dI kvs a.key=some (.ref l)) :
  jN gd gk gx ρ st= .ok (.ref l) st2:=by
 unfold jN
 rw[h1]
 simp only[aR]
 rw[if_pos (by show(match st[d]? with | some (.dct _)=>true | _=>false)=true;rw[h2]),h3]
 simp only[aR]
 rw[h4]
 simp only[aR]
 show(match keyOf a.w,st2[d]? with | some kk,some (.dct kvs)=>(if kvs.length < lim then(match dI kvs kk with | some w=>Re.ok w st2 | none=> .ok x (st2.set d (.dct (jM kvs kk x)))) else .bad) | _,_=> .bad)=_
 rw[je,h5]
 dsimp only
 rw[if_pos hl,hv]
theorem yt{d:Nat}{ρ:bA}{gd gk gx:GE}{kvs:List (L2.Key×Wv)}{a:Wo}{x:Wv}{st2:Hs}(h1:gd ρ st= .ok (.ref d) st)(h2:st[d]? =some (.dct kvs))(h3:gk ρ st= .ok a.w st)(h4:gx ρ st= .ok x st2)(h5:st2[d]? =some (.dct kvs))(hl:kvs.length < lim)(hv:dI kvs a.key=none) :
  jN gd gk gx ρ st= .ok x (st2.set d (.dct (jM kvs a.key x))):=by
 unfold jN
 rw[h1]
 simp only[aR]
 rw[if_pos (by show(match st[d]? with | some (.dct _)=>true | _=>false)=true;rw[h2]),h3]
 simp only[aR]
 rw[h4]
 simp only[aR]
 show(match keyOf a.w,st2[d]? with | some kk,some (.dct kvs)=>(if kvs.length < lim then(match dI kvs kk with | some w=>Re.ok w st2 | none=> .ok x (st2.set d (.dct (jM kvs kk x)))) else .bad) | _,_=> .bad)=_
 rw[je,h5]
 dsimp only
 rw[if_pos hl,hv]
end
section
variable {st:Hs}
theorem kD{go ga:GE}{ρ:bA}{l:Nat}{ws:List Wv}{v:Wv}{s1:Hs}(h1:go ρ st= .ok (.ref l) s1)(h2:s1[l]? =some (.lst ws))(h3:ga ρ s1= .ok v s1)(hl:ws.length < lim):cI iL go ga ρ st= .ok .aL (s1.set l (.lst (ws++[v]))):=by
 unfold cI
 rw[h1]
 simp only[aR]
 rw[aT h2]
 dsimp only
 rw[h3]
 simp only[aR]
 show((match s1[l]? with | some (.lst ws)=>(if ws.length < lim then Re.ok Wv.aL (s1.set l (.lst (ws++[v]))) else .bad) | _=> .bad):Re Wv).ju=_
 rw[h2]
 dsimp only
 rw[if_pos hl]
 rfl
theorem zS{ρ:bA}:eu ao ρ st= .ok (.ref st.length) (st++[.lst []]):=by simp
theorem QS.turn{d b k:Nat}{qs:List Qg}{a:Wo}{o0 o1:Option Wv}(S:QS d b qs st)(hq:qs.length<=100)(hn:∀q∈qs,q.2.2.length<=100) :
  ∃st',cE [o0,o1,some (.ref d),some (.int (k:Nat)),some a.w] st= .nx [o0,o1,some (.ref d),some (.int (k:Nat)),some a.w] st'/\QS d b (wq qs a k st.length) st'/\Kd d b st st':=by
 obtain⟨ρ,hρ⟩:∃ρ:bA,[o0,o1,some (.ref d),some (.int (k:Nat)),some a.w]=ρ:=⟨_,rfl⟩
 have g2:af 2 ρ st= .ok (.ref d) st:=by rw[<-hρ];simp
 have g4:af 4 ρ st= .ok a.w st:=by rw[<-hρ];simp
 have g3:∀s:Hs,af 3 ρ s= .ok (.int (k:Nat)) s:=λs=>by rw[<-hρ];simp
 have hd:d < st.length:=bT S.dc
 obtain⟨b1,b2⟩:=S.bd
 have d2:(st++[Ob.lst []])[d]? =some (.dct (qK qs)):=bI S.dc
 have hl:(qK qs).length < lim:=by unfold qK lim;rw[aA];omega
 have run:∀{w:Wv}{s:Hs},cI iL (jN (af 2) (af 4) (eu ao)) (af 3) ρ st= .ok w s->cE ρ st= .nx ρ s:=λ{w s} h=>by
  unfold cE fj
  rw[h]
  rfl
 rw[hρ]
 rcases qL a k st.length qs with ⟨pre,q,post,e1,e2,e3,e4,e5⟩ | ⟨e1,e2,e3⟩
 ·have hm:q∈qs:=by rw[e1];simp
  have lq:=S.ls q hm
  have bq:=S.lt q hm
  have l2:(st++[Ob.lst []])[q.2.1]? =some (.lst (nW q.2.2)):=bI lq
  have r1:=yq (gx:=eu ao) g2 S.dc g4 zS d2 hl e4
  have r2:=kD r1 l2 (g3 _) (by unfold lim nW;rw[aA];have:=hn q hm;omega)
  have en:nW q.2.2++[Wv.int (k:Nat)]=nW (q.2.2++[k]):=by unfold nW;simp
  rw[en] at r2
  have nd:=S.nd
  rw[e1,qI,aM,mI] at nd
  obtain⟨n1,n2,n3⟩:=nd
  have YS:=List.nodup_cons.mp n2
  refine⟨_,run r2,⟨?_,λp hp=>?_,λp hp=>?_,?_,b1,by simp;omega⟩,by simp,λj h1 h2=>?_⟩
  ·rw[bE (by omega),d2,e5,e1]
   unfold qK
   simp
  ·rw[e5] at hp
   rcases List.mem_append.mp hp with z | z
   ·have ne:q.2.1≠p.2.1:=λy=>n3 p.2.1 (List.mem_map.mpr ⟨p,z,rfl⟩) q.2.1 bp y.symm
    rw[bE ne]
    exact bI (S.ls p (by rw[e1];simp[z]))
   ·rcases List.mem_cons.mp z with y | y
    ·rw[y]
     exact cz l2
    ·have ne:q.2.1≠p.2.1:=λx=>YS.1 (List.mem_map.mpr ⟨p,y,x.symm⟩)
     rw[bE ne]
     exact bI (S.ls p (by rw[e1];simp[y]))
  ·rw[e5] at hp
   rcases List.mem_append.mp hp with z | z
   ·exact S.lt p (by rw[e1];simp[z])
   ·rcases List.mem_cons.mp z with y | y
    ·rw[y];exact bq
    ·exact S.lt p (by rw[e1];simp[y])
  ·rw[e5]
   have:=S.nd
   rw[e1] at this
   simpa using this
  ·rw[bE (by omega),cu (by omega)]
 ·have r1:=yt (gx:=eu ao) g2 S.dc g4 zS d2 hl e2
  have ep:jM (qK qs) a.key (.ref st.length)=qK (qs++[(a,st.length,[k])]):=by
   unfold jM
   rw[F1 e1]
   unfold qK
   simp
  rw[ep] at r1
  have l2:((st++[Ob.lst []]).set d (.dct (qK (qs++[(a,st.length,[k])]))))[st.length]? =some (.lst []):=by
   rw[bE (by omega)]
   exact bZ
  have r2:=kD r1 l2 (g3 _) (by unfold lim;simp)
  refine⟨_,run r2,⟨?_,λp hp=>?_,λp hp=>?_,?_,b1,by simp;omega⟩,by simp,λj h1 h2=>?_⟩
  ·rw[bE (by omega),e3]
   exact cz d2
  ·rw[e3] at hp
   rcases List.mem_append.mp hp with z | z
   ·have:=S.ls p z
    have lt:=bT this
    have ld:=S.lt p z
    rw[bE (by omega),bE (by omega)]
    exact bI this
   ·have z:=List.mem_singleton.mp z
    rw[z]
    exact cz l2
  ·rw[e3] at hp
   rcases List.mem_append.mp hp with z | z
   ·exact S.lt p z
   ·have z:=List.mem_singleton.mp z
    rw[z]
    exact b2
  ·rw[e3,qI,mI]
   refine⟨S.nd,by simp,λx hx y hy=>?_⟩
   obtain⟨p,hp,rfl⟩:=List.mem_map.mp hx
   have:=bT (S.ls p hp)
   simp at hy
   omega
  ·rw[bE (by omega),bE (by omega),cu (by omega)]
end
def yu(c:List Wo):Nat->List Gp
 | 0=>[]
 | k+1=>om (yu c k) (c.getD k .aL) k
theorem wt{a:Wo}{i:Nat}:∀{gs:List Gp}{g:Gp},g∈om gs a i->(g∈gs)\/(g.1=a/\∃l,g.2=l++[i]/\(l=[]\/(g.1,l)∈gs))
 | [],g,h=>by
  have h:=List.mem_singleton.mp h
  rw[h]
  exact .inr ⟨rfl,[],rfl,.inl rfl⟩
 | q::r,g,h=>by
  unfold om at h
  by_cases e:q.1=a
  ·rw[if_pos e] at h
   rcases List.mem_cons.mp h with z | z
   ·rw[z]
    exact .inr ⟨e,q.2,rfl,.inr bp⟩
   ·exact .inl (aX _ z)
  ·rw[if_neg e] at h
   rcases List.mem_cons.mp h with z | z
   ·rw[z];exact .inl bp
   ·rcases wt z with y | ⟨y1,l,y2,y3⟩
    ·exact .inl (aX _ y)
    ·exact .inr ⟨y1,l,y2,y3.imp (λz=>z) λz=>aX _ z⟩
theorem wu{a:Wo}{i:Nat}:∀(gs:List Gp),(om gs a i).length<=gs.length+1
 | []=>ak _
 | q::r=>by
  have:=wu (a:=a) (i:=i) r
  unfold om
  by_cases e:q.1=a
  ·rw[if_pos e];simp
  ·rw[if_neg e];simp only[lb];omega
theorem wx{a:Wo}{i:Nat}:∀(gs:List Gp),(om gs a i).map (·.1)=if a∈gs.map (·.1) then gs.map (·.1) else gs.map (·.1)++[a]
 | []=>rfl
 | q::r=>by
  have ih:=wx (a:=a) (i:=i) r
  unfold om
  by_cases e:q.1=a
  ·rw[if_pos e,if_pos (by simp[e])];rfl
  ·rw[if_neg e,aM,ih,aM]
   have ne:a≠q.1:=λz=>e z.symm
   by_cases m:a∈r.map (·.1)
   ·rw[if_pos m,if_pos (aX _ m)]
   ·rw[if_neg m,if_neg (λz=>by rcases List.mem_cons.mp z with y | y;exact ne y;exact m y)];rfl
theorem ur(c:List Wo):∀k,((yu c k).map (·.1)).Nodup
 | 0=>by simp[yu]
 | k+1=>by
  show((om (yu c k) (c.getD k .aL) k).map (·.1)).Nodup
  rw[wx]
  by_cases m:c.getD k .aL∈(yu c k).map (·.1)
  ·rw[if_pos m];exact ur c k
  ·rw[if_neg m,mI]
   exact⟨ur c k,by simp,λx hx y hy=>by rw[List.mem_singleton.mp hy];exact λz=>m (z ▸ hx)⟩
theorem oU(c:List Wo):∀k,(yu c k).length<=k
 | 0=>ak _
 | k+1=>bb (wu _) (oB (oU c k))
theorem nG(c:List Wo):∀k,∀g∈yu c k,(∃j,j < k/\g.1=c.getD j .aL)/\g.2.length<=k/\∀i∈g.2,i < k
 | 0,g,h=>by simp[yu] at h
 | k+1,g,h=>by
  rcases wt (show g∈om (yu c k) (c.getD k .aL) k from h) with z | ⟨z1,l,z2,z3⟩
  ·obtain⟨⟨j,j1,j2⟩,h2,h3⟩:=nG c k g z
   exact⟨⟨j,by omega,j2⟩,by omega,λi hi=>by have:=h3 i hi;omega⟩
  ·refine⟨⟨k,by omega,z1⟩,?_⟩
   rw[z2]
   rcases z3 with y | y
   ·subst y
    exact⟨by simp,λi hi=>by simp at hi;omega⟩
   ·obtain⟨_,h2,h3⟩:=nG c k _ y
    simp only at h2 h3
    refine⟨by simp;omega,λi hi=>?_⟩
    rcases List.mem_append.mp hi with x | x
    ·have:=h3 i x;omega
    ·simp at x;omega
def dq:Qg:=(.aL,0,[])
def sQ(qs:List Qg):List Qg:=(iy false (qs.map λq=>N_ q.1)).map λi=>qs.getD i dq
def oo(c:List Wo):List Gp:=(iy false ((yu c c.length).map λg=>N_ g.1)).map λi=>(yu c c.length).getD i (.aL,[])
theorem Vr{qs:List Qg}{c:List Wo}(h:qs.map B7=yu c c.length):(sQ qs).map B7=oo c:=by
 unfold sQ oo
 have e:(yu c c.length).map (λg=>N_ g.1)=qs.map λq=>N_ q.1:=by rw[<-h,bS];rfl
 rw[e,bS]
 refine lu λi hi=>?_
 show B7 (qs.getD i dq)=_
 rw[<-h]
 simp only[cL,gM]
 cases qs[i]?<;>rfl
theorem qM{qs:List Qg}{q:Qg}(h:q∈sQ qs):q∈qs:=by
 obtain⟨i,hi,rfl⟩:=List.mem_map.mp h
 have hl:=oO hi
 rw[aA] at hl
 rw[cL,bR hl]
 exact jL hl
theorem Oc:∀{qs:List Qg}{q:Qg},(qs.map (·.1)).Nodup->q∈qs->dI (qK qs) q.1.key=some (.ref q.2.1)
 | [],q,_,h=>by cases h
 | p::r,q,n,h=>by
  have n0:=List.nodup_cons.mp (show(p.1::r.map (·.1)).Nodup from n)
  rcases List.mem_cons.mp h with z | z
  ·subst z
   show(if q.1.key=q.1.key then _ else _)=_
   rw[if_pos rfl]
  ·have ne:¬p.1.key=q.1.key:=λy=>n0.1 (List.mem_map.mpr ⟨q,z,(jd y).symm⟩)
   show(if p.1.key=q.1.key then _ else _)=_
   rw[if_neg ne]
   exact Oc (qs:=r) n0.2 z
def qT(q:Qg):Wv:=.tup [q.1.w,.ref q.2.1]
theorem KC:∀{qs:List Qg},(∀q∈qs,q.1.ok=true)->wKs ((qK qs).map (·.1))=some (qs.map λq=>q.1.w)
 | [],_=>rfl
 | q::r,h=>by
  have h1:=FY (h q bp)
  have h2:=KC (qs:=r) λp hp=>h p (aX _ hp)
  show(match wK q.1.key,wKs ((qK r).map (·.1)) with | some w,some l=>some (w::l) | _,_=>none)=_
  rw[h1,h2]
  rfl
section
variable {hs:List PySem.Str} {rows:List (List Wo)} {st:Hs}
theorem zT:∀(qs:List Qg),vG df st (qs.map λq=>q.1.w)=some ((qs.map (·.1)).map yo)
 | []=>rfl
 | q::r=>by
  have h2:=zT r
  unfold vG at h2 ⊢
  rw[aM]
  unfold sd
  dsimp only
  rw[Vq]
  dsimp only
  rw[if_pos rfl,h2]
  rfl
theorem Od{d:Nat}{qs:List Qg}(h:st[d]? =some (.dct (qK qs)))(hk:∀q∈qs,q.1.ok=true)(hl:qs.length < 64):Bp false df (.ref d) st= .ok (.ref st.length) (st++[.lst ((sQ qs).map λq:Qg=>q.1.w)]):=by
 unfold Bp
 dsimp only
 rw[h]
 dsimp only
 rw[KC hk]
 dsimp only
 rw[if_pos (by rw[aA];exact hl),zT]
 dsimp only
 rw[zR]
 dsimp only
 have e:(iy false ((qs.map (·.1)).map N_)).map (λi=>(qs.map λq=>q.1.w).getD i .aL)=(sQ qs).map λq:Qg=>q.1.w:=by
  unfold sQ
  rw[bS,bS]
  refine lu λi hi=>?_
  have hlt:=oO hi
  simp only[aA] at hlt
  simp[cL,hlt]
 rw[e]
theorem F2(T:Tb hs rows){at':Nat}:∀w∈col rows at',w.ok=true:=λw hw=>by
 obtain⟨r,hr,rfl⟩:=List.mem_map.mp hw
 rw[cL]
 cases e:r[at']? with
 | none=>rfl
 | some z=>exact T.ok r hr z (sS e)
theorem nH(T:Tb hs rows){at':Nat}{h:PySem.Str}(e:hs[at']? =some h):∃(l:Nat)(qs:List Qg)(st':Hs),cK [aB hs rows,.str h] st= .ok (.ref l) st'/\st'[l]? =some (.lst (qs.map qT))/\qs.map B7=oo (col rows at')/\(∀q∈qs,st'[q.2.1]? =some (.lst (nW q.2.2))/\st.length<=q.2.1/\q.2.1≠l)/\st.length<=l/\Gr st st':=by
 obtain⟨s1,hs1⟩:∃s1,st++[Ob.dct []]=s1:=⟨_,rfl⟩
 have Vs:s1.length=st.length+1:=by rw[<-hs1];simp
 have c1:=column (st:=s1) T e
 obtain⟨s2,hs2⟩:∃s2,s1++[.lst (hs.map Wv.str),.lst ((col rows at').map Wo.w)]=s2:=⟨_,rfl⟩
 rw[hs2] at c1
 have Rf:s2.length=st.length+3:=by rw[<-hs2];simp[Vs]
 have G1:Gr st s1:=by rw[<-hs1];exact Gr.push
 have G2:Gr s1 s2:=by rw[<-hs2];exact Gr.app
 have YT:(col rows at').length<=14:=by unfold col;rw[aA];exact T.rw'
 have Xe:=F2 T (at':=at')
 obtain⟨c,hc⟩:∃c,col rows at'=c:=⟨_,rfl⟩
 rw[hc] at YT Xe ⊢
 have kc:s2[s1.length+1]? =some (.lst (c.map Wo.w)):=by rw[<-hs2,hc];simp
 have kd:s2[st.length]? =some (.dct (qK [])):=G2.get (by rw[<-hs1];exact bZ)
 have Q0:QS st.length (s1.length+1) [] s2:=⟨kd,(λq h=>by cases h),(λq h=>by cases h),by simp,by omega,by omega⟩
 have en:za [.ref (s1.length+1)] s2= .ok (some (s1.length+1,c.map Wo.w),mn (c.map Wo.w)) s2:=by
  unfold za
  simp only[kc]
 obtain⟨ρ',s3,e4,o3,o4,qs,rfl,Q3,g3,K3⟩:=wo (is:=[3,4]) (gb:=cE) (c:=some (s1.length+1,c.map Wo.w)) (λk:Nat=> .tup [.int (k:Int),(c.getD k .aL).w])
  (λk ρ st'=>∃(o3 o4:Option Wv)(qs:List Qg),ρ=[some (aB hs rows),some (.str h),some (.ref st.length),o3,o4]/\QS st.length (s1.length+1) qs st'/\qs.map B7=yu c k/\Kd st.length (s1.length+1) s2 st')
  c.length 0 [some (aB hs rows),some (.str h),some (.ref st.length),none,none] s2 ⟨none,none,[],rfl,Q0,rfl,Kd.refl⟩
  (λk hk0 hk ρ st' hP=>by
   obtain⟨o3,o4,qs,rfl,Q,g,K⟩:=hP
   have ql:qs.length<=k:=by have:=congrArg gL g;rw[aA] at this;rw[this];exact oU c k
   obtain⟨st2,r1,Q2,K2⟩:=Q.turn (k:=k) (a:=c.getD k .aL) (o0:=some (aB hs rows)) (o1:=some (.str h)) (by omega) λq hq=>by
    have:=(nG c k (B7 q) (by rw[<-g];exact List.mem_map.mpr ⟨q,hq,rfl⟩)).2.1
    show(B7 q).2.length<=100
    omega
   refine⟨_,_,st2,rfl,r1,?_,some (.int (k:Nat)),some (c.getD k .aL).w,_,rfl,Q2,by rw[FZ,g];rfl,K.trans K2⟩
   show aj st2 (s1.length+1)=some (c.map Wo.w)
   exact aT (by rw[(K.trans K2).2 _ (ak _) (by omega)];exact kc))
 rw[Nat.zero_add] at g3
 have YU:mn (c.map Wo.w)=(gw 0 c.length).map λk:Nat=> .tup [.int (k:Int),(c.getD k .aL).w]:=by rw[Oa,List.range_eq_range']
 have YV:∀q∈qs,q.1.ok=true:=λq hq=>by
  obtain⟨j,j1,j2⟩:=(nG c c.length (B7 q) (by rw[<-g3];exact List.mem_map.mpr ⟨q,hq,rfl⟩)).1
  have j2:q.1=c.getD j .aL:=j2
  rw[j2,cL,bR j1]
  exact Xe _ (jL j1)
 have Xf:(qs.map (·.1)).Nodup:=by
  have:=ur c c.length
  rw[<-g3,bS] at this
  exact this
 have ql:qs.length<=c.length:=by have:=congrArg gL g3;rw[aA] at this;rw[this];exact oU c _
 have sq:=Od Q3.dc YV (by omega)
 obtain⟨s4,wk⟩:∃s4,s3++[Ob.lst ((sQ qs).map λq:Qg=>q.1.w)]=s4:=⟨_,rfl⟩
 rw[wk] at sq
 have k4:aj s4 s3.length=some ((sQ qs).map λq:Qg=>q.1.w):=by rw[<-wk];exact aD
 have d4:s4[st.length]? =some (.dct (qK qs)):=by rw[<-wk];exact bI Q3.dc
 obtain⟨ρ,hρ⟩:∃ρ:bA,[some (aB hs rows),some (.str h),some (.ref st.length),o3,o4]=ρ:=⟨_,rfl⟩
 have sl:(sQ qs).length=qs.length:=by unfold sQ;rw[aA,qq,aA]
 have cp:=cD (cs:=[("groups",2)]) (gt:=jn) (ge:=fZ) (ρ:=ρ) (w:=(some s3.length,(sQ qs).map λq:Qg=>q.1.w)) (st:=s4) (t:=λ_=>true) (f:=λv=> .tup [v,(dI (qK qs) (SD v).key).getD .aL]) k4
  (λv _ acc=>rfl) (λv hv _ acc=>by
   obtain⟨q,hq,rfl⟩:=List.mem_map.mp hv
   have vq:=Oc Xf (qM hq)
   have dg:Qz (.ref st.length) q.1.w (s4++[.lst acc])= .ok (.ref q.2.1) (s4++[.lst acc]):=by
    unfold Qz getD
    dsimp only
    rw[bI d4]
    dsimp only
    rw[je]
    dsimp only
    rw[vq]
   have gd:my (af 1) (af 0) (some q.1.w::c4 [("groups",2)] ρ) (s4++[.lst acc])= .ok (.ref q.2.1) (s4++[.lst acc]):=by
    unfold my
    rw[<-hρ]
    simp[c4,dg]
   unfold fZ
   simp[gd,Kz,vq])
  (by show((sQ qs).map λq:Qg=>q.1.w).length < lim;rw[aA];unfold lim;omega)
 rw[show((some s3.length,(sQ qs).map λq:Qg=>q.1.w):Wk).2=(sQ qs).map λq:Qg=>q.1.w from rfl,List.filter_eq_self.mpr (λ_ _=>rfl),bS] at cp
 have ef:(sQ qs).map ((λv=>Wv.tup [v,(dI (qK qs) (SD v).key).getD .aL]) ∘ λq=>q.1.w)=(sQ qs).map qT:=lu λq hq=>by
  show Wv.tup [q.1.w,(dI (qK qs) (SD q.1.w).key).getD .aL]=_
  rw[Kz,Oc Xf (qM hq)]
  rfl
 rw[ef] at cp
 have G3:Gr st s3:=⟨by have:=K3.1;omega,λk hk=>by rw[K3.2 k (by omega) (by omega)];exact(G1.trans G2).2 k hk⟩
 have G4:Gr s3 s4:=by rw[<-wk];exact Gr.push
 refine⟨s4.length,sQ qs,s4++[.lst ((sQ qs).map qT)],?_,bZ,Vr g3,λq hq=>⟨bI (G4.get (Q3.ls q (qM hq))),by have:=Q3.lt q (qM hq);omega,by have:=bT (G4.get (Q3.ls q (qM hq)));omega⟩,(G3.trans G4).1,G3.trans (G4.trans Gr.push)⟩
 refine fW (n:=5) (g:=eE) ?_
 have fg:mv [3,4] (m_ (ae (aP 2 cJ (ae (af 0) (ae (af 1) ao))) ao)) cE [some (aB hs rows),some (.str h),some (.ref st.length),none,none] s1= .nx ρ s3:=by
  unfold mv m_
  simp[c1,en]
  rw[YU,<-hρ]
  exact e4
 have gs:si false df (af 2) ρ s3= .ok (.ref s3.length) s4:=by
  have g2:af 2 ρ s3= .ok (.ref st.length) s3:=by rw[<-hρ];simp
  unfold si
  rw[g2]
  simp only[aR]
  exact sq
 have nk:∀ρ:bA,qg ρ st= .ok (.ref st.length) s1:=λρ=>by rw[<-hs1];rfl
 unfold eE
 simp[nk,fg,gs,gS k4,cp]
end
abbrev Tg:=Wo×Nat×List Wo
def tK(ts:List Tg):List (L2.Key×Wv):=ts.map λt=>(t.1.key,Wv.ref t.2.1)
def fR(t:Tg):Wo×List Wo:=(t.1,t.2.2)
structure TS(d:Nat)(ts:List Tg)(st:Hs):Prop where
 dc:st[d]? =some (.dct (tK ts))
 ls:∀t∈ts,st[t.2.1]? =some (.lst (t.2.2.map Wo.w))/\t.2.1≠d
theorem F3{a:Wo}:∀{ts:List Tg},(∀t∈ts,t.1≠a)->((tK ts).any λkv=>decide (kv.1=a.key))=false
 | [],_=>rfl
 | q::r,h=>by
  have h1:¬q.1.key=a.key:=λz=>h q bp (jd z)
  have h2:=F3 (ts:=r) λp hp=>h p (aX _ hp)
  unfold tK at h2 ⊢
  rw[aM,fz,h2]
  simp[h1]
def dF(c:List Wo)(ns:List Nat):List Wo:=ns.map λi=>c.getD i .aL
section
variable {st:Hs}
theorem TS.turn{d lc lq:Nat}{c:List Wo}{ns:List Nat}{ts:List Tg}{a:Wo}{o0 o1 o2 o3:Option Wv}(S:TS d ts st)(kc:st[lc]? =some (.lst (c.map Wo.w)))(kq:st[lq]? =some (.lst (nW ns)))(hn:∀i∈ns,i < c.length)(hl:ns.length<=100)(ht:ts.length<=100)(ha:∀t∈ts,t.1≠a) :
  ∃st',bQ [o0,o1,o2,o3,some (.ref lc),some (.ref d),some a.w,some (.ref lq)] st= .nx [o0,o1,o2,o3,some (.ref lc),some (.ref d),some a.w,some (.ref lq)] st'/\TS d (ts++[(a,st.length,dF c ns)]) st'/\bK d st st':=by
 obtain⟨ρ,hρ⟩:∃ρ:bA,[o0,o1,o2,o3,some (.ref lc),some (.ref d),some a.w,some (.ref lq)]=ρ:=⟨_,rfl⟩
 have hd:=bT S.dc
 have cp:=cD (cs:=[("column",4)]) (gt:=cO) (ge:=bV) (ρ:=ρ) (w:=(some lq,nW ns)) (st:=st) (t:=λ_=>true) (f:=λv=>(c.getD (zP v).toNat .aL).w) (aT kq)
  (λv _ acc=>rfl) (λv hv _ acc=>by
   obtain⟨i,hi,rfl⟩:=List.mem_map.mp hv
   have ix:=um (st:=st++[.lst acc]) (aT (bI kc)) (hn i hi)
   unfold bV
   rw[<-hρ]
   simp[-cL,c4,ix,zP])
  (by show(nW ns).length < lim;unfold nW;rw[aA];unfold lim;omega)
 rw[show((some lq,nW ns):Wk).2=nW ns from rfl,List.filter_eq_self.mpr (λ_ _=>rfl)] at cp
 have ef:(nW ns).map (λv=>(c.getD (zP v).toNat .aL).w)=(dF c ns).map Wo.w:=by
  unfold nW dF
  rw[bS,bS]
  rfl
 rw[ef] at cp
 obtain⟨s2,hs2⟩:∃s2,st++[Ob.lst ((dF c ns).map Wo.w)]=s2:=⟨_,rfl⟩
 rw[hs2] at cp
 have d2:s2[d]? =some (.dct (tK ts)):=by rw[<-hs2];exact bI S.dc
 have n2:s2[st.length]? =some (.lst ((dF c ns).map Wo.w)):=by rw[<-hs2];exact bZ
 have ep:jM (tK ts) a.key (.ref st.length)=tK (ts++[(a,st.length,dF c ns)]):=by
  unfold jM
  rw[F3 ha]
  unfold tK
  simp
 have pd:putD (.ref d) a.w (.ref st.length) s2=some (s2.set d (.dct (tK (ts++[(a,st.length,dF c ns)])))):=by
  unfold putD
  dsimp only
  rw[d2]
  dsimp only
  rw[je]
  dsimp only
  rw[if_pos (by unfold tK lim;rw[aA];omega),ep]
 have gs:cC [("column",4)] (bM (af 7)) cO bV ρ st= .ok (.ref st.length) s2:=by
  have g7:af 7 ρ st= .ok (.ref lq) st:=by rw[<-hρ];simp
  unfold cC bM
  rw[g7]
  simp only[aR]
  rw[gS (aT kq)]
  simp only[aR]
  exact cp
 have g5:af 5 ρ s2= .ok (.ref d) s2:=by rw[<-hρ];simp
 have g6:af 6 ρ s2= .ok a.w s2:=by rw[<-hρ];simp
 rw[hρ]
 refine⟨s2.set d (.dct (tK (ts++[(a,st.length,dF c ns)]))),?_,⟨cz d2,λt h=>?_⟩,?_⟩
 ·unfold bQ y_
  rw[gs]
  simp only[iz]
  rw[g5]
  simp only[iz]
  rw[g6]
  simp only[iz]
  rw[pd]
 ·rcases List.mem_append.mp h with z | z
  ·obtain⟨h1,h2⟩:=S.ls t z
   exact⟨by rw[bE (aW h2),<-hs2];exact bI h1,h2⟩
  ·have z:=List.mem_singleton.mp z
   rw[z]
   exact⟨by rw[bE (by show d≠st.length;omega)];exact n2,by show st.length≠d;omega⟩
 ·rw[<-hs2]
  exact bK.push.trans bK.set
theorem sF{d lc lg:Nat}{c:List Wo}{all:List Wv}{o0 o1 o2:Option Wv}(Xg:lc≠d)(Vt:lg≠d):∀(rest:List Qg)(ts:List Tg)(o6 o7:Option Wv)(st:Hs),TS d ts st->st[lc]? =some (.lst (c.map Wo.w))->aj st lg=some all->
  (∀q∈rest,st[q.2.1]? =some (.lst (nW q.2.2))/\q.2.1≠d/\(∀i∈q.2.2,i < c.length)/\q.2.2.length<=100)->ts.length+rest.length<=100->(ts.map (·.1)++rest.map (·.1)).Nodup->
  ∃p6 p7 st' ts',nQ [6,7] bQ lg all (rest.map qT) [o0,o1,o2,some (.ref lg),some (.ref lc),some (.ref d),o6,o7] st= .nx [o0,o1,o2,some (.ref lg),some (.ref lc),some (.ref d),p6,p7] st'/\TS d (ts++ts') st'/\ts'.map fR=rest.map (λq=>(q.1,dF c q.2.2))/\bK d st st'/\∀t∈ts',st.length<=t.2.1
 | [],ts,o6,o7,st,S,_,_,_,_,_=>⟨o6,o7,st,[],rfl,by rw[ei];exact S,rfl,bK.refl,λt h=>by cases h⟩
 | q::r,ts,o6,o7,st,S,kc,kg,hq,hl,nd=>by
  obtain⟨q1,q2,q3,q4⟩:=hq q bp
  simp only[lb] at hl
  have nq:∀t∈ts,t.1≠q.1:=λt ht e=>by
   rw[mI] at nd
   exact nd.2.2 t.1 (List.mem_map.mpr ⟨t,ht,rfl⟩) q.1 (by simp) e
  obtain⟨st2,r1,S2,K2⟩:=S.turn (c:=c) (ns:=q.2.2) (a:=q.1) (o0:=o0) (o1:=o1) (o2:=o2) (o3:=some (.ref lg)) kc q1 q3 q4 (by omega) nq
  obtain⟨p6,p7,st3,ts',r3,S3,g3,K3,B3⟩:=sF Xg Vt r (ts++[(q.1,st.length,dF c q.2.2)]) (some q.1.w) (some (.ref q.2.1)) st2 S2 (by rw[K2.2 lc (bT kc) Xg];exact kc) (K2.lst kg Vt)
   (λp hp=>by
    obtain⟨h1,h2,h3,h4⟩:=hq p (aX _ hp)
    exact⟨by rw[K2.2 _ (bT h1) h2];exact h1,h2,h3,h4⟩) (by simp only[dH,lb,pz];omega) (by simpa using nd)
  refine⟨p6,p7,st3,(q.1,st.length,dF c q.2.2)::ts',?_,by simpa using S3,by rw[aM,g3];rfl,K2.trans K3,λt ht=>by
   rcases List.mem_cons.mp ht with z | z
   ·rw[z];exact ak _
   ·exact bb K2.1 (B3 t z)⟩
  rw[aM]
  unfold nQ
  rw[show J5 [6,7] (qT q) [o0,o1,o2,some (.ref lg),some (.ref lc),some (.ref d),o6,o7]=some [o0,o1,o2,some (.ref lg),some (.ref lc),some (.ref d),some q.1.w,some (.ref q.2.1)] from rfl]
  dsimp only
  rw[r1]
  simp only[if_pos (K2.lst kg Vt)]
  exact r3
end
theorem kE(c:List Wo):(oo c).Perm (yu c c.length):=by
 unfold oo iy
 refine((gG _).map _).trans ?_
 rw[aA]
 refine List.Perm.of_eq ?_
 refine List.ext_getElem (by simp) λi h1 h2=>?_
 simp[h2]
theorem uu(c:List Wo):((oo c).map (·.1)).Nodup:=((kE c).map _).nodup_iff.mpr (ur c _)
theorem zU{c:List Wo}{g:Gp}(h:g∈oo c):g.2.length<=c.length/\∀i∈g.2,i < c.length:=by
 have:=nG c c.length g ((kE c).mem_iff.mp h)
 exact⟨this.2.1,this.2.2⟩
theorem mJ(c:List Wo):(oo c).length<=c.length:=by rw[(kE c).length_eq];exact oU c _
def iR(c e:List Wo):List (Wo×List Wo):=(oo c).map λg=>(g.1,dF e g.2)
section
variable {hs:List PySem.Str} {rows:List (List Wo)} {st:Hs}
theorem gE{at':Nat}:(col rows at').length=rows.length:=by unfold col;simp
theorem nI(T:Tb hs rows){i j:Nat}{h h2:PySem.Str}(e:hs[i]? =some h)(e2:hs[j]? =some h2):∃(d:Nat)(ts:List Tg)(st':Hs),aN [aB hs rows,.str h,.str h2] st= .ok (.ref d) st'/\TS d ts st'/\ts.map fR=iR (col rows i) (col rows j)/\st.length<=d/\Gr st st'/\∀t∈ts,st.length<=t.2.1:=by
 obtain⟨lg,qs,s1,r1,k1,g1,l1,b1,G1⟩:=nH (st:=st) T e
 have c2:=column (st:=s1) T e2
 obtain⟨s2,hs2⟩:∃s2,s1++[.lst (hs.map Wv.str),.lst ((col rows j).map Wo.w)]=s2:=⟨_,rfl⟩
 rw[hs2] at c2
 have G2:Gr s1 s2:=by rw[<-hs2];exact Gr.app
 obtain⟨s3,wQ⟩:∃s3,s2++[Ob.dct []]=s3:=⟨_,rfl⟩
 have G3:Gr s2 s3:=by rw[<-wQ];exact Gr.push
 have Rf:s2.length=s1.length+2:=by rw[<-hs2];simp
 have kc:s3[s1.length+1]? =some (.lst ((col rows j).map Wo.w)):=G3.get (by rw[<-hs2];simp)
 have kd:s3[s2.length]? =some (.dct (tK [])):=by rw[<-wQ];exact bZ
 have Z_:=bT k1
 have ql:qs.length<=rows.length:=by
  have:=congrArg gL g1
  rw[aA] at this
  rw[this,<-gE (rows:=rows) (at':=i)]
  exact mJ _
 have YW:=T.rw'
 have Vu:∀q∈qs,B7 q∈oo (col rows i):=λq hq=>by rw[<-g1];exact List.mem_map.mpr ⟨q,hq,rfl⟩
 obtain⟨p6,p7,s4,ts,r4,S4,g4,K4,B4⟩:=sF (d:=s2.length) (lc:=s1.length+1) (lg:=lg) (c:=col rows j) (all:=qs.map qT) (o0:=some (aB hs rows)) (o1:=some (.str h)) (o2:=some (.str h2)) (by omega) (by omega) qs [] none none s3
  ⟨kd,λt h=>by cases h⟩ kc (aT ((G2.trans G3).get k1)) (λq hq=>by
   obtain⟨h1,h2,h3⟩:=l1 q hq
   have lt:=bT h1
   obtain⟨h4,h5⟩:=zU (Vu q hq)
   rw[gE] at h4 h5
   refine⟨(G2.trans G3).get h1,by omega,λk hk=>by rw[gE];exact h5 k hk,?_⟩
   have h4:q.2.2.length<=rows.length:=h4
   omega) (by simp only[pz];omega) (by
   have:=uu (col rows i)
   rw[<-g1,bS] at this
   exact this)
 rw[j3] at S4
 refine⟨s2.length,ts,s4,?_,S4,?_,by have:=G1.1;omega,⟨by have:=G1.1;have:=K4.1;have:=G3.1;omega,λk hk=>?_⟩,λt ht=>bb (bb G1.1 (G2.trans G3).1) (B4 t ht)⟩
 ·refine fW (n:=8) (g:=bj) ?_
  have nk:∀ρ:bA,qg ρ s2= .ok (.ref s2.length) s3:=λρ=>by rw[<-wQ];rfl
  have fg:va [6,7] (af 3) bQ [some (aB hs rows),some (.str h),some (.str h2),some (.ref lg),some (.ref (s1.length+1)),some (.ref s2.length),none,none] s3= .nx [some (aB hs rows),some (.str h),some (.str h2),some (.ref lg),some (.ref (s1.length+1)),some (.ref s2.length),p6,p7] s4:=by
   unfold va
   simp only[kX,qN,jf,kW,iz]
   rw[aT ((G2.trans G3).get k1)]
   exact r4
  unfold bj
  simp[r1,c2,nk,fg]
 ·rw[g4]
  unfold iR
  rw[<-g1,bS]
  rfl
 ·have h1:=G1.1
  rw[K4.2 k (by have:=(G2.trans G3).1;omega) (by omega)]
  exact(G1.trans (G2.trans G3)).2 k hk
end
namespace GA
inductive Wo where
 | aL
 | int (i:Int)
 | txt (x:PySem.Str)
 | JD (x:PySem.Str)
def Wo.w:Wo->Wv
 | .aL=> .aL
 | .int i=> .int i
 | .txt x=> .str x
 | .JD x=> .tup [.str "fault",.str x]
def Wo.f:Wo->Bool
 | .JD _=>true
 | _=>false
def Wo.n:Wo->Bool
 | .int _=>true
 | _=>false
theorem YX(a:Wo)(st:Hs):ja [a.w] st= .ok (.bl a.f) st:=by cases a<;>rfl
def nums:List Wo->List Int
 | []=>[]
 | .int i::r=>i::nums r
 | _::r=>nums r
def ou:List Wo->List PySem.Str
 | []=>[]
 | .JD x::r=>x::ou r
 | _::r=>ou r
theorem wz:∀a:List Wo,(a.map Wo.w).filter (λv=>match v with | .int _=>true | _=>false)=(nums a).map Wv.int
 | []=>rfl
 | x::r=>by
  have:=wz r
  cases x<;>simp[nums,Wo.w,this]
theorem wA:∀a:List Wo,(a.map Wo.w).filter (λv=>match v with | .tup _=>true | _=>false)=(ou a).map λx=>Wv.tup [.str "fault",.str x]
 | []=>rfl
 | x::r=>by
  have:=wA r
  cases x<;>simp[ou,Wo.w,this]
def Rg:Int:=10 ^ (60:Int).toNat
theorem SG{st:Hs}:pK (.int 10) (.int 60) st= .ok (.int Rg) st:=Kt (by decide)
def bnd(i:Int):Wv:=if Rg < (if i < 0 then -i else i) then .tup [.str "fault",.str "great"] else .int i
theorem bounded{i:Int}{st:Hs}:gJ [.int i] st= .ok (bnd i) st:=by
 have g:gT [.int i] st= .ok (.bl (decide (Rg < (if i < 0 then -i else i)))) st:=by
  unfold gT kQ lD
  simp[SG]
 have f:i7 [.str "great"] st= .ok (.tup [.str "fault",.str "great"]) st:=rfl
 unfold gJ kQ ny bnd
 by_cases c:Rg < (if i < 0 then -i else i)
 ·simp[g,f,c]
 ·simp[g,f,c]
inductive f_ where
 | sum | count | least | qO
def f_.s:f_->PySem.Str
 | .sum=>"sum"
 | .count=>"count"
 | .least=>"least"
 | .qO=>"greatest"
def due(wd:f_)(ws:List Wo):Wv:=match ou ws with
 | x::_=> .tup [.str "fault",.str x]
 | []=>match wd with
  | .sum=>bnd (nums ws).sum
  | .count=> .int (nums ws).length
  | .least=>(match nums ws with | []=> .tup [.str "fault",.str "none"] | n::r=>bnd (A2 n r))
  | .qO=>(match nums ws with | []=> .tup [.str "fault",.str "none"] | n::r=>bnd (A1 n r))
theorem Rh:(("sum":PySem.Str) == "sum")=true:=rfl
theorem Ri:(("count":PySem.Str) == "sum")=false:=rfl
theorem Rj:(("least":PySem.Str) == "sum")=false:=rfl
theorem Rk:(("greatest":PySem.Str) == "sum")=false:=rfl
theorem Rl:(("count":PySem.Str) == "count")=true:=rfl
theorem Rm:(("least":PySem.Str) == "count")=false:=rfl
theorem Ro:(("greatest":PySem.Str) == "count")=false:=rfl
theorem Rp:(("least":PySem.Str) == "least")=true:=rfl
theorem Rq:(("greatest":PySem.Str) == "least")=false:=rfl
theorem W'(a:Wo)(st:Hs):gO jr hG [a.w,.ty "int"] st= .ok (.bl a.n) st:=by cases a<;>rfl
theorem gather{wd:f_}{ws:List Wo}{l:Nat}{st:Hs}(h:aj st l=some (ws.map Wo.w))(hl:ws.length < 100):∃st',bX [.str wd.s,.ref l] st= .ok (due wd ws) st'/\Gr st st':=by
 have c1:∀st:Hs,aj st l=some (ws.map Wo.w)->∀ρ,eN [] gW jU ρ (some l,ws.map Wo.w) st= .ok (.ref st.length) (st++[.lst ((ou ws).map λx=>Wv.tup [.str "fault",.str x])]):=by
  intro st h ρ
  rw[cD (w:=(some l,ws.map Wo.w)) (t:=λv=>match v with | .tup _=>true | _=>false) (f:=id) h]
  ·rw[List.map_id,wA]
  ·intro v hv acc
   obtain⟨a,_,rfl⟩:=List.mem_map.mp hv
   unfold gW
   simp[YX]
   cases a<;>rfl
  ·intro v hv _ acc
   rfl
  ·simp;unfold lim;omega
 have c2:∀st:Hs,aj st l=some (ws.map Wo.w)->∀ρ,eN [] gU jT ρ (some l,ws.map Wo.w) st= .ok (.ref st.length) (st++[.lst ((nums ws).map Wv.int)]):=by
  intro st h ρ
  rw[cD (w:=(some l,ws.map Wo.w)) (t:=λv=>match v with | .int _=>true | _=>false) (f:=id) h]
  ·rw[List.map_id,wz]
  ·intro v hv acc
   obtain⟨a,_,rfl⟩:=List.mem_map.mp hv
   unfold gU
   simp[W']
   cases a<;>rfl
  ·intro v hv _ acc
   rfl
  ·simp;unfold lim;omega
 have l1:=aD (st:=st) (ws:=(ou ws).map λx=>Wv.tup [.str "fault",.str x])
 cases e2:ou ws with
 | cons x r=>
  have q:due wd ws= .tup [.str "fault",.str x]:=by unfold due;rw[e2]
  rw[e2] at l1
  refine⟨st++[.lst ((ou ws).map λx=>Wv.tup [.str "fault",.str x])],?_,Gr.push⟩
  rw[q]
  have i:=vV (st:=st++[.lst ((ou ws).map λx=>Wv.tup [.str "fault",.str x])]) (l:=st.length) (i:=0) (ws:=(x::r).map λx=>Wv.tup [.str "fault",.str x]) (v:=.tup [.str "fault",.str x]) (by rw[e2];exact l1) (by rw[aM];exact Q7)
  have tr:tP (.ref st.length) (st++[.lst ((ou ws).map λx=>Wv.tup [.str "fault",.str x])])= .ok true (st++[.lst ((ou ws).map λx=>Wv.tup [.str "fault",.str x])]):=by
   unfold tP
   simp only[e2,l1]
   rfl
  unfold bX kQ jc
  simp[gS h,c1 _ h,tr,i]
 | nil=>
  rw[e2] at l1
  have h2:aj (st++[.lst []]) l=some (ws.map Wo.w):=Gr.push.lst h
  have l3:=aD (st:=st++[.lst []]) (ws:=(nums ws).map Wv.int)
  have Rr:=c1 _ h
  rw[e2] at Rr
  simp only[CH] at Rr
  have SJ:=c2 _ h2
  have tr:tP (.ref st.length) (st++[.lst []])= .ok false (st++[.lst []]):=by
   unfold tP
   simp only[show aj (st++[.lst []]) st.length=some [] from l1]
   rfl
  refine⟨st++[.lst []]++[.lst ((nums ws).map Wv.int)],?_,Gr.push.trans Gr.push⟩
  generalize st++[.lst []]=s1 at tr h2 l3 SJ Rr
  generalize hs2:s1++[.lst ((nums ws).map Wv.int)]=s2 at l3 SJ
  have f:i7 [.str "none"] s2= .ok (.tup [.str "fault",.str "none"]) s2:=rfl
  have sm:=FK l3
  have ln:cP [.ref s1.length] s2= .ok (.int (nums ws).length) s2:=by
   have:=Kv l3
   rwa [aA] at this
  have SK:tP (.ref s1.length) s2= .ok (!((nums ws).map Wv.int).isEmpty) s2:=by
   unfold tP
   simp only[l3]
  unfold due
  rw[e2]
  unfold bX kQ jc
  cases en:nums ws with
  | nil=>
   rw[en] at sm ln SK
   cases wd<;>simp[gS h,Rr,tr,gS h2,SJ,sm,ln,SK,f,f_.s,Rh,Ri,Rj,Rk,Rl,Rm,Ro,Rp,Rq,bounded]
  | cons n r=>
   rw[en] at sm ln SK l3
   cases wd<;>simp[gS h,Rr,tr,gS h2,SJ,sm,ln,SK,f,f_.s,Rh,Ri,Rj,Rk,Rl,Rm,Ro,Rp,Rq,bounded,Q5 l3,Q6 l3]
end GA
def cv:Wo->GA.Wo
 | .aL=> .aL
 | .int i=> .int i
 | .str x=> .txt x
theorem Vv(a:Wo):(cv a).w=a.w:=by cases a<;>rfl
def lI(wd:GA.f_)(ws:List Wo):Wv:=GA.due wd (ws.map cv)
theorem gathered{wd:GA.f_}{ws:List Wo}{l:Nat}{st:Hs}(h:aj st l=some (ws.map Wo.w))(hl:ws.length < 100):∃st',bX [.str wd.s,.ref l] st= .ok (lI wd ws) st'/\Gr st st':=by
 refine GA.gather (ws:=ws.map cv) ?_ (by rw[aA];exact hl)
 rw[h,bS]
 congr 1
 exact lu λa _=>(Vv a).symm
theorem wB{α:Type}{ck:Hs->Prop}{n:Nat}{gt:List Wv->Hs->Re Bool}{ge:List Wv->Hs->Re Wv}{rr:Nat}(f:α->Wv)(us:α->List Wv)(v:α->Wv)(s0:Hs)(hck:∀st,bK rr s0 st->ck st) :
  ∀(ws:List α),(∀a∈ws,zb n (f a)=some (us a)/\∀st,bK rr s0 st->rr < st.length->gt (us a) st= .ok true st/\∃st',ge (us a) st= .ok (v a) st'/\Gr st st')->∀(acc:List Wv)(st:Hs),bK rr s0 st->st[rr]? =some (.lst acc)->acc.length+ws.length < lim->
   ∃st',fX ck n gt ge rr (ws.map f) st=some st'/\st'[rr]? =some (.lst (acc++ws.map v))/\bK rr st st'
 | [],_,acc,st,_,hg,_=>⟨st,rfl,by simpa using hg,bK.refl⟩
 | a::t,h,acc,st,hk,hg,hl=>by
  have hl':acc.length+(t.length+1) < lim:=hl
  obtain⟨e0,hs⟩:=h a bp
  obtain⟨e1,s1,e2,g1⟩:=hs st hk (bT hg)
  have Rt:=g1.get hg
  have K1:bK rr st (s1.set rr (.lst (acc++[v a]))):=g1.keep.trans bK.set
  obtain⟨s2,e3,g2,K2⟩:=wB f us v s0 hck t (λa ha=>h a (aX _ ha)) (acc++[v a]) (s1.set rr (.lst (acc++[v a]))) (hk.trans K1) (cz Rt) (by simp;omega)
  refine⟨s2,?_,by simpa using g2,K1.trans K2⟩
  rw[aM]
  unfold fX
  rw[e0]
  dsimp only
  rw[e1]
  dsimp only
  rw[e2]
  dsimp only
  rw[zH Rt (by omega)]
  dsimp only
  rw[if_pos (hck _ (hk.trans K1))]
  exact e3
def tT(t:Tg):Wv:=.tup [t.1.w,.ref t.2.1]
theorem uv:∀{ts:List Tg},(∀t∈ts,t.1.ok=true)->gz (tK ts)=some (ts.map tT)
 | [],_=>rfl
 | q::r,h=>by
  have h1:=FY (h q bp)
  have h2:=uv (ts:=r) λp hp=>h p (aX _ hp)
  show(match wK q.1.key,gz (tK r) with | some k,some l=>some (Wv.tup [k,Wv.ref q.2.1]::l) | _,_=>none)=_
  rw[h1,h2]
  rfl
def kN(wd:GA.f_)(p:Wo×List Wo):Wv:=.tup [p.1.w,lI wd p.2]
section
variable {hs:List PySem.Str} {rows:List (List Wo)} {st:Hs}
theorem zV(T:Tb hs rows){i j:Nat}:∀p∈iR (col rows i) (col rows j),p.1.ok=true/\p.2.length<=14:=λp hp=>by
 obtain⟨g,hg,rfl⟩:=List.mem_map.mp hp
 have h1:=(nG _ _ g ((kE _).mem_iff.mp hg))
 obtain⟨⟨k,k1,k2⟩,h2,_⟩:=h1
 refine⟨?_,?_⟩
 ·show g.1.ok=true
  rw[k2,cL,bR k1]
  exact F2 T _ (jL k1)
 ·show(dF (col rows j) g.2).length<=14
  unfold dF
  rw[aA]
  have:=T.rw'
  rw[gE] at h2
  omega
theorem uw(T:Tb hs rows){i j:Nat}{h h2:PySem.Str}{wd:GA.f_}(e:hs[i]? =some h)(e2:hs[j]? =some h2):∃(l:Nat)(st':Hs),dz [aB hs rows,.str h,.str wd.s,.str h2] st= .ok (.ref l) st'/\st'[l]? =some (.lst ((iR (col rows i) (col rows j)).map (kN wd)))/\st.length<=l/\Gr st st':=by
 obtain⟨d,ts,s1,r1,S1,g1,b1,G1,_⟩:=nI (st:=st) T e e2
 have Ru:∀t∈ts,t.1.ok=true/\t.2.2.length<=14:=λt ht=>zV T (i:=i) (j:=j) (fR t) (by rw[<-g1];exact List.mem_map.mpr ⟨t,ht,rfl⟩)
 have tl:ts.length<=14:=by
  have:=congrArg gL g1
  rw[aA] at this
  rw[this]
  unfold iR
  rw[aA]
  have h3:=mJ (col rows i)
  rw[gE] at h3
  have:=T.rw'
  omega
 obtain⟨s2,hs2⟩:∃s2,s1.set d (.AF (tK ts))=s2:=⟨_,rfl⟩
 have it:kl (.ref d) s1= .ok (none,ts.map tT) s2:=by
  unfold kl
  dsimp only
  rw[S1.dc]
  dsimp only
  rw[uv λt ht=>(Ru t ht).1,hs2]
 have K2:bK d s1 s2:=by rw[<-hs2];exact bK.set
 have l2:∀t∈ts,s2[t.2.1]? =some (.lst (t.2.2.map Wo.w)):=λt ht=>by
  obtain⟨h1,h2⟩:=S1.ls t ht
  rw[K2.2 _ (bT h1) h2]
  exact h1
 obtain⟨ρ,hρ⟩:∃ρ:bA,[some (aB hs rows),some (.str h),some (.str wd.s),some (.str h2)]=ρ:=⟨_,rfl⟩
 obtain⟨s3,c3,g3,K3⟩:=wB (ck:=rX none) (n:=2) (gt:=λv=>fN (v.map some++c4 [("word",2)] ρ)) (ge:=λv=>dU (v.map some++c4 [("word",2)] ρ)) (rr:=s2.length) tT (λt=>[t.1.w,.ref t.2.1]) (λt=>kN wd (fR t)) (s2++[.lst []]) (λ_ _=>trivial) ts
  (λt ht=>⟨rfl,λst hk hlt=>⟨rfl,by
   have k1:aj st t.2.1=some (t.2.2.map Wo.w):=hk.lst (aT (bI (l2 t ht))) (by have:=bT (l2 t ht);omega)
   obtain⟨st',e3,G3⟩:=gathered (wd:=wd) k1 (by have:=(Ru t ht).2;omega)
   refine⟨st',?_,G3⟩
   rw[<-hρ]
   unfold dU
   simp[c4,e3,kN,fR]⟩⟩) [] (s2++[.lst []]) bK.refl bZ (by simp;unfold lim;omega)
 have ym:gP 2 [("word",2)] fN dU ρ (none,ts.map tT) s2= .ok (.ref s2.length) s3:=by
  unfold gP
  rw[show((none,ts.map tT):J8).2=ts.map tT from rfl,c3]
 have Rf:s2.length=s1.length:=by rw[<-hs2];simp
 refine⟨s2.length,s3,?_,?_,by have:=G1.1;omega,⟨by have:=G1.1;have:=K3.1;simp at this;omega,λk hk=>?_⟩⟩
 ·refine fW (n:=4) (g:=iP) ?_
  have gg:iu 2 [("word",2)] (fV (aP 3 aN (ae (af 0) (ae (af 1) (ae (af 3) ao))))) fN dU [some (aB hs rows),some (.str h),some (.str wd.s),some (.str h2)] st= .ok (.ref s2.length) s3:=by
   unfold iu fV
   simp[r1,it]
   rw[hρ]
   exact ym
  show iP [some (aB hs rows),some (.str h),some (.str wd.s),some (.str h2)] st=_
  unfold iP
  simp only[Ko,gg,iz]
 ·rw[j3] at g3
  rw[g3,<-g1,bS]
  rfl
 ·have h1:=G1.1
  rw[K3.2 k (by simp;omega) (by omega),cu (by omega),K2.2 k (by omega) (by omega)]
  exact G1.2 k hk
end
def dW:Wo->PyData
 | .aL=> .none
 | .int i=> .int i
 | .str x=> .str x
theorem mK{st:Hs}{n:Nat}:∀l:List Wo,c_ (aC st (n+1)) (l.map Wo.w)=some (l.map dW)
 | []=>rfl
 | a::r=>by
  rw[aM]
  unfold c_
  rw[mK r]
  cases a<;>rfl
theorem F4(a b:Wo):aV (dW a) (dW b)=decide (a=b):=by
 cases a<;>cases b<;>simp[dW,aV]<;>(rw[zO];simp)
theorem nJ:∀a b:List Wo,b6 (a.map dW) (b.map dW)=decide (a=b)
 | [],[]=>by simp[b6]
 | [],_::_=>by simp[b6]
 | _::_,[]=>by simp[b6]
 | i::a,j::b=>by
  have ih:=nJ a b
  simp only[aM,b6,ih,F4]
  rw[zO]
  simp
theorem Oe{st:Hs}{a b:Nat}{xs ys:List Wo}(h:aj st a=some (xs.map Wo.w))(k:aj st b=some (ys.map Wo.w)):oEq (.ref a) (.ref b) st= .ok (.bl (decide (xs=ys))) st:=by
 have d1:aC st 20 (.ref a)=some (.list (xs.map dW)):=by rw[mG (n:=19) h,mK];rfl
 have d2:aC st 20 (.ref b)=some (.list (ys.map dW)):=by rw[mG (n:=19) k,mK];rfl
 unfold oEq
 rw[d1,d2]
 dsimp only
 congr 2
 simp[aV,nJ]
theorem Of{st:Hs}{b:Nat}{ys:List Wo}(k:aj st b=some (ys.map Wo.w)):oEq .aL (.ref b) st= .ok (.bl false) st:=by
 have d2:aC st 20 (.ref b)=some (.list (ys.map dW)):=by rw[mG (n:=19) k,mK];rfl
 have d1:aC st 20 .aL=some .none:=rfl
 unfold oEq
 rw[d1,d2]
 dsimp only
 congr 2
section
variable {hs:List PySem.Str} {rows:List (List Wo)} {st:Hs}
theorem BO{h:PySem.Str}(hn:h∉hs):cK [aB hs rows,.str h] st= .err "NoColumn" (st++[.dct []]):=by
 refine nu (n:=5) (g:=eE) (ρ:=[some (aB hs rows),some (.str h),some (.ref st.length),none,none]) ?_
 have nk:∀ρ:bA,qg ρ st= .ok (.ref st.length) (st++[.dct []]):=λρ=>rfl
 have nc:=sE (rows:=rows) (st:=st++[Ob.dct []]) hn
 unfold eE
 simp[nk,mv,m_,nc]
theorem BP(T:Tb hs rows){h h2:PySem.Str}(hn:h∉hs\/((∃i:Nat,hs[i]? =some h)/\h2∉hs)):∃st',aN [aB hs rows,.str h,.str h2] st= .err "NoColumn" st'/\Gr st st':=by
 rcases hn with hn | ⟨⟨i,e⟩,hn⟩
 ·refine⟨st++[.dct []],?_,Gr.push⟩
  refine nu (n:=8) (g:=bj) (ρ:=[some (aB hs rows),some (.str h),some (.str h2),none,none,none,none,none]) ?_
  unfold bj
  simp[BO hn]
 ·obtain⟨lg,qs,s1,r1,k1,g1,l1,b1,G1⟩:=nH (st:=st) T e
  refine⟨s1,?_,G1⟩
  refine nu (n:=8) (g:=bj) (ρ:=[some (aB hs rows),some (.str h),some (.str h2),some (.ref lg),none,none,none,none]) ?_
  unfold bj
  simp[r1,sE hn]
end
theorem wC{st:Hs}(hs:List PySem.Str):uE (.tup (hs.map Wv.str)) (.tup (hs.map Wv.str)) st= .ok (.bl false) st:=by
 have m:∀l:List PySem.Str,c_ (aC st 19) (l.map Wv.str)=some (l.map jg):=λl=>by
  induction l with
  | nil=>rfl
  | cons a r ih=>rw[aM];unfold c_;rw[ih];rfl
 have q:∀l:List PySem.Str,b6 (l.map jg) (l.map jg)=true:=λl=>by
  induction l with
  | nil=>simp[b6]
  | cons a r ih=>simp[b6,aV,ih]
 refine FP (d:=.tuple (hs.map jg)) ?_ ?_ ?_
 ·show(c_ (aC st 19) (hs.map Wv.str)).map j6=_
  rw[m]
  rfl
 ·show(c_ (aC st 19) (hs.map Wv.str)).map j6=_
  rw[m]
  rfl
 ·simp[aV,q]
abbrev Wp:=Wo×List Wo
def kK(wd:GA.f_)(ps:List Wp):List (L2.Key×Wv):=ps.map λp=>(p.1.key,lI wd p.2)
theorem wD(wd:GA.f_):∀ps:List Wp,jP (ps.map (kN wd))=some (kK wd ps)
 | []=>rfl
 | p::r=>by
  rw[aM]
  unfold jP
  rw[wD wd r]
  show(match(match keyOf p.1.w with | some kk=>some (kk,lI wd p.2) | none=>none),some (kK wd r) with | some p,some l=>some (p::l) | _,_=>none)=_
  rw[je]
  rfl
theorem F5{wd:GA.f_}{a:Wo}:∀{ps:List Wp},(∀p∈ps,p.1≠a)->((kK wd ps).any λkv=>decide (kv.1=a.key))=false
 | [],_=>rfl
 | q::r,h=>by
  have h1:¬q.1.key=a.key:=λz=>h q bp (jd z)
  have h2:=F5 (wd:=wd) (ps:=r) λp hp=>h p (aX _ hp)
  unfold kK at h2 ⊢
  rw[aM,fz,h2]
  simp[h1]
theorem wF(wd:GA.f_):∀(ps acc:List Wp),((acc++ps).map (·.1)).Nodup->qb (kK wd acc) (kK wd ps)=kK wd (acc++ps)
 | [],acc,_=>by rw[ei];rfl
 | p::r,acc,n=>by
  have na:∀q∈acc,q.1≠p.1:=λq hq e=>by
   rw[qI,mI] at n
   exact n.2.2 q.1 (List.mem_map.mpr ⟨q,hq,rfl⟩) p.1 (by simp) e
  have ep:jM (kK wd acc) p.1.key (lI wd p.2)=kK wd (acc++[p]):=by
   unfold jM
   rw[F5 na]
   unfold kK
   simp
  show qb (jM (kK wd acc) p.1.key (lI wd p.2)) (kK wd r)=_
  rw[ep,wF wd r (acc++[p]) (by simpa using n)]
  simp
def look(a:Wo):List Wp->Option (List Wo)
 | []=>none
 | p::r=>if p.1=a then some p.2 else look a r
theorem F6(wd:GA.f_)(a:Wo):∀ps:List Wp,dI (kK wd ps) a.key=(look a ps).map (lI wd)
 | []=>rfl
 | p::r=>by
  show(if p.1.key=a.key then _ else _)=_
  unfold look
  by_cases e:p.1=a
  ·rw[if_pos (by rw[e]),if_pos e];rfl
  ·rw[if_neg (λz=>e (jd z)),if_neg e];exact F6 wd a r
theorem F7(a:Wo):∀ts:List Tg,(dI (tK ts) a.key=none/\look a (ts.map fR)=none)\/∃t∈ts,dI (tK ts) a.key=some (.ref t.2.1)/\look a (ts.map fR)=some t.2.2
 | []=> .inl ⟨rfl,rfl⟩
 | p::r=>by
  by_cases e:p.1=a
  ·refine .inr ⟨p,bp,?_,?_⟩
   ·show(if p.1.key=a.key then _ else _)=_
    rw[if_pos (by rw[e])]
   ·show(if p.1=a then _ else _)=_
    rw[if_pos e]
    rfl
  ·have h1:dI (tK (p::r)) a.key=dI (tK r) a.key:=by
    show(if p.1.key=a.key then _ else _)=_
    rw[if_neg (λz=>e (jd z))]
    rfl
   have h2:look a ((p::r).map fR)=look a (r.map fR):=by
    show(if p.1=a then _ else _)=_
    rw[if_neg e]
   rw[h1,h2]
   rcases F7 a r with z | ⟨t,z1,z2⟩
   ·exact .inl z
   ·exact .inr ⟨t,aX _ z1,z2⟩
theorem Og{st:Hs}{l:Nat}{wd:GA.f_}{ps:List Wp}(h:st[l]? =some (.lst (ps.map (kN wd))))(n:(ps.map (·.1)).Nodup):ni [.ref l] st= .ok (.ref st.length) (st++[.dct (kK wd ps)]):=by
 unfold ni
 dsimp only
 rw[h]
 dsimp only
 rw[wD]
 dsimp only
 have:=wF wd ps [] (by simpa using n)
 rw[j3] at this
 rw[show qb [] (kK wd ps)=kK wd ps from this]
def Kp(a b:Nat)(st st':Hs):Prop:=st.length<=st'.length/\∀k,k < st.length->k≠a->k≠b->st'[k]? =st[k]?
theorem Kp.refl{a b:Nat}{st:Hs}:Kp a b st st:=⟨ak _,λ_ _ _ _=>rfl⟩
theorem Kp.trans{a b:Nat}{x y z:Hs}(h:Kp a b x y)(k:Kp a b y z):Kp a b x z:=⟨bb h.1 k.1,λj h1 h2 h3=>(k.2 j (bN h1 h.1) h2 h3).trans (h.2 j h1 h2 h3)⟩
theorem Kp.get{a b:Nat}{st st':Hs}(k:Kp a b st st'){j:Nat}{o:Ob}(h:st[j]? =some o)(n1:j≠a)(n2:j≠b):st'[j]? =some o:=by rw[k.2 j (bT h) n1 n2];exact h
section
variable {st:Hs}
theorem Jv{db dk l8 l9:Nat}{wd:GA.f_}{ts:List Tg}{q:Tg}{a8 a9:List Wv}{o0 o1 o2 o3 o5:Option Wv}(hb:st[db]? =some (.dct (tK ts)))(hT:∀t∈ts,st[t.2.1]? =some (.lst (t.2.2.map Wo.w)))(hk:st[dk]? =some (.dct (kK wd (ts.map fR))))(h8:st[l8]? =some (.lst a8))(h9:st[l9]? =some (.lst a9))(OI:l8≠l9)
  (hq:st[q.2.1]? =some (.lst (q.2.2.map Wo.w)))(hl:q.2.2.length < 100)(b8:a8.length < lim)(b9:a9.length < lim) :
  ∃st',dA [o0,o1,o2,o3,some (.str wd.s),o5,some (.ref db),some (.ref dk),some (.ref l8),some (.ref l9),some q.1.w,some (.ref q.2.1)] st= .nx [o0,o1,o2,o3,some (.str wd.s),o5,some (.ref db),some (.ref dk),some (.ref l8),some (.ref l9),some q.1.w,some (.ref q.2.1)] st'/\
   st'[l8]? =some (.lst (a8++[kN wd (fR q)]))/\st'[l9]? =some (.lst (a9++if look q.1 (ts.map fR)=some q.2.2 then[] else[q.1.w]))/\Kp l8 l9 st st':=by
 obtain⟨ρ,hρ⟩:∃ρ:bA,[o0,o1,o2,o3,some (.str wd.s),o5,some (.ref db),some (.ref dk),some (.ref l8),some (.ref l9),some q.1.w,some (.ref q.2.1)]=ρ:=⟨_,rfl⟩
 have v6:∀s:Hs,af 6 ρ s= .ok (.ref db) s:=λs=>by rw[<-hρ];simp
 have v7:∀s:Hs,af 7 ρ s= .ok (.ref dk) s:=λs=>by rw[<-hρ];simp
 have v8:∀s:Hs,af 8 ρ s= .ok (.ref l8) s:=λs=>by rw[<-hρ];simp
 have v9:∀s:Hs,af 9 ρ s= .ok (.ref l9) s:=λs=>by rw[<-hρ];simp
 have v10:∀s:Hs,af 10 ρ s= .ok q.1.w s:=λs=>by rw[<-hρ];simp
 have v11:∀s:Hs,af 11 ρ s= .ok (.ref q.2.1) s:=λs=>by rw[<-hρ];simp
 have v4:∀s:Hs,af 4 ρ s= .ok (.str wd.s) s:=λs=>by rw[<-hρ];simp
 have gk:sr (af 6) (af 10) ρ st= .ok ((dI (tK ts) q.1.key).getD .aL) st:=by
  unfold sr
  rw[v6]
  simp only[aR]
  rw[if_pos (by show(match st[db]? with | some (.dct _)=>true | _=>false)=true;rw[hb]),v10]
  simp only[aR]
  rw[je]
  dsimp only
  rw[hb]
 have eq:oEq ((dI (tK ts) q.1.key).getD .aL) (.ref q.2.1) st= .ok (.bl (decide (look q.1 (ts.map fR)=some q.2.2))) st:=by
  rcases F7 q.1 ts with ⟨z1,z2⟩ | ⟨t,z0,z1,z2⟩
  ·rw[z1,z2]
   simpa using Of (aT hq)
  ·rw[z1,z2]
   have:=Oe (aT (hT t z0)) (aT hq)
   simpa using this
 have C4:cA (aq oEq (sr (af 6) (af 10)) (af 11)) ρ st= .ok (decide (look q.1 (ts.map fR)=some q.2.2)) st:=by
  simp only[Kq,n8,gk,aR,v11,vU,eq,lA,Kr]
 have ex:∀{g:GE}{w:Wv}{s s':Hs},g ρ s= .ok w s'->fj g ρ s= .nx ρ s':=λ{g w s s'} h=>by
  unfold fj
  rw[h]
  rfl
 have e8:kN wd (fR q)= .tup [q.1.w,lI wd q.2.2]:=rfl
 rw[hρ]
 by_cases c:look q.1 (ts.map fR)=some q.2.2
 ·have kd:my (af 7) (af 10) ρ st= .ok (lI wd q.2.2) st:=by
   unfold my
   rw[v7]
   simp only[aR]
   rw[v10]
   simp only[aR]
   unfold Qz getD
   dsimp only
   rw[hk]
   dsimp only
   rw[je]
   dsimp only
   rw[F6,c]
   rfl
  have ap:=kD (go:=af 8) (ga:=eJ (ae (af 10) (ae (my (af 7) (af 10)) ao))) (v:=.tup [q.1.w,lI wd q.2.2]) (v8 st) h8 (by rw[<-hρ] at kd ⊢;simp[kd]) b8
  refine⟨st.set l8 (.lst (a8++[kN wd (fR q)])),?_,cz h8,?_,by simp,λk h1 h2 h3=>bE (aW h2)⟩
  ·unfold dA
   rw[NN,C4]
   simp only[iz]
   rw[e8,decide_eq_true c]
   exact ex ap
  ·rw[if_pos c,ei,bE OI]
   exact h9
 ·obtain⟨s1,eg,G1⟩:=gathered (wd:=wd) (aT hq) hl
  have ga:eJ (ae (af 10) (ae (aP 2 bX (ae (af 4) (ae (af 11) ao))) ao)) ρ st= .ok (.tup [q.1.w,lI wd q.2.2]) s1:=by
   rw[<-hρ]
   simp[eg]
  have ap:cI iL (af 8) (eJ (ae (af 10) (ae (aP 2 bX (ae (af 4) (ae (af 11) ao))) ao))) ρ st= .ok .aL (s1.set l8 (.lst (a8++[kN wd (fR q)]))):=by
   unfold cI
   rw[v8]
   simp only[aR]
   rw[aT h8]
   dsimp only
   rw[ga]
   simp only[aR]
   show((match s1[l8]? with | some (.lst ws)=>(if ws.length < lim then Re.ok Wv.aL (s1.set l8 (.lst (ws++[.tup [q.1.w,lI wd q.2.2]]))) else .bad) | _=> .bad):Re Wv).ju=_
   rw[G1.get h8]
   dsimp only
   rw[if_pos b8]
   rfl
  have Xh:(s1.set l8 (.lst (a8++[kN wd (fR q)])))[l9]? =some (.lst a9):=by
   rw[bE OI]
   exact G1.get h9
  have YY:=kD (go:=af 9) (ga:=af 10) (v:=q.1.w) (v9 _) Xh (v10 _) b9
  refine⟨(s1.set l8 (.lst (a8++[kN wd (fR q)]))).set l9 (.lst (a9++[q.1.w])),?_,?_,?_,by simp;exact G1.1,λk h1 h2 h3=>?_⟩
  ·unfold dA
   rw[NN,C4]
   simp only[iz]
   rw[decide_eq_false c]
   show aH _ _ ρ st=_
   rw[eS,ex ap]
   exact ex YY
  ·rw[bE (aW OI)]
   exact cz (G1.get h8)
  ·rw[if_neg c]
   exact cz Xh
  ·rw[bE (aW h3),bE (aW h2)]
   exact G1.2 k h1
end
def chg(ps:List Wp)(p:Wp):Bool:=!decide (look p.1 ps=some p.2)
theorem zW{db dk l8 l9:Nat}{wd:GA.f_}{ts:List Tg}{o0 o1 o2 o3 o5:Option Wv}(OI:l8≠l9)(nb:db≠l8/\db≠l9)(nk:dk≠l8/\dk≠l9)(nt:∀t∈ts,t.2.1≠l8/\t.2.1≠l9) :
  ∀(rest:List Tg)(a8 a9:List Wv)(KD KG:Option Wv)(st:Hs),st[db]? =some (.dct (tK ts))->(∀t∈ts,st[t.2.1]? =some (.lst (t.2.2.map Wo.w)))->st[dk]? =some (.dct (kK wd (ts.map fR)))->st[l8]? =some (.lst a8)->st[l9]? =some (.lst a9)->
  (∀q∈rest,st[q.2.1]? =some (.lst (q.2.2.map Wo.w))/\q.2.2.length < 100/\q.2.1≠l8/\q.2.1≠l9)->a8.length+rest.length < lim->a9.length+rest.length < lim->
  ∃oV nE st',mq [10,11] dA none (rest.map tT) [o0,o1,o2,o3,some (.str wd.s),o5,some (.ref db),some (.ref dk),some (.ref l8),some (.ref l9),KD,KG] st= .nx [o0,o1,o2,o3,some (.str wd.s),o5,some (.ref db),some (.ref dk),some (.ref l8),some (.ref l9),oV,nE] st'/\
   st'[l8]? =some (.lst (a8++(rest.map fR).map (kN wd)))/\st'[l9]? =some (.lst (a9++((rest.map fR).filter (chg (ts.map fR))).map (λp=>p.1.w)))/\Kp l8 l9 st st'
 | [],a8,a9,KD,KG,st,_,_,_,h8,h9,_,_,_=>⟨KD,KG,st,rfl,by simpa using h8,by simpa using h9,Kp.refl⟩
 | q::r,a8,a9,KD,KG,st,hb,hT,hk,h8,h9,hq,b8,b9=>by
  simp only[lb] at b8 b9
  obtain⟨q1,q2,q3,q4⟩:=hq q bp
  obtain⟨s1,r1,e8,e9,K1⟩:=Jv (o0:=o0) (o1:=o1) (o2:=o2) (o3:=o3) (o5:=o5) hb hT hk h8 h9 OI q1 q2 (by omega) (by omega)
  have Z':(a9++if look q.1 (ts.map fR)=some q.2.2 then[] else[q.1.w]).length<=a9.length+1:=by
   rw[dH]
   split<;>simp
  obtain⟨oV,nE,s2,r2,f8,f9,K2⟩:=zW (o0:=o0) (o1:=o1) (o2:=o2) (o3:=o3) (o5:=o5) OI nb nk nt r _ _ (some q.1.w) (some (.ref q.2.1)) s1 (K1.get hb nb.1 nb.2) (λt ht=>K1.get (hT t ht) (nt t ht).1 (nt t ht).2) (K1.get hk nk.1 nk.2) e8 e9
   (λp hp=>by
    obtain⟨h1,h2,h3,h4⟩:=hq p (aX _ hp)
    exact⟨K1.get h1 h3 h4,h2,h3,h4⟩) (by simp;omega) (by omega)
  refine⟨oV,nE,s2,?_,by simpa using f8,?_,K1.trans K2⟩
  ·rw[aM]
   unfold mq
   rw[show J5 [10,11] (tT q) [o0,o1,o2,o3,some (.str wd.s),o5,some (.ref db),some (.ref dk),some (.ref l8),some (.ref l9),KD,KG]=some [o0,o1,o2,o3,some (.str wd.s),o5,some (.ref db),some (.ref dk),some (.ref l8),some (.ref l9),some q.1.w,some (.ref q.2.1)] from rfl]
   dsimp only
   rw[r1]
   dsimp only
   rw[if_pos (show rX none s1 from trivial)]
   exact r2
  ·rw[f9,aM]
   by_cases c:look q.1 (ts.map fR)=some q.2.2
   ·rw[if_pos c,ei,NZ (by unfold chg;simp[fR,c])]
   ·rw[if_neg c,N0 (by unfold chg;simp[fR,c])]
    simp[fR]
section
variable {hs:List PySem.Str} {rows bW:List (List Wo)} {st:Hs}
theorem wG(c e:List Wo):(iR c e).map (·.1)=(oo c).map (·.1):=by unfold iR;rw[bS];rfl
theorem wH(T:Tb hs rows){i j:Nat}:(iR (col rows i) (col rows j)).length<=14:=by
 unfold iR
 rw[aA]
 have h3:=mJ (col rows i)
 rw[gE] at h3
 have:=T.rw'
 omega
theorem Jw(T:Tb hs rows)(T2:Tb hs bW){i j ls:Nat}{h h2:PySem.Str}{wd:GA.f_}(e:hs[i]? =some h)(e2:hs[j]? =some h2)(hls:st[ls]? =some (.lst ((iR (col rows i) (col rows j)).map (kN wd)))) :
  ∃(l8 l9:Nat)(st':Hs),cR [aB hs rows,.ref ls,aB hs bW,.str h,.str wd.s,.str h2] st= .ok (.tup [.ref l8,.ref l9]) st'/\st'[l8]? =some (.lst ((iR (col bW i) (col bW j)).map (kN wd)))/\
   st'[l9]? =some (.lst (((iR (col bW i) (col bW j)).filter (chg (iR (col rows i) (col rows j)))).map (λp=>p.1.w)))/\st.length<=l8/\st.length<=l9/\Gr st st':=by
 obtain⟨d,ts,s1,r1,S1,g1,b1,G1,B1⟩:=nI (st:=st) T e e2
 have ds:=Og (G1.get hls) (by rw[wG];exact uu _)
 rw[<-g1] at ds ⊢
 obtain⟨s2,hs2⟩:∃s2,s1++[Ob.dct (kK wd (ts.map fR))]=s2:=⟨_,rfl⟩
 rw[hs2] at ds
 obtain⟨s3,wQ⟩:∃s3,s2++[Ob.lst []]=s3:=⟨_,rfl⟩
 obtain⟨s4,wk⟩:∃s4,s3++[Ob.lst []]=s4:=⟨_,rfl⟩
 have G2:Gr s1 s2:=by rw[<-hs2];exact Gr.push
 have G3:Gr s2 s3:=by rw[<-wQ];exact Gr.push
 have G4:Gr s3 s4:=by rw[<-wk];exact Gr.push
 have n2:s2.length=s1.length+1:=by rw[<-hs2];simp
 have n3:s3.length=s1.length+2:=by rw[<-wQ];simp[n2]
 have n4:s4.length=s1.length+3:=by rw[<-wk];simp[n3]
 have k2:s2[s1.length]? =some (.dct (kK wd (ts.map fR))):=by rw[<-hs2];exact bZ
 have k3:s3[s2.length]? =some (.lst []):=by rw[<-wQ];exact bZ
 have k4:s4[s3.length]? =some (.lst []):=by rw[<-wk];exact bZ
 obtain⟨d',ts',s5,r5,S5,g5,b5,G5,B5⟩:=nI (st:=s4) T2 e e2
 have Ru:∀t∈ts',t.1.ok=true/\t.2.2.length<=14:=λt ht=>zV T2 (i:=i) (j:=j) (fR t) (by rw[<-g5];exact List.mem_map.mpr ⟨t,ht,rfl⟩)
 obtain⟨s6,FX⟩:∃s6,s5.set d' (.AF (tK ts'))=s6:=⟨_,rfl⟩
 have it:kl (.ref d') s5= .ok (none,ts'.map tT) s6:=by
  unfold kl
  dsimp only
  rw[S5.dc]
  dsimp only
  rw[uv λt ht=>(Ru t ht).1,FX]
 have K6:bK d' s5 s6:=by rw[<-FX];exact bK.set
 have old:∀{k:Nat}{o:Ob},s4[k]? =some o->s6[k]? =some o:=λ{k o} hk=>by
  have lt:=bT hk
  rw[K6.2 k (by have:=G5.1;omega) (by omega)]
  exact G5.get hk
 have Vw:Gr s1 s4:=G2.trans (G3.trans G4)
 have tl':ts'.length<=14:=by have:=congrArg gL g5;rw[aA] at this;rw[this];exact wH T2
 have dlt:=bT S1.dc
 obtain⟨oV,nE,s7,r7,f8,f9,K7⟩:=zW (db:=d) (dk:=s1.length) (l8:=s2.length) (l9:=s3.length) (wd:=wd) (ts:=ts) (o0:=some (aB hs rows)) (o1:=some (.ref ls)) (o2:=some (aB hs bW)) (o3:=some (.str h)) (o5:=some (.str h2)) (by omega) ⟨by omega,by omega⟩ ⟨by omega,by omega⟩
  (λt ht=>by have:=bT (S1.ls t ht).1;exact⟨by omega,by omega⟩) ts' [] [] none none s6 (old (Vw.get S1.dc)) (λt ht=>old (Vw.get (S1.ls t ht).1)) (old ((G3.trans G4).get k2)) (old (G4.get k3)) (old k4)
  (λq hq=>by
   obtain⟨h1,h2⟩:=S5.ls q hq
   have:=B5 q hq
   exact⟨by rw[K6.2 _ (bT h1) h2];exact h1,by have:=(Ru q hq).2;omega,by omega,by omega⟩) (by simp;unfold lim;omega) (by simp;unfold lim;omega)
 rw[j3,g5] at f8 f9
 have YZ:s6.length=s5.length:=by rw[<-FX];simp
 refine⟨s2.length,s3.length,s7,?_,f8,f9,by have:=G1.1;omega,by have:=G1.1;omega,⟨by have:=G1.1;have:=G5.1;have:=K7.1;omega,λk hk=>?_⟩⟩
 ·refine fW (n:=12) (g:=eF) ?_
  have nh:=λst:Hs=>wC (st:=st) hs
  have fg:mv [10,11] (fV (aP 3 aN (ae (af 2) (ae (af 3) (ae (af 5) ao))))) dA [some (aB hs rows),some (.ref ls),some (aB hs bW),some (.str h),some (.str wd.s),some (.str h2),some (.ref d),some (.ref s1.length),some (.ref s2.length),some (.ref s3.length),none,none] s4= .nx [some (aB hs rows),some (.ref ls),some (aB hs bW),some (.str h),some (.str wd.s),some (.str h2),some (.ref d),some (.ref s1.length),some (.ref s2.length),some (.ref s3.length),oV,nE] s7:=by
   unfold mv fV
   simp[r5,it]
   exact r7
  unfold eF
  simp[Jr,nh,r1,ds,wQ,wk,fg]
 ·have h1:=G1.1
  have h5:=G5.1
  rw[K7.2 k (by omega) (by omega) (by omega),K6.2 k (by omega) (by omega)]
  exact(G1.trans (Vw.trans G5)).2 k hk
end
section
variable {hs hs2:List PySem.Str} {rows bW:List (List Wo)} {st:Hs}
theorem wI(T:Tb hs rows){h h2 w:PySem.Str}{x:Wv}(hn:h∉hs\/((∃i:Nat,hs[i]? =some h)/\h2∉hs)):∃st',cR [aB hs rows,x,aB hs bW,.str h,.str w,.str h2] st= .err "NoColumn" st'/\Gr st st':=by
 obtain⟨s1,r1,G1⟩:=BP (st:=st) T hn
 refine⟨s1,?_,G1⟩
 refine nu (n:=12) (g:=eF) (ρ:=[some (aB hs rows),some x,some (aB hs bW),some (.str h),some (.str w),some (.str h2),none,none,none,none,none,none]) ?_
 have nh:=λst:Hs=>wC (st:=st) hs
 unfold eF
 simp[Jr,nh,r1]
theorem F8{h h2 w:PySem.Str}{x:Wv}(hn:uE (.tup (hs.map Wv.str)) (.tup (hs2.map Wv.str)) st= .ok (.bl true) st):cR [aB hs rows,x,aB hs2 bW,.str h,.str w,.str h2] st= .err "BadTable" st:=by
 refine nu (n:=12) (g:=eF) (ρ:=[some (aB hs rows),some x,some (aB hs2 bW),some (.str h),some (.str w),some (.str h2),none,none,none,none,none,none]) ?_
 unfold eF
 simp[Jr,hn,lim]
end
structure Rw(w:Nat)(rows:List (List Wo)):Prop where
 hi:rows.length<=14
 ok:∀r∈rows,r.length=w/\∀z∈r,z.ok=true
theorem fits{d:Nat}(h:d < 1000):t9 (d:Int)=true:=by
 unfold t9
 simp
 omega
section
variable {st:Hs}
theorem zX{l d:Nat}{ws:List Wv}{v:Wv}{ρ:bA}(h:st[l]? =some (.lst ws))(hd:d < ws.length):Mu (.ref l) (.int (d:Nat)) v ρ st= .nx ρ (st.set l (.lst (ws.set d v))):=by
 have e:L2.Au ws.length (d:Int)=some d:=by unfold L2.Au;rw[if_pos (by omega),if_pos (by omega)];simp
 unfold Mu
 dsimp only
 rw[h]
 dsimp only
 rw[e]
theorem zY{l d:Nat}{ws:List Wv}{v:Wv}(h:st[l]? =some (.lst ws))(e:ws[d]? =some v)(hb:d < 1000):jl (.ref l) (.int (d:Nat)) st= .ok v (st.set l (.lst (ws.eraseIdx d))):=by
 have hd:=(List.getElem?_eq_some_iff.mp e).1
 unfold jl
 dsimp only
 rw[h]
 dsimp only
 rw[if_pos (by omega),PySem.StrLaws.seqIndex_nonneg (by omega) (by omega)]
 dsimp only
 rw[En,e]
theorem zZ{l d:Nat}{ws:List Wv}{v:Wv}{ρ:bA}{go ge gf:GE}(h:st[l]? =some (.lst ws))(h1:go ρ st= .ok (.ref l) st)(h2:ge ρ st= .ok (.int (d:Nat)) st)(h3:gf ρ st= .ok v st)(hd:d < 1000)(hl:ws.length < 1000):vy go ge gf ρ st= .ok .aL (st.set l (.lst (gy ws (d:Int) v))):=by
 unfold vy
 rw[h1]
 simp only[aR]
 rw[if_pos (by rw[h];rfl),h2]
 simp only[aR]
 rw[h3]
 simp only[aR]
 unfold Nh
 rw[h]
 dsimp only
 rw[if_pos ⟨by unfold lim;omega,fits hd⟩]
theorem nM{α β:Type}{f:α->β}:∀{xs:List α}{d:Nat},(xs.map f).eraseIdx d=(xs.eraseIdx d).map f
 | [],_=>rfl
 | _::_,0=>rfl
 | a::r,d+1=>by
  show f a::(r.map f).eraseIdx d=f a::(r.eraseIdx d).map f
  rw[nM]
theorem wJ{α β:Type}(f:α->β)(xs:List α)(i:Int)(v:α):gy (xs.map f) i (f v)=(gy xs i v).map f:=by
 unfold gy
 simp
theorem F9{α:Type}{xs:List α}{i:Int}{v x:α}(h:x∈gy xs i v):x=v\/x∈xs:=by
 unfold gy at h
 rcases List.mem_append.mp h with z | z
 ·exact .inr (uq z)
 ·rcases List.mem_cons.mp z with y | y
  ·exact .inl y
  ·exact .inr (Jt y)
theorem Rw.set{w:Nat}{rows:List (List Wo)}{d:Nat}{r:List Wo}(R:Rw w rows)(hr:r.length=w/\∀z∈r,z.ok=true):Rw w (rows.set d r):=⟨by rw[ph];exact R.hi,λx hx=>by
 rcases Jx hx with z | z
 ·exact R.ok x z
 ·rw[z];exact hr⟩
theorem Rw.pop{w:Nat}{rows:List (List Wo)}{d:Nat}(R:Rw w rows):Rw w (rows.eraseIdx d):=⟨bb (List.length_eraseIdx_le ..) R.hi,λx hx=>R.ok x (List.mem_of_mem_eraseIdx hx)⟩
theorem Rw.ins{w:Nat}{rows:List (List Wo)}{i:Int}{r:List Wo}(R:Rw w rows)(hl:rows.length < 14)(hr:r.length=w/\∀z∈r,z.ok=true):Rw w (gy rows i r):=⟨by rw[vx];omega,λx hx=>by
 rcases F9 hx with z | z
 ·rw[z];exact hr
 ·exact R.ok x z⟩
theorem ux{rows:List (List Wo)}{d:Nat}(h:d < rows.length):(rows.map a7)[d]? =some (a7 (rows.getD d [])):=by
 rw[gM,bR h]
 simp[h]
theorem z_{rows:List (List Wo)}{d:Nat}(h:d < rows.length):rows.getD d []∈rows:=by
 rw[cL,bR h]
 exact jL h
theorem iS{l:Nat}{rows:List (List Wo)}(h:st[l]? =some (.lst (rows.map a7))):cP [.ref l] st= .ok (.int (rows.length:Int)) st:=by rw[Kv (aT h),aA]
theorem uy{t u:GT}{g:GS}{ρ:bA}{b c:Bool}(h1:t ρ st= .ok b st)(h2:u ρ st= .ok c st):nO (lX t u) g cH ρ st=if b=true/\c=true then g ρ st else .nx ρ st:=by
 rw[NN,QQ,h1]
 simp only[aR]
 cases b with
 | false=>simp
 | true=>
  simp only[NP,h2,iz]
  cases c<;>simp
end
abbrev Rc(o0 o1:Option Wv)(n:Int)(hs:List PySem.Str)(lr:Nat)(a:Wo)(row:List Wo)(d:Nat)(o8 o9:Option Wv):bA:=[o0,o1,some (.int n),some (.tup (hs.map Wv.str)),some (.ref lr),some a.w,some (a7 row),some (.int (d:Nat)),o8,o9]
def Vx:GS:=(nO (lX (cA (aq oLt (aq oMod (af 2) (gC (.int 7))) (gC (.int 3)))) (cA (aq oLt (af 7) (au cP (ae (af 4) ao))))) (aH (aY 8 (au eB (ae (aq fh (af 4) (af 7)) ao)))
  (aH (kP (af 5) (af 8) (aq oMod (aq cT (af 2) (gC (.int 2000))) (au cP (ae (af 3) ao))))
  (kP (au eO (ae (af 8) ao)) (af 4) (af 7)))) cH)
def Vy:GS:=(nO (lX (cA (aq oEq (aq oMod (af 2) (gC (.int 7))) (gC (.int 3)))) (cA (aq oLt (af 7) (au cP (ae (af 4) ao))))) (fj (cI jl (af 4) (af 7))) cH)
def Vz:GS:=(nO (lX (cA (aq oEq (aq oMod (af 2) (gC (.int 7))) (gC (.int 4)))) (cA (aq oLt (au cP (ae (af 4) ao)) (gC (.int 14))))) (fj (vy (af 4) (af 7) (af 6))) cH)
def VA:GS:=(nO (lX (cA (aq oEq (aq oMod (af 2) (gC (.int 7))) (gC (.int 5)))) (cA (aq Oy (au cP (ae (af 4) ao)) (gC (.int 0))))) (aH (aY 9 (cI jl (af 4) (aq oMod (aq cT (af 2) (gC (.int 2000))) (au cP (ae (af 4) ao)))))
  (fj (vy (af 4) (aq oMod (af 7) (aq dO (au cP (ae (af 4) ao)) (gC (.int 1)))) (af 9)))) cH)
section
variable {st:Hs} {o0 o1 o8 o9:Option Wv} {n:Int} {hs:List PySem.Str} {lr d:Nat} {a:Wo} {row:List Wo} {rows:List (List Wo)}
theorem n_{x:Int}{k:Nat}(h:0 < k):∃j:Nat,(∀st:Hs,oMod (.int x) (.int (k:Nat)) st= .ok (.int (j:Nat)) st)/\j < k:=by
 have b:=uo (x:=x) (m:=(k:Int)) (by omega)
 refine⟨(x.fmod k).toNat,λst=>?_,by omega⟩
 rw[jS (by omega),Int.toNat_of_nonneg b.1]
theorem F_:∀st:Hs,cT (.int n) (.int 2000) st= .ok (.int (n.fdiv 2000)) st:=λst=>iA ⟨by decide,by decide⟩
theorem m7:∀st:Hs,oMod (.int n) (.int 7) st= .ok (.int (n.fmod 7)) st:=λst=>jS (by decide)
theorem yv{st:Hs}:cP [.tup (hs.map Wv.str)] st= .ok (.int (hs.length:Int)) st:=by
 have:cP [.tup (hs.map Wv.str)] st= .ok (.int ((hs.map Wv.str).length:Int)) st:=rfl
 rw[this,aA]
theorem Y0(lo:1<=hs.length)(h:st[lr]? =some (.lst (rows.map a7)))(R:Rw hs.length rows)(ha:a.ok=true) :
  ∃(p8:Option Wv)(rows':List (List Wo))(st':Hs),Vx (Rc o0 o1 n hs lr a row d o8 o9) st= .nx (Rc o0 o1 n hs lr a row d p8 o9) st'/\st'[lr]? =some (.lst (rows'.map a7))/\Rw hs.length rows'/\bK lr st st':=by
 have ln:=iS h
 unfold Vx
 rw[uy (st:=st) (b:=decide (n.fmod 7 < 3)) (c:=decide ((d:Int) < rows.length)) (by simp[m7]) (by simp[ln])]
 by_cases c:decide (n.fmod 7 < 3)=true/\decide ((d:Int) < rows.length)=true
 ·rw[if_pos c]
  have hd:d < rows.length:=by have:=of_decide_eq_true c.2;omega
  obtain⟨r,hr⟩:∃r,rows.getD d []=r:=⟨_,rfl⟩
  have ra:=ux hd
  have rm:=R.ok _ (z_ hd)
  rw[hr] at ra rm
  have ix:fh (.ref lr) (.int (d:Int)) st= .ok (a7 r) st:=vV (aT h) (L2.j0 ra)
  have li:eB [a7 r] st= .ok (.ref st.length) (st++[.lst (r.map Wo.w)]):=rfl
  obtain⟨s1,hs1⟩:∃s1,st++[Ob.lst (r.map Wo.w)]=s1:=⟨_,rfl⟩
  rw[hs1] at li
  have g1:s1[st.length]? =some (.lst (r.map Wo.w)):=by rw[<-hs1];exact bZ
  obtain⟨j,mj,lj⟩:=n_ (x:=n.fdiv 2000) (k:=hs.length) (by omega)
  have t1:=λρ=>zX (v:=a.w) (ρ:=ρ) g1 (d:=j) (by rw[aA];omega)
  rw[<-F'] at t1
  obtain⟨s2,hs2⟩:∃s2,s1.set st.length (.lst ((r.set j a).map Wo.w))=s2:=⟨_,rfl⟩
  rw[hs2] at t1
  have g2:s2[st.length]? =some (.lst ((r.set j a).map Wo.w)):=by rw[<-hs2];exact cz g1
  have tc:=qJ (aT g2)
  have lrl:=bT h
  have h2:s2[lr]? =some (.lst (rows.map a7)):=by
   rw[<-hs2,bE (by omega),<-hs1]
   exact bI h
  have t2:=λρ=>zX (v:=a7 (r.set j a)) (ρ:=ρ) h2 (d:=d) (by rw[aA];omega)
  have VB:eO [.ref st.length] s2= .ok (a7 (r.set j a)) s2:=tc
  rw[<-F'] at t2
  refine⟨some (.ref st.length),rows.set d (r.set j a),s2.set lr (.lst ((rows.set d (r.set j a)).map a7)),?_,cz h2,R.set ⟨by rw[ph];exact rm.1,λz hz=>?_⟩,?_⟩
  ·have f1:aY 8 (au eB (ae (aq fh (af 4) (af 7)) ao)) (Rc o0 o1 n hs lr a row d o8 o9) st= .nx (Rc o0 o1 n hs lr a row d (some (.ref st.length)) o9) s1:=by simp[ix,li]
   have f2:kP (af 5) (af 8) (aq oMod (aq cT (af 2) (gC (.int 2000))) (au cP (ae (af 3) ao))) (Rc o0 o1 n hs lr a row d (some (.ref st.length)) o9) s1= .nx (Rc o0 o1 n hs lr a row d (some (.ref st.length)) o9) s2:=by
    unfold kP
    simp[F_,yv,mj,t1]
   have f3:kP (au eO (ae (af 8) ao)) (af 4) (af 7) (Rc o0 o1 n hs lr a row d (some (.ref st.length)) o9) s2= .nx (Rc o0 o1 n hs lr a row d (some (.ref st.length)) o9) (s2.set lr (.lst ((rows.set d (r.set j a)).map a7))):=by
    unfold kP
    simp[-F',VB,t2]
   rw[eS,f1,fk,eS,f2,fk]
   exact f3
  ·rcases Jx hz with z' | z'
   ·exact rm.2 z z'
   ·rw[z'];exact ha
  ·refine⟨by rw[ph,<-hs2,ph,<-hs1];simp,λk h1 h2=>?_⟩
   rw[bE (aW h2),<-hs2,bE (by omega),<-hs1]
   exact cu h1
 ·rw[if_neg c]
  exact⟨o8,rows,st,rfl,h,R,bK.refl⟩
theorem Y1(hd':d < 1000)(h:st[lr]? =some (.lst (rows.map a7)))(R:Rw hs.length rows) :
  ∃(rows':List (List Wo))(st':Hs),Vy (Rc o0 o1 n hs lr a row d o8 o9) st= .nx (Rc o0 o1 n hs lr a row d o8 o9) st'/\st'[lr]? =some (.lst (rows'.map a7))/\Rw hs.length rows'/\bK lr st st':=by
 have ln:=iS h
 unfold Vy
 rw[uy (st:=st) (b:=n.fmod 7 == 3) (c:=decide ((d:Int) < rows.length)) (by simp[m7]) (by simp[ln])]
 by_cases c:(n.fmod 7 == 3)=true/\decide ((d:Int) < rows.length)=true
 ·rw[if_pos c]
  have hd:d < rows.length:=by have:=of_decide_eq_true c.2;omega
  have po:=zY h (ux hd) hd'
  have em:(rows.map a7).eraseIdx d=(rows.eraseIdx d).map a7:=nM
  rw[em] at po
  have km:=λga ρ=>oS (mt:=jl) (ga:=ga) (ρ:=ρ) (aT h)
  refine⟨rows.eraseIdx d,st.set lr (.lst ((rows.eraseIdx d).map a7)),?_,cz h,R.pop,bK.set⟩
  simp[km,po]
 ·rw[if_neg c]
  exact⟨rows,st,rfl,h,R,bK.refl⟩
theorem Y2(hd':d < 1000)(h:st[lr]? =some (.lst (rows.map a7)))(R:Rw hs.length rows)(hr:row.length=hs.length/\∀z∈row,z.ok=true) :
  ∃(rows':List (List Wo))(st':Hs),Vz (Rc o0 o1 n hs lr a row d o8 o9) st= .nx (Rc o0 o1 n hs lr a row d o8 o9) st'/\st'[lr]? =some (.lst (rows'.map a7))/\Rw hs.length rows'/\bK lr st st':=by
 have ln:=iS h
 unfold Vz
 rw[uy (st:=st) (b:=n.fmod 7 == 4) (c:=decide ((rows.length:Int) < 14)) (by simp[m7]) (by simp[ln])]
 by_cases c:(n.fmod 7 == 4)=true/\decide ((rows.length:Int) < 14)=true
 ·rw[if_pos c]
  have hd:rows.length < 14:=by have:=of_decide_eq_true c.2;omega
  have po:=zZ (go:=af 4) (ge:=af 7) (gf:=af 6) (v:=a7 row) (ρ:=Rc o0 o1 n hs lr a row d o8 o9) (d:=d) h (by simp) (by simp) (by simp) hd' (by rw[aA];omega)
  rw[wJ] at po
  refine⟨gy rows d row,st.set lr (.lst ((gy rows d row).map a7)),?_,cz h,R.ins hd hr,bK.set⟩
  rw[e_expr,po]
  rfl
 ·rw[if_neg c]
  exact⟨rows,st,rfl,h,R,bK.refl⟩
theorem Y3(h:st[lr]? =some (.lst (rows.map a7)))(R:Rw hs.length rows) :
  ∃(p9:Option Wv)(rows':List (List Wo))(st':Hs),VA (Rc o0 o1 n hs lr a row d o8 o9) st= .nx (Rc o0 o1 n hs lr a row d o8 p9) st'/\st'[lr]? =some (.lst (rows'.map a7))/\Rw hs.length rows'/\bK lr st st':=by
 have ln:=iS h
 unfold VA
 rw[uy (st:=st) (b:=n.fmod 7 == 5) (c:=decide (0 < (rows.length:Int))) (by simp[m7]) (by simp[ln])]
 by_cases c:(n.fmod 7 == 5)=true/\decide (0 < (rows.length:Int))=true
 ·rw[if_pos c]
  have hd:0 < rows.length:=by have:=of_decide_eq_true c.2;omega
  have hi:=R.hi
  obtain⟨j,mj,lj⟩:=n_ (x:=n.fdiv 2000) hd
  have po:=zY h (ux lj) (by omega)
  have em:(rows.map a7).eraseIdx j=(rows.eraseIdx j).map a7:=nM
  rw[em] at po
  have km:=λga ρ=>oS (mt:=jl) (ga:=ga) (ρ:=ρ) (aT h)
  have rm:=R.ok _ (z_ lj)
  obtain⟨r,hr⟩:∃r,rows.getD j []=r:=⟨_,rfl⟩
  rw[hr] at po rm
  obtain⟨s1,hs1⟩:∃s1,st.set lr (.lst ((rows.eraseIdx j).map a7))=s1:=⟨_,rfl⟩
  rw[hs1] at po
  have h1:s1[lr]? =some (.lst ((rows.eraseIdx j).map a7)):=by rw[<-hs1];exact cz h
  have l1:(rows.eraseIdx j).length+1=rows.length:=by rw[List.length_eraseIdx_of_lt lj];omega
  have N2:=iS h1
  obtain⟨k,mk,lk⟩:=n_ (x:=(d:Int)) (k:=rows.length) hd
  have mk':oMod (.int (d:Int)) (.int ((rows.eraseIdx j).length+1)) s1= .ok (.int (k:Nat)) s1:=by
   have e:((rows.eraseIdx j).length:Int)+1=(rows.length:Int):=by omega
   rw[e]
   exact mk s1
  have f1:aY 9 (cI jl (af 4) (aq oMod (aq cT (af 2) (gC (.int 2000))) (au cP (ae (af 4) ao)))) (Rc o0 o1 n hs lr a row d o8 o9) st= .nx (Rc o0 o1 n hs lr a row d o8 (some (a7 r))) s1:=by simp[km,F_,ln,mj,po]
  have pi:=zZ (go:=af 4) (ge:=aq oMod (af 7) (aq dO (au cP (ae (af 4) ao)) (gC (.int 1)))) (gf:=af 9) (v:=a7 r) (ρ:=Rc o0 o1 n hs lr a row d o8 (some (a7 r))) (d:=k) h1 (by simp) (by simp[N2,mk']) (by simp) (by omega) (by rw[aA];omega)
  rw[wJ] at pi
  refine⟨some (a7 r),gy (rows.eraseIdx j) k r,s1.set lr (.lst ((gy (rows.eraseIdx j) k r).map a7)),?_,cz h1,R.pop.ins (by omega) rm,(by rw[<-hs1];exact bK.set:bK lr st s1).trans bK.set⟩
  rw[eS,f1,fk,e_expr,pi]
  rfl
 ·rw[if_neg c]
  exact⟨o9,rows,st,rfl,h,R,bK.refl⟩
end
def CW:List Wo:=[.aL,.int 0,.int 1,.int 2,.int (-1),.str "a",.str "b",.int 1000000000000000000000000000000000000000000000000000000000000]
theorem Rv:∀i:Fin 8,(CW.getD i.1 .aL).ok=true:=by decide+kernel
section
variable {st:Hs} {hs:List PySem.Str} {rows:List (List Wo)}
theorem Tb.MG(T:Tb hs rows):Rw hs.length rows:=⟨T.rw',λr h=>⟨T.wd r h,T.ok r h⟩⟩
theorem Tb.of2(T:Tb hs rows){rows':List (List Wo)}(R:Rw hs.length rows'):Tb hs rows':=⟨T.nd,T.lo,T.hi,T.of,R.hi,λr h=>(R.ok r h).1,λr h=>(R.ok r h).2⟩
theorem changed(T:Tb hs rows){c:Int}:∃(rows':List (List Wo))(st':Hs),eZ [aB hs rows,.int c] st= .ok (aB hs rows') st'/\Tb hs rows'/\Gr st st':=by
 have mx:=mix (c:=c) (k:=8) (st:=st) (by omega) (by omega)
 obtain⟨n,hN⟩:∃n,wj c 8=n:=⟨_,rfl⟩
 rw[hN] at mx
 have li:eB [.tup (rows.map a7)] st= .ok (.ref st.length) (st++[.lst (rows.map a7)]):=rfl
 obtain⟨s1,hs1⟩:∃s1,st++[Ob.lst (rows.map a7)]=s1:=⟨_,rfl⟩
 rw[hs1] at li
 have G1:Gr st s1:=by rw[<-hs1];exact Gr.push
 have g1:s1[st.length]? =some (.lst (rows.map a7)):=by rw[<-hs1];exact bZ
 obtain⟨s2,hs2⟩:∃s2,s1++[Ob.lst (CW.map Wo.w)]=s2:=⟨_,rfl⟩
 have k8:q_ [.aL,.int 0,.int 1,.int 2,.int (-1),.str "a",.str "b",.int 1000000000000000000000000000000000000000000000000000000000000] s1= .ok (.ref s1.length) s2:=by rw[<-hs2];exact jR (by simp[lim])
 have G2:Gr s1 s2:=by rw[<-hs2];exact Gr.push
 have k2:aj s2 s1.length=some (CW.map Wo.w):=by rw[<-hs2];exact aD
 have f7:=iA (st:=s2) (i:=n) (j:=7) ⟨by decide,by decide⟩
 obtain⟨j,mj,lj⟩:=n_ (x:=n.fdiv 7) (k:=8) (by omega)
 have Y4:∀st:Hs,oMod (.int (n.fdiv 7)) (.int 8) st= .ok (.int (j:Nat)) st:=mj
 have ix:=um k2 (k:=j) (by exact lj)
 obtain⟨a,ea⟩:∃a,CW.getD j .aL=a:=⟨_,rfl⟩
 have Y5:a.ok=true:=by rw[<-ea];exact Rv ⟨j,lj⟩
 rw[ea] at ix
 obtain⟨lw,s3,row,e3,k3,n3,G3,Y6⟩:=yk (c:=c) (many:=hs.length) (by have:=T.hi;omega) (st:=s2)
 have tc:=qJ k3
 have VB:eO [.ref lw] s3= .ok (a7 row) s3:=tc
 have g3:=(G2.trans G3).get g1
 have ln:=iS g3
 have Y7:=iA (st:=s3) (i:=n) (j:=56) ⟨by decide,by decide⟩
 obtain⟨d,md,ld⟩:=n_ (x:=n.fdiv 56) (k:=rows.length+1) (by omega)
 have Y8:oMod (.int (n.fdiv 56)) (.int ((rows.length:Int)+1)) s3= .ok (.int (d:Nat)) s3:=md s3
 have hi:=T.rw'
 have f1:aY 2 (aP 2 cM (ae (af 1) (ae (gC (.int 8)) ao))) [some (aB hs rows),some (.int c),none,none,none,none,none,none,none,none] st= .nx [some (aB hs rows),some (.int c),some (.int n),none,none,none,none,none,none,none] st:=by simp[mx]
 have f2:yS [3,4] (af 0) [some (aB hs rows),some (.int c),some (.int n),none,none,none,none,none,none,none] st= .nx [some (aB hs rows),some (.int c),some (.int n),some (.tup (hs.map Wv.str)),some (.tup (rows.map a7)),none,none,none,none,none] st:=rfl
 have f3:aY 4 (au eB (ae (af 4) ao)) [some (aB hs rows),some (.int c),some (.int n),some (.tup (hs.map Wv.str)),some (.tup (rows.map a7)),none,none,none,none,none] st= .nx [some (aB hs rows),some (.int c),some (.int n),some (.tup (hs.map Wv.str)),some (.ref st.length),none,none,none,none,none] s1:=by simp[li]
 have f4:aY 5 (aq fh (eu (ae (gC .aL) (ae (gC (.int 0)) (ae (gC (.int 1)) (ae (gC (.int 2)) (ae (L9 pJ (gC (.int 1))) (ae (gC (.str "a")) (ae (gC (.str "b")) (ae (aq pK (gC (.int 10)) (gC (.int 60))) ao))))))))) (aq oMod (aq cT (af 2) (gC (.int 7))) (gC (.int 8)))) [some (aB hs rows),some (.int c),some (.int n),some (.tup (hs.map Wv.str)),some (.ref st.length),none,none,none,none,none] s1= .nx [some (aB hs rows),some (.int c),some (.int n),some (.tup (hs.map Wv.str)),some (.ref st.length),some a.w,none,none,none,none] s2:=by simp[-NU,SG,k8,f7,Y4,ix]
 have f5:aY 6 (au eO (ae (aP 2 cx (ae (af 1) (ae (au cP (ae (af 3) ao)) ao))) ao)) [some (aB hs rows),some (.int c),some (.int n),some (.tup (hs.map Wv.str)),some (.ref st.length),some a.w,none,none,none,none] s2= .nx [some (aB hs rows),some (.int c),some (.int n),some (.tup (hs.map Wv.str)),some (.ref st.length),some a.w,some (a7 row),none,none,none] s3:=by simp[yv,e3,VB]
 have f6:aY 7 (aq oMod (aq cT (af 2) (gC (.int 56))) (aq dO (au cP (ae (af 4) ao)) (gC (.int 1)))) [some (aB hs rows),some (.int c),some (.int n),some (.tup (hs.map Wv.str)),some (.ref st.length),some a.w,some (a7 row),none,none,none] s3= .nx (Rc (some (aB hs rows)) (some (.int c)) n hs st.length a row d none none) s3:=by simp[Y7,ln,Y8]
 obtain⟨p8,r4,s4,e4,g4,R4,K4⟩:=Y0 (o0:=some (aB hs rows)) (o1:=some (.int c)) (n:=n) (row:=row) (d:=d) (o8:=none) (o9:=none) T.lo g3 T.MG Y5
 obtain⟨r5,s5,e5,g5,R5,K5⟩:=Y1 (o0:=some (aB hs rows)) (o1:=some (.int c)) (n:=n) (a:=a) (row:=row) (o8:=p8) (o9:=none) (d:=d) (by omega) g4 R4
 obtain⟨r6,s6,e6,g6,R6,K6⟩:=Y2 (o0:=some (aB hs rows)) (o1:=some (.int c)) (n:=n) (a:=a) (row:=row) (o8:=p8) (o9:=none) (d:=d) (by omega) g5 R5 ⟨n3,Y6⟩
 obtain⟨p9,r7,s7,e7,g7,R7,K7⟩:=Y3 (o0:=some (aB hs rows)) (o1:=some (.int c)) (n:=n) (a:=a) (row:=row) (o8:=p8) (o9:=none) (d:=d) g6 R6
 have t7:=qJ (aT g7)
 have Y9:cY (eJ (ae (af 3) (ae (au eO (ae (af 4) ao)) ao))) (Rc (some (aB hs rows)) (some (.int c)) n hs st.length a row d p8 p9) s7= .rt (aB hs r7) s7:=by simp[t7,aB]
 refine⟨r7,s7,?_,T.of2 R7,(G1.trans (G2.trans G3)).N1 (ak _) (K4.trans (K5.trans (K6.trans K7)))⟩
 refine fW (n:=10) (g:=gX) ?_
 show aH _ (aH _ (aH _ (aH _ (aH _ (aH _ (aH Vx (aH Vy (aH Vz (aH VA _))))))))) [some (aB hs rows),some (.int c),none,none,none,none,none,none,none,none] st=_
 rw[eS,f1,fk,eS,f2,fk,eS,f3,fk,eS,f4,fk,eS,f5,fk,eS,f6,fk,eS,e4,fk,eS,e5,fk,eS,e6,fk,eS,e7,fk]
 exact Y9
end
theorem sG{α β:Type}{ck:Hs->Prop}{n:Nat}{gt:List Wv->Hs->Re Bool}{ge:List Wv->Hs->Re Wv}{rr:Nat}(f:α->Wv)(us:α->List Wv)(v:β->Wv)(E:β->α->Hs->Prop)(s0:Hs)(hck:∀st,bK rr s0 st->ck st)(mono:∀b a st st',E b a st->bK rr st st'->E b a st') :
  ∀(ws:List α),(∀a∈ws,zb n (f a)=some (us a)/\∀st,bK rr s0 st->rr < st.length->gt (us a) st= .ok true st/\∃b st',ge (us a) st= .ok (v b) st'/\Gr st st'/\E b a st')->∀(acc:List Wv)(st:Hs),bK rr s0 st->st[rr]? =some (.lst acc)->acc.length+ws.length < lim->
   ∃bs st',fX ck n gt ge rr (ws.map f) st=some st'/\st'[rr]? =some (.lst (acc++bs.map v))/\bK rr st st'/\Paired (λb a=>E b a st') bs ws
 | [],_,acc,st,_,hg,_=>⟨[],st,rfl,by simpa using hg,bK.refl,.nil⟩
 | a::t,h,acc,st,hk,hg,hl=>by
  have hl':acc.length+(t.length+1) < lim:=hl
  obtain⟨e0,hs⟩:=h a bp
  obtain⟨e1,b,s1,e2,g1,x1⟩:=hs st hk (bT hg)
  have Rt:=g1.get hg
  have K1:bK rr st (s1.set rr (.lst (acc++[v b]))):=g1.keep.trans bK.set
  obtain⟨bs,s2,e3,g2,K2,p2⟩:=sG f us v E s0 hck mono t (λa ha=>h a (aX _ ha)) (acc++[v b]) (s1.set rr (.lst (acc++[v b]))) (hk.trans K1) (cz Rt) (by simp;omega)
  refine⟨b::bs,s2,?_,by simpa using g2,K1.trans K2,.cons (mono _ _ _ _ x1 (bK.set.trans K2)) p2⟩
  rw[aM]
  unfold fX
  rw[e0]
  dsimp only
  rw[e1]
  dsimp only
  rw[e2]
  dsimp only
  rw[zH Rt (by omega)]
  dsimp only
  rw[if_pos (hck _ (hk.trans K1))]
  exact e3
theorem sH{c:List Wo}{st:Hs}:∀{bs:List Tg}{qs:List Qg},Paired (λ(b:Tg)(q:Qg)=>fR b=(q.1,dF c q.2.2)/\st[b.2.1]? =some (.lst (b.2.2.map Wo.w))) bs qs->bs.map fR=qs.map (λq=>(q.1,dF c q.2.2))/\∀b∈bs,st[b.2.1]? =some (.lst (b.2.2.map Wo.w))
 | _,_,.nil=>⟨rfl,λ_ h=>by cases h⟩
 | _,_,.cons h t=>by
  obtain⟨i1,i2⟩:=sH t
  refine⟨by rw[aM,aM,i1,h.1],λb hb=>?_⟩
  rcases List.mem_cons.mp hb with z | z
  ·rw[z];exact h.2
  ·exact i2 b z
section
variable {hs:List PySem.Str} {rows:List (List Wo)} {st:Hs}
theorem qP(T:Tb hs rows){i j:Nat}{h h2:PySem.Str}(e:hs[i]? =some h)(e2:hs[j]? =some h2):∃(l:Nat)(ts:List Tg)(st':Hs),cG [aB hs rows,.str h,.str h2] st= .ok (.ref l) st'/\st'[l]? =some (.lst (ts.map tT))/\ts.map fR=iR (col rows i) (col rows j)/\(∀t∈ts,st'[t.2.1]? =some (.lst (t.2.2.map Wo.w)))/\Gr st st':=by
 have hl:=(List.getElem?_eq_some_iff.mp e2).1
 have q:=cD (cs:=[("table",0),("other",2)]) (gt:=di) (ge:=cn) (ρ:=[some (aB hs rows),some (.str h),some (.str h2),none]) (w:=(none,rows.map a7)) (st:=st) (t:=λ_=>true) (f:=pick j) trivial
  (λv _ acc=>rfl) (λv hv _ acc=>by
   obtain⟨r,hr,rfl⟩:=List.mem_map.mp hv
   have ti:=N5 (st:=st++[.lst acc]) T.nd e2
   have ri:=FV (st:=st++[.lst acc]) (show j < r.length by rw[T.wd r hr];exact hl)
   have al:pX (pZ p5 (aq fh (af 1) (gC (.int 0))) (ae (af 2) ao)) (qh kj (aq fh (af 1) (gC (.int 0))) (af 2)) [some (a7 r),some (aB hs rows),some (.str h2)] (st++[.lst acc])= .ok (.int (j:Nat)) (st++[.lst acc]):=by
    rw[FO (by simp[Jr];rfl)]
    unfold qh
    simp[Jr,ti]
   unfold cn
   show aq fh (af 0) (pX _ _) [some (a7 r),some (aB hs rows),some (.str h2)] (st++[.lst acc])=_
   rw[n8]
   simp only[kX,jf,kW,aR,vU]
   rw[al]
   simp only[aR]
   rw[ri]
   rfl)
  (by show(rows.map a7).length < lim;rw[aA];have:=T.rw';unfold lim;omega)
 rw[show((none,rows.map a7):Wk).2=rows.map a7 from rfl,wg] at q
 obtain⟨s1,hs1⟩:∃s1,st++[Ob.lst ((col rows j).map Wo.w)]=s1:=⟨_,rfl⟩
 rw[hs1] at q
 have G1:Gr st s1:=by rw[<-hs1];exact Gr.push
 have k1:s1[st.length]? =some (.lst ((col rows j).map Wo.w)):=by rw[<-hs1];exact bZ
 obtain⟨lg,qs,s2,r2,k2,g2,l2,b2,G2⟩:=nH (st:=s1) T e
 have kc:=G2.get k1
 have YW:=T.rw'
 have Vu:∀q∈qs,B7 q∈oo (col rows i):=λq hq=>by rw[<-g2];exact List.mem_map.mpr ⟨q,hq,rfl⟩
 have ql:qs.length<=rows.length:=by
  have:=congrArg gL g2
  rw[aA] at this
  rw[this,<-gE (rows:=rows) (at':=i)]
  exact mJ _
 obtain⟨c,hc⟩:∃c,col rows j=c:=⟨_,rfl⟩
 have cl:c.length=rows.length:=by rw[<-hc];exact gE
 rw[hc] at kc
 have lgl:=bT k2
 have lcl:=bT kc
 obtain⟨ρ,hρ⟩:∃ρ:bA,[some (aB hs rows),some (.str h),some (.str h2),some (.ref st.length)]=ρ:=⟨_,rfl⟩
 obtain⟨bs,s3,c3,g3,K3,p3⟩:=sG (ck:=rX (some (lg,qs.map qT))) (n:=2) (gt:=λv=>cg (v.map some++c4 [("column",3)] ρ)) (ge:=λv=>bC (v.map some++c4 [("column",3)] ρ)) (rr:=s2.length) qT (λq=>[q.1.w,.ref q.2.1]) tT
  (λ(b:Tg)(q:Qg) st=>(fR b=(q.1,dF c q.2.2)/\st[b.2.1]? =some (.lst (b.2.2.map Wo.w)))/\b.2.1≠s2.length) (s2++[.lst []]) (λs K=>K.lst (iO (aT k2)) (by omega)) (λb q s s' h K=>⟨⟨h.1.1,by rw[K.2 _ (bT h.1.2) h.2];exact h.1.2⟩,h.2⟩) qs
  (λq hq=>⟨rfl,λst3 K hr=>⟨rfl,by
   obtain⟨h1,h2',h3⟩:=l2 q hq
   have lt:=bT h1
   obtain⟨h4,h5⟩:=zU (Vu q hq)
   rw[gE] at h4 h5
   have h4:q.2.2.length<=rows.length:=h4
   have kq:st3[q.2.1]? =some (.lst (nW q.2.2)):=by rw[K.2 _ (by simp;omega) (by omega)];exact bI h1
   have Y_:st3[st.length]? =some (.lst (c.map Wo.w)):=by rw[K.2 _ (by simp;omega) (by omega)];exact bI kc
   have cp:=cD (cs:=[("column",2)]) (gt:=dh) (ge:=cb) (ρ:=[some q.1.w,some (.ref q.2.1),some (.ref st.length)]) (w:=(some q.2.1,nW q.2.2)) (st:=st3) (t:=λ_=>true) (f:=λv=>(c.getD (zP v).toNat .aL).w) (aT kq)
    (λv _ acc=>rfl) (λv hv _ acc=>by
     obtain⟨k,hk,rfl⟩:=List.mem_map.mp hv
     have ix:=um (st:=st3++[.lst acc]) (k:=k) (iO (aT Y_)) (by rw[cl];exact h5 k hk)
     unfold cb
     simp[-cL,c4,ix,zP])
    (by show(nW q.2.2).length < lim;unfold nW;rw[aA];unfold lim;omega)
   rw[show((some q.2.1,nW q.2.2):Wk).2=nW q.2.2 from rfl,List.filter_eq_self.mpr (λ_ _=>rfl)] at cp
   have ef:(nW q.2.2).map (λv=>(c.getD (zP v).toNat .aL).w)=(dF c q.2.2).map Wo.w:=by
    unfold nW dF
    rw[bS,bS]
    rfl
   rw[ef] at cp
   refine⟨(q.1,st3.length,dF c q.2.2),st3++[.lst ((dF c q.2.2).map Wo.w)],?_,Gr.push,⟨rfl,bZ⟩,by show st3.length≠s2.length;omega⟩
   have gs:cC [("column",2)] (bM (af 1)) dh cb [some q.1.w,some (.ref q.2.1),some (.ref st.length)] st3= .ok (.ref st3.length) (st3++[.lst ((dF c q.2.2).map Wo.w)]):=by
    unfold cC bM
    simp only[kX,qN,jf,kW,aR]
    rw[gS (aT kq)]
    simp only[aR]
    exact cp
   rw[<-hρ]
   show bC [some q.1.w,some (.ref q.2.1),some (.ref st.length)] st3=_
   unfold bC
   simp only[FD,uf,kX,jf,kW,aR,oR,gs,zG,FF]
   rfl⟩⟩) [] (s2++[.lst []]) bK.refl bZ (by simp;unfold lim;omega)
 rw[j3] at g3
 obtain⟨t1,t2⟩:=sH (c:=c) (st:=s3) (L2.Paired.GD p3 λb q h=>h.1)
 refine⟨s2.length,bs,s3,?_,g3,?_,t2,G1.trans (G2.trans (bK.gr (ak _) (bK.push.trans K3)))⟩
 ·refine fW (n:=4) (g:=fH) ?_
  have ym:gP 2 [("column",3)] cg bC ρ (some (lg,qs.map qT),qs.map qT) s2= .ok (.ref s2.length) s3:=by
   unfold gP
   rw[show((some (lg,qs.map qT),qs.map qT):J8).2=qs.map qT from rfl,c3]
  rw[<-hρ] at ym
  have gg:iu 2 [("column",3)] (BE (bM (aP 2 cK (ae (af 0) (ae (af 1) ao))))) cg bC [some (aB hs rows),some (.str h),some (.str h2),some (.ref st.length)] s1= .ok (.ref s2.length) s3:=by
   unfold iu BE bM
   simp[r2,gS (aT k2)]
   exact ym
  have g0:aY 3 (cC [("table",0),("other",2)] (bM (aq fh (af 0) (gC (.int 1)))) di cn) [some (aB hs rows),some (.str h),some (.str h2),none] st= .nx [some (aB hs rows),some (.str h),some (.str h2),some (.ref st.length)] s1:=by
   unfold cC bM
   simp[Vi,q]
  show aH _ _ [some (aB hs rows),some (.str h),some (.str h2),none] st=_
  rw[eS,g0,fk,Ko,gg]
  rfl
 ·rw[t1,hc]
  unfold iR
  rw[<-g2,bS (l:=qs)]
  rfl
end
def dP(p:Wp):PyData:=.tuple [dW p.1,.list (p.2.map dW)]
theorem Rx(p q:Wp):aV (dP p) (dP q)=decide (p=q):=by
 obtain⟨a,xs⟩:=p
 obtain⟨b,ys⟩:=q
 unfold dP
 simp only[aV,b6,F4,nJ]
 rw[zO]
 simp
theorem uz{st:Hs}{n:Nat}{t:Tg}(h:st[t.2.1]? =some (.lst (t.2.2.map Wo.w))):aC st (n+3) (tT t)=some (dP (fR t)):=by
 have d1:aC st (n+2) (.ref t.2.1)=some (.list (t.2.2.map dW)):=by rw[mG (n:=n+1) (aT h),mK];rfl
 have d0:aC st (n+2) t.1.w=some (dW t.1):=by cases t.1<;>rfl
 show(c_ (aC st (n+2)) [t.1.w,.ref t.2.1]).map j6=_
 unfold c_
 rw[d0]
 unfold c_
 rw[d1]
 rfl
theorem Aa{st:Hs}{n:Nat}:∀ts:List Tg,(∀t∈ts,st[t.2.1]? =some (.lst (t.2.2.map Wo.w)))->c_ (aC st (n+3)) (ts.map tT)=some ((ts.map fR).map dP)
 | [],_=>rfl
 | t::r,h=>by
  have h1:=uz (n:=n) (h t bp)
  have h2:=Aa (n:=n) r λt ht=>h t (aX _ ht)
  rw[aM]
  unfold c_
  rw[h1,h2]
  rfl
theorem KH(p:Wp):∀ps:List Wp,((ps.map dP).any λz=>aV z (dP p))=decide (p∈ps)
 | []=>rfl
 | q::r=>by
  rw[aM,fz,KH p r,Rx]
  by_cases e:q=p
  ·rw[decide_eq_true e,Bool.true_or,decide_eq_true (show p∈q::r by rw[e];exact bp)]
  ·have m:(p∈q::r)↔p∈r:=⟨λh=>(List.mem_cons.mp h).resolve_left λz=>e z.symm,aX _⟩
   rw[decide_eq_false e,Bool.false_or,decide_eq_decide.mpr m]
theorem wL{p:Wp}:∀{ps:List Wp},(ps.map (·.1)).Nodup->(p∈ps↔look p.1 ps=some p.2)
 | [],_=>by simp[look]
 | q::r,n=>by
  have n0:=List.nodup_cons.mp (show(q.1::r.map (·.1)).Nodup from n)
  unfold look
  by_cases e:q.1=p.1
  ·rw[if_pos e]
   constructor
   ·intro h
    rcases List.mem_cons.mp h with z | z
    ·rw[z]
    ·exact absurd (show q.1∈r.map (·.1) from by rw[e];exact List.mem_map.mpr ⟨p,z,rfl⟩) n0.1
   ·intro h
    have:p=q:=Prod.ext e.symm (Option.some.inj h).symm
    rw[this]
    exact bp
  ·rw[if_neg e,<-wL n0.2]
   constructor
   ·intro h
    rcases List.mem_cons.mp h with z | z
    ·exact absurd (by rw[z]) e
    ·exact z
   ·exact aX _
section
variable {hs:List PySem.Str} {rows bW:List (List Wo)} {st:Hs}
def Ry:Wv->Wv
 | .tup (a::_)=>a
 | _=> .aL
def OJ(st:Hs)(ps:List Wp)(v:Wv):Bool:=match aC st 20 v with
 | some d=>((ps.map dP).any λz=>aV z d) != true
 | none=>false
theorem yw(T:Tb hs rows)(T2:Tb hs bW){i j:Nat}{h h2:PySem.Str}(e:hs[i]? =some h)(e2:hs[j]? =some h2) :
  ∃(l:Nat)(st':Hs),fQ [aB hs rows,aB hs bW,.str h,.str h2] st= .ok (.ref l) st'/\st'[l]? =some (.lst (((iR (col bW i) (col bW j)).filter (chg (iR (col rows i) (col rows j)))).map (λp=>p.1.w)))/\Gr st st':=by
 obtain⟨l1,Gq,s1,r1,k1,g1,t1,G1⟩:=qP (st:=st) T e e2
 obtain⟨l2,OK,s2,r2,k2,g2,t2,G2⟩:=qP (st:=s1) T2 e e2
 have l2':OK.length<=14:=by have:=congrArg gL g2;rw[aA] at this;rw[this];exact wH T2
 have kb:=G2.get k1
 have tb:=λt ht=>G2.get (t1 t ht)
 have cp:=cD (cs:=[("before",4)]) (gt:=cW) (ge:=cX) (ρ:=[some (aB hs rows),some (aB hs bW),some (.str h),some (.str h2),some (.ref l1)]) (w:=(some l2,OK.map tT)) (st:=s2) (t:=OJ s2 (Gq.map fR)) (f:=Ry) (aT k2)
  (λv hv acc=>by
   obtain⟨t,ht,rfl⟩:=List.mem_map.mp hv
   have d1:aC (s2++[.lst acc]) 20 (.ref l1)=some (.list ((Gq.map fR).map dP)):=by
    rw[mG (n:=19) (aT (bI kb)),Aa (n:=16) Gq λt ht=>bI (tb t ht)]
    rfl
   have d2:aC (s2++[.lst acc]) 20 (tT t)=some (dP (fR t)):=uz (n:=17) (bI (t2 t ht))
   have d3:aC s2 20 (tT t)=some (dP (fR t)):=uz (n:=17) (t2 t ht)
   have op:qi true (tT t) (.ref l1) (s2++[.lst acc])= .ok (.bl (OJ s2 (Gq.map fR) (tT t))) (s2++[.lst acc]):=by
    unfold qi OJ
    rw[d1,d2,d3]
   show cW [some (tT t),some (.ref l1)] (s2++[.lst acc])=_
   unfold cW
   simp only[Kq,n8,kX,qN,jf,kW,aR,vU,op,lA,Kr])
  (λv hv _ acc=>by
   obtain⟨t,ht,rfl⟩:=List.mem_map.mp hv
   have ix:fh (tT t) (.int 0) (s2++[.lst acc])= .ok t.1.w (s2++[.lst acc]):=x_ rfl
   show cX [some (tT t),some (.ref l1)] (s2++[.lst acc])=_
   unfold cX
   simp only[n8,kX,jf,kW,aR,vU,e_c,ix,lA]
   rfl)
  (by show(OK.map tT).length < lim;rw[aA];unfold lim;omega)
 have ef:((OK.map tT).filter (OJ s2 (Gq.map fR))).map Ry=((iR (col bW i) (col bW j)).filter (chg (iR (col rows i) (col rows j)))).map (λp=>p.1.w):=by
  rw[<-g1,<-g2,List.filter_map,List.filter_map,bS,bS]
  have nd:((Gq.map fR).map (·.1)).Nodup:=by rw[g1,wG];exact uu _
  rw[List.filter_congr (q:=chg (Gq.map fR) ∘ fR) λt ht=>?_]
  ·exact lu λt _=>rfl
  ·show OJ s2 (Gq.map fR) (tT t)=chg (Gq.map fR) (fR t)
   unfold OJ chg
   rw[show aC s2 20 (tT t)=some (dP (fR t)) from uz (n:=17) (t2 t ht)]
   dsimp only
   rw[KH]
   have:=wL (p:=fR t) nd
   by_cases c:fR t∈Gq.map fR
   ·rw[decide_eq_true c,decide_eq_true (this.mp c)];rfl
   ·rw[decide_eq_false c,decide_eq_false (λz=>c (this.mpr z))];rfl
 rw[show((some l2,OK.map tT):Wk).2=OK.map tT from rfl,ef] at cp
 refine⟨s2.length,_,?_,bZ,G1.trans (G2.trans Gr.push)⟩
 refine fW (n:=5) (g:=fP) ?_
 unfold fP
 simp[r1,r2,gS (aT k2),cp]
end
theorem Ab{F:List Wv->Hs->Re Wv}{x0 x1 x2 x3 x4:Wv}{st:Hs}:n9 5 F [x0,x1,x2,x3,x4] st=F [x0,x1,x2,x3,x4] st:=rfl
theorem uA{F:List Wv->Hs->Re Wv}{x0 x1 x2 x3 x4 x5:Wv}{st:Hs}:n9 6 F [x0,x1,x2,x3,x4,x5] st=F [x0,x1,x2,x3,x4,x5] st:=rfl
section
variable {st st':Hs} {x0 x1 x2 x3 x4:Wv}
theorem Ac(h:cR [x0,x1,x2,x3,.str "sum",x4] st= .err "BadTable" st'):aF [x0,x1,x2,x3,x4] st= .ok (.str "table") st':=by
 have tc:yb.lookup (("BadTable":PySem.Str),("SheetError":PySem.Str))=some true:=by decide+kernel
 have i1:∀st:Hs,gO jr hG [.kI "BadTable",.cls "BadTable"] st= .ok (.bl true) st:=λ_=>rfl
 have i2:∀st:Hs,gO jr hG [.kI "BadTable",.cls "NoColumn"] st= .ok (.bl false) st:=λ_=>rfl
 have eb:b_ [some x0,some x1,some x2,some x3,some x4,some (.str ""),none] st= .err "BadTable" [some x0,some x1,some x2,some x3,some x4,some (.str ""),none] st':=by
  unfold b_
  simp[uA,h]
 have su:bJ [some x0,some x1,some x2,some x3,some x4,some (.str ""),some (.kI "BadTable")] st'= .nx [some x0,some x1,some x2,some x3,some x4,some (.str "table"),some (.kI "BadTable")] st':=by
  unfold bJ
  simp[i1,i2]
 have tr:=vW (cat:=λy=>yb.lookup (y,("SheetError":PySem.Str))) (i:=6) (gs:=bJ) (ρ:=[some x0,some x1,some x2,some x3,some x4,some (.str ""),none]) (st:=st') tc su
 refine fW (n:=7) (g:=cF) ?_
 unfold cF
 simp[eb,tr]
theorem Ad(h:cR [x0,x1,x2,x3,.str "sum",x4] st= .err "NoColumn" st'):aF [x0,x1,x2,x3,x4] st= .ok (.str "column") st':=by
 have tc:yb.lookup (("NoColumn":PySem.Str),("SheetError":PySem.Str))=some true:=by decide+kernel
 have i1:∀st:Hs,gO jr hG [.kI "NoColumn",.cls "BadTable"] st= .ok (.bl false) st:=λ_=>rfl
 have i2:∀st:Hs,gO jr hG [.kI "NoColumn",.cls "NoColumn"] st= .ok (.bl true) st:=λ_=>rfl
 have eb:b_ [some x0,some x1,some x2,some x3,some x4,some (.str ""),none] st= .err "NoColumn" [some x0,some x1,some x2,some x3,some x4,some (.str ""),none] st':=by
  unfold b_
  simp[uA,h]
 have su:bJ [some x0,some x1,some x2,some x3,some x4,some (.str ""),some (.kI "NoColumn")] st'= .nx [some x0,some x1,some x2,some x3,some x4,some (.str "column"),some (.kI "NoColumn")] st':=by
  unfold bJ
  simp[i1,i2]
 have tr:=vW (cat:=λy=>yb.lookup (y,("SheetError":PySem.Str))) (i:=6) (gs:=bJ) (ρ:=[some x0,some x1,some x2,some x3,some x4,some (.str ""),none]) (st:=st') tc su
 refine fW (n:=7) (g:=cF) ?_
 unfold cF
 simp[eb,tr]
end
theorem wM{n:Nat}:∀{ws:List Wv},(∀w∈ws,∃d:PyData,(∀st:Hs,aC st n w=some d)/\aV d d=true)->∃ds:List PyData,(∀st:Hs,c_ (aC st n) ws=some ds)/\b6 ds ds=true
 | [],_=>⟨[],λ_=>rfl,by simp[b6]⟩
 | w::r,h=>by
  obtain⟨d,h1,h2⟩:=h w bp
  obtain⟨ds,h3,h4⟩:=wM (ws:=r) λw hw=>h w (aX _ hw)
  refine⟨d::ds,λst=>?_,by simp[b6,h2,h4]⟩
  unfold c_
  rw[h1,h3]
theorem uB{st:Hs}{a b:Nat}{ws:List Wv}(h:∀w∈ws,∃d:PyData,(∀st:Hs,aC st 19 w=some d)/\aV d d=true)(ha:st[a]? =some (.lst ws))(hb:st[b]? =some (.lst ws)):uE (.ref a) (.ref b) st= .ok (.bl false) st:=by
 obtain⟨ds,h1,h2⟩:=wM h
 refine FP (d:=.list ds) ?_ ?_ (by simp[aV,h2])
 ·rw[mG (n:=19) (aT ha),h1];rfl
 ·rw[mG (n:=19) (aT hb),h1];rfl
theorem Ga(a:Wo){n:Nat}:∃d:PyData,(∀st:Hs,aC st (n+1) a.w=some d)/\aV d d=true:=by
 cases a with
 | aL=>exact⟨.none,λ_=>rfl,by simp[aV]⟩
 | int i=>exact⟨.int i,λ_=>rfl,by simp[aV]⟩
 | str x=>exact⟨.str x,λ_=>rfl,by simp[aV]⟩
theorem KI(i:Int){n:Nat}:∃d:PyData,(∀st:Hs,aC st (n+1) (.int i)=some d)/\aV d d=true:=Ga (.int i)
theorem Ae(x:PySem.Str){n:Nat}:∃d:PyData,(∀st:Hs,aC st (n+2) (.tup [.str "fault",.str x])=some d)/\aV d d=true:=⟨.tuple [.str "fault",.str x],λ_=>rfl,by simp[aV,b6]⟩
theorem Gb(i:Int){n:Nat}:∃d:PyData,(∀st:Hs,aC st (n+2) (GA.bnd i)=some d)/\aV d d=true:=by
 unfold GA.bnd
 by_cases c:GA.Rg < (if i < 0 then -i else i)
 ·rw[if_pos c];exact Ae _
 ·rw[if_neg c];exact KI _
theorem Jy(wd:GA.f_)(ws:List Wo){n:Nat}:∃d:PyData,(∀st:Hs,aC st (n+2) (lI wd ws)=some d)/\aV d d=true:=by
 unfold lI GA.due
 split
 ·exact Ae _
 ·split
  ·exact Gb _
  ·exact KI _
  ·split
   ·exact Ae _
   ·exact Gb _
  ·split
   ·exact Ae _
   ·exact Gb _
theorem Jz(wd:GA.f_)(p:Wp):∃d:PyData,(∀st:Hs,aC st 19 (kN wd p)=some d)/\aV d d=true:=by
 obtain⟨d,h1,h2⟩:=Ga p.1 (n:=17)
 obtain⟨e,h3,h4⟩:=Jy wd p.2 (n:=16)
 refine⟨.tuple [d,e],λst=>?_,by simp[aV,b6,h2,h4]⟩
 show(c_ (aC st 18) [p.1.w,lI wd p.2]).map j6=_
 unfold c_
 rw[h1]
 unfold c_
 rw[h3]
 rfl
section
variable {hs:List PySem.Str} {rows bW:List (List Wo)} {st:Hs}
theorem Xi{l:Nat}{ws:List Wv}(h:st[l]? =some (.lst ws)):gO jr hG [.ref l,.ty "list"] st= .ok (.bl true) st:=N4 (by decide) (by show(aj st l).map (λ_=>"list" == "list")=_;rw[aT h];rfl) (λc z=>by cases z)
theorem Y'{us:List Wv}:gO jr hG [.tup us,.ty "tuple"] st= .ok (.bl true) st:=N4 (by decide) rfl (λc z=>by cases z)
theorem Oh{l:Nat}{ws:List Wv}{st:Hs}(h:aj st l=some ws):eB [.ref l] st= .ok (.ref st.length) (st++[.lst ws]):=by
 have e:tW [.ref l] st= .ok (.ref st.length) (st++[.lst ws]):=by
  show(match aj st l with | some ws=>Re.ok (Wv.ref st.length) (st++[Ob.lst ws]) | none=> .bad)=_
  rw[h]
 unfold eB
 unfold aj at h
 cases q:st[l]? with
 | none=>rw[q] at h;cases h
 | some o=>
  rw[q] at h
  cases o with
  | lst zs=>first | (simp only[q];exact e) | exact e
  | tw zs=>first | (simp only[q];exact e) | exact e
  | _=>cases h
abbrev SW(hs:List PySem.Str)(rows:List (List Wo))(i j:Nat)(wd:GA.f_):List Wv:=(iR (col rows i) (col rows j)).map (kN wd)
theorem Gd{i j:Nat}{wd:GA.f_}:∀w∈SW hs rows i j wd,∃d:PyData,(∀st:Hs,aC st 19 w=some d)/\aV d d=true:=λw hw=>by
 obtain⟨p,_,rfl⟩:=List.mem_map.mp hw
 exact Jz wd p
theorem JB{ps:List Wp}:∀w∈ps.map (λp=>p.1.w),∃d:PyData,(∀st:Hs,aC st 19 w=some d)/\aV d d=true:=λw hw=>by
 obtain⟨p,_,rfl⟩:=List.mem_map.mp hw
 exact Ga p.1
theorem Ge(T:Tb hs rows){i j ls:Nat}{h h2:PySem.Str}{wd:GA.f_}{c:Int}{o0 o2 o3 o9 KD KG VC VD VE:Option Wv}(e:hs[i]? =some h)(e2:hs[j]? =some h2)(hls:st[ls]? =some (.lst (SW hs rows i j wd))) :
  ∃(rows':List (List Wo))(ls':Nat)(p9 oV nE:Option Wv)(st':Hs),iQ [o0,some (aB hs rows),o2,o3,some (.str h),some (.str h2),some (.str wd.s),some (.ref ls),some (.int c),o9,KD,KG,VC,VD,VE] st= .nx [o0,some (aB hs rows'),o2,o3,some (.str h),some (.str h2),some (.str wd.s),some (.ref ls'),some (.int c),p9,oV,nE,VC,VD,VE] st'/\
   Tb hs rows'/\st'[ls']? =some (.lst (SW hs rows' i j wd))/\Gr st st':=by
 obtain⟨bW,s1,r1,T2,G1⟩:=changed (st:=st) T (c:=c)
 have g1:=G1.get hls
 have c1:=Oh (aT g1)
 obtain⟨s2,hs2⟩:∃s2,s1++[Ob.lst (SW hs rows i j wd)]=s2:=⟨_,rfl⟩
 rw[hs2] at c1
 have G2:Gr s1 s2:=by rw[<-hs2];exact Gr.push
 have k2:s2[s1.length]? =some (.lst (SW hs rows i j wd)):=by rw[<-hs2];exact bZ
 obtain⟨l8,l9,s3,r3,k8,k9,b8,b9,G3⟩:=Jw (st:=s2) T T2 e e2 k2
 have n3:=uB (st:=s3) Gd (G3.get k2) (G3.get (G2.get g1))
 have i8:∀st:Hs,fh (.tup [.ref l8,.ref l9]) (.int 0) st= .ok (.ref l8) st:=λst=>x_ rfl
 have i9:∀st:Hs,fh (.tup [.ref l8,.ref l9]) (.int 1) st= .ok (.ref l9) st:=λst=>x_ rfl
 have len:cP [.tup [.ref l8,.ref l9]] s3= .ok (.int 2) s3:=rfl
 obtain⟨l5,s4,r4,k4,b4,G4⟩:=uw (st:=s3) (wd:=wd) T2 e e2
 have n4:=uB (st:=s4) (Gd (hs:=hs)) (G4.get k8) k4
 obtain⟨l6,s5,r5,k5,G5⟩:=yw (st:=s4) T T2 e e2
 have n5:=uB (st:=s5) JB ((G4.trans G5).get k9) k5
 have Za:=Xi k8
 have Zb:=Xi (G4.get k9)
 refine⟨bW,l8,some (aB hs bW),some (.ref s1.length),some (.tup [.ref l8,.ref l9]),s5,?_,T2,(G4.trans G5).get k8,G1.trans (G2.trans (G3.trans (G4.trans G5)))⟩
 unfold iQ
 simp[r1,c1,uA,r3,Y',len,n3,i8,Za,r4,n4,i9,Zb,r5,n5]
end
theorem wN:∀a b:List PySem.Str,b6 (a.map jg) (b.map jg)=decide (a=b)
 | [],[]=>by simp[b6]
 | [],_::_=>by simp[b6]
 | _::_,[]=>by simp[b6]
 | i::a,j::b=>by
  have ih:=wN a b
  simp only[aM,b6,ih]
  rw[zO]
  simp[aV]
theorem Gf{st:Hs}{n:Nat}:∀l:List PySem.Str,c_ (aC st (n+1)) (l.map Wv.str)=some (l.map jg)
 | []=>rfl
 | a::r=>by rw[aM];unfold c_;rw[Gf r];rfl
theorem KJ{st:Hs}{a b:List PySem.Str}(h:a≠b):uE (.tup (a.map Wv.str)) (.tup (b.map Wv.str)) st= .ok (.bl true) st:=by
 have d:∀l:List PySem.Str,aC st 20 (.tup (l.map Wv.str))=some (.tuple (l.map jg)):=λl=>by
  show(c_ (aC st 19) (l.map Wv.str)).map j6=_
  rw[Gf]
  rfl
 unfold uE
 rw[d,d]
 dsimp only
 congr 2
 simp[aV,wN,h]
theorem JC{st:Hs}{l k:Nat}(h:aj st l=some [.str "sum",.str "count",.str "least",.str "greatest"])(hk:k < 4):∃wd:GA.f_,fh (.ref l) (.int (k:Nat)) st= .ok (.str wd.s) st:=by
 have:k=0\/k=1\/k=2\/k=3:=by omega
 rcases this with rfl | rfl | rfl | rfl
 ·exact⟨.sum,vV h rfl⟩
 ·exact⟨.count,vV h rfl⟩
 ·exact⟨.least,vV h rfl⟩
 ·exact⟨.qO,vV h rfl⟩
theorem KL{st:Hs}{a b:List Wv}(h:a.length+b.length<=lim):dO (.tup a) (.tup b) st= .ok (.tup (a++b)) st:=if_pos h
section
variable {hs:List PySem.Str} {rows:List (List Wo)} {st:Hs}
theorem Af{i:Nat}(hi:i < hs.length):∃h,hs[i]? =some h/\∀st:Hs,fh (.tup (hs.map Wv.str)) (.int (i:Nat)) st= .ok (.str h) st:=by
 refine⟨hs[i],bR hi,λst=>x_ (L2.j0 ?_)⟩
 rw[gM,bR hi]
 rfl
def eI(rows:List (List Wo)):List (List Wo):=rows.map λr=>r++[.int 1]
theorem Tb.ext(T:Tb hs rows)(h4:hs.length<=4)(hz:("zz":PySem.Str)∉hs):Tb (hs++[("zz":PySem.Str)]) (eI rows):=by
 refine⟨?_,by simp,by simp;omega,λh hm=>?_,by unfold eI;rw[aA];exact T.rw',λr hr=>?_,λr hr w hw=>?_⟩
 ·rw[mI]
  exact⟨T.nd,by simp,λx hx y hy e=>by rw[List.mem_singleton.mp hy] at e;exact hz (e ▸ hx)⟩
 ·rcases List.mem_append.mp hm with z | z
  ·exact T.of h z
  ·simp at z;simp[z]
 ·obtain⟨q,hq,rfl⟩:=List.mem_map.mp hr
  simp[T.wd q hq]
 ·obtain⟨q,hq,rfl⟩:=List.mem_map.mp hr
  rcases List.mem_append.mp hw with z | z
  ·exact T.ok q hq w z
  ·simp at z;rw[z];rfl
theorem uC(T:Tb hs rows){ρ:bA}:eN [] gK eG ρ (none,rows.map a7) st= .ok (.ref st.length) (st++[.lst ((eI rows).map a7)]):=by
 have cp:=cD (cs:=[]) (gt:=gK) (ge:=eG) (ρ:=ρ) (w:=(none,rows.map a7)) (st:=st) (t:=λ_=>true) (f:=λv=>match v with | .tup us=> .tup (us++[.int 1]) | _=> .aL) trivial
  (λv _ acc=>rfl) (λv hv _ acc=>by
   obtain⟨r,hr,rfl⟩:=List.mem_map.mp hv
   have ad:=KL (st:=st++[.lst acc]) (a:=r.map Wo.w) (b:=[.int 1]) (by rw[aA,T.wd r hr];have:=T.hi;unfold lim;simp;omega)
   show eG [some (.tup (r.map Wo.w))] (st++[.lst acc])=_
   unfold eG
   simp only[n8,kX,jf,kW,aR,vU,FD,uf,e_c,oR,zG,FE,ad,lA]
   rfl)
  (by show(rows.map a7).length < lim;rw[aA];have:=T.rw';unfold lim;omega)
 rw[show((none,rows.map a7):Wk).2=rows.map a7 from rfl,List.filter_eq_self.mpr (λ_ _=>rfl),bS] at cp
 have ef:rows.map ((λv=>match v with | .tup us=>Wv.tup (us++[.int 1]) | _=> .aL) ∘ a7)=(eI rows).map a7:=by
  unfold eI
  rw[bS]
  refine lu λr _=>?_
  show Wv.tup (r.map Wo.w++[.int 1])=a7 (r++[.int 1])
  unfold a7
  rw[qI]
  rfl
 rw[ef] at cp
 exact cp
end
theorem law_true(ns:List Int)(hn:ns.length<=63):∃st,F_law [.ref 0] [.tw ns]= .ok (.bl true) st:=by
 obtain⟨hs,rows,s1,e1,T,⟨h4,hz⟩,G1⟩:=table (st:=[.tw ns]) (ns:=ns) (at':=0) (most:=10) rfl hn (by omega) (by omega)
 have Gj:eW [.ref 0,.int 0,.int 10] [.tw ns]= .ok (aB hs rows) s1:=e1
 have l0:aj s1 0=some (ns.map Wv.int):=G1.lst (st:=[.tw ns]) rfl
 have su:=FK l0
 have mx:=mix (c:=ns.sum) (k:=9) (st:=s1) (by omega) (by omega)
 obtain⟨n,hN⟩:∃n,wj ns.sum 9=n:=⟨_,rfl⟩
 rw[hN] at mx
 have hl:=T.lo
 obtain⟨i,mi,li⟩:=n_ (x:=n) (k:=hs.length) (by omega)
 obtain⟨h,eh,ih⟩:=Af li
 have f5:=iA (st:=s1) (i:=n) (j:=5) ⟨by decide,by decide⟩
 obtain⟨j,mj,lj⟩:=n_ (x:=n.fdiv 5) (k:=hs.length) (by omega)
 obtain⟨h2,VF,ih2⟩:=Af lj
 obtain⟨s2,hs2⟩:∃s2,s1++[Ob.lst [.str "sum",.str "count",.str "least",.str "greatest"]]=s2:=⟨_,rfl⟩
 have G2:Gr s1 s2:=by rw[<-hs2];exact Gr.push
 have k2:aj s2 s1.length=some [.str "sum",.str "count",.str "least",.str "greatest"]:=by rw[<-hs2];exact aD
 have Zc:=iA (st:=s2) (i:=n) (j:=25) ⟨by decide,by decide⟩
 obtain⟨k,mk,lk⟩:=n_ (x:=n.fdiv 25) (k:=4) (by omega)
 have mk':oMod (.int (n.fdiv 25)) (.int 4) s2= .ok (.int (k:Nat)) s2:=mk s2
 obtain⟨wd,iw⟩:=JC k2 lk
 obtain⟨ls,s3,r3,k3,b3,G3⟩:=uw (st:=s2) (wd:=wd) T eh VF
 have l3:=(G2.trans G3).lst l0
 have sl:=FG (lo:=some 2) (hi:=some 10) l3
 obtain⟨ys,ey,ly⟩:=sC (f:=Wv.int) (xs:=ns) (lo:=some 2) (hi:=some 10)
 rw[ey] at sl
 obtain⟨s4,wk⟩:∃s4,s3++[Ob.lst (ys.map Wv.int)]=s4:=⟨_,rfl⟩
 rw[wk] at sl
 have G4:Gr s3 s4:=by rw[<-wk];exact Gr.push
 have k4:aj s4 s3.length=some (ys.map Wv.int):=by rw[<-wk];exact aD
 obtain⟨s5,N9⟩:∃s5,s4++[Ob.lst [.int n]]=s5:=⟨_,rfl⟩
 have G5:Gr s4 s5:=by rw[<-N9];exact Gr.push
 have k5:aj s5 s4.length=some [.int n]:=by rw[<-N9];exact aD
 have ad:=add_l (G5.lst k4) k5 (by rw[aA];unfold lim;simp;omega)
 have ea:ys.map Wv.int++[.int n]=(ys++[n]).map Wv.int:=by simp
 rw[ea] at ad
 obtain⟨s6,FX⟩:∃s6,s5++[Ob.lst ((ys++[n]).map Wv.int)]=s6:=⟨_,rfl⟩
 rw[FX] at ad
 have G6:Gr s5 s6:=by rw[<-FX];exact Gr.push
 have k6:aj s6 s5.length=some ((ys++[n]).map Wv.int):=by rw[<-FX];exact aD
 have Zd:=G4.trans (G5.trans G6)
 obtain⟨ρ7,s7,e7,⟨rows',ls',p8,p9,oV,nE,rfl,T',k7,G7⟩,_⟩:=vX (i:=8) (gb:=iQ) (l:=s5.length) (all:=(ys++[n]).map Wv.int) Wv.int (ys++[n])
  (λ_ ρ st'=>∃(rows':List (List Wo))(ls':Nat)(p8 p9 oV nE:Option Wv),ρ=[some (.ref 0),some (aB hs rows'),some (.int n),some (.tup (hs.map Wv.str)),some (.str h),some (.str h2),some (.str wd.s),some (.ref ls'),p8,p9,oV,nE,none,none,none]/\Tb hs rows'/\st'[ls']? =some (.lst (SW hs rows' i j wd))/\Gr s6 st')
  (λc pre post ρ st' hf hP hl=>by
   obtain⟨rows',ls',p8,p9,oV,nE,rfl,T',k7,G7⟩:=hP
   obtain⟨bW,Ze,q9,Zf,Zg,s8,e8,T2,k8,G8⟩:=Ge (c:=c) (o0:=some (.ref 0)) (o2:=some (.int n)) (o3:=some (.tup (hs.map Wv.str))) (o9:=p9) (KD:=oV) (KG:=nE) (VC:=none) (VD:=none) (VE:=none) T' eh VF k7
   exact⟨_,s8,e8,G8.lst hl,bW,Ze,some (.int c),q9,Zf,Zg,rfl,T2,k8,G7.trans G8⟩)
  (ys++[n]) [] [some (.ref 0),some (aB hs rows),some (.int n),some (.tup (hs.map Wv.str)),some (.str h),some (.str h2),some (.str wd.s),some (.ref ls),none,none,none,none,none,none,none] s6 rfl ⟨rows,ls,none,none,none,none,rfl,T,Zd.get k3,Gr.refl⟩ k6
 -- the SN one
 have ah:=KL (st:=s7) (a:=hs.map Wv.str) (b:=[.str "zz"]) (by rw[aA];unfold lim;simp;omega)
 have eh':hs.map Wv.str++[.str "zz"]=(hs++[("zz":PySem.Str)]).map Wv.str:=by simp
 rw[eh'] at ah
 obtain⟨s8,OH⟩:∃s8,s7++[Ob.lst ((eI rows').map a7)]=s8:=⟨_,rfl⟩
 have cs:=λρ=>uC (st:=s7) T' (ρ:=ρ)
 rw[OH] at cs
 have k8:aj s8 s7.length=some ((eI rows').map a7):=by rw[<-OH];exact aD
 have t8:=qJ k8
 have TS:=T'.ext h4 hz
 have et:Wv.tup [.tup ((hs++[("zz":PySem.Str)]).map Wv.str),.tup ((eI rows').map a7)]=aB (hs++[("zz":PySem.Str)]) (eI rows'):=rfl
 have es:∀{i:Nat}{h:PySem.Str},hs[i]? =some h->(hs++[("zz":PySem.Str)])[i]? =some h:=λ{i h} e=>by
  rw[cu (List.getElem?_eq_some_iff.mp e).1]
  exact e
 obtain⟨KN,s9,r9,k9,_,G9⟩:=uw (st:=s8) (wd:=.sum) TS (es eh) (es VF)
 have nh:hs≠hs++[("zz":PySem.Str)]:=λz=>by have:=congrArg gL z;simp at this
 have nq:("q":PySem.Str)∉hs:=λc=>by
  rcases T.of _ c with z | z | z | z | z<;>exact absurd z (by decide)
 have x1:=Ac (F8 (rows:=rows') (bW:=eI rows') (x:=.ref ls') (h:="q") (h2:="q") (w:="sum") (KJ (st:=s9) nh))
 have x2:=Ac (F8 (rows:=eI rows') (bW:=rows') (x:=.ref KN) (h:=h) (h2:=h2) (w:="sum") (KJ (st:=s9) (aW nh)))
 obtain⟨tU,Oi⟩:∃tU,s9++[Ob.lst [.str "table",.str "table"]]=tU:=⟨_,rfl⟩
 have Xb:Gr s9 tU:=by rw[<-Oi];exact Gr.push
 have SI:aj tU s9.length=some [.str "table",.str "table"]:=by rw[<-Oi];exact aD
 obtain⟨OC,y1,Zh⟩:=wI (st:=tU) (bW:=rows') (w:="sum") (x:=.ref ls') (h2:=h2) T' (.inl nq)
 obtain⟨s12,y2,Zi⟩:=wI (st:=OC) (bW:=rows') (w:="sum") (x:=.ref ls') (h:=h) (h2:="q") T' (.inr ⟨⟨i,eh⟩,nq⟩)
 have x3:=Ad y1
 have x4:=Ad y2
 obtain⟨Gs,Oj⟩:∃Gs,s12++[Ob.lst [.str "column",.str "column"]]=Gs:=⟨_,rfl⟩
 have Zj:Gr s12 Gs:=by rw[<-Oj];exact Gr.push
 have SH:aj Gs s12.length=some [.str "column",.str "column"]:=by rw[<-Oj];exact aD
 have a2:=add_l ((Zh.trans (Zi.trans Zj)).lst SI) SH (by unfold lim;simp)
 obtain⟨Gu,Rz⟩:∃Gu,Gs++[Ob.lst ([.str "table",.str "table"]++[.str "column",.str "column"])]=Gu:=⟨_,rfl⟩
 rw[Rz] at a2
 have Zk:aj Gu Gs.length=some [.str "table",.str "table",.str "column",.str "column"]:=by rw[<-Rz];exact aD
 obtain⟨Gg,Ol⟩:∃Gg,Gu++[Ob.lst [.str "table",.str "table",.str "column",.str "column"]]=Gg:=⟨_,rfl⟩
 have Zl:aj Gg Gu.length=some [.str "table",.str "table",.str "column",.str "column"]:=by rw[<-Ol];exact aD
 have Zm:Gr Gu Gg:=by rw[<-Ol];exact Gr.push
 have fin:oEq (.ref Gs.length) (.ref Gu.length) Gg= .ok (.bl true) Gg:=by
  have d1:aC Gg 20 (.ref Gs.length)=some (.list [.str "table",.str "table",.str "column",.str "column"]):=by rw[mG (n:=19) (Zm.lst Zk)];rfl
  have d2:aC Gg 20 (.ref Gu.length)=some (.list [.str "table",.str "table",.str "column",.str "column"]):=by rw[mG (n:=19) Zl];rfl
  unfold oEq
  rw[d1,d2]
  rfl
 refine⟨Gg,fW (n:=15) (g:=zN) ?_⟩
 have fo:xt 8 (aq dO (du (af 0) (f' (gC (.int 2))) (f' (gC (.int 10)))) (eu (ae (af 2) ao))) iQ [some (.ref 0),some (aB hs rows),some (.int n),some (.tup (hs.map Wv.str)),some (.str h),some (.str h2),some (.str wd.s),some (.ref ls),none,none,none,none,none,none,none] s3= .nx [some (.ref 0),some (aB hs rows'),some (.int n),some (.tup (hs.map Wv.str)),some (.str h),some (.str h2),some (.str wd.s),some (.ref ls'),p8,p9,oV,nE,none,none,none] s7:=by
  simp only[QZ,n8,Jo,kX,qN,jf,kW,aR,QV,NV,e_c,Jp,sl,vU,QT,uf,oR,zG,NR,N9,ad,lA,iz,NX k6,e7]
 have Zn:aY 12 (eJ (ae (aq dO (af 3) (eJ (ae (gC (.str "zz")) ao))) (ae (au eO (ae (cC [] (bM (aq fh (af 1) (gC (.int 1)))) gK eG) ao)) ao))) [some (.ref 0),some (aB hs rows'),some (.int n),some (.tup (hs.map Wv.str)),some (.str h),some (.str h2),some (.str wd.s),some (.ref ls'),p8,p9,oV,nE,none,none,none] s7= .nx [some (.ref 0),some (aB hs rows'),some (.int n),some (.tup (hs.map Wv.str)),some (.str h),some (.str h2),some (.str wd.s),some (.ref ls'),p8,p9,oV,nE,some (aB (hs++[("zz":PySem.Str)]) (eI rows')),none,none] s8:=by
  have q:cC [] (bM (aq fh (af 1) (gC (.int 1)))) gK eG [some (.ref 0),some (aB hs rows'),some (.int n),some (.tup (hs.map Wv.str)),some (.str h),some (.str h2),some (.str wd.s),some (.ref ls'),p8,p9,oV,nE,none,none,none] s7= .ok (.ref s7.length) s8:=by
   unfold cC bM
   simp only[n8,kX,qN,jf,kW,aR,vU,e_c,Vi,lA,NY]
   exact cs _
  simp only[QP,FD,uf,n8,kX,qN,jf,kW,aR,vU,e_c,oR,zG,FE,ah,lA,Jn,q,t8,FF,iz,et]
  rfl
 have Zo:dz [aB (hs++[("zz":PySem.Str)]) (eI rows'),.str h,.str "sum",.str h2] s8= .ok (.ref KN) s9:=r9
 have Zp:aY 13 (aP 4 dz (ae (af 12) (ae (af 4) (ae (gC (.str "sum")) (ae (af 5) ao))))) [some (.ref 0),some (aB hs rows'),some (.int n),some (.tup (hs.map Wv.str)),some (.str h),some (.str h2),some (.str wd.s),some (.ref ls'),p8,p9,oV,nE,some (aB (hs++[("zz":PySem.Str)]) (eI rows')),none,none] s8= .nx [some (.ref 0),some (aB hs rows'),some (.int n),some (.tup (hs.map Wv.str)),some (.str h),some (.str h2),some (.str wd.s),some (.ref ls'),p8,p9,oV,nE,some (aB (hs++[("zz":PySem.Str)]) (eI rows')),some (.ref KN),none] s9:=by
  simp[Zo]
 have Zq:aY 14 (eu (ae (aP 5 aF (ae (af 1) (ae (af 7) (ae (af 12) (ae (gC (.str "q")) (ae (gC (.str "q")) ao)))))) (ae (aP 5 aF (ae (af 12) (ae (af 13) (ae (af 1) (ae (af 4) (ae (af 5) ao)))))) ao))) [some (.ref 0),some (aB hs rows'),some (.int n),some (.tup (hs.map Wv.str)),some (.str h),some (.str h2),some (.str wd.s),some (.ref ls'),p8,p9,oV,nE,some (aB (hs++[("zz":PySem.Str)]) (eI rows')),some (.ref KN),none] s9= .nx [some (.ref 0),some (aB hs rows'),some (.int n),some (.tup (hs.map Wv.str)),some (.str h),some (.str h2),some (.str wd.s),some (.ref ls'),p8,p9,oV,nE,some (aB (hs++[("zz":PySem.Str)]) (eI rows')),some (.ref KN),some (.ref s9.length)] tU:=by
  simp[Ab,x1,x2,Oi]
 have Zr:aY 14 (aq dO (af 14) (eu (ae (aP 5 aF (ae (af 1) (ae (af 7) (ae (af 1) (ae (gC (.str "q")) (ae (af 5) ao)))))) (ae (aP 5 aF (ae (af 1) (ae (af 7) (ae (af 1) (ae (af 4) (ae (gC (.str "q")) ao)))))) ao)))) [some (.ref 0),some (aB hs rows'),some (.int n),some (.tup (hs.map Wv.str)),some (.str h),some (.str h2),some (.str wd.s),some (.ref ls'),p8,p9,oV,nE,some (aB (hs++[("zz":PySem.Str)]) (eI rows')),some (.ref KN),some (.ref s9.length)] tU= .nx [some (.ref 0),some (aB hs rows'),some (.int n),some (.tup (hs.map Wv.str)),some (.str h),some (.str h2),some (.str wd.s),some (.ref ls'),p8,p9,oV,nE,some (aB (hs++[("zz":PySem.Str)]) (eI rows')),some (.ref KN),some (.ref Gs.length)] Gu:=by
  simp[Ab,x3,x4,Oj,a2]
 have Zs:cY (aq oEq (af 14) (eu (ae (gC (.str "table")) (ae (gC (.str "table")) (ae (gC (.str "column")) (ae (gC (.str "column")) ao)))))) [some (.ref 0),some (aB hs rows'),some (.int n),some (.tup (hs.map Wv.str)),some (.str h),some (.str h2),some (.str wd.s),some (.ref ls'),p8,p9,oV,nE,some (aB (hs++[("zz":PySem.Str)]) (eI rows')),some (.ref KN),some (.ref Gs.length)] Gu= .rt (.bl true) Gg:=by
  simp[Ol,fin]
 obtain⟨gr,hgr⟩:∃gr,aH (aY 12 (eJ (ae (aq dO (af 3) (eJ (ae (gC (.str "zz")) ao))) (ae (au eO (ae (cC [] (bM (aq fh (af 1) (gC (.int 1)))) gK eG) ao)) ao)))) (aH (aY 13 (aP 4 dz (ae (af 12) (ae (af 4) (ae (gC (.str "sum")) (ae (af 5) ao)))))) (aH (aY 14 (eu (ae (aP 5 aF (ae (af 1) (ae (af 7) (ae (af 12) (ae (gC (.str "q")) (ae (gC (.str "q")) ao)))))) (ae (aP 5 aF (ae (af 12) (ae (af 13) (ae (af 1) (ae (af 4) (ae (af 5) ao)))))) ao)))) (aH (aY 14 (aq dO (af 14) (eu (ae (aP 5 aF (ae (af 1) (ae (af 7) (ae (af 1) (ae (gC (.str "q")) (ae (af 5) ao)))))) (ae (aP 5 aF (ae (af 1) (ae (af 7) (ae (af 1) (ae (af 4) (ae (gC (.str "q")) ao)))))) ao))))) (cY (aq oEq (af 14) (eu (ae (gC (.str "table")) (ae (gC (.str "table")) (ae (gC (.str "column")) (ae (gC (.str "column")) ao))))))))))=gr:=⟨_,rfl⟩
 have fr:gr [some (.ref 0),some (aB hs rows'),some (.int n),some (.tup (hs.map Wv.str)),some (.str h),some (.str h2),some (.str wd.s),some (.ref ls'),p8,p9,oV,nE,none,none,none] s7= .rt (.bl true) Gg:=by
  rw[<-hgr,eS,Zn,fk,eS,Zp,fk,eS,Zq,fk,eS,Zr,fk]
  exact Zs
 obtain⟨gf,hgf⟩:∃gf,xt 8 (aq dO (du (af 0) (f' (gC (.int 2))) (f' (gC (.int 10)))) (eu (ae (af 2) ao))) iQ=gf:=⟨_,rfl⟩
 rw[hgf] at fo
 unfold zN
 rw[hgf,hgr]
 simp[Gj,su,mx,Jr,yv,mi,ih,f5,mj,ih2,hs2,Zc,mk',iw,r3,fo,fr]
end K76
namespace PySem.W.Fast
def tw14853173591858422787:=()
def tw6166832939428180960:=()
def tw928358217133321926:=()
def tw273496151769517834:=()
def tw2228359589644231796:=()
def tw9469442613093427506:=()
def tw6059292744759887676:=()
def tw17765036063863614080:=()
def tw375439850951039928:=()
def tw6336572983700214533:=()
def tw154502617241712581:=()
def tw4893364635995558368:=()
def tw13887046009534234916:=()
def tw1400203595968943614:=()
def tw12035888850362628998:=()
def tw190923023215584578:=()
def tw17457795738967626209:=()
def tw1199455310634488989:=()
def tw4217400491701403358:=()
def tw15825356372575192314:=()
def tw7708693381870559263:=()
def tw10885555334581963865:=()
def tw4252348759642170086:=()
def tw11666264326095601868:=()
def tw9031802520546841240:=()
def tw6132392473740210160:=()
def tw8708320798695370974:=()
def tw10952033493154131728:=()
def tw2418458494488009787:=()
def tw14721073709053894063:=()
def tw17561795192604250821:=()
def tw2654034788442404041:=()
def tw15389848859395997689:=()
def tw11015956154196502481:=()
def tw10851374480546840610:=()
def tw6010928051975265659:=()
def tw5156290318728863627:=()
def tw11281035488184446031:=()
def tw10011333090641608467:=()
def tw1094477244926556852:=()
def tw10957486589601541405:=()
def tw1294868222011749010:=()
def tw1985505704090738871:=()
def tw15443466999679385144:=()
def tw9846060363176450935:=()
def tw16766627811461283093:=()
def tw1991062477193418916:=()
def tw7836055635228213055:=()
def tw15379050969972336956:=()
def tw11354321379162680114:=()
def tw2236587797806716444:=()
def tw6433318340557424749:=()
def tw13252848685705082408:=()
def tw1303701079472467465:=()
def tw12160522321860643:=()
def tw18152140338326470685:=()
def tw6601212151032920944:=()
def tw18249767093867449268:=()
def tw10948753736315082425:=()
def tw8876565988656359067:=()
def tw4683969130218416429:=()
def tw1931781573728996201:=()
def tw15775924288247595063:=()
def tw17996990934052429921:=()
def tw5870705934740651365:=()
def tw15577170078465230291:=()
def tw7176046964359204382:=()
def tw6921932065650475107:=()
def tw6341412062700286133:=()
def tw3513160986098252710:=()
def tw9928662248825518521:=()
def tw8326260337385920748:=()
def tw14550310065880724047:=()
def tw2511222309095618275:=()
def tw5064047513206066322:=()
def tw2928202274996891900:=()
def tw6920305671987903483:=()
def tw17219909020551467412:=()
def tw10344116447187291341:=()
def tw17953706957713131061:=()
def tw8926560572484592436:=()
def tw15649738080679445488:=()
def tw14633053937256939808:=()
def tw7490046644792752963:=()
def tw15091267121198119741:=()
def tw3360544033976610120:=()
def tw2699767663452103567:=()
def tw17420554425404779016:=()
def tw4163488665812734490:=()
def tw947117119892424418:=()
def tw3784759152651304554:=()
def tw6512381042902032819:=()
def tw14595332207254406237:=()
def tw208761415818970877:=()
def tw152222202533445530:=()
def tw9738543625963636168:=()
def tw5999689608940340861:=()
def tw16447445823981437984:=()
def tw11667959247146380348:=()
def tw4360730445169380327:=()
def tw16005770626766337367:=()
def tw2764571697868446786:=()
def tw6333471386476101562:=()
def tw11590563436843904239:=()
def tw2017841327883525667:=()
def tw8987863831395201367:=()
def tw5234271769793925094:=()
def tw5739722213290899816:=()
def tw9647578742539062634:=()
def tw16092510553558660924:=()
def tw10573472084398130588:=()
def tw3720143197823438499:=()
def tw1253615149959901734:=()
def tw6363874165819191424:=()
def tw10749348232836408002:=()
def tw11190363513713713863:=()
def tw16845730175358010637:=()
def tw6791556274527261713:=()
def tw17077884840505288547:=()
def tw9915278624434207494:=()
def tw17888721312606017966:=()
def tw5483545183634501972:=()
def tw9871782259172558115:=()
def tw2134018249183721805:=()
def tw6289735874210109053:=()
def tw10312342271719350604:=()
def tw10462999709882863710:=()
def tw10384461708876632772:=()
def tw349829415267809536:=()
def tw2373106573019142289:=()
def tw1440516293905264365:=()
def tw6347136054909662932:=()
def tw5277403494535203388:=()
def tw6948141460570015798:=()
def tw12173948838460507661:=()
def tw362336031611414274:=()
def tw14308665826007537203:=()
def tw697067656241838800:=()
def tw15862807840585285222:=()
def tw4623643313754654334:=()
def tw13739370349056058101:=()
def tw3909912083085101165:=()
def tw17149434659716253353:=()
def tw18204768989689038933:=()
def tw6816817790472298480:=()
def tw16264164050812663486:=()
def tw9927293360668006901:=()
def tw17859451111365210574:=()
def tw10833266621979284975:=()
def tw4749856754888666856:=()
def tw415527262583030958:=()
def tw2604648550213682337:=()
def tw18311973287781934024:=()
def tw9050915662040247691:=()
def tw11952976916283162096:=()
def tw13449236656171551294:=()
def tw3912681287833761968:=()
def tw16042483308639144823:=()
def tw6169543422669176384:=()
def tw9818382946042940824:=()
end PySem.W.Fast
namespace K76
open PySem PySem.W PyProof.Rows
set_option maxHeartbeats 0 in
open_top head for PySem.Challenge.rw_onelook_k76_whole_sums_kept
open PySem J
open PySem.W (nsIn kitOne findIn excIn mroIn mg_of mg_none_of)
open L2 (defScope defBody defArgs FnScope CX0 FnOk XK Hp)
set_option autoImplicit true in
theorem all_mk {l:PySem.W.OpenLaw} {w:World} {K:PySem.W.Frag} {h:Heap} {mg:Str → Option Value} {fa:Addr} (X:K.In h) (G:h.Ns mainGlobals mg) (hfa:mg "law" = some (.ref fa))
        {X0 X1 X2:aae}
    (d1:J.de K "_law_mix" iZ)
    (d2:J.de K "_law_digits" fJ)
    (d3:J.de K "_law_worths" fL)
    (d4:J.de K "_law_table" gB)
    (d5:J.de K "is_great" i6)
    (d6:J.de K "fault" oT)
    (d7:J.de K "bounded" ky)
    (d8:J.de K "is_fault" i_)
    (d9:J.de K "gathered" jb)
    (VG:J.de K "column_of" ie)
    (VH:J.de K "order_key" ig)
    (VI:J.de K "groups_by" ik)
    (VJ:J.de K "worths_by_groups" cN)
    (VL:J.de K "sums_by" kz)
    (VM:J.de K "_law_changed" eX)
    (VN:J.de K "sums_on" kC)
    (VO:J.de K "_law_refused" e_)
    (VP:J.de K "_law_by_groups" dB)
    (VQ:J.de K "_law_turned" fO)
    (VR:J.de K "law" zM)
    (z0:nsIn K aau "range"=some none)
    (z1:nsIn K aau "len"=some none)
    (z2:nsIn K aau "tuple"=some none)
    (z3:nsIn K aau "sum"=some none)
    (z4:nsIn K aau "abs"=some none)
    (z5:nsIn K aau "isinstance"=some none)
    (z6:nsIn K aau "int"=some none)
    (z7:nsIn K aau "min"=some none)
    (z8:nsIn K aau "max"=some none)
    (z9:nsIn K aau "list"=some none)
    (VS:nsIn K aau "str"=some none)
    (VT:nsIn K aau "enumerate"=some none)
    (VU:nsIn K aau "sorted"=some none)
    (VV:nsIn K aau "dict"=some none)
    (BQ:nsIn K aau "NoColumn"=some (some (.ref X0))) (RA:excIn K X0 yQ yR=true) (VW:findIn K (.ref X0) "__getattribute__"=some (some (.builtin "BaseException.__getattribute__"))) (VX:findIn K (.ref X0) "__getattr__"=some none) (VY:findIn K (.ref X0) "__class__"=some (some (.builtin "object.__class__")))
    (BR:nsIn K aau "BadTable"=some (some (.ref X1))) (RB:excIn K X1 yQ yR=true) (VZ:findIn K (.ref X1) "__getattribute__"=some (some (.builtin "BaseException.__getattribute__"))) (V0:findIn K (.ref X1) "__getattr__"=some none) (V1:findIn K (.ref X1) "__class__"=some (some (.builtin "object.__class__")))
    (KO:nsIn K aau "SheetError"=some (some (.ref X2))) (RC:excIn K X2 yQ yR=true)
    (V2:kitOne K (.ref X0) (.ref X0)=some true)
    (V3:kitOne K (.ref X0) (.ref X1)=some false)
    (V4:kitOne K (.ref X0) (.ref X2)=some true)
    (V5:kitOne K (.ref X1) (.ref X0)=some false)
    (V6:kitOne K (.ref X1) (.ref X1)=some true)
    (V7:kitOne K (.ref X1) (.ref X2)=some true)
    (V8:mroIn K X0 (.ref X2)=some true)
    (V9:mroIn K X1 (.ref X2)=some true)
    (V_:kitOne K (.ref X0) (.type "ValueError")=some true)
    (V':kitOne K (.ref X1) (.type "ValueError")=some true)
     :
    ∃fd:aag,(∀(s:aaj)(u:aak),BindsTo s fd ⟨[u],[]⟩ [("script",u)])/\∀base:Heap,K.In base->base.Ns aau mg->FnOk l.prog w K mg base (CXJ l.prog w) 8 fa fd ["script"] (spW K 1 F_law):=by
  refine J.Jk X G hfa VR (λ_ _ _ _ _ _ s u=> .of_eq rfl) (λf fd Fu base kb nb=>?_)
  have Z0:=mg_none_of kb nb z0
  have Z1:=mg_none_of kb nb z1
  have Z2:=mg_none_of kb nb z2
  have Z3:=mg_none_of kb nb z3
  have Z4:=mg_none_of kb nb z4
  have Z5:=mg_none_of kb nb z5
  have Z6:=mg_none_of kb nb z6
  have Z7:=mg_none_of kb nb z7
  have Z8:=mg_none_of kb nb z8
  have Z9:=mg_none_of kb nb z9
  have Zt:=mg_none_of kb nb VS
  have Zu:=mg_none_of kb nb VT
  have Zv:=mg_none_of kb nb VU
  have Zw:=mg_none_of kb nb VV
  have E0:J.ll K X0:=⟨RA,VW,VX,VY⟩
  have E1:J.ll K X1:=⟨RB,VZ,V0,V1⟩
  have TB:TabOk K jr hG yb:=J.NM ⟨⟨X0,X0,BQ,BQ,E0,V2⟩,⟨X0,X1,BQ,BR,E0,V3⟩,⟨X0,X2,BQ,KO,E0,V4⟩,⟨X1,X0,BR,BQ,E1,V5⟩,⟨X1,X1,BR,BR,E1,V6⟩,⟨X1,X2,BR,KO,E1,V7⟩,trivial⟩ ⟨⟨X0,BQ,E0,V_⟩,⟨X1,BR,E1,V'⟩,trivial⟩ ⟨⟨X0,X2,BQ,KO,RA,RC,V8⟩,⟨X1,X2,BR,KO,RB,RC,V9⟩,trivial⟩
  have H1:J.jw l.prog w K mg base 1 "_law_mix" 2 cM:=J.bU (ps:=["cell","k"]) kb nb d1 (J.bB (c:=lC) (k:=0) trivial trivial trivial TB trivial trivial trivial) vY rfl yc (λ_ _ _ _ _ _ us hl=>J.ln2 us hl λ_ _=>rfl)
  have H2:J.jw l.prog w K mg base 2 "_law_digits" 3 fK:=J.bU (ps:=["cell","size","many"]) kb nb d2 (J.bB (c:=iB) (k:=1) trivial ⟨Z0,trivial⟩ ⟨H1.mono (by decide),trivial⟩ TB trivial trivial trivial) qB rfl rb (λ_ _ _ _ _ _ us hl=>J.Sz us hl λ_ _ _=>rfl)
  have H3:J.jw l.prog w K mg base 3 "_law_worths" 2 cx:=J.bU (ps:=["cell","many"]) kb nb d3 (J.bB (c:=iC) (k:=2) trivial ⟨Z1,trivial⟩ ⟨H2.mono (by decide),trivial⟩ TB trivial trivial trivial) qC rfl rf (λ_ _ _ _ _ _ us hl=>J.ln2 us hl λ_ _=>rfl)
  have H4:J.jw l.prog w K mg base 4 "_law_table" 3 eW:=J.bU (ps:=["script","at","rows_most"]) kb nb d4 (J.bB (c:=i5) (k:=3) trivial ⟨Z2,Z3,Z0,trivial⟩ ⟨H3.mono (by decide),trivial⟩ TB trivial trivial trivial) rh rfl ug (λ_ _ _ _ _ _ us hl=>J.Sz us hl λ_ _ _=>rfl)
  have H5:J.jw l.prog w K mg base 1 "is_great" 1 gT:=J.bU (ps:=["number"]) kb nb d5 (J.bB (c:=lE) (k:=0) trivial ⟨Z4,trivial⟩ trivial TB trivial trivial trivial) vZ rfl yd (λ_ _ _ _ _ _ us hl=>J.N2 us hl λ_=>rfl)
  have H6:J.jw l.prog w K mg base 1 "fault" 1 i7:=J.bU (ps:=["word"]) kb nb d6 (J.bB (c:=uh) (k:=0) trivial trivial trivial TB trivial trivial trivial) FR rfl Jq (λ_ _ _ _ _ _ us hl=>J.N2 us hl λ_=>rfl)
  have H7:J.jw l.prog w K mg base 2 "bounded" 1 gJ:=J.bU (ps:=["number"]) kb nb d7 (J.bB (c:=nz) (k:=1) trivial trivial ⟨H5.mono (by decide),H6.mono (by decide),trivial⟩ TB trivial trivial trivial) ye rfl BL (λ_ _ _ _ _ _ us hl=>J.N2 us hl λ_=>rfl)
  have H8:J.jw l.prog w K mg base 1 "is_fault" 1 ja:=J.bU (ps:=["worth"]) kb nb d8 (J.bB (c:=lF) (k:=0) trivial ⟨Z5,Z2,trivial⟩ trivial TB trivial trivial trivial) v5 rfl yf (λ_ _ _ _ _ _ us hl=>J.N2 us hl λ_=>rfl)
  have H9:J.jw l.prog w K mg base 3 "gathered" 2 bX:=J.bU (ps:=["word","worths"]) kb nb d9 (J.bB (c:=lG) (k:=2) trivial ⟨Z1,Z5,Z6,Z3,Z7,Z8,trivial⟩ ⟨H7.mono (by decide),H6.mono (by decide),H8.mono (by decide),trivial⟩ TB trivial trivial trivial) v_ rfl yg (λ_ _ _ _ _ _ us hl=>J.ln2 us hl λ_ _=>rfl)
  have BZ:J.jw l.prog w K mg base 1 "column_of" 2 cJ:=J.bU (ps:=["table","head"]) kb nb VG (J.bB (c:=jV) (k:=0) trivial ⟨Z9,trivial⟩ trivial TB ⟨⟨X0,mg_of kb nb BQ,⟨BQ,RA⟩⟩,trivial⟩ trivial trivial) ui rfl wa (λ_ _ _ _ _ _ us hl=>J.ln2 us hl λ_ _=>rfl)
  have RU:J.jw l.prog w K mg base 1 "order_key" 1 df:=J.bU (ps:=["worth"]) kb nb VH (J.bB (c:=jW) (k:=0) trivial ⟨Z5,Zt,trivial⟩ trivial TB trivial trivial trivial) uj rfl wb (λ_ _ _ _ _ _ us hl=>J.N2 us hl λ_=>rfl)
  have Xj:J.jw l.prog w K mg base 4 "groups_by" 2 cK:=J.bU (ps:=["table","head"]) kb nb VI (J.bB (c:=jX) (k:=3) trivial ⟨Zu,Zv,trivial⟩ ⟨BZ.mono (by decide),RU.mono (by decide),trivial⟩ TB trivial trivial trivial (hx:=J.Jl rfl trivial trivial (λz=>absurd z (by decide)) (by decide) ⟨(λ_ _ e=>by cases e;exact RU.mono (by decide)),trivial⟩)) uk rfl wc (λ_ _ _ _ _ _ us hl=>J.ln2 us hl λ_ _=>rfl)
  have Xk:J.jw l.prog w K mg base 5 "worths_by_groups" 3 aN:=J.bU (ps:=["table","head","other"]) kb nb VJ (J.bB (c:=eC) (k:=4) trivial trivial ⟨Xj.mono (by decide),BZ.mono (by decide),trivial⟩ TB trivial trivial trivial) kM rfl lH (λ_ _ _ _ _ _ us hl=>J.Sz us hl λ_ _ _=>rfl)
  have Zx:J.jw l.prog w K mg base 6 "sums_by" 4 dz:=J.bU (ps:=["table","head","word","other"]) kb nb VL (J.bB (c:=nA) (k:=5) trivial trivial ⟨H9.mono (by decide),Xk.mono (by decide),trivial⟩ TB trivial trivial trivial) yh rfl BM (λ_ _ _ _ _ _ us hl=>J.W_ us hl λ_ _ _ _=>rfl)
  have Zy:J.jw l.prog w K mg base 4 "_law_changed" 2 eZ:=J.bU (ps:=["table","cell"]) kb nb VM (J.bB (c:=gY) (k:=3) trivial ⟨Z9,Z2,Z1,trivial⟩ ⟨H1.mono (by decide),H3.mono (by decide),trivial⟩ TB trivial trivial trivial) oi rfl qE (λ_ _ _ _ _ _ us hl=>J.ln2 us hl λ_ _=>rfl)
  have Xl:J.jw l.prog w K mg base 6 "sums_on" 6 cR:=J.bU (ps:=["table","sums","further","head","word","other"]) kb nb VN (J.bB (c:=nB) (k:=5) trivial ⟨Zw,trivial⟩ ⟨Xk.mono (by decide),H9.mono (by decide),trivial⟩ TB ⟨⟨X1,mg_of kb nb BR,⟨BR,RB⟩⟩,trivial⟩ trivial trivial) yi rfl BN (λ_ _ _ _ _ _ us hl=>J.YG us hl λ_ _ _ _ _ _=>rfl)
  have Zz:J.jw l.prog w K mg base 7 "_law_refused" 5 aF:=J.bU (ps:=["table","sums","further","head","other"]) kb nb VO (J.bB (c:=gZ) (k:=6) trivial ⟨Z5,trivial⟩ ⟨Xl.mono (by decide),trivial⟩ TB ⟨⟨X2,mg_of kb nb KO,⟨KO,RC⟩⟩,trivial⟩ ⟨⟨X1,mg_of kb nb BR,BR⟩,⟨X0,mg_of kb nb BQ,BQ⟩,trivial⟩ trivial) oj rfl qF (λ_ _ _ _ _ _ us hl=>J.YF us hl λ_ _ _ _ _=>rfl)
  have ZA:J.jw l.prog w K mg base 5 "_law_by_groups" 3 cG:=J.bU (ps:=["table","head","other"]) kb nb VP (J.bB (c:=fI) (k:=4) trivial trivial ⟨Xj.mono (by decide),trivial⟩ TB trivial trivial trivial) mH rfl nC (λ_ _ _ _ _ _ us hl=>J.Sz us hl λ_ _ _=>rfl)
  have ZE:J.jw l.prog w K mg base 6 "_law_turned" 4 fQ:=J.bU (ps:=["table","further","head","other"]) kb nb VQ (J.bB (c:=iD) (k:=5) trivial trivial ⟨ZA.mono (by decide),trivial⟩ TB trivial trivial trivial) qG rfl rj (λ_ _ _ _ _ _ us hl=>J.W_ us hl λ_ _ _ _=>rfl)
  exact J.NL Fu (J.bB (c:=FT) (k:=7) trivial ⟨Z3,Z9,Z2,Z1,Z5,trivial⟩ ⟨H4.mono (by decide),H1.mono (by decide),Zx.mono (by decide),Zy.mono (by decide),Xl.mono (by decide),Zz.mono (by decide),ZE.mono (by decide),trivial⟩ TB trivial trivial trivial) N3 rfl Q8
end K76
open PySem PySem.W PyProof.Rows
set_option maxRecDepth 100000 in
set_option maxHeartbeats 0 in
theorem PySem.Challenge.cw_onelook_k76_whole_sums_kept_holds : PySem.Challenge.rw_onelook_k76_whole_sums_kept.Holds := by
  refine K76.head ?_
  k_fill
  refine L2.walk_of (l:=PySem.Challenge.rw_onelook_k76_whole_sums_kept) (n:=63) (k:=8) (x:="script") (CX:=fun w => J.CXJ PySem.Challenge.rw_onelook_k76_whole_sums_kept.prog w) (sp:=fun w => J.spW _ 1 K76.F_law) rfl (by decide) rfl ⟨rfl,by decide,by decide⟩ (fun w h Y => PySem.W.kIn_of Y) ?F (fun w H a ns hl hO hS => J.law_sp K76.law_true H a ns hl (J.OnlyT.of hO) hS (J.tb_none ?Ta ?Tb ?Tc ?Td ?Te)) (fun _ _ _ _ _ z => z.elim fun _ y => y.elim fun _ x => x.2)
  case F=>
    intro w mg fa h KX G hmg
    refine' K76.all_mk KX G hmg ?d1 ?d2 ?d3 ?d4 ?d5 ?d6 ?d7 ?d8 ?d9 ?VG ?VH ?VI ?VJ ?VL ?VM ?VN ?VO ?VP ?VQ ?VR ?z0 ?z1 ?z2 ?z3 ?z4 ?z5 ?z6 ?z7 ?z8 ?z9 ?VS ?VT ?VU ?VV ?BQ ?RA ?VW ?VX ?VY ?BR ?RB ?VZ ?V0 ?V1 ?KO ?RC ?V2 ?V3 ?V4 ?V5 ?V6 ?V7 ?V8 ?V9 ?V_ ?V'
    case d1 | d2 | d3 | d4 | d5 | d6 | d7 | d8 | d9 | VG | VH | VI | VJ | VL | VM | VN | VO | VP | VQ | VR=>refine' J.Mx ?a ?l ?c ?k;(case a=>k_is);(case l=>k_is);(case c=>k_is);(case k=>k_is)
    case z0 | z1 | z2 | z3 | z4 | z5 | z6 | z7 | z8 | z9 | VS | VT | VU | VV | BQ=>k_is
    case RA=>k_exc
    case VW | VX | VY | BR=>k_is
    case RB=>k_exc
    case VZ | V0 | V1 | KO=>k_is
    case RC=>k_exc
    case V2 | V3 | V4 | V5 | V6 | V7=>kit_is
    case V8 | V9=>k_is
    case V_ | V'=>kit_is
  (case Ta=>k_is)
  (case Tb=>k_is)
  (case Tc=>k_is)
  (case Td=>k_is)
  (case Te=>k_is)
