import PyProof.Rows.All
import Wide.All
import OpenK.AllK
import Wide.FinOn
import Lean
import PyProof.EqAt
import PyProof.EqKinds
import PyProof.TupleCall
import PySem.Challenge.RW_onelook_k11_whole_formulas_read_back
open PySem.Around renaming under→Pn
open Array renaming all_eq_true_iff_forall_mem→PB,append_assoc→Pj,length_toList→hZ,toList_append→Zi,mem_toList_iff→FM,getElem?_eq_some_iff→GM
open PySem.AutoSeq1 renaming sub_tuple_tuple→XZ
open Bool renaming and_eq_true→cZ,eq_false_iff→vp,eq_iff_iff→vb,false_eq_true→Dk,false_ne_true→cS,not_eq_true→Kj,not_eq_true'→qN,or_eq_true→ya,true→jp,false→kt
open PySem.Builtin.List renaming listTooLong→tR
open PySem.Builtin.Slice renaming sliceAdjust→GW,sliceApplied→Rp,slicePlaces→Bb
open PySem.Builtin.Str renaming occurrences→gJ,partsBetween→IH,strKind→SV,strSub→SX
open PySem.Builtin.Tuple renaming tupleExact→Bc,tupleIsExact→SN,tupleItemsOf→GY
open PySem.Calls renaming Name_function_global→QQ,callWith_builtin→Bg,evalArgs_plain→G9,spliced_cons→xI,spliced_nil→GR
open Char renaming toNat→oI
open Classical renaming propDecidable→Ia
open PySem.Code renaming isFrame→GQ
open PySem.EntryCells renaming newEntry→RL
open PySem.F renaming slot_int_rmul→Bi
open False renaming elim→ab
open ForInStep renaming yield→t_
open PySem.Heap renaming MadeExcOf→Ht,SameBut→xD,get?_push_of_some→cI,get?_push_size→gI,get?_update_other→tL,get?_update_self→G6,lt_size→bL,size_push→A7
open Int renaming add_sub_cancel→vt,eq_ofNat_of_zero_le→j9,fdiv_eq_ediv_of_nonneg→U3,fmod_lt_of_pos→oO,fmod_nonneg_of_pos→oN,le_refl→vn,le_trans→Bt,mul_le_mul_of_nonneg_left→Sl,toNat_natCast→oa
open PyProof.Rows.IsTup renaming new→Bd
open List renaming all_cons→fj,all_eq_true→oq,any_cons→kY,append_assoc→dm,append_nil→fT,cons_append→de,countP_cons→BD,drop_drop→yL,drop_eq_getElem_cons→yb,drop_length→Bv,drop_of_length_le→J_,drop_zero→Ir,eq_nil_of_length_eq_zero→xY,filterMap_cons→xy,filter_cons_of_neg→Ii,filter_cons_of_pos→Ih,find?_cons→qh,findIdx?_eq_some_iff_getElem→SY,flatMap_cons→K3,flatten_cons→tO,foldl→tP,foldl_cons→G',getD_eq_getElem?_getD→Bz,getElem?_append_left→gU,getElem?_append_right→lW,getElem?_cons_succ→oM,getElem?_cons_zero→oK,getElem?_eq_getElem→fk,getElem?_map→j3,getElem?_replicate→Rm,getElem?_set_ne→bM,getElem?_set_self→tD,getElem?_toArray→SJ,getElem_mem→ug,getElem_toArray→BE,length→jf,length_append→bh,length_cons→aZ,length_drop→ia,length_map→bN,length_nil→qi,length_reverse→Ks,length_set→tM,length_singleton→j4,length_take→A_,lookup→kW,lookup_cons→e_,map_append→lD,map_cons→bz,map_map→DW,map_nil→iD,mem_append_left→xC,mem_append_right→iB,mem_cons→i_,mem_cons_of_mem→bw,mem_cons_self→aY,mem_of_getElem?→sC,nil_append→iC,not_mem_nil→jO,of_mem_zip→C1,range→oV,replicate→aD,replicate_succ→i6,reverse_cons→p_,set→yT,size_toArray→bj,takeWhile_cons→jR,takeWhile_sublist→OE,take_of_length_le→DT,mem_singleton→lw,getElem?_eq_some_iff→np,forall_mem_cons→pc,mem_map→u8,mem_append→wS,mem_filter→Db,mem_filterMap→Fk,nodup_cons→Gc
open PySem.NameKind renaming cell→gq,free→gn
open Nat renaming beq→ja,ble→qd,ble_eq→hJ,le_add_left→m8,le_add_right→jW,le_max_left→Ea,le_max_right→yU,le_of_ble_eq_true→jY,le_of_eq→sx,le_of_lt→sr,le_refl→av,le_succ→sy,le_succ_of_le→lE,le_trans→aA,lt_irrefl→jI,lt_of_lt_of_le→bZ,lt_succ_self→C0,lt_trans→xS,max_eq_right→DY,min_le_right→C3,mul_comm→C8,mul_le_mul_left→s_,ne_of_gt→CZ,ne_of_lt→dJ,sub_self→sF,succ_le_succ→Di,toDigits→mZ,zero_le→dz
open Ne renaming symm→dM
open PySem.Obj renaming data_mapFields→C_,isFreed_of_fields→MI,mapFields→o8,mapSeq→o7
open Option renaming bind→Dv,map_some→sI,some→bv,none→gV
open Or renaming inr→mQ
open PySem.PassesOwn renaming leaving→yv
open PySem.PyData renaming canLayAll0→Dh,depthAll→pe,eqv→k8,list→xZ,strOk→bc
open PyProof.Rows renaming callWith_type1→Mc,join_plain_closes→D_,slice_closes→OD,slot_tuple_getitem→xJ,toString_length_le→D6,Keyed→akd,SortSt→ake
open PySem.SeqAt.EqAt renaming int_none→LU,int_str→LS,none_int→LY,none_str→LZ,same→L0,str_int→LW,str_none→LX
open PySem.Str renaming ofString→sD
open PySem.StrLaws renaming find3_spec→OF,found_iff→DV,sliceText→sY,subAt_one→sU
open True renaming intro→oY
open PySem.Txt renaming join→gW,slice→aL,split→dN
open PySem.Value renaming bool→oT,int→oS,none→fN,ref→bJ,str→kT
open PySem renaming Addr→ajO,Around→ajP,FuncData→ajQ,NameKind→ajR,Program→ajS,Shared→ajT,Value→ajU,World→ajV,behindInMarks→ajW,binaryOp→ajX,bootBuiltins→ajY,codeAny→ajZ,compPost→aj0,compareOp→aj1,foldedSetIterable→aj2,mainGlobals→aj3,sizeLine→aj4,starEach→aj5,wpAny→aj6,wpAny_bind→aj7,wpAny_holding→aj8,wpAny_mono→aj9,wpAny_newObj_type→aka,wpAny_pure→akb,wpAny_truthy_bool→akc,intText?→xL,mem_of_lookup→Ev
noncomputable section
set_option Elab.async false
set_option linter.all false
set_option maxRecDepth 100000
open PySem.W renaming Frag→lc,nsIn→nw,findIn→sK,fnOf→tz,keepIn→ww,kitOne→wP,emptyDict→wT,instObj→xz,codeIn→zn,kia_one→AC,excIn→AT,hideAll→BT,isFn→Do,mg_of→EQ,lookIn→FB,plainGet→FS,tabIn→Ix,methodObj→IR,hideAll_get→KB,hasDictIn→KE,plainGet_of→KF,takerIn→KKq,makesIn→KM,callWith_K→NE
theorem Os.{u}{c:Prop}{h:Decidable c}(i:c){α:Sort u}{t e:α}:ite c t e=t:=if_pos i
theorem OK.{u}{c:Prop}{h:Decidable c}(i:¬c){α:Sort u}{t e:α}:ite c t e=e:=if_neg i
namespace L2
open PySem PySem.Spec PyProof.Rows
inductive Key where
 |inl (i:Int) |inr (x:Str) |cY
 deriving DecidableEq
def tm:Key->ajU->Bool
 |.inl k,v=>Value.isInt k v
 |.inr x,v=>Value.isStrOf x v
 |.cY,v=>(match v with |.none=>jp |_=>kt)
def abD(w:ajV):Key->Int
 |.inl k=>hashInt k
 |.inr x=>hashStr w x
 |.cY=>reduceHash 4238894112
theorem fg:∀{k:Key}{v:ajU},tm k v=jp->(∃i t,k=Key.inl i/\v=oS i t)\/(∃x t,k=Key.inr x/\v=kT x t)\/(k=Key.cY/\v=fN)
 |.inl i,v,h=>by obtain⟨t,e⟩:=Value.isInt_shape (k:=i) (v:=v) h;exact .inl ⟨i,t,rfl,e⟩
 |.inr x,v,h=>by obtain⟨t,e⟩:=Value.isStrOf_shape (x:=x) (v:=v) h;exact .inr (.inl ⟨x,t,rfl,e⟩)
 |.cY,v,h=>by cases v<;>first |exact .inr (.inr ⟨rfl,rfl⟩) |(unfold tm at h;cases h)
theorem En(i:Int)(t:Tok):tm (.inl i) (.int i t)=true:=by simp[tm,Value.isInt]
theorem Eo(x:Str)(t:Tok):tm (.inr x) (.str x t)=true:=by simp[tm,Value.isStrOf]
theorem QH(a b:Int):decide ((Key.inl a:Key)=Key.inl b)=(a == b):=by
 by_cases e:a=b
 ·subst e;simp
 ·have h:¬(Key.inl a:Key)=Key.inl b:=λq=>e (Key.inl.inj q);rw[decide_eq_false h];exact(beq_eq_false_iff_ne.mpr e).symm
theorem QI(a b:Str):decide ((Key.inr a:Key)=Key.inr b)=decide (a=b):=by
 by_cases e:a=b
 ·subst e;simp
 ·have h:¬(Key.inr a:Key)=Key.inr b:=λq=>e (Key.inr.inj q);rw[decide_eq_false h,decide_eq_false e]
variable{prog:ajS}{w:ajV}{A:ajP}{E:ajU->ajT->Prop}{s:ajT}
theorem Gk{Q:Int->ajT->Prop}(h:Q (reduceHash 4238894112) { s with toks:=s.toks+1 }):aj6 (model prog w) A (PySem.pyHash .none) Q E s :=
 PySem.W.pyHash_slot (T:="NoneType") rfl F.slot_NoneType_hash F.entry_NoneType_hash (F.args_NoneType_hash_1 _) (beq_builtin_none _) (.inl rfl) (aj7 (akb (aj7 (wpAny_mkInt (akb ⟨_,_,rfl,h⟩)))))
def df(prog:ajS)(w:ajV):PySem.KeyKind prog w Key where
 is:=tm
 hash:=abD w
 inj:=λv a b ha hb=>by rcases fg ha with ⟨i,t,rfl,rfl⟩ |⟨x,t,rfl,rfl⟩ |⟨rfl,rfl⟩<;>rcases fg hb with ⟨j,u,rfl,e⟩ |⟨y,u,rfl,e⟩ |⟨rfl,e⟩<;>cases e<;>rfl
 byValue:=λk v h=>by rcases fg h with ⟨i,t,rfl,rfl⟩ |⟨x,t,rfl,rfl⟩ |⟨rfl,rfl⟩<;>rfl
 pyHash:=λhv h=>by
  rcases fg hv with ⟨i,t,rfl,rfl⟩ |⟨x,t,rfl,rfl⟩ |⟨rfl,rfl⟩
  ·exact wpAny_pyHash_int h
  ·exact wpAny_pyHash_str h
  ·exact Gk h
 eqBool:=λ{A E s a b u v Q} hu hv h=>by
  have no:a≠b->Q kt s:=λn=>by rw[decide_eq_false n]at h;exact h
  rcases fg hu with ⟨i,t,rfl,rfl⟩ |⟨x,t,rfl,rfl⟩ |⟨rfl,rfl⟩<;>rcases fg hv with ⟨j,u,rfl,rfl⟩ |⟨y,u,rfl,rfl⟩ |⟨rfl,rfl⟩
  ·rw[QH]at h;exact wpAny_eqBool_int h
  ·exact LS i t y u _ _ _ _ (no nofun)
  ·exact LU i t _ _ _ _ (no nofun)
  ·exact LW x t j u _ _ _ _ (no nofun)
  ·rw[QI]at h;exact wpAny_eqBool_str h
  ·exact LX x t _ _ _ _ (no nofun)
  ·exact LY j u _ _ _ _ (no nofun)
  ·exact LZ y u _ _ _ _ (no nofun)
  ·exact L0 .none _ _ _ _ (by simpa using h)
 «strs»:=λk x t v h=>by rcases fg h with ⟨i,u,rfl,e⟩ |⟨y,u,rfl,e⟩ |⟨rfl,e⟩<;>cases e;cases v<;>rfl
theorem yY(prog:ajS)(w:ajV)(i:Int)(t:Tok):(df prog w).is (.inl i) (.int i t)=true:=En i t
theorem yZ(prog:ajS)(w:ajV)(x:Str)(t:Tok):(df prog w).is (.inr x) (.str x t)=true:=Eo x t
inductive V where
 |cY |bl (b:Bool) |int (i:Int) |str (x:Str) |VJ (b:Array UInt8) |flt (b:UInt64) |ref (a:ajO) |ty (n:String)
 deriving DecidableEq
def RelV:V->ajU->Prop
 |.cY,u=>u=fN
 |.bl b,u=>u=oT b
 |.int i,u=>∃t,u=oS i t
 |.str x,u=>∃t,u=kT x t
 |.VJ b,u=>∃t,u=Value.bytes b t
 |.flt b,u=>∃t,u=Value.float b t
 |.ref a,u=>u=bJ a
 |.ty n,u=>u=Value.type n
abbrev Vals:List V->List ajU->Prop:=Paired RelV
variable{xs:List V}{us:List ajU}
theorem Vals.length(r:Vals xs us):xs.length=us.length:=Paired.length r
theorem Vals.get:∀{xs:List V}{us:List ajU}{i:Nat}{x:V},Vals xs us->xs[i]? =bv x->∃u,us[i]? =bv u/\RelV x u
 |_,_,_,_,.nil,e=>by simp at e
 |_,_,0,_,.cons r _,e=>by simp at e;subst e;exact⟨_,rfl,r⟩
 |_,_,i+1,x,.cons _ t,e=>by obtain⟨u,h1,h2⟩:=Vals.get (i:=i) (x:=x) t (by simpa using e);exact⟨u,by simpa using h1,h2⟩
theorem Vals.set{x:V}{u:ajU}(r:RelV x u):∀{xs:List V}{us:List ajU}(i:Nat),Vals xs us->Vals (xs.set i x) (us.set i u)
 |_,_,_,.nil=> .nil
 |_,_,0,.cons _ t=> .cons r t
 |_,_,i+1,.cons q t=> .cons q (Vals.set r i t)
theorem Vals.append:∀{xs ys:List V}{us ws:List ajU},Vals xs us->Vals ys ws->Vals (xs++ys) (us++ws)
 |_,_,_,_,.nil,s=>s
 |_,_,_,_,.cons r t,s=> .cons r (Vals.append t s)
theorem Vals.take:∀{xs:List V}{us:List ajU}(n:Nat),Vals xs us->Vals (xs.take n) (us.take n)
 |_,_,0,_=> .nil
 |_,_,_+1,.nil=> .nil
 |_,_,n+1,.cons r t=> .cons r (Vals.take n t)
theorem Vals.drop:∀{xs:List V}{us:List ajU}(n:Nat),Vals xs us->Vals (xs.drop n) (us.drop n)
 |_,_,0,r=>r
 |_,_,_+1,.nil=> .nil
 |_,_,n+1,.cons _ t=>Vals.drop n t
def oU:Option V->Option ajU->Prop
 |some v,bv u=>RelV v u
 |none,gV=>True
 |_,_=>False
variable{κ:Type}
def KV:List (κ×V)->List (κ×ajU)->Prop:=Paired λ(p:κ×V)(q:κ×ajU)=>p.1=q.1/\RelV p.2 q.2
def kV:Key->V
 |.inl i=> .int i
 |.inr x=> .str x
 |.cY=> .cY
inductive HO where
  |lst (xs:List V)
  |tup (xs:List V)
  |dK (kvs:List (Key×V)) |dT (kvs:List (List Key×V))
  |set (S:Int->Bool) (n:Nat)
  |ins (C dx:ajO) (fs:List (Str×V))
  |own (x:ajO)
  |xd (fs:List (Str×V))
  |met (f x:ajO)
  |rng (lo hi:Int)
  |rZ (o:Obj) (u:HO)
  |jD (ps:Array ajU)
  |ext (φ:Heap->Prop)
abbrev Hp:=ajO->Option HO
def upd(H:Hp)(a:ajO)(o:HO):Hp:=λb=>if b=a then bv o else H b
variable{H:Hp}{a:ajO}{o:HO}
theorem cz:upd H a o a=bv o:=by unfold upd;rw[Os rfl]
variable{b:ajO}
theorem b6(h:b≠a):upd H a o b=H b:=by unfold upd;rw[OK h]
theorem gH(h:H a=bv o)(h':H b=gV):a≠b:=by intro e;subst e;rw[h]at h';cases h'
def y0(h:Heap)(a:ajO):Prop:=∀o,h.get? a=bv o->o.dict=gV
theorem y0.new(h:Heap)(us:Array ajU):y0 (h.push { cls:=.type "tuple",data:=.seq us }) h.objs.size:=λo q=>by rw[gI _ rfl]at q;cases q;rfl
section
variable (P:ajS) (w:ajV)
def fh(H:Hp)(h:Heap)(a:ajO):HO->Prop
 |.lst xs=>xs.length<=aj4/\∃(its:List ajU)(n:Nat),Vals xs its/\h.get? a=bv { cls:=.type "list",data:=.seq its.toArray n }
 |.tup xs=>xs.length<=aj4/\∃its:List ajU,Vals xs its/\IsTup h a its.toArray/\y0 h a
 |.dK kvs=>kvs.length<=aj4/\(a == sysModules)=kt/\∃vs,KV kvs vs/\h.DictOf (df P w) a vs
 |.dT kvs=>kvs.length<=aj4/\(a == sysModules)=kt/\∃xs:List (List Key×ajO×ajU),
   Paired (λ(p:List Key×V)(q:List Key×ajO×ajU)=>p.1=q.1/\H q.2.1=bv (.tup (p.1.map kV))/\RelV p.2 q.2.2) kvs xs/\
   ∃o es ep,h.get? a=bv o/\o.ExactDict/\o.data= .dict es ep/\es.toList=xs.map (entryOfKey (tupleKind (df P w)))/\(xs.map (·.1)).Nodup
 |.set S n=>h.SetOf (intKind P w) a S n
 |.ins C dx fs=>H dx=bv (.own a)/\fs.length<=1000/\dx≠a/\h.get? a=bv (xz C dx)/\
   ∃mA,h.Ns1 dx mA/\(∀f,oU (fs.lookup f) (mA f))/\PySem.Within mA (fs.map (·.1))
 |.own _=>∃o,h.get? a=bv o
 |.xd fs=>∃mA,h.Ns1 a mA/\∀f,oU (fs.lookup f) (mA f)
 |.rng lo hi=>∃t u v,h.get? a=bv { cls:=.type "range",data:=.fields #[.int lo t,.int hi u,.int 1 v] }
 |.rZ o u=>h.get? a=bv o/\fh H h a u
 |.jD ps=>h.get? a=bv { cls:=.none,data:=.fields ps }
 |.met f x=>h.get? a=bv (IR (.ref f) (.ref x))
 |.ext φ=>φ h/\(∃o,h.get? a=bv o)/\∀h1 h2:Heap,φ h1->(∀o,h1.get? a=bv o->h2.get? a=bv o)->φ h2
def m_(H:Hp)(h:Heap):Prop:=∀a o,H a=bv o->fh P w H h a o
end
section
variable {P:ajS}{w:ajV}{H H':Hp}{h h':Heap}{a:ajO}{o:HO}
theorem fh.lt(x:fh P w H h a o):a < h.objs.size:=by
 cases o with
 |lst xs=>obtain⟨_,_,_,_,e⟩:=x;exact bL e
 |tup xs=>obtain⟨_,_,_,p,_⟩:=x;exact p.lt
 |dK kvs=>obtain⟨_,_,_,_,o,_,_,e,_⟩:=x;exact bL e
 |dT kvs=>obtain⟨_,_,_,_,o,_,_,e,_⟩:=x;exact bL e
 |set S n=>obtain⟨o,_,_,_,e,_⟩:=x;exact bL e
 |ins C dx fs=>obtain⟨_,_,_,e,_⟩:=x;exact bL e
 |own y=>obtain⟨_,e⟩:=x;exact bL e
 |xd fs=>obtain⟨_,⟨_,_,_,e,_⟩,_⟩:=x;exact bL e
 |rng lo hi=>obtain⟨_,_,_,e⟩:=x;exact bL e
 |rZ ob u=>obtain⟨e,_⟩:=x;exact bL e
 |jD ps=>exact bL (show h.get? a=bv _ from x)
 |met f y=>exact bL (show h.get? a=bv _ from x)
 |ext φ=>obtain⟨_,⟨_,e⟩,_⟩:=x;exact bL e
theorem Paired.Wn{α β:Type}{F G:α->β->Prop}:∀{l₁:List α}{l₂:List β},Paired F l₁ l₂->(∀a b,F a b->G a b)->Paired G l₁ l₂
 |_,_,.nil,_=> .nil
 |_,_,.cons r t,f=> .cons (f _ _ r) (Paired.Wn t f)
theorem fh.stay(x:fh P w H h a o)(k:∀b u,(b=a\/H b=bv (.own a))->h.get? b=bv u->h'.get? b=bv u)
  (ho:∀b,H b=bv (.own a)->H' b=bv (.own a))(ht:∀b xs,H b=bv (.tup xs)->H' b=bv (.tup xs)):fh P w H' h' a o:=by
 induction o with
 |lst xs=>obtain⟨z,its,n,r,e⟩:=x;exact⟨z,its,n,r,k _ _ (.inl rfl) e⟩
 |tup xs=>obtain⟨z,us,r,⟨ob,e,c⟩,nd⟩:=x;exact⟨z,us,r,⟨ob,k _ _ (.inl rfl) e,c⟩,λo q=>by rw[k _ _ (.inl rfl) e]at q;cases q;exact nd _ e⟩
 |dK kvs=>obtain⟨z,y,vs,r,ob,es,ep,e,c⟩:=x;exact⟨z,y,vs,r,ob,es,ep,k _ _ (.inl rfl) e,c⟩
 |dT kvs=>obtain⟨z,y,xs,r,ob,es,ep,e,c⟩:=x;exact⟨z,y,xs,Paired.Wn r λp q z=>⟨z.1,ht _ _ z.2.1,z.2.2⟩,ob,es,ep,k _ _ (.inl rfl) e,c⟩
 |set S n=>obtain⟨ob,es,ep,t,e,c⟩:=x;exact⟨ob,es,ep,t,k _ _ (.inl rfl) e,c⟩
 |ins C dx fs=>obtain⟨d,z,ne,e,mA,⟨od,es,ep,e2,c⟩,r⟩:=x;exact⟨ho _ d,z,ne,k _ _ (.inl rfl) e,mA,⟨od,es,ep,k _ _ (.inr d) e2,c⟩,r⟩
 |own y=>obtain⟨ob,e⟩:=x;exact⟨ob,k _ _ (.inl rfl) e⟩
 |xd fs=>obtain⟨mA,⟨od,es,ep,e,c⟩,r⟩:=x;exact⟨mA,⟨od,es,ep,k _ _ (.inl rfl) e,c⟩,r⟩
 |rng lo hi=>obtain⟨t,u,v,e⟩:=x;exact⟨t,u,v,k _ _ (.inl rfl) e⟩
 |rZ ob u ih=>obtain⟨e,q⟩:=x;exact⟨k _ _ (.inl rfl) e,ih q⟩
 |jD ps=>have e:h.get? a=bv { cls:=.none,data:=.fields ps }:=x;show h'.get? a=bv { cls:=.none,data:=.fields ps };exact k a _ (.inl rfl) e
 |met f y=>have e:h.get? a=bv (IR (.ref f) (.ref y)):=x;show h'.get? a=bv (IR (.ref f) (.ref y));exact k a _ (.inl rfl) e
 |ext φ=>obtain⟨p,⟨o,e⟩,st⟩:=x;exact⟨st _ _ p λo q=>k _ _ (.inl rfl) q,⟨o,k _ _ (.inl rfl) e⟩,st⟩
theorem m_.lt(x:m_ P w H h)(e:H a=bv o):a < h.objs.size:=(x a o e).lt
theorem m_.fresh(x:m_ P w H h)(e:h.objs.size<=a):H a=none:=by
 cases q:H a with
 |none=>rfl
 |some u=>exact absurd (bZ (x.lt q) e) (jI _)
theorem m_.kept(x:m_ P w H h)(k:∀b u,h.get? b=bv u->h'.get? b=bv u):m_ P w H h':=λa o e=>
 (x a o e).stay (λb u _ q=>k b u q) (λ_ q=>q) λ_ _ q=>q
theorem m_.laid(x:m_ P w H h)(k:∀b u,h.get? b=bv u->h'.get? b=bv u)(hp:h.objs.size<=a)(new:fh P w (upd H a o) h' a o):m_ P w (upd H a o) h':=λb u e=>by
 have hn:=x.fresh hp;by_cases hb:b=a
 ·subst hb;rw[cz]at e;cases e;exact new
 ·rw[b6 hb]at e;exact(x b u e).stay (λc v _ q=>k c v q) (λc q=>by rw[b6 (gH q hn)];exact q) λc xs q=>by rw[b6 (gH q hn)];exact q
end
def Rd(H:Hp)(a:ajO)(u:HO):Prop:=H a=bv u\/∃o,H a=bv (.rZ o u)
variable{P:ajS}{h:Heap}
theorem Rd.ok{u:HO}(r:Rd H a u)(x:m_ P w H h):fh P w H h a u:=by
 rcases r with r |⟨o,r⟩
 ·exact x a u r
 ·obtain⟨_,q⟩:=x a _ r;exact q
def Wo:Option HO->Prop
 |some (.lst _)=>True
 |some (.dK _)=>True
 |some (.dT _)=>True
 |some (.set _ _)=>True
 |some (.ins _ _ _)=>True
 |some (.ext _)=>True
 |_=>False
section
variable {P:ajS}{w:ajV}{H:Hp}{h h':Heap}{x e:ajO}{o':HO}
theorem m_.write(ok:m_ P w H h)(mu:Wo (H x))(he:e=x\/H e=bv (.own x))(k:∀b u,b≠e->h.get? b=bv u->h'.get? b=bv u)(VL:∃u,h'.get? e=bv u)
  (new:fh P w (upd H x o') h' x o'):m_ P w (upd H x o') h':=λb u q=>by
 have Wu:∀c y,H c=bv (.own y)->c≠x:=λc y r z=>by subst z;rw[r]at mu;exact mu
 have abF:∀c xs,H c=bv (.tup xs)->c≠x:=λc xs r z=>by subst z;rw[r]at mu;exact mu
 by_cases hb:b=x
 ·subst hb;rw[cz]at q;cases q;exact new
 ·rw[b6 hb]at q;by_cases L3:b=e
  ·have q':H b=bv (.own x):=by
    rcases he with z |z
    ·exact absurd (L3.trans z) hb
    ·rw[L3];exact z
   rw[q]at q';cases q';obtain⟨v,hv⟩:=VL;exact⟨v,by rw[L3];exact hv⟩
  ·refine(ok b u q).stay (λc v hc r=>k c v ?_ r) (λc r=>by rw[b6 (Wu c b r)];exact r) λc xs r=>by rw[b6 (abF c xs r)];exact r
   rcases hc with rfl |hc
   ·exact L3
   ·rintro rfl;rcases he with z |z
    ·exact Wu c b hc z
    ·rw[hc]at z;cases z;exact hb rfl
end
structure Un(fs ex:List ajO)(H H':Hp)(h h':Heap):Prop where
 keep:∀b o,h.get? b=bv o->H b=gV->b∉fs->b∉ex->h'.get? b=bv o
 slot:∀b o,h.get? b=bv o->H b=gV->b∈fs->b∉ex->∃sl,h'.get? b=bv { o with slots:=sl }
 free:∀b o,h.get? b=bv o->H b=gV->b∉ex->H' b=gV
 there:∀b o,h.get? b=bv o->b∉ex->∃o',h'.get? b=bv o'
 tups:∀b xs,H b=bv (.tup xs)->H' b=bv (.tup xs)
 r6:∀b o u,H b=bv (.rZ o u)->H' b=bv (.rZ o u)
 vC:∀b ps,H b=bv (.jD ps)->∃more,H' b=bv (.jD (ps++more))
section
variable {fs fs' ex ex':List ajO}{H H1 H2:Hp}{h h1 h2 h':Heap}{a x e:ajO}{o:HO}
theorem Un.any(u:Un fs ex H H1 h h1){ob:Obj}(q:h.get? b=bv ob)(n:H b=gV)(hx:b∉ex):∃sl,h1.get? b=bv { ob with slots:=sl }:=by
 by_cases hb:b∈fs
 ·exact u.slot b ob q n hb hx
 ·exact⟨ob.slots,u.keep b ob q n hb hx⟩
theorem Un.kept(k:∀b u,h.get? b=bv u->h'.get? b=bv u):Un fs ex H H h h' :=
 ⟨λb ob q _ _ _=>k b ob q,λb ob q _ _ _=>⟨ob.slots,k b ob q⟩,λ_ _ _ n _=>n,λb ob q _=>⟨ob,k b ob q⟩,λ_ _ q=>q,λ_ _ _ q=>q,λ_ ps q=>⟨#[],by rw[q];simp⟩⟩
theorem Un.refl:Un fs ex H H h h:=Un.kept λ_ _ q=>q
theorem Un.laid(k:∀b u,h.get? b=bv u->h'.get? b=bv u)(hp:h.objs.size<=a)(hn:H a=gV):Un fs ex H (upd H a o) h h' where
 keep:=λb u q _ _ _=>k b u q
 slot:=λb u q _ _ _=>⟨u.slots,k b u q⟩
 free:=λb u q n _=>by rw[b6 (dJ (bZ (bL q) hp))];exact n
 there:=λb u q _=>⟨u,k b u q⟩
 tups:=λb xs q=>by rw[b6 (gH q hn)];exact q
 r6:=λb u xs q=>by rw[b6 (gH q hn)];exact q
 vC:=λb ps q=>⟨#[],by rw[b6 (gH q hn),q];simp⟩
theorem Un.write(mu:Wo (H x))(he:e=x\/H e=bv (.own x))(k:∀b u,b≠e->h.get? b=bv u->h'.get? b=bv u)(VL:∃u,h'.get? e=bv u):Un fs ex H (upd H x o) h h':=by
 have hx:∀b,H b=gV->b≠x:=λb n z=>by subst z;rw[n]at mu;exact mu
 have hb:∀b,H b=gV->b≠e:=λb n z=>by
  subst z;rcases he with r |r
  ·exact hx b n r
  ·rw[n]at r;cases r
 have hm:∀b u,H b=bv u->¬Wo (bv u)->b≠x:=λb u q nm z=>by subst z;rw[q]at mu;exact nm mu
 refine⟨λb u q n _ _=>k b u (hb b n) q,λb u q n _ _=>⟨u.slots,k b u (hb b n) q⟩,λb u q n _=>by rw[b6 (hx b n)];exact n,λb u q _=>?_,
  λb xs q=>by rw[b6 (hm b _ q λz=>z)];exact q,λb u xs q=>by rw[b6 (hm b _ q λz=>z)];exact q,λb ps q=>⟨#[],by rw[b6 (hm b _ q λz=>z),q];simp⟩⟩
 by_cases L3:b=e
 ·subst L3;exact VL
 ·exact⟨u,k b u L3 q⟩
end
def trk(h:Heap)(H:Hp):List ajO:=(oV h.objs.size).filter λa=>(H a).isSome
def xx(h:Heap)(H:Hp):Heap:=BT h (trk h H)
theorem Ep(h:Heap)(H:Hp):(xx h H).objs.size=h.objs.size:=PySem.W.hideAll_size _ _
variable{o:Obj}
theorem Gm(e:h.get? b=bv o)(n:H b=gV):(xx h H).get? b=bv o :=
 KB _ e λhm=>by have q:(H b).isSome=true:=(Db.mp hm).2;rw[n]at q;simp at q
theorem L4(e:(xx h H).get? b=bv o):h.get? b=bv o/\H b=none:=by
 have e':h.get? b=bv o:=PySem.W.of_hideAll (trk h H) e;refine⟨e',?_⟩;cases q:H b with
 |none=>rfl
 |some x=>have hm:b∈trk h H:=Db.mpr ⟨List.mem_range.mpr (bL e'),by simp[q]⟩;have z:(xx h H).get? b=none:=PySem.W.hideAll_none (trk h H) hm;rw[z]at e;cases e
structure Mod(K:lc)(mg:Str->Option ajU)(base:Heap):Prop where
 VM:K.In base
 glob:base.Ns aj3 mg
 blt:∃mb,base.Ns builtinsNs mb/\∀x:Str,x≠"__name__"->mb x=ajY x
 nolimit:base.NoLimit
structure Cx where
 prog:ajS
 w:ajV
 K:lc
 mg:Str->Option ajU
 base:Heap
 A:ajP
 N:List Str
 s₀:ajT
 H₀:Hp
 env:Env
 outer:List Env
 stack:List Env
 ex:List ajO
 fn:Str->Bool
 calm:Bool
 pn:List (ajO×Obj)
 xe:ajU->ajT->Prop
def frs(l:List Env):List ajO:=l.filterMap (·.frame)
abbrev Cx.fs(X:Cx):List ajO:=frs X.outer
def Vis(sc:Scope)(x:Str):Prop:=sc.names.lookup x=bv .local\/sc.names.lookup x=bv .cell\/sc.names.lookup x=bv .free
def Loc(sc:Scope)(x:Str):Prop:=sc.names.lookup x=bv .local\/sc.names.lookup x=bv .cell
def Look(env:Env)(h:Heap)(m:Str->Option ajU)(x:Str)(u:ajU):Prop :=
 (env.kindOf x=bv .local/\m x=bv u)\/((env.kindOf x=bv .cell\/env.kindOf x=bv .free)/\∃c,env.cells.lookup x=bv c/\h.IsCell c (bv u))
structure Cx.Ok(X:Cx):Prop where
 mod:Mod X.K X.mg X.base
 kind:X.env.scope.kind= .function
 glob:X.env.globals=aj3
 blt:X.env.builtins=builtinsNs
 above:X.s₀.heap.objs.size<=X.env.locals
 inj:∀x y c,X.env.cells.lookup x=bv c->X.env.cells.lookup y=bv c->x=y
 has:∀x,(X.env.kindOf x=bv .cell\/X.env.kindOf x=bv .free)->∃c,X.env.cells.lookup x=bv c
 cab:∀x c,X.fn x=jp->X.env.cells.lookup x=bv c->X.s₀.heap.objs.size<=c
 hd:X.calm=jp->X.A.handled=gV
 frames:X.A.frames=bv X.stack
 stk:X.stack=X.outer\/(X.stack=X.env::X.outer/\X.env.frame=bv X.env.locals)
 exf:∀b∈X.ex,b≠X.env.locals/\∀x c,X.env.cells.lookup x=bv c->c≠b
 bs:∀b o,X.base.get? b=bv o->X.s₀.heap.get? b=bv o/\X.H₀ b=gV
 QJ:X.base.objs.size<=X.s₀.heap.objs.size
 QK:∀b o,X.base.get? b=bv o->b∉X.ex
 Ww:∀b∈X.ex,b∉X.fs
 tq:X.s₀.heap.FunFrames X.base X.outer
 VN:∀b∈X.fs,X.H₀ b=gV
structure Inv(X:Cx)(pins:List (ajO×Obj))(σ:List (Option V))(H:Hp)(s:ajT):Prop where
 ok:X.Ok
 os:s.os=X.s₀.os
 bare:AllBare s.gens
 base:Un X.fs X.ex X.H₀ H X.s₀.heap s.heap
 loc:∃m,s.heap.Ns X.env.locals m/\∀(i:Nat)(x:Str)(v:V),X.N[i]? =bv x->σ[i]? =bv (bv v)->Vis X.env.scope x->∃u,RelV v u/\Look X.env s.heap m x u
 cell:∀x c,X.env.cells.lookup x=bv c->∃v,s.heap.IsCell c v
 free:H X.env.locals=gV
 qQ:∀x c,X.env.cells.lookup x=bv c->H c=gV
 pin:∀p∈X.pn++pins,s.heap.get? p.1=bv p.2/\H p.1=gV/\p.1≠X.env.locals/\p.1∉X.fs/\∀v,p.2.data≠.cell v
 hok:m_ X.prog X.w H s.heap
 len:σ.length=X.N.length
variable{Q:Unit->ajT->Prop}{u:ajU}{g':Array GenState}{t' i j:Nat}{d':Drawn}{ch:List ajO}{it:ajO}{x:Str}{N:List Str}{M:Model}{v:V}
section
variable {X:Cx}{pins:List (ajO×Obj)}{σ:List (Option V)}{H H':Hp}{s:ajT}{h':Heap}
theorem Cx.Ok.abH(ok:X.Ok)(e:X.base.get? b=bv o):b∉X.fs:=λhb=>by have:=(ok.tq.mem hb).1;rw[e]at this;cases this
theorem Inv.bs(I:Inv X pins σ H s):∀b o,X.base.get? b=bv o->s.heap.get? b=bv o/\H b=none:=λb o e=>
 ⟨I.base.keep b o (I.ok.bs b o e).1 (I.ok.bs b o e).2 (I.ok.abH e) (I.ok.QK b o e),I.base.free b o (I.ok.bs b o e).1 (I.ok.bs b o e).2 (I.ok.QK b o e)⟩
theorem Inv.bk(I:Inv X pins σ H s):∀b o,X.base.get? b=bv o->s.heap.get? b=bv o:=λb o e=>(I.bs b o e).1
theorem Inv.mod(I:Inv X pins σ H s):Mod X.K X.mg X.base:=I.ok.mod
theorem Inv.qR(I:Inv X pins σ H s):X.K.In s.heap:=I.ok.mod.VM.keeps I.bk
theorem Inv.lt(I:Inv X pins σ H s):X.env.locals < s.heap.objs.size:=let ⟨_,hn,_⟩:=I.loc;hn.lt
theorem Inv.sz(I:Inv X pins σ H s):X.s₀.heap.objs.size<=s.heap.objs.size:=aA I.ok.above (sr I.lt)
theorem Inv.abI(I:Inv X pins σ H s)(h:s.heap.objs.size<=a):a∉X.fs:=λhb=>by obtain⟨_,o,ho,_⟩:=I.ok.tq.mem hb;exact absurd (bZ (bL ho) (aA I.sz h)) (jI _)
theorem Inv.QL(I:Inv X pins σ H s):∀x c,X.env.cells.lookup x=bv c->c≠X.env.locals:=λx c e z=>by obtain⟨v,o,ho,hd⟩:=I.cell x c e;obtain⟨m,⟨o',es,ep,ho',hd',_⟩,_⟩:=I.loc;rw[z,ho']at ho;cases ho;rw[hd']at hd;cases hd
theorem Inv.tq(I:Inv X pins σ H s):s.heap.FunFrames X.base X.outer:=by
 have all:∀(l:List Env),(∀b∈frs l,b∈X.fs)->X.s₀.heap.FunFrames X.base l->s.heap.FunFrames X.base l:=by
  intro l
  induction l with
  |nil=>intro _ _;trivial
  |cons env r ih=>intro hs hl;obtain⟨hk,⟨L,o,hf,hn,ho,hd⟩,hr⟩:=hl;have hL:L∈X.fs:=hs L (by unfold frs;rw[xy,hf];exact aY);obtain⟨sl,e⟩:=I.base.slot L o ho (I.ok.VN L hL) hL λz=>I.ok.Ww L z hL;exact⟨hk,⟨L,_,hf,hn,e,hd⟩,ih (λb hb=>hs b (by unfold frs;rw[xy,hf];exact bw _ hb)) hr⟩
 exact all X.outer (λ_ hb=>hb) I.ok.tq
theorem Inv.stack(I:Inv X pins σ H s):s.heap.FunFrames X.base X.stack:=by
 rcases I.ok.stk with e |⟨e,hf⟩
 ·rw[e];exact I.tq
 ·rw[e];obtain⟨m,hn,_⟩:=I.loc;refine .cons (by rw[I.ok.kind];decide) hf hn ?_ I.tq;exact Heap.get?_none_of_le (aA I.ok.QJ I.ok.above)
theorem Inv.xA(I:Inv X pins σ H s):∀b∈frs X.stack,b∈X.env.locals::X.fs:=λb hb=>by
 rcases I.ok.stk with e |⟨e,hf⟩
 ·rw[e]at hb;exact bw _ hb
 ·rw[e]at hb;unfold frs at hb;rw[xy,hf]at hb;exact hb
theorem Inv.xB(I:Inv X pins σ H s):∀b∈frs X.stack,H b=none:=λb hb=>by
 rcases List.mem_cons.mp (I.xA b hb)with e |hb
 ·rw[e];exact I.free
 ·obtain⟨_,o,ho,_⟩:=I.ok.tq.mem hb;exact I.base.free b o ho (I.ok.VN b hb) λz=>I.ok.Ww b z hb
theorem Inv.step(I:Inv X pins σ H s)
  (hch:∀b∈ch,(b∈X.ex\/X.s₀.heap.objs.size<=b)/\b≠X.env.locals/\(∀x c,X.env.cells.lookup x=bv c->c≠b)/\∀p∈X.pn++pins,p.1≠b)
  (keep:∀b o,b≠X.env.locals->b∉X.fs->b∉ch->s.heap.get? b=bv o->H b=gV->h'.get? b=bv o)
  (slot:∀b o,b≠X.env.locals->b∈X.fs->b∉ch->s.heap.get? b=bv o->H b=gV->∃sl,h'.get? b=bv { o with slots:=sl })(free:∀b o,b∉ch->s.heap.get? b=bv o->H b=gV->H' b=gV)
  (there:∀b o,b∉ch->s.heap.get? b=bv o->∃o',h'.get? b=bv o')
  (tups:∀b xs,H b=bv (.tup xs)->H' b=bv (.tup xs))(r6:∀b o u,H b=bv (.rZ o u)->H' b=bv (.rZ o u))(vC:∀b ps,H b=bv (.jD ps)->∃more,H' b=bv (.jD (ps++more)))
  (ns:∀m,s.heap.Ns X.env.locals m->h'.Ns X.env.locals m)(hok:m_ X.prog X.w H' h')(hg:AllBare g'):
  Inv X pins σ H' { s with heap:=h',gens:=g',drawn:=d',toks:=t' }:=by
 have neL:∀b o,X.s₀.heap.get? b=bv o->b≠X.env.locals:=λb o e=>dJ (bZ (bL e) I.ok.above);have neC:∀b o,X.s₀.heap.get? b=bv o->b∉X.ex->b∉ch:=λb o e hx hb=>by
  rcases(hch b hb).1 with z |z
  ·exact hx z
  ·exact absurd (bZ (bL e) z) (jI _)
 have cellK:∀x c,X.env.cells.lookup x=bv c->∀v,s.heap.IsCell c v->h'.IsCell c v:=λx c e v ⟨o,ho,hd⟩=>by
  have Wx:c∉ch:=λz=>(hch c z).2.2.1 x c e rfl;by_cases hc:c∈X.fs
  ·obtain⟨sl,q⟩:=slot c o (I.QL x c e) hc Wx ho (I.qQ x c e);exact⟨_,q,hd⟩
  ·exact⟨o,keep c o (I.QL x c e) hc Wx ho (I.qQ x c e),hd⟩
 refine⟨I.ok,I.os,hg,⟨λb o e n hb hx=>?_,λb o e n hb hx=>?_,λb o e n hx=>?_,λb o e hx=>?_,λb xs e=>tups b xs (I.base.tups b xs e),λb o xs e=>r6 b o xs (I.base.r6 b o xs e),λb ps e=>?_⟩,?_,λx c e=>?_,?_,λx c e=>?_,λp hp=>?_,hok,I.len⟩
 ·exact keep b o (neL b o e) hb (neC b o e hx) (I.base.keep b o e n hb hx) (I.base.free b o e n hx)
 ·obtain⟨sl,e1⟩:=I.base.slot b o e n hb hx;obtain⟨sl',e2⟩:=slot b _ (neL b o e) hb (neC b o e hx) e1 (I.base.free b o e n hx);exact⟨sl',e2⟩
 ·obtain⟨o',e1⟩:=I.base.there b o e hx;exact free b o' (neC b o e hx) e1 (I.base.free b o e n hx)
 ·obtain⟨o',e1⟩:=I.base.there b o e hx;exact there b o' (neC b o e hx) e1
 ·obtain⟨m1,e1⟩:=I.base.vC b ps e;obtain⟨m2,e2⟩:=vC b _ e1;exact⟨m1++m2,by rw[e2,Pj]⟩
 ·obtain⟨m,hn,hl⟩:=I.loc;refine⟨m,ns m hn,λi x v e1 e2 e3=>?_⟩;obtain⟨u,r,l⟩:=hl i x v e1 e2 e3;refine⟨u,r,?_⟩;rcases l with l |⟨k,c,e,z⟩
  ·exact .inl l
  ·exact .inr ⟨k,c,e,cellK x c e _ z⟩
 ·obtain⟨v,z⟩:=I.cell x c e;exact⟨v,cellK x c e v z⟩
 ·obtain⟨m,⟨o,_,_,ho,_⟩,_⟩:=I.loc;exact free _ o (λz=>(hch _ z).2.1 rfl) ho I.free
 ·obtain⟨v,o,ho,hd⟩:=I.cell x c e;exact free c o (λz=>(hch c z).2.2.1 x c e rfl) ho (I.qQ x c e)
 ·obtain⟨e,n,ne,nf,d⟩:=I.pin p hp;have Wx:p.1∉ch:=λz=>(hch p.1 z).2.2.2 p hp rfl;exact⟨keep p.1 p.2 ne nf Wx e n,free p.1 p.2 Wx e n,ne,nf,d⟩
theorem Inv.un(I:Inv X pins σ H s)(u:Un X.fs [] H H' s.heap h')(hok:m_ X.prog X.w H' h'):Inv X pins σ H' { s with heap:=h',toks:=t' }:=by obtain⟨m,⟨o,es,ep,ho,r⟩,_⟩:=id I.loc;obtain⟨sl,hL⟩:=u.any ho I.free (by simp);exact I.step (g':=s.gens) (d':=s.drawn) (ch:=[]) (λ_ z=>nomatch z) (λb o _ hb _ e n=>u.keep b o e n hb (by simp)) (λb o _ hb _ e n=>u.slot b o e n hb (by simp)) (λb o _ e n=>u.free b o e n (by simp)) (λb o _ e=>u.there b o e (by simp)) u.tups u.r6 u.vC (λm' hm=>by obtain⟨o',es',ep',ho',r'⟩:=hm;rw[ho]at ho';cases ho';exact⟨_,es',ep',hL,r'⟩) hok I.bare
theorem Inv.call(I:Inv X pins σ H s)(u:Un (frs X.stack) ch H H' s.heap h')(hok:m_ X.prog X.w H' h')(hg:AllBare g')
  (hch:∀b∈ch,(b∈X.ex\/X.s₀.heap.objs.size<=b)/\b≠X.env.locals/\(∀x c,X.env.cells.lookup x=bv c->c≠b)/\∀p∈X.pn++pins,p.1≠b):
  Inv X pins σ H' { s with heap:=h',gens:=g',drawn:=d',toks:=t' }:=by
 obtain⟨m,⟨o,es,ep,ho,r⟩,_⟩:=id I.loc;obtain⟨sl,hL⟩:=u.any ho I.free λz=>(hch _ z).2.1 rfl;exact I.step (ch:=ch) hch (λb o hL hb hc e n=>u.keep b o e n (λz=>(List.mem_cons.mp (I.xA b z)).elim hL hb) hc) (λb o _ _ hc e n=>u.any e n hc) (λb o hc e n=>u.free b o e n hc) (λb o hc e=>u.there b o e hc) u.tups u.r6 u.vC (λm' hm=>by obtain⟨o',es',ep',ho',r'⟩:=hm;rw[ho]at ho';cases ho';exact⟨_,es',ep',hL,r'⟩) hok hg
theorem Inv.turned(I:Inv X pins σ H s)(k:∀b o,b≠it->s.heap.get? b=bv o->h'.get? b=bv o)(hn:H it=gV)(hL:it≠X.env.locals)
  (h1:it∈X.ex\/X.s₀.heap.objs.size<=it)(h2:∀x c,X.env.cells.lookup x=bv c->c≠it)(h3:∀p∈X.pn++pins,p.1≠it):Inv X pins σ H { s with heap:=h',toks:=t' }:=by
 have nit:∀b u,H b=bv u->b≠it:=λb u e z=>by rw[z,hn]at e;cases e
 refine I.step (g':=s.gens) (d':=s.drawn) (ch:=[it]) (λb hb=>?_) (λb o _ _ hc e _=>k b o (λz=>hc (by simp[z])) e) (λb o _ _ hc e _=>⟨o.slots,k b o (λz=>hc (by simp[z])) e⟩) (λ_ _ _ _ n=>n)
  (λb o hc e=>⟨o,k b o (λz=>hc (by simp[z])) e⟩) (λ_ _ e=>e) (λ_ _ _ e=>e) (λb ps e=>⟨#[],by rw[e];simp⟩) (λm hm=>?_) (λb u e=>?_) I.bare
 ·have e:b=it:=by simpa using hb
  subst e;exact⟨h1,hL,h2,h3⟩
 ·obtain⟨o,es,ep,ho,r⟩:=hm;exact⟨o,es,ep,k _ o (dM hL) ho,r⟩
 ·refine(I.hok b u e).stay (λc v hc q=>k c v ?_ q) (λ_ q=>q) λ_ _ q=>q;rcases hc with z |z
  ·rw[z];exact nit b u e
  ·exact nit c _ z
theorem Inv.tok(I:Inv X pins σ H s)(t:Nat):Inv X pins σ H { s with toks:=t }:=I.un (h':=s.heap) (t':=t) Un.refl I.hok
theorem Inv.kept(I:Inv X pins σ H s)(k:∀b u,s.heap.get? b=bv u->h'.get? b=bv u):Inv X pins σ H { s with heap:=h',toks:=t' }:=I.un (Un.kept k) (I.hok.kept k)
theorem Inv.laid{o:HO}(I:Inv X pins σ H s)(k:∀b u,s.heap.get? b=bv u->h'.get? b=bv u)(hp:s.heap.objs.size<=a)(new:fh X.prog X.w (upd H a o) h' a o):
  Inv X pins σ (upd H a o) { s with heap:=h',toks:=t' }:=I.un (Un.laid k hp (I.hok.fresh hp)) (I.hok.laid k hp new)
theorem Inv.write{x e:ajO}{o:HO}(I:Inv X pins σ H s)(mu:Wo (H x))(he:e=x\/H e=bv (.own x))(k:∀b u,b≠e->s.heap.get? b=bv u->h'.get? b=bv u)(VL:∃u,h'.get? e=bv u)
  (new:fh X.prog X.w (upd H x o) h' x o):Inv X pins σ (upd H x o) { s with heap:=h',toks:=t' }:=I.un (Un.write mu he k VL) (I.hok.write mu he k VL new)
theorem Inv.CT{CU:List (ajO×Obj)}(I:Inv X pins σ H s)(h:∀p∈CU,s.heap.get? p.1=bv p.2/\H p.1=gV/\p.1≠X.env.locals/\p.1∉X.fs/\∀v,p.2.data≠.cell v):Inv X CU σ H s :=
 ⟨I.ok,I.os,I.bare,I.base,I.loc,I.cell,I.free,I.qQ,λp hp=>(wS.mp hp).elim (λz=>I.pin p (xC _ z)) (h p),I.hok,I.len⟩
theorem y3(hN:N.Nodup)(a:N[i]? =bv x)(b:N[j]? =bv x):i=j:=by obtain⟨h1,e1⟩:=np.mp a;obtain⟨h2,e2⟩:=np.mp b;exact(List.getElem_inj hN).mp (e1.trans e2.symm)
theorem wa(I:Inv X pins σ H s)(hN:X.N.Nodup)(hi:X.N[i]? =bv x)(hx:Loc X.env.scope x)(r:RelV v u)
  (h:∀s',Inv X pins (σ.set i (bv v)) H s'->(∃a,xD a s.heap s'.heap/\(a=X.env.locals\/X.env.cells.lookup x=bv a))->Q () s')(hf:X.fn x=jp\/X.env.scope.names.lookup x=bv .local:=by first |exact .inl rfl |exact .inr rfl |assumption):aj6 M A (storeName X.env x u) Q E s:=by
 obtain⟨m,hn,hl⟩:=id I.loc;have hcls:(X.env.scope.kind == .class||(X.env.scope.kind == .module&&X.env.locals != X.env.globals))=false:=by rw[I.ok.kind];rfl
 have Wy:i < σ.length:=by rw[I.len];exact(np.mp hi).1
 have QL:=I.QL;have tracked:∀{a:ajO}{h':Heap},(∃o,s.heap.get? a=bv o/\H a=gV)->xD a s.heap h'->m_ X.prog X.w H h':=λ{a h'} ha hs b ob e=>by
  obtain⟨_,_,hfree⟩:=ha;refine(I.hok b ob e).stay (λc w' hc q=>(hs.2 c ?_).trans q) (λ_ q=>q) λ_ _ q=>q;rintro rfl;rcases hc with rfl |hc
  ·rw[hfree]at e;cases e
  ·rw[hfree]at hc;cases hc
 rcases hx with hk |hk
 ·refine wpAny_storeName_local hk hn (λh' hn' hs=>?_) hcls;obtain⟨oL,_,_,hoL,_⟩:=id hn;refine h _ ⟨I.ok,I.os,I.bare,⟨λb o e n hb hx=>?_,λb o e n hb hx=>?_,I.base.free,λb o e hx=>?_,I.base.tups,I.base.r6,I.base.vC⟩,⟨_,hn',λj y v' e1 e2 e3=>?_⟩,λy c e=>?_,I.free,I.qQ,λp hp=>?_,tracked ⟨oL,hoL,I.free⟩ hs,by simpa using I.len⟩ ⟨_,hs,.inl rfl⟩
  ·exact(hs.2 b (dJ (bZ (bL e) I.ok.above))).trans (I.base.keep b o e n hb hx)
  ·obtain⟨sl,e1⟩:=I.base.slot b o e n hb hx;exact⟨sl,(hs.2 b (dJ (bZ (bL e) I.ok.above))).trans e1⟩
  ·obtain⟨o',e1⟩:=I.base.there b o e hx;exact⟨o',(hs.2 b (dJ (bZ (bL e) I.ok.above))).trans e1⟩
  ·by_cases hj:j=i
   ·subst hj;rw[hi]at e1;cases e1;rw[tD Wy]at e2;cases e2;exact⟨u,r,.inl ⟨hk,by simp⟩⟩
   ·rw[bM (dM hj)]at e2;obtain⟨u',r',q⟩:=hl j y v' e1 e2 e3;refine⟨u',r',?_⟩;rcases q with ⟨k,e⟩ |⟨k,c,e,z⟩
    ·refine .inl ⟨k,?_⟩;have:y≠x:=λe=>hj (y3 hN e1 (e ▸ hi));simp[this,e]
    ·exact .inr ⟨k,c,e,z.sameBut hs (QL y c e)⟩
  ·obtain⟨w',z⟩:=I.cell y c e;exact⟨w',z.sameBut hs (QL y c e)⟩
  ·obtain⟨e,n,ne,nf,d⟩:=I.pin p hp;exact⟨(hs.2 p.1 ne).trans e,n,ne,nf,d⟩
 ·have hfn:X.fn x=true:=by
   rcases hf with z |z
   ·exact z
   ·rw[z]at hk;cases hk
  obtain⟨c,hc⟩:=I.ok.has x (.inl hk);obtain⟨w',z⟩:=I.cell x c hc;refine wpAny_storeName_cell I.ok.kind hk hc z (λh' hc' hs=>?_);obtain⟨oc,hoc,abK⟩:=id z;refine h { s with heap:=h' } ⟨I.ok,I.os,I.bare,⟨λb o e n hb hx=>?_,λb o e n hb hx=>?_,I.base.free,λb o e hx=>?_,I.base.tups,I.base.r6,I.base.vC⟩,⟨m,hn.sameBut hs (dM (QL x c hc)),λj y v' e1 e2 e3=>?_⟩,λy c' e=>?_,I.free,I.qQ,λp hp=>?_,tracked ⟨oc,hoc,I.qQ x c hc⟩ hs,by simpa using I.len⟩ ⟨c,hs,.inr hc⟩
  ·exact(hs.2 b (dJ (bZ (bL e) (I.ok.cab x c hfn hc)))).trans (I.base.keep b o e n hb hx)
  ·obtain⟨sl,e1⟩:=I.base.slot b o e n hb hx;exact⟨sl,(hs.2 b (dJ (bZ (bL e) (I.ok.cab x c hfn hc)))).trans e1⟩
  ·obtain⟨o',e1⟩:=I.base.there b o e hx;exact⟨o',(hs.2 b (dJ (bZ (bL e) (I.ok.cab x c hfn hc)))).trans e1⟩
  ·by_cases hj:j=i
   ·subst hj;rw[hi]at e1;cases e1;rw[tD Wy]at e2;cases e2;exact⟨u,r,.inr ⟨.inl hk,c,hc,hc'⟩⟩
   ·rw[bM (dM hj)]at e2;obtain⟨u',r',q⟩:=hl j y v' e1 e2 e3;refine⟨u',r',?_⟩;rcases q with q |⟨k,c',e,z'⟩
    ·exact .inl q
    ·refine .inr ⟨k,c',e,z'.sameBut hs ?_⟩;rintro rfl;exact hj (y3 hN e1 (I.ok.inj _ _ _ e hc ▸ hi))
  ·by_cases hcc:c'=c
   ·subst hcc;exact⟨_,hc'⟩
   ·obtain⟨w2,z2⟩:=I.cell y c' e;exact⟨w2,z2.sameBut hs hcc⟩
  ·obtain⟨e,n,ne,nf,d⟩:=I.pin p hp;refine⟨(hs.2 p.1 ?_).trans e,n,ne,nf,d⟩;intro q;rw[q,hoc]at e;have q':oc=p.2:=Option.some.inj e;exact d w' (by rw[<-q'];exact abK)
theorem oW(I:Inv X pins σ H s)(hN:X.N.Nodup)(hi:X.N[i]? =bv x)(hx:Loc X.env.scope x)(r:RelV v u)
  (h:∀s',Inv X pins (σ.set i (bv v)) H s'->Q () s')(hf:X.fn x=jp\/X.env.scope.names.lookup x=bv .local:=by first |exact .inl rfl |exact .inr rfl |assumption):aj6 M A (storeName X.env x u) Q E s :=
 wa I hN hi hx r (λs' I' _=>h s' I') hf
theorem Inv.Wz{s':ajT}(I:Inv X pins σ H s)(ho:s'.os=s.os)(u:Un (frs X.stack) ch H H' s.heap s'.heap)(hok:m_ X.prog X.w H' s'.heap)(hg:AllBare s'.gens)
  (hch:∀b∈ch,(b∈X.ex\/X.s₀.heap.objs.size<=b)/\b≠X.env.locals/\(∀x c,X.env.cells.lookup x=bv c->c≠b)/\∀p∈X.pn++pins,p.1≠b):Inv X pins σ H' s':=by
 obtain⟨h',g',d',t',o'⟩:=s';have e:o'=s.os:=ho;subst e;exact I.call (g':=g') (t':=t') (d':=d') u hok hg hch
end
abbrev XK:=ajU->Option ajO->Hp->Prop
abbrev St:=List (Option V)
abbrev VK:=V->Hp->Prop
abbrev TE:=St->Hp->VK->Prop
abbrev TT:=St->Hp->(Bool->Hp->Prop)->Prop
abbrev TA:=St->Hp->(List V->Hp->Prop)->Prop
structure Ends where
 nx:St->Hp->Prop
 rt:VK
 bk:St->Hp->Prop:=λ_ _=>False
 ct:St->Hp->Prop:=λ_ _=>False
abbrev TS:=Ends->St->Hp->Prop
def EP(X:Cx)(pins:List (ajO×Obj))(σ:St)(Q:VK)(u:ajU)(s':ajT):Prop:=∃v H',Inv X pins σ H' s'/\RelV v u/\Q v H'
def TP(X:Cx)(pins:List (ajO×Obj))(σ:St)(Q:Bool->Hp->Prop)(b:Bool)(s':ajT):Prop:=∃H',Inv X pins σ H' s'/\Q b H'
def AP(X:Cx)(pins:List (ajO×Obj))(σ:St)(Q:List V->Hp->Prop)(us:List ajU)(s':ajT):Prop:=∃vs H',Inv X pins σ H' s'/\Vals vs us/\Q vs H'
def SP(X:Cx)(pins:List (ajO×Obj))(D:Ends)(f:Flow)(s':ajT):Prop :=
 match f with
 |.next=>∃σ' H',Inv X pins σ' H' s'/\D.nx σ' H'
 |.brk=>∃σ' H',Inv X pins σ' H' s'/\D.bk σ' H'
 |.cont=>∃σ' H',Inv X pins σ' H' s'/\D.ct σ' H'
 |.ret u=>∃v σ' H',Inv X pins σ' H' s'/\RelV v u/\D.rt v H'
def PE(X:Cx)(e:Expr)(t:TE):Prop :=
 ∀(pins:List (ajO×Obj))(s:ajT)(σ:St)(H:Hp)(Q:VK),Inv X pins σ H s->t σ H Q->aj6 (model X.prog X.w) X.A (eval e X.env) (EP X pins σ Q) X.xe s
def PT(X:Cx)(e:Expr)(t:TT):Prop :=
 ∀(pins:List (ajO×Obj))(s:ajT)(σ:St)(H:Hp)(Q:Bool->Hp->Prop),Inv X pins σ H s->t σ H Q->aj6 (model X.prog X.w) X.A (isTrue e X.env (eval e X.env)) (TP X pins σ Q) X.xe s
def PW(X:Cx)(e:Expr)(t:TT):Prop :=
 ∀(whole:Sem ajU)(pins:List (ajO×Obj))(s:ajT)(σ:St)(H:Hp)(Q:Bool->Hp->Prop),Inv X pins σ H s->t σ H Q->aj6 (model X.prog X.w) X.A (isTrue e X.env whole) (TP X pins σ Q) X.xe s
def PA(X:Cx)(es:List Expr)(t:TA):Prop :=
 ∀(pos:Pos)(pins:List (ajO×Obj))(s:ajT)(σ:St)(H:Hp)(Q:List V->Hp->Prop),Inv X pins σ H s->t σ H Q->aj6 (model X.prog X.w) X.A (spliced (backTo pos (aj5 es X.env))) (AP X pins σ Q) X.xe s
def PS(X:Cx)(st:Stmt)(t:TS):Prop :=
 ∀(pins:List (ajO×Obj))(s:ajT)(σ:St)(H:Hp)(D:Ends),Inv X pins σ H s->t D σ H->aj6 (model X.prog X.w) X.A (exec st X.env) (SP X pins D) X.xe s
def Gf(X:Cx)(st:List Stmt)(t:TS):Prop :=
 ∀(pins:List (ajO×Obj))(s:ajT)(σ:St)(H:Hp)(D:Ends),Inv X pins σ H s->t D σ H->aj6 (model X.prog X.w) X.A (execs st X.env) (SP X pins D) X.xe s
theorem bR{α:Type}{t:Sem α}{Q Q':α->ajT->Prop}(h:aj6 M A t Q E s)(hQ:∀a s,Q a s->Q' a s):aj6 M A t Q' E s:=aj9 h hQ λ_ _ x=>x
variable{Q:ajU->ajT->Prop}{pos:Pos}{σ:St}{op:CmpOp}{t:TE}{c:Expr}
section
variable {X:Cx}
def abL(i:Nat):TE:=λσ H Q=>∃v,σ[i]? =bv (bv v)/\Q v H
def tC(v:V):TE:=λ_ H Q=>Q v H
theorem QM(hN:X.N[i]? =bv x)(hv:Vis X.env.scope x)(hd:(x == ("__debug__":Str))=false:=by decide)(hcd:(x == ("__classdict__":Str))=false:=by decide):PE X (.Name x pos) (abL i):=by
 intro pins s σ H Q I h;obtain⟨v,e,h⟩:=h;obtain⟨m,hn,hl⟩:=I.loc;obtain⟨u,r,l⟩:=hl i x v hN e hv;have fin:EP X pins σ Q u s:=⟨v,H,I,r,h⟩;rcases l with ⟨hk,hm⟩ |⟨hk,c,hc,hcell⟩
 ·exact wpAny_Name (wpAny_loadName_local I.ok.kind hk hn hm fin) hd
 ·rcases hk with hk |hk
  ·exact wpAny_Name (wpAny_loadName_cell I.ok.kind hk hc hcell fin) hd
  ·exact wpAny_Name (wpAny_loadName_free I.ok.kind hk hc hcell fin hcd) hd
theorem QN{i j pos}:PE X (.Constant (.int i) j pos) (tC (.int i)):=λ_ _ _ H _ I h=>wpAny_Constant_int ⟨.int i,H,I.tok _,⟨_,rfl⟩,h⟩
theorem WA{b j pos}:PE X (.Constant (.bool b) j pos) (tC (.bl b)):=λ_ _ _ H _ I h=>Constant_bool ⟨.bl b,H,I,rfl,h⟩
theorem QO{j pos}:PE X (.Constant .none j pos) (tC .cY):=λ_ _ _ H _ I h=>Constant_none ⟨.cY,H,I,rfl,h⟩
theorem QP{x j pos}:PE X (.Constant (.str x) j pos) (tC (.str x)):=λ_ _ _ H _ I h=>Calls.Constant_str ⟨.str x,H,I.tok _,⟨_,rfl⟩,h⟩
def Gl(X:Cx)(x:Str):Prop:=X.env.kindOf x=bv .globalImplicit
theorem xE{pins:List (ajO×Obj)}(I:Inv X pins σ H s)(hg:Gl X x)(hm:X.mg x=bv u)(h:Q u s)
  (hd:(x == ("__debug__":Str))=false:=by decide):aj6 (model X.prog X.w) X.A (eval (.Name x pos) X.env) Q E s :=
 QQ I.ok.kind hg (Calls.loadGlobal_global (by rw[I.ok.glob];exact I.mod.glob.keeps I.bk) hm h) hd
theorem xF{pins:List (ajO×Obj)}(I:Inv X pins σ H s)(hg:Gl X x)(hm:X.mg x=gV)(hv:ajY x=bv u)(h:Q u s)
  (hn:x≠"__name__":=by decide)(hd:(x == ("__debug__":Str))=false:=by decide):aj6 (model X.prog X.w) X.A (eval (.Name x pos) X.env) Q E s:=by
 obtain⟨mb,h1,h2⟩:=I.mod.blt;exact QQ I.ok.kind hg (Calls.loadGlobal_builtin (by rw[I.ok.glob];exact I.mod.glob.keeps I.bk) hm (by rw[I.ok.blt];exact h1.keeps I.bk) ((h2 x hn).trans hv) h) hd
theorem i5(hg:Gl X x)(hm:X.mg x=bv u)(r:RelV v u)(hd:(x == ("__debug__":Str))=false:=by decide):PE X (.Name x pos) (tC v) :=
 λ_ _ _ H _ I h=>xE I hg hm ⟨v,H,I,r,h⟩ hd
theorem L5(hg:Gl X x)(hm:X.mg x=gV)(hv:ajY x=bv u)(r:RelV v u)(hn:x≠"__name__":=by decide)(hd:(x == ("__debug__":Str))=false:=by decide):PE X (.Name x pos) (tC v) :=
 λ_ _ _ H _ I h=>xF I hg hm hv ⟨v,H,I,r,h⟩ hn hd
variable {a b:Expr}{ta tb:TE}{pos:Pos}
def PC(X:Cx)(op:CmpOp)(a b:Expr)(t:TE):Prop :=
 ∀(pins:List (ajO×Obj))(s:ajT)(σ:St)(H:Hp)(Q:VK),Inv X pins σ H s->t σ H Q->
  aj6 (model X.prog X.w) X.A (eval a X.env) (λv s₁=>aj6 (model X.prog X.w) X.A (eval b X.env) (λu s₂=>aj6 (model X.prog X.w) X.A (aj1 op v u) (EP X pins σ Q) X.xe s₂) X.xe s₁) X.xe s
def tB(t:TE):TT:=λσ H Q=>t σ H λx H1=>∃c,x= .bl c/\Q c H1
theorem Gn(h:PC X op a b t)(h1:ajW op b=false:=by first |exact Gp _ (by decide) (by decide) |rfl):PE X (.Compare a [op] [b] pos) t:=λpins s σ H Q I hw=>wpAny_Compare1 (h pins s σ H Q I hw) h1
theorem Gq(h:PC X op a b t)(h1:ajW op b=false:=by first |exact Gp _ (by decide) (by decide) |rfl):PT X (.Compare a [op] [b] pos) (tB t):=by intro pins s σ H Q I hw;refine wpAny_isTrue_Compare1 (bR (h pins s σ H _ I hw) λv s1 h1=>bR h1 λu s2 h2=>bR h2 λc s3 ⟨x,H1,I1,r1,q1⟩=>?_) h1;obtain⟨d,rfl,q⟩:=q1;cases r1;exact akc ⟨H1,I1,q⟩
variable {tA tB':TT}{rest:List Expr}
def abM(t u:TT):TT:=λσ H Q=>t σ H λc H1=>if c=jp then u σ H1 Q else Q kt H1
def tOr(t u:TT):TT:=λσ H Q=>t σ H λc H1=>if c=jp then Q jp H1 else u σ H1 Q
def abN(t:TT):TT:=λσ H Q=>t σ H λc H1=>Q (!c) H1
theorem L6(ha:PT X a tA):PW X (.BoolOp .And [a] pos) tA:=by
 intro wh pins s σ H Q I h;refine isTrue_and (bR (ha pins s σ H Q I h) λc s1 e=>?_);cases c with
 |true=>exact isTrue_and_nil e
 |false=>exact e
theorem QR(ha:PT X a tA):PW X (.BoolOp .Or [a] pos) tA:=by
 intro wh pins s σ H Q I h;refine isTrue_or (bR (ha pins s σ H Q I h) λc s1 e=>?_);cases c with
 |false=>exact isTrue_or_nil e
 |true=>exact e
theorem QS(ha:PT X a tA)(hb:PW X (.BoolOp .And (b::rest) pos) tB'):PW X (.BoolOp .And (a::b::rest) pos) (abM tA tB'):=by
 intro wh pins s σ H Q I h;refine isTrue_and (bR (ha pins s σ H _ I h) λc s1 ⟨H1,I1,q1⟩=>?_);cases c with
 |true=>exact hb wh pins s1 σ H1 Q I1 q1
 |false=>exact⟨H1,I1,q1⟩
theorem WB(ha:PT X a tA)(hb:PW X (.BoolOp .Or (b::rest) pos) tB'):PW X (.BoolOp .Or (a::b::rest) pos) (tOr tA tB'):=by
 intro wh pins s σ H Q I h;refine isTrue_or (bR (ha pins s σ H _ I h) λc s1 ⟨H1,I1,q1⟩=>?_);cases c with
 |true=>exact⟨H1,I1,q1⟩
 |false=>exact hb wh pins s1 σ H1 Q I1 q1
theorem QT(ha:PT X a tA):PT X (.UnaryOp .Not a pos) (abN tA):=by intro pins s σ H Q I h;exact isTrue_not (ha pins s σ H (λc H1=>Q (!c) H1) I h)
def WC(ta tb:TE):TE:=λσ H Q=>ta σ H λx H1=>∃c,x= .bl c/\if c=jp then tb σ H1 Q else Q (.bl kt) H1
def abO(ta tb:TE):TE:=λσ H Q=>ta σ H λx H1=>∃c,x= .bl c/\if c=jp then Q (.bl jp) H1 else tb σ H1 Q
def WD(ta:TE):TE:=λσ H Q=>ta σ H λx H1=>∃c,x= .bl c/\Q (.bl (!c)) H1
theorem QU{op}(h:PE X a t):PE X (.BoolOp op [a] pos) t:=λpins s σ H Q I hw=>BoolOp_one (h pins s σ H Q I hw)
theorem QV(ha:PE X a ta)(hb:PE X (.BoolOp .And (b::rest) pos) tb):PE X (.BoolOp .And (a::b::rest) pos) (WC ta tb):=by
 intro pins s σ H Q I h;refine BoolOp_and (bR (ha pins s σ H _ I h) λv s1 ⟨x,H1,I1,r1,q1⟩=>?_);obtain⟨c,rfl,q1⟩:=q1;cases r1;refine akc ?_;cases c with
 |true=>exact hb pins s1 σ H1 Q I1 q1
 |false=>exact⟨.bl kt,H1,I1,rfl,q1⟩
theorem WE(ha:PE X a ta)(hb:PE X (.BoolOp .Or (b::rest) pos) tb):PE X (.BoolOp .Or (a::b::rest) pos) (abO ta tb):=by
 intro pins s σ H Q I h;refine BoolOp_or (bR (ha pins s σ H _ I h) λv s1 ⟨x,H1,I1,r1,q1⟩=>?_);obtain⟨c,rfl,q1⟩:=q1;cases r1;refine akc ?_;cases c with
 |false=>exact hb pins s1 σ H1 Q I1 q1
 |true=>exact⟨.bl jp,H1,I1,rfl,q1⟩
theorem QW(ha:PE X a ta):PE X (.UnaryOp .Not a pos) (WD ta):=by intro pins s σ H Q I h;refine UnaryOp_ (bR (ha pins s σ H _ I h) λv s1 ⟨x,H1,I1,r1,q1⟩=>?_);obtain⟨c,rfl,q1⟩:=q1;cases r1;exact not_of (akc ⟨.bl (!c),H1,I1,rfl,q1⟩)
def tIf(t:TT)(ta tb:TE):TE:=λσ H Q=>t σ H λc H1=>if c=jp then ta σ H1 Q else tb σ H1 Q
theorem Gs(hc:PT X c tA)(ha:PE X a ta)(hb:PE X b tb):PE X (.IfExp c a b pos) (tIf tA ta tb):=by
 intro pins s σ H Q I h;refine wpAny_IfExp (bR (hc pins s σ H _ I h) λd s1 ⟨H1,I1,q1⟩=>?_);cases d with
 |true=>exact ha pins s1 σ H1 Q I1 q1
 |false=>exact hb pins s1 σ H1 Q I1 q1
end
def ng(K:lc)(H:Hp)(a:ajO)(xs:List V):Prop :=
 Rd H a (.lst xs)\/
  ∃(o:Obj)(its:Array ajU)(n:Nat),K.lookup a=bv o/\o.cls= .type "list"/\o.dict=gV/\o.data= .seq its n/\its.size<=aj4/\Vals xs its.toList
def hV(K:lc)(H:Hp)(a:ajO)(xs:List V):Prop :=
 Rd H a (.tup xs)\/
  ∃(o:Obj)(its:Array ajU)(n:Nat),K.lookup a=bv o/\o.cls= .type "tuple"/\o.data= .seq its n/\its.size<=aj4/\Vals xs its.toList
def abP:ajU->Option V
 |.none=>bv .cY
 |.bool b=>bv (.bl b)
 |.int i _=>bv (.int i)
 |.str x _=>bv (.str x)
 |.bytes b _=>bv (.VJ b)
 |.float b _=>bv (.flt b)
 |.ref a=>bv (.ref a)
 |.type n=>bv (.ty n)
 |_=>gV
theorem RelV.abs{x:V}(r:RelV x u):abP u=bv x:=by
 cases x with
 |cY=>cases r;rfl
 |bl _=>cases r;rfl
 |int _=>obtain⟨t,rfl⟩:=r;rfl
 |str _=>obtain⟨t,rfl⟩:=r;rfl
 |VJ _=>obtain⟨t,rfl⟩:=r;rfl
 |flt _=>obtain⟨t,rfl⟩:=r;rfl
 |ref _=>cases r;rfl
 |ty _=>cases r;rfl
variable{y:V}
theorem RelV.inj{x:V}(r:RelV x u)(q:RelV y u):x=y:=Option.some.inj (r.abs.symm.trans q.abs)
theorem Vals.inj:∀{xs ys:List V}{us:List ajU},Vals xs us->Vals ys us->xs=ys
 |_,_,_,.nil,.nil=>rfl
 |_,_,_,.cons r t,.cons r' t'=>by rw[r.inj r',Vals.inj t t']
variable{K:lc}
section
variable {X:Cx}{pins:List (ajO×Obj)}{σ:St}{H:Hp}{s:ajT}{a:ajO}{xs ys:List V}
theorem ng.of(h:H a=bv (.lst xs)):ng K H a xs:=.inl (.inl h)
theorem hV.of(h:H a=bv (.tup xs)):hV K H a xs:=.inl (.inl h)
theorem Inv.list(I:Inv X pins σ H s)(h:ng X.K H a xs):∃its:List ajU,Vals xs its/\PlainL s.heap a its.toArray/\xs.length<=aj4:=by
 rcases h with h |⟨o,its,n,hk,hc,hd,hs,hz,r⟩
 ·obtain⟨z,its,n,r,e⟩:=h.ok I.hok;exact⟨its,r,⟨_,n,e,rfl,rfl,rfl⟩,z⟩
 ·refine⟨its.toList,r,⟨o,n,I.qR a o hk,hc,hd,by simpa using hs⟩,?_⟩;have e:=r.length;simp only[hZ]at e;omega
theorem Inv.tuple(I:Inv X pins σ H s)(h:hV X.K H a xs):∃its:List ajU,Vals xs its/\IsTup s.heap a its.toArray/\xs.length<=aj4:=by
 rcases h with h |⟨o,its,n,hk,hc,hs,hz,r⟩
 ·obtain⟨z,its,r,p,_⟩:=h.ok I.hok;exact⟨its,r,p,z⟩
 ·refine⟨its.toList,r,⟨o,I.qR a o hk,hc,n,by simpa using hs⟩,?_⟩;have e:=r.length;simp only[hZ]at e;omega
theorem Inv.Gu(I:Inv X pins σ H s)(h:ng X.K H a xs)(h':ng X.K H a ys):xs=ys:=by
 obtain⟨its,r,⟨o,n,e,_,_,d⟩,_⟩:=I.list h;obtain⟨its',r',⟨o',n',e',_,_,d'⟩,_⟩:=I.list h';rw[e]at e';cases e';rw[d]at d';injection d' with d1 _;have:its=its':=by simpa using congrArg Array.toList d1
 subst this;exact r.inj r'
theorem Inv.Er(I:Inv X pins σ H s)(h:hV X.K H a xs)(h':hV X.K H a ys):xs=ys:=by
 obtain⟨its,r,⟨o,e,_,n,d⟩,_⟩:=I.tuple h;obtain⟨its',r',⟨o',e',_,n',d'⟩,_⟩:=I.tuple h';rw[e]at e';cases e';rw[d]at d';injection d' with d1 _;have:its=its':=by simpa using congrArg Array.toList d1
 subst this;exact r.inj r'
end
variable{tc:TT}
section
variable {X:Cx}{st:Stmt}{rest:List Stmt}{t u:TS}{e:Expr}{te:TE}{pos:Pos}
def Pk:TS:=λD σ H=>D.nx σ H
def abQ(t u:TS):TS:=λD σ H=>t { D with nx:=u D } σ H
theorem L7:Gf X [] Pk:=λ_ _ σ H _ I h=>wpAny_execs_nil ⟨σ,H,I,h⟩
theorem Gv(h1:PS X st t)(h2:Gf X rest u):Gf X (st::rest) (abQ t u):=by
 intro pins s σ H D I h;refine wpAny_execs_cons (bR (h1 pins s σ H { D with nx:=u D } I h) λf s1 q=>?_);cases f with
 |next=>obtain⟨σ',H',I',q⟩:=q;exact h2 pins s1 σ' H' D I' q
 |ret v=>exact q
 |brk=>exact q
 |cont=>exact q
theorem L8(h1:PS X st t):Gf X [st] t:=by
 intro pins s σ H D I h;refine wpAny_execs_cons (bR (h1 pins s σ H D I h) λf s1 q=>?_);cases f with
 |next=>exact wpAny_execs_nil q
 |ret v=>exact q
 |brk=>exact q
 |cont=>exact q
theorem L9:PS X (.Pass pos) Pk:=λ_ _ σ H _ I h=>wpAny_Pass ⟨σ,H,I,h⟩
theorem Inv.quiet{pins:List (ajO×Obj)}(I:Inv X pins σ H s):interactive X.env=false:=by simp[interactive,I.ok.kind]
def WG(te:TE):TS:=λD σ H=>te σ H λ_ H1=>D.nx σ H1
theorem L_(he:PE X e te)(hs:swapsWith e gV pos.line X.env=pure false:=by rfl):PS X (.Expr e pos) (WG te):=by intro pins s σ H D I h;exact wpAny_Expr_any (bR (he pins s σ H _ I h) λv s1 ⟨x,H1,I1,r1,q1⟩=>⟨σ,H1,I1,q1⟩) I.quiet hs
def abR(te:TE):TS:=λD σ H=>te σ H D.rt
theorem QX(he:PE X e te):PS X (.Return (bv e) pos) (abR te):=by intro pins s σ H D I h;exact wpAny_Return_some (bR (he pins s σ H _ I h) λv s1 ⟨x,H1,I1,r1,q1⟩=>⟨x,σ,H1,I1,r1,q1⟩)
def WH:TS:=λD _ H=>D.rt .cY H
theorem L':PS X (.Return gV pos) WH:=λ_ _ σ H _ I h=>wpAny_Return_none ⟨.cY,σ,H,I,rfl,h⟩
def abS(c:TT)(t u:TS):TS:=λD σ H=>c σ H λb H1=>if b=jp then t D σ H1 else u D σ H1
theorem WI{a b:List Stmt}(hc:PT X c tc)(ha:Gf X a t)(hb:Gf X b u):PS X (.If c a b pos) (abS tc t u):=by
 intro pins s σ H D I h;refine wpAny_If (bR (hc pins s σ H _ I h) λd s1 ⟨H1,I1,q1⟩=>?_);cases d with
 |true=>exact ha pins s1 σ H1 D I1 q1
 |false=>exact hb pins s1 σ H1 D I1 q1
def Gw:TS:=λ_ _ _=>False
theorem Gx:PS X st Gw:=λ_ _ _ _ _ _ h=>h.elim
theorem Es{sts:List Stmt}:Gf X sts Gw:=λ_ _ _ _ _ _ h=>h.elim
end
abbrev TG:=V->St->Hp->(St->Hp->Prop)->Prop
def PG(X:Cx)(target:Expr)(t:TG):Prop :=
 ∀(pins:List (ajO×Obj))(s:ajT)(σ:St)(H:Hp)(v:V)(u:ajU)(Q:St->Hp->Prop),Inv X pins σ H s->RelV v u->t v σ H Q->
  aj6 (model X.prog X.w) X.A (assign target X.env u) (λ_ s'=>∃σ' H',Inv X pins σ' H' s'/\Q σ' H') X.xe s
abbrev Ma:=V->V->V->Hp->(Hp->Prop)->Prop
def WJ(X:Cx)(t:Ma):Prop :=
 ∀(pins:List (ajO×Obj))(s:ajT)(σ:St)(H:Hp)(o i v:V)(ov iv u:ajU)(Q:Hp->Prop),Inv X pins σ H s->RelV o ov->RelV i iv->RelV v u->t o i v H Q->
  aj6 (model X.prog X.w) X.A (setItem ov iv u) (λ_ s'=>∃H',Inv X pins σ H' s'/\Q H') X.xe s
abbrev TIp:=V->V->Hp->VK->Prop
def PIp(X:Cx)(op:Operator)(t:TIp):Prop :=
 ∀(pins:List (ajO×Obj))(s:ajT)(σ:St)(H:Hp)(x y:V)(v u:ajU)(Q:VK),Inv X pins σ H s->RelV x v->RelV y u->t x y H Q->
  aj6 (model X.prog X.w) X.A (inplaceOp op v u) (EP X pins σ Q) X.xe s
variable{e tg:Expr}{te:TE}{g:TG}{pos':Pos}
section
variable {X:Cx}{pos:Pos}
def CV(i:Nat):TG:=λv σ H Q=>Q (σ.set i (bv v)) H
theorem CY(hN:X.N.Nodup)(hi:X.N[i]? =bv x)(hx:Loc X.env.scope x)(hf:X.fn x=jp\/X.env.scope.names.lookup x=bv .local:=by first |exact .inl rfl |exact .inr rfl |assumption):PG X (.Name x pos) (CV i):=by intro pins s σ H v u Q I r h;exact wpAny_assign_Name (oW I hN hi hx r (λs' I'=>⟨_,H,I',h⟩) hf)
def abT(to ti:TE)(t:Ma):TG:=λv σ H Q=>to σ H λo H1=>ti σ H1 λi H2=>t o i v H2 λH3=>Q σ H3
theorem QY{o i:Expr}{to ti:TE}{t:Ma}(ho:PE X o to)(hi:PE X i ti)(hs:WJ X t)
  (ha:∀v,assign (.Subscript o i pos) X.env v=(do
   let ov <-holding [v] (eval o X.env)
   let iv <-holding [v,ov] (eval i X.env)
   standAt pos
   holding [v,ov,iv] (setItem ov iv v)
   release [v,ov,iv] []):=by intro _;rfl):PG X (.Subscript o i pos) (abT to ti t):=by
 intro pins s σ H v u Q I r h;rw[ha];refine aj7 (aj8 (bR (ho pins s σ H _ I h) λov s1 ⟨x,H1,I1,r1,q1⟩=>?_));refine aj7 (aj8 (bR (hi pins s1 σ H1 _ I1 q1) λiv s2 ⟨y,H2,I2,r2,q2⟩=>?_));refine aj7 (wpAny_standAt (aj7 (aj8 (bR (hs pins s2 σ H2 x y v ov iv u _ I2 r1 r2 r q2) λ_ s3 ⟨H3,I3,q3⟩=>?_))));exact wpAny_release ⟨σ,H3,I3,q3⟩
def WK(te:TE)(g:TG):TS:=λD σ H=>te σ H λx H1=>g x σ H1 D.nx
theorem QZ(he:PE X e te)(hg:PG X tg g)(hs:swapsWithSole [tg] e pos.line X.env=pure false:=by rfl)(hw:swappedStores [tg] e X.env=pure none:=by rfl)
  (h1:(assignEach [tg] X.env).map (·.2)=[assign tg X.env]:=by rfl):PS X (.Assign [tg] e pos) (WK te g):=by
 intro pins s σ H D I h;refine wpAny_Assign_stores (bR (he pins s σ H _ I h) λv s1 ⟨x,H1,I1,r1,q1⟩=>?_) hs hw;rw[h1];exact bR (hg pins s1 σ H1 x v _ I1 r1 q1) λ_ s2 q=>q
theorem Q0(hN:X.N.Nodup)(hi:X.N[i]? =bv x)(hx:Loc X.env.scope x)(he:PE X e te)(hs:swapsWith e (bv (.Name x pos')) pos.line X.env=pure false:=by rfl)(hf:X.fn x=jp\/X.env.scope.names.lookup x=bv .local:=by first |exact .inl rfl |exact .inr rfl |assumption):
  PS X (.Assign [.Name x pos'] e pos) (WK te (CV i)):=by
 intro pins s σ H D I h;refine wpAny_Assign_Name (bR (he pins s σ H _ I h) λv s1 ⟨y,H1,I1,r1,q1⟩=>?_) hs;exact oW I1 hN hi hx r1 (λs2 I2=>⟨_,H1,I2,q1⟩) hf
def abU(i:Nat)(te:TE)(ti:TIp):TS:=λD σ H=>∃x,σ[i]? =bv (bv x)/\te σ H λy H1=>ti x y H1 λz H2=>D.nx (σ.set i (bv z)) H2
theorem Q1{op:Operator}{ti:TIp}(hN:X.N.Nodup)(hi:X.N[i]? =bv x)(hx:Loc X.env.scope x)(he:PE X e te)(ho:PIp X op ti)(hf:X.fn x=jp\/X.env.scope.names.lookup x=bv .local:=by first |exact .inl rfl |exact .inr rfl |assumption):
  PS X (.AugAssign (.Name x pos') op e pos) (abU i te ti):=by
 intro pins s σ H D I h;obtain⟨v,e1,h⟩:=h;obtain⟨m,hn,hl⟩:=I.loc;have vis:Vis X.env.scope x:=by rcases hx with k |k;exact .inl k;exact .inr (.inl k)
 obtain⟨u,r,l⟩:=hl i x v hi e1 vis;refine wpAny_AugAssign_Name ?_;have go:aj6 (model X.prog X.w) X.A (eval e X.env) (λw s₂=>aj6 (model X.prog X.w) X.A (inplaceOp op u w) (λr s₃=>aj6 (model X.prog X.w) X.A (storeName X.env x r) (λ_=>SP X pins D .next) X.xe s₃) X.xe s₂) X.xe s:=by refine bR (he pins s σ H _ I h) λw s1 ⟨y,H1,I1,r1,q1⟩=>?_;refine bR (ho pins s1 σ H1 v y u w _ I1 r r1 q1) λz s2 ⟨zv,H2,I2,r2,q2⟩=>?_;exact oW I2 hN hi hx r2 (λs3 I3=>⟨_,H2,I3,q2⟩) hf
 rcases l with ⟨hk,hm⟩ |⟨hk,c,hc,hcell⟩
 ·exact wpAny_loadName_local I.ok.kind hk hn hm go
 ·rcases hk with hk |hk
  ·exact wpAny_loadName_cell I.ok.kind hk hc hcell go
  ·rcases hx with k |k
   ·have:X.env.scope.names.lookup x=bv .free:=hk;rw[k]at this;cases this
   ·have:X.env.scope.names.lookup x=bv .free:=hk;rw[k]at this;cases this
def ipI(f:Int->Int->Int):TIp:=λx y H Q=>∃i j,x= .int i/\y= .int j/\Q (.int (f i j)) H
theorem Gy:PIp X .Add (ipI λi j=>i+j):=by intro pins s σ H x y v u Q I r1 r2 h;obtain⟨i,j,e1,e2,q⟩:=h;subst e1;subst e2;obtain⟨t,rfl⟩:=r1;obtain⟨t',rfl⟩:=r2;exact iadd_int ⟨.int _,H,I.tok _,⟨_,rfl⟩,q⟩
theorem Gz:PIp X .Sub (ipI λi j=>i - j):=by intro pins s σ H x y v u Q I r1 r2 h;obtain⟨i,j,e1,e2,q⟩:=h;subst e1;subst e2;obtain⟨t,rfl⟩:=r1;obtain⟨t',rfl⟩:=r2;exact isub_int ⟨.int _,H,I.tok _,⟨_,rfl⟩,q⟩
end
variable{body:List Stmt}{tb:TS}
section
variable {X:Cx}{pos:Pos}
def Q2(c:TT)(tb:TS):TS:=λD σ H=>∃W:Nat->St->Hp->Prop,(∃m,W m σ H)/\∀m σ H,W m σ H->
 c σ H λb H1=>if b=jp then ∃N:St->Hp->Prop,(∀σ' H',N σ' H'->∃m',m' < m/\W m' σ' H')/\tb { D with nx:=N,ct:=N,bk:=D.nx } σ H1 else D.nx σ H1
theorem GB(hp:PassesOwn (model X.prog X.w) X.A X.env X.xe)(hc:PT X c tc)(hb:Gf X body tb):PS X (.While c body [] pos) (Q2 tc tb):=by
 intro pins s σ H D I h;obtain⟨W,⟨m0,w0⟩,turn⟩:=h;refine wpAny_While (codeAny_whileLoop (λn s'=>∃σ' H',Inv X pins σ' H' s'/\W n σ' H') ?_ m0 ⟨σ,H,I,w0⟩);rintro n s1 ⟨σ1,H1,I1,w1⟩;refine wpAny_passesOwn hp (bR (hc pins s1 σ1 H1 _ I1 (turn n σ1 H1 w1)) λb s2 ⟨H2,I2,q2⟩=>?_);cases b with
 |true=>
  obtain⟨N,hN,q2⟩:=q2;rw[Os rfl];refine wpAny_passesOwn hp (bR (hb pins s2 σ1 H2 _ I2 q2) λf s3 q3=>?_);cases f with
  |next=>obtain⟨σ3,H3,I3,n3⟩:=q3;obtain⟨m',hm,w3⟩:=hN σ3 H3 n3;exact⟨m',hm,σ3,H3,I3,w3⟩
  |cont=>obtain⟨σ3,H3,I3,n3⟩:=q3;obtain⟨m',hm,w3⟩:=hN σ3 H3 n3;exact⟨m',hm,σ3,H3,I3,w3⟩
  |brk=>exact q3
  |ret v=>exact q3
 |false=>rw[OK cS];exact wpAny_execs_nil ⟨σ1,H2,I2,q2⟩
end
structure It where
 go:Nat->Hp->Prop
 Gg:Nat->Hp->V->Hp->Prop
 stop:Nat->Hp->Prop
def jE(X:Cx)(pins:List (ajO×Obj))(H:Hp)(b:ajO):Prop :=
 H b=gV/\b≠X.env.locals/\b∉X.fs/\(b∈X.ex\/X.s₀.heap.objs.size<=b)/\(∀x c,X.env.cells.lookup x=bv c->c≠b)/\∀p∈X.pn++pins,p.1≠b
theorem Inv.Mb{X:Cx}{pins:List (ajO×Obj)}{H':Hp}(I:Inv X pins σ H s)(hb:s.heap.objs.size<=b)(hn:H' b=gV):jE X pins H' b:=by
 refine⟨hn,CZ (bZ I.lt hb),I.abI hb,.inr (aA I.sz hb),λx c e z=>?_,λp hp z=>?_⟩
 ·obtain⟨v,q⟩:=I.cell x c e;exact absurd (bZ q.lt (by rw[z];exact hb)) (jI _)
 ·exact absurd (bZ (bL (I.pin p hp).1) (by rw[z];exact hb)) (jI _)
structure Turn(P:ajS)(w:ajV)(K:lc)(tg:Expr)(J:It)(fp:List ajO)(it:ajO)(tn:Nat->Heap->Prop):Prop where
 mem:it∈fp
 obj:∀i h,tn i h->∀b∈fp,∃o,h.get? b=bv o/\∀v,o.data≠.cell v
 keep:∀i h h',tn i h->(∀b∈fp,∀o,h.get? b=bv o->h'.get? b=bv o)->tn i h'
 item:∀(X:Cx),X.prog=P->X.w=w->X.K=K->X.calm=jp->∀(i:Nat)(pins:List (ajO×Obj))(s:ajT)(σ:St)(H:Hp)(E:ajU->ajT->Prop),Inv X pins σ H s->(∀b∈fp,jE X pins H b)->tn i s.heap->J.go i H->
  aj6 (model P w) X.A (pyNext (.ref it)) (λr s1=>∃u,r=bv u/\
   aj6 (model P w) X.A (letOwnedTupleGo tg (.ref it) u) (λ_ s2=>∃x H',Inv X pins σ H' s2/\RelV x u/\J.Gg i H x H'/\tn (i+1) s2.heap/\∀b∈fp,H' b=gV) E s1) E s
 done:∀(X:Cx),X.prog=P->X.w=w->X.K=K->X.calm=jp->∀(i:Nat)(pins:List (ajO×Obj))(s:ajT)(σ:St)(H:Hp)(E:ajU->ajT->Prop),Inv X pins σ H s->(∀b∈fp,jE X pins H b)->tn i s.heap->J.stop i H->
  aj6 (model P w) X.A (pyNext (.ref it)) (λr s1=>r=gV/\Inv X pins σ H s1) E s
 self:∀(A:ajP)(i:Nat)(s:ajT)(Q:ajU->ajT->Prop)(E:ajU->ajT->Prop),tn i s.heap->Q (.ref it) s->aj6 (model P w) A (pyIter (.ref it)) Q E s
abbrev TI:=St->Hp->(It->Hp->Prop)->Prop
def PIE(X:Cx)(pins:List (ajO×Obj))(σ:St)(tg:Expr)(R:It->Hp->Prop)(itv:ajU)(s2:ajT):Prop :=
 ∃(it:ajO)(fp:List ajO)(tn:Nat->Heap->Prop)(J:It)(H':Hp),itv= .ref it/\Inv X pins σ H' s2/\Turn X.prog X.w X.K tg J fp it tn/\tn 0 s2.heap/\(∀b∈fp,jE X pins H' b)/\R J H'
def PI(X:Cx)(tg iter:Expr)(wi:TI):Prop :=
 ∀(pins:List (ajO×Obj))(s:ajT)(σ:St)(H:Hp)(R:It->Hp->Prop),Inv X pins σ H s->wi σ H R->
  aj6 (model X.prog X.w) X.A (eval iter X.env) (λv s1=>aj6 (model X.prog X.w) X.A (pyIter v) (PIE X pins σ tg R) X.xe s1) X.xe s
theorem y6{n:String}{vs:Array ajU}{Q:Unit->ajT->Prop}(ho:s.heap.get? it=bv o)(hc:o.cls= .type n)(hd:o.data= .fields vs)
    (hn:["enumerate","zip","dict_itemiterator","dict_reverseitemiterator","odict_iterator","itertools.zip_longest","itertools.pairwise"].contains n=kt)(hQ:Q () s):aj6 M A (letOwnedTupleGo tg (.ref it) u) Q E s:=by
  unfold letOwnedTupleGo;cases tg<;>first
    |exact akb hQ
    | (cases u<;>first
        |exact akb hQ
        | (refine aj7 (wpAny_load ho ?_)
           rw[hc,hd];show aj6 M A (if(["enumerate","zip","dict_itemiterator","dict_reverseitemiterator","odict_iterator","itertools.zip_longest","itertools.pairwise"].contains n&&vs[0]? == bv (rawInt _))=jp then _ else _) Q E s;rw[OK (by intro h;rw[hn,Bool.false_and]at h;cases h)];exact akb hQ))
def Itl(K:lc)(a:ajO):It :=
 ⟨λi H=>∃xs x,ng K H a xs/\xs[i]? =bv x,λi H x H'=>H'=H/\∀xs,ng K H a xs->xs[i]? =bv x,λi H=>∃xs,ng K H a xs/\xs.length<=i⟩
def Itt(K:lc)(a:ajO):It :=
 ⟨λi H=>∃xs x,hV K H a xs/\xs[i]? =bv x,λi H x H'=>H'=H/\∀xs,hV K H a xs->xs[i]? =bv x,λi H=>∃xs,hV K H a xs/\xs.length<=i⟩
def Q3(lo:Int)(n:Nat):It:=⟨λi _=>i < n,λi H x H'=>H'=H/\x= .int (lo+i),λi _=>n<=i⟩
theorem Et(a it:ajO):Turn P w K tg (Itl K a) [it] it (λi h=>h.IsListIter it a i) where
 mem:=by simp
 obj:=λi h st b hb=>by
  have e:b=it:=by simpa using hb
  subst e;obtain⟨o,e,c,d⟩:=st;exact⟨o,e,λv z=>by rw[d]at z;cases z⟩
 keep:=λi h h' st k=>st.at λo e=>k it (by simp) o e
 item:=by intro X hP hw hK hc i pins s σ H E I hf st hg;subst hP hw hK;obtain⟨xs,x,hq,hx⟩:=hg;obtain⟨its,rv,p,hz⟩:=I.list hq;obtain⟨u,hu,ru⟩:=rv.get hx;obtain⟨f0,f1,f2,f3,f4,f5⟩:=hf it (by simp);refine wpAny_pyNext_list_item st p.isList (x:=u) (by simpa using hu) λh' st' sb=>?_;have I1:Inv X pins σ H { s with heap:=h' }:=I.turned (t':=s.toks) (λb o hb e=>(sb.2 b hb).trans e) f0 f1 f3 f4 f5;obtain⟨o,e,c,d⟩:=id st';exact⟨u,rfl,y6 (s:={ s with heap:=h' }) e c d (by decide) ⟨x,H,I1,ru,⟨rfl,λys hy=>by rw[I.Gu hy hq];exact hx⟩,st',λb hb=>(hf b hb).1⟩⟩
 done:=by intro X hP hw hK hc i pins s σ H E I hf st hg;subst hP hw hK;obtain⟨xs,hq,hx⟩:=hg;obtain⟨its,rv,p,hz⟩:=I.list hq;obtain⟨f0,f1,f2,f3,f4,f5⟩:=hf it (by simp);have hl:=rv.length;exact wpAny_pyNext_list_end (I.ok.hd hc) st p.isList (by simp;omega) λh' eb=>⟨rfl,I.turned (t':=s.toks) (λb o hb e=>eb b o hb e) f0 f1 f3 f4 f5⟩
 self:=λ_ _ _ _ _ st h=>wpAny_pyIter_listiter st h
theorem AZ(a it:ajO):Turn P w K tg (Itt K a) [it] it (λi h=>h.IsTupleIter it a i) where
 mem:=by simp
 obj:=λi h st b hb=>by
  have e:b=it:=by simpa using hb
  subst e;obtain⟨o,e,c,d⟩:=st;exact⟨o,e,λv z=>by rw[d]at z;cases z⟩
 keep:=λi h h' st k=>st.at λo e=>k it (by simp) o e
 item:=by intro X hP hw hK hc i pins s σ H E I hf st hg;subst hP hw hK;obtain⟨xs,x,hq,hx⟩:=hg;obtain⟨its,rv,p,hz⟩:=I.tuple hq;obtain⟨u,hu,ru⟩:=rv.get hx;obtain⟨f0,f1,f2,f3,f4,f5⟩:=hf it (by simp);refine wpAny_pyNext_tuple_item st (show s.heap.IsTuple a its.toArray from p) (x:=u) (by simpa using hu) λh' st' sb=>?_;have I1:Inv X pins σ H { s with heap:=h' }:=I.turned (t':=s.toks) (λb o hb e=>(sb.2 b hb).trans e) f0 f1 f3 f4 f5;obtain⟨o,e,c,d⟩:=id st';exact⟨u,rfl,y6 (s:={ s with heap:=h' }) e c d (by decide) ⟨x,H,I1,ru,⟨rfl,λys hy=>by rw[I.Er hy hq];exact hx⟩,st',λb hb=>(hf b hb).1⟩⟩
 done:=by intro X hP hw hK hc i pins s σ H E I hf st hg;subst hP hw hK;obtain⟨xs,hq,hx⟩:=hg;obtain⟨its,rv,p,hz⟩:=I.tuple hq;obtain⟨f0,f1,f2,f3,f4,f5⟩:=hf it (by simp);have hl:=rv.length;exact wpAny_pyNext_tuple_end (I.ok.hd hc) st (show s.heap.IsTuple a its.toArray from p) (by simp;omega) λh' eb=>⟨rfl,I.turned (t':=s.toks) (λb o hb e=>eb b o hb e) f0 f1 f3 f4 f5⟩
 self:=λ_ _ _ _ _ st h=>wpAny_pyIter_tupleiter st h
theorem A0(it:ajO)(lo:Int)(n:Nat):Turn P w K tg (Q3 lo n) [it] it (λi h=>IsRangeIter h it (lo+(i:Nat) * 1) ((n:Int) - (i:Nat)) 1) where
 mem:=by simp
 obj:=λi h st b hb=>by
  have e:b=it:=by simpa using hb
  subst e;exact⟨_,st,λv z=>by have z':Data.fields _=Data.cell v:=z;cases z'⟩
 keep:=λi h h' st k=>k it (by simp) _ st
 item:=by intro X hP hw hK hc i pins s σ H E I hf st hg;subst hP hw hK;obtain⟨f0,f1,f2,f3,f4,f5⟩:=hf it (by simp);have W:=Walks.range (prog:=X.prog) (w:=X.w) (I.ok.hd hc) it lo 1 n;refine W.item i s _ _ hg st λv h' tk hv st' kk=>?_;obtain⟨t,rfl⟩:=hv;have I1:Inv X pins σ H { s with heap:=h',toks:=tk }:=I.turned (λb o hb e=>kk b o (by simpa using hb) e) f0 f1 f3 f4 f5;refine⟨_,rfl,y6 (s:={ s with heap:=h',toks:=tk }) (n:="range_iterator") st' rfl rfl (by decide) ⟨.int (lo+i),H,I1,⟨t,?_⟩,⟨rfl,rfl⟩,st',λb hb=>(hf b hb).1⟩⟩;rw[Int.mul_one]
 done:=by intro X hP hw hK hc i pins s σ H E I hf st hg;subst hP hw hK;obtain⟨f0,f1,f2,f3,f4,f5⟩:=hf it (by simp);exact wpAny_pyNext_range_end (I.ok.hd hc) st (by have:n<=i:=hg;omega) λh' eb=>⟨rfl,I.turned (t':=s.toks) (λb o hb e=>eb b o hb e) f0 f1 f3 f4 f5⟩
 self:=λ_ _ _ _ _ st h=>wpAny_pyIter_rangeiter st h
variable{fp:List ajO}
section
variable {X:Cx}{tg:Expr}
theorem GC{pins:List (ajO×Obj)}{R:It->Hp->Prop}{lo hi:Int}{t u v:Tok}{tk:Nat}(I:Inv X pins σ H s)(h1:-(2 ^ 62)<=lo)(h2:lo < 2 ^ 62)(h3:-(2 ^ 62)<=hi)(h4:hi < 2 ^ 62)
  (q:R (Q3 lo (hi - lo).toNat) H):aj6 (model X.prog X.w) X.A (pyIter (.ref s.heap.objs.size)) (PIE X pins σ tg R) E { s with heap:=s.heap.push { cls:=.type "range",data:=.fields #[.int lo t,.int hi u,.int 1 v] },toks:=tk }:=by
 refine wpAny_pyIter_range (IsRange.new ..) (small_one h1 h2 h3 h4) ?_;have I1:Inv X pins σ H { s with heap:=s.heap.push { cls:=.type "range",data:=.fields #[.int lo t,.int hi u,.int 1 v] },toks:=tk }:=I.kept λb o e=>cI _ e;refine⟨(s.heap.push { cls:=.type "range",data:=.fields #[.int lo t,.int hi u,.int 1 v] }).objs.size,[(s.heap.push { cls:=.type "range",data:=.fields #[.int lo t,.int hi u,.int 1 v] }).objs.size],_,_,H,rfl,
  I1.kept (t':=tk) λb o e=>cI _ e,A0 _ lo (hi - lo).toNat,?_,λb hb=>?_,q⟩
 ·have e1:lo+((0:Nat):Int) * 1=lo:=by simp
  have e2:(((hi - lo).toNat:Nat):Int) - ((0:Nat):Int)=Builtin.Range.rangeSize lo hi 1:=by rw[rangeSize_one];split<;>omega
  show IsRangeIter _ _ (lo+((0:Nat):Int) * 1) ((((hi - lo).toNat:Nat):Int) - ((0:Nat):Int)) 1;rw[e1,e2];exact gI _ rfl
 ·have e:b=(s.heap.push { cls:=.type "range",data:=.fields #[.int lo t,.int hi u,.int 1 v] }).objs.size:=by simpa using hb
  subst e;exact I1.Mb (av _) (I1.hok.fresh (av _))
def WM(ta:TA):TI:=λσ H R=>ta σ H λvs H1=>∃j:Int,vs=[.int j]/\-(2 ^ 62)<=j/\j < 2 ^ 62/\R (Q3 0 j.toNat) H1
theorem wb{a:Expr}{ta:TA}{p:Pos}(hg:Gl X "range")(hm:X.mg "range"=gV)(ha:PA X [a] ta)(hs:aj5 [a] X.env=[(kt,eval a X.env)]:=by rfl):PI X tg (.Call (.Name "range" p) [a] [] pos) (WM ta):=by
 intro pins s σ H R I h;refine Call_ (xF I hg hm boot_range (Mc (bR (ha pos pins s σ H _ I h) λus s1 ⟨vs,H1,I1,r1,q1⟩=>?_) hs rfl));obtain⟨j,e,q1,q2,q⟩:=q1;subst e;cases r1 with
 |cons r rr=>cases rr;obtain⟨t,rfl⟩:=r;exact call_range_1 (GC I1 (by omega) (by omega) q1 q2 (by simpa using q))
def abW(wi:TI)(g:TG)(tb:TS):TS:=λD σ H=>wi σ H λJ H1=>∃W:Nat->Nat->St->Hp->Prop,(∃m,W 0 m σ H1)/\∀i m σ H,W i m σ H->
 (J.stop i H/\D.nx σ H)\/(J.go i H/\∃N:St->Hp->Prop,(∀σ' H',N σ' H'->∃m',m' < m/\W (i+1) m' σ' H')/\∀x H',J.Gg i H x H'->g x σ H' λσ2 H2=>tb { D with nx:=N,ct:=N,bk:=D.nx } σ2 H2)
def je(fp:List ajO)(h:Heap):List (ajO×Obj):=fp.filterMap λb=>(h.get? b).map λo=>(b,o)
theorem kU(hb:b∈fp)(e:h.get? b=bv o):(b,o)∈je fp h:=Fk.mpr ⟨b,hb,by rw[e];rfl⟩
theorem Eu{p:ajO×Obj}(hp:p∈je fp h):p.1∈fp/\h.get? p.1=bv p.2:=by
 obtain⟨b,hb,e⟩:=Fk.mp hp;cases q:h.get? b with
 |none=>rw[q]at e;cases e
 |some o=>rw[q]at e;have e':(b,o)=p:=Option.some.inj e;subst e';exact⟨hb,q⟩
theorem Inv.pinned{pins:List (ajO×Obj)}(I:Inv X pins σ H s)(hf:∀b∈fp,jE X pins H b)(ho:∀b∈fp,∃o,s.heap.get? b=bv o/\∀v,o.data≠.cell v):Inv X (pins++je fp s.heap) σ H s :=
 I.CT λp hp=>(wS.mp hp).elim (λz=>I.pin p (iB _ z)) λz=>by obtain⟨hb,e⟩:=Eu z;obtain⟨f0,f1,f2,_⟩:=hf p.1 hb;obtain⟨o,e',d⟩:=ho p.1 hb;rw[e]at e';cases e';exact⟨e,f0,f1,f2,d⟩
theorem Inv.oX{pins pl:List (ajO×Obj)}(I:Inv X (pins++pl) σ H s):Inv X pins σ H s:=I.CT λp hp=>I.pin p (iB _ (xC _ hp))
theorem GD{iter:Expr}{wi:TI}(hp:PassesOwn (model X.prog X.w) X.A X.env X.xe)(hc:X.calm=jp)(hi:PI X tg iter wi)(hg:PG X tg g)(hb:Gf X body tb)
  (hs:∀x,aj2 iter X.env x=pure x:=by intro _;rfl):PS X (.For tg iter body [] pos) (abW wi g tb):=by
 intro pins s σ H D I h;refine wpAny_For (bR (hi pins s σ H _ I h) λv s1 h1=>bR h1 λitv s2 h2=>?_) hs;obtain⟨it,fp,tn,J,H2,e,I2,T,st2,f2,W,⟨m0,w0⟩,turn⟩:=h2;subst e
 -- what stays jp of the Q4 objects through the loop
 have Q5:∀{H':Hp},(∀b∈fp,H' b=gV)->∀b∈fp,jE X pins H' b:=λhn b hb=>⟨hn b hb,(f2 b hb).2⟩;refine codeAny_forLoop_any (λn s'=>∃i σ' H',Inv X pins σ' H' s'/\tn i s'.heap/\(∀b∈fp,H' b=gV)/\W i n σ' H') ?_ m0 ⟨0,σ,H2,I2,st2,λb hb=>(f2 b hb).1,w0⟩;rintro n s3 ⟨i,σ3,H3,I3,st3,fr3,w3⟩;rcases turn i n σ3 H3 w3 with ⟨stop,qn⟩ |⟨go,N,hN,step⟩
 ·refine wpAny_passesOwn hp (bR (T.done X rfl rfl rfl hc i pins s3 σ3 H3 X.xe I3 (Q5 fr3) st3 stop) λr s4 ⟨hr,I4⟩=>?_);subst hr;exact wpAny_execs_nil ⟨σ3,H3,I4,qn⟩
 ·refine wpAny_passesOwn hp (bR (T.item X rfl rfl rfl hc i pins s3 σ3 H3 X.xe I3 (Q5 fr3) st3 go) λr s4 ⟨u,hr,h4⟩=>?_);subst hr;refine wpAny_passesOwn hp (bR h4 λ_ s5 ⟨x,H5,I5,r5,y5,GF,fr5⟩=>?_);have I5':=I5.pinned (Q5 fr5) (T.obj _ _ GF);refine wpAny_passesOwn hp (bR (hg _ s5 σ3 H5 x u _ I5' r5 (step x H5 y5)) λ_ s6 ⟨σ6,H6,I6,q6⟩=>?_);refine wpAny_passesOwn hp (bR (hb _ s6 σ6 H6 _ I6 q6) λf s7 q7=>?_);have again:∀{σ7:St}{H7:Hp},Inv X (pins++je fp s5.heap) σ7 H7 s7->N σ7 H7->∃m,m < n/\∃i σ' H',Inv X pins σ' H' s7/\tn i s7.heap/\(∀b∈fp,H' b=gV)/\W i m σ' H':=λ{σ7 H7} I7 n7=>by obtain⟨m',hm,w7⟩:=hN σ7 H7 n7;refine⟨m',hm,i+1,σ7,H7,I7.oX,T.keep _ _ _ GF λb hb o e=>(I7.pin (b,o) (iB _ (iB _ (kU hb e)))).1,λb hb=>?_,w7⟩;obtain⟨o,e,d⟩:=T.obj _ _ GF b hb;exact(I7.pin (b,o) (iB _ (iB _ (kU hb e)))).2.1
  cases f with
  |next=>obtain⟨σ7,H7,I7,n7⟩:=q7;exact again I7 n7
  |cont=>obtain⟨σ7,H7,I7,n7⟩:=q7;exact again I7 n7
  |brk=>obtain⟨σ7,H7,I7,q7⟩:=q7;exact⟨σ7,H7,I7.oX,q7⟩
  |ret v=>obtain⟨x7,σ7,H7,I7,r7,q7⟩:=q7;exact⟨x7,σ7,H7,I7.oX,r7,q7⟩
end
abbrev R2:=V->V->Hp->VK->Prop
def iI(X:Cx)(f:ajU->ajU->Sem ajU)(r:R2):Prop :=
 ∀(pins:List (ajO×Obj))(s:ajT)(σ:St)(H:Hp)(x y:V)(v u:ajU)(Q:VK),Inv X pins σ H s->RelV x v->RelV y u->r x y H Q->
  aj6 (model X.prog X.w) X.A (f v u) (EP X pins σ Q) X.xe s
def UnR(X:Cx)(f:ajU->Sem ajU)(r:V->Hp->VK->Prop):Prop :=
 ∀(pins:List (ajO×Obj))(s:ajT)(σ:St)(H:Hp)(x:V)(v:ajU)(Q:VK),Inv X pins σ H s->RelV x v->r x H Q->
  aj6 (model X.prog X.w) X.A (f v) (EP X pins σ Q) X.xe s
def fS(X:Cx)(f:ajU)(r:List V->Hp->VK->Prop):Prop :=
 ∀(pins:List (ajO×Obj))(s:ajT)(σ:St)(H:Hp)(xs:List V)(us:List ajU)(Q:VK),Inv X pins σ H s->Vals xs us->r xs H Q->
  aj6 (model X.prog X.w) X.A (call f us) (EP X pins σ Q) X.xe s
def abY(X:Cx)(r:V->Hp->(Bool->Hp->Prop)->Prop):Prop :=
 ∀(pins:List (ajO×Obj))(s:ajT)(σ:St)(H:Hp)(x:V)(v:ajU)(Q:Bool->Hp->Prop),Inv X pins σ H s->RelV x v->r x H Q->
  aj6 (model X.prog X.w) X.A (truthy v) (TP X pins σ Q) X.xe s
def WN(r:R2)(ta tb:TE):TE:=λσ H Q=>ta σ H λx H1=>tb σ H1 λy H2=>r x y H2 Q
def tUn(r:V->Hp->VK->Prop)(ta:TE):TE:=λσ H Q=>ta σ H λx H1=>r x H1 Q
def rI(C:Int->Int->Prop)(g:Int->Int->V):R2:=λx y H Q=>∃i j,x= .int i/\y= .int j/\C i j/\Q (g i j) H
def Pl(g:Int->Int->V):R2:=λx y H Q=>∃i j,x= .int i/\y= .int j/\Q (g i j) H
def rU(g:Int->V):V->Hp->VK->Prop:=λx H Q=>∃i,x= .int i/\Q (g i) H
variable{g:Int->Int->Int}{f:ajU->ajU->Sem ajU}{r:R2}
section
variable {X:Cx}{a b c:Expr}{ta tb tc:TE}{pos:Pos}
theorem Q6(ha:PE X a ta)(hb:PE X b tb){pins:List (ajO×Obj)}{R:V->V->Hp->Prop}(I:Inv X pins σ H s)
  (h:ta σ H λx H1=>tb σ H1 λy H2=>R x y H2)
  (hf:∀v u s2 x y H2,Inv X pins σ H2 s2->RelV x v->RelV y u->R x y H2->aj6 (model X.prog X.w) X.A (f v u) Q X.xe s2):
  aj6 (model X.prog X.w) X.A (eval a X.env) (λv s₁=>aj6 (model X.prog X.w) X.A (eval b X.env) (λu s₂=>aj6 (model X.prog X.w) X.A (f v u) Q X.xe s₂) X.xe s₁) X.xe s:=by
 refine bR (ha pins s σ H _ I h) λv s1 ⟨x,H1,I1,r1,q1⟩=>?_;refine bR (hb pins s1 σ H1 _ I1 q1) λu s2 ⟨y,H2,I2,r2,q2⟩=>?_;exact hf v u s2 x y H2 I2 r1 r2 q2
theorem WO{op:Operator}(ho:iI X (ajX op) r)(ha:PE X a ta)(hb:PE X b tb):PE X (.BinOp a op b pos) (WN r ta tb):=by intro pins s σ H Q I h;exact wpAny_BinOp (Q6 ha hb I h λv u s2 x y H2 I2 rx ry q=>ho pins s2 σ H2 x y v u Q I2 rx ry q)
theorem WQ{op:UnaryOp}{r:V->Hp->VK->Prop}(ho:UnR X (unaryOp op) r)(ha:PE X a ta):PE X (.UnaryOp op a pos) (tUn r ta):=by intro pins s σ H Q I h;exact UnaryOp_ (bR (ha pins s σ H _ I h) λv s1 ⟨x,H1,I1,r1,q1⟩=>ho pins s1 σ H1 x v Q I1 r1 q1)
theorem opI{C:Int->Int->Prop}
  (rule:∀(i j:Int)(t u:Tok)(s:ajT)(Q:ajU->ajT->Prop)(E:ajU->ajT->Prop),C i j->Q (.int (g i j) s.toks) { s with toks:=s.toks+1 }->aj6 (model X.prog X.w) X.A (f (.int i t) (.int j u)) Q E s):
  iI X f (rI C λi j=> .int (g i j)):=by
 intro pins s σ H x y v u Q I rx ry h;obtain⟨i,j,rfl,rfl,hc,q⟩:=h;obtain⟨t,rfl⟩:=rx;obtain⟨t',rfl⟩:=ry;exact rule i j t t' s _ _ hc ⟨.int (g i j),H,I.tok _,⟨_,rfl⟩,q⟩
theorem WR
  (rule:∀(i j:Int)(t u:Tok)(s:ajT)(Q:ajU->ajT->Prop)(E:ajU->ajT->Prop),Q (.int (g i j) s.toks) { s with toks:=s.toks+1 }->aj6 (model X.prog X.w) X.A (f (.int i t) (.int j u)) Q E s):
  iI X f (Pl λi j=> .int (g i j)):=by
 intro pins s σ H x y v u Q I rx ry h;obtain⟨i,j,rfl,rfl,q⟩:=h;obtain⟨t,rfl⟩:=rx;obtain⟨t',rfl⟩:=ry;exact rule i j t t' s _ _ ⟨.int (g i j),H,I.tok _,⟨_,rfl⟩,q⟩
theorem Md{g:Int->Int->Bool}
  (rule:∀(i j:Int)(t u:Tok)(s:ajT)(Q:ajU->ajT->Prop)(E:ajU->ajT->Prop),Q (.bool (g i j)) s->aj6 (model X.prog X.w) X.A (f (.int i t) (.int j u)) Q E s):
  iI X f (Pl λi j=> .bl (g i j)):=by
 intro pins s σ H x y v u Q I rx ry h;obtain⟨i,j,rfl,rfl,q⟩:=h;obtain⟨t,rfl⟩:=rx;obtain⟨t',rfl⟩:=ry;exact rule i j t t' s _ _ ⟨.bl (g i j),H,I,rfl,q⟩
def abZ(i j:Int):Prop:=0<=j/\j<=1000000/\i.natAbs < 2 ^ 64
theorem Q7:iI X (ajX .Add) (Pl λi j=> .int (i+j)):=WR λ_ _ _ _ _ _ _ q=>add_int q
theorem Q8:iI X (ajX .Sub) (Pl λi j=> .int (i - j)):=WR λ_ _ _ _ _ _ _ q=>sub_int q
theorem Q9:iI X (ajX .Pow) (rI abZ λi j=> .int (i ^ j.toNat)):=opI λ_ _ _ _ _ _ _ hc q=>pow_int_small hc.1 hc.2.1 hc.2.2 q
theorem unI{f:ajU->Sem ajU}{g:Int->Int}
  (rule:∀(i:Int)(t:Tok)(s:ajT)(Q:ajU->ajT->Prop)(E:ajU->ajT->Prop),Q (.int (g i) s.toks) { s with toks:=s.toks+1 }->aj6 (model X.prog X.w) X.A (f (.int i t)) Q E s):
  UnR X f (rU λi=> .int (g i)):=by
 intro pins s σ H x v Q I rx h;obtain⟨i,rfl,q⟩:=h;obtain⟨t,rfl⟩:=rx;exact rule i t s _ _ ⟨.int (g i),H,I.tok _,⟨_,rfl⟩,q⟩
theorem Q_:UnR X (unaryOp .USub) (rU λi=> .int (-i)):=unI λ_ _ _ _ _ q=>neg_int q
end
variable{op':CmpOp}
section
variable {X:Cx}{a b c:Expr}{ta tb tc:TE}{pos:Pos}
theorem A1{pins:List (ajO×Obj)}{Q:VK}{k k':Bool}(I:Inv X pins σ H s)(q:Q (.bl k) H)(e:k=k'):EP X pins σ Q (.bool k') s:=by subst e;exact⟨.bl k,H,I,rfl,q⟩
theorem WS:iI X (aj1 .Lt) (Pl λi j=> .bl (decide (i < j))):=Md λ_ _ _ _ _ _ _ q=>lt_int q
theorem WT:iI X (aj1 .LtE) (Pl λi j=> .bl (decide (i<=j))):=Md λ_ _ _ _ _ _ _ q=>le_int q
theorem WU:iI X (aj1 .Gt) (Pl λi j=> .bl (decide (j < i))):=Md λ_ _ _ _ _ _ _ q=>gt_int q
theorem WV:iI X (aj1 .GtE) (Pl λi j=> .bl (decide (j<=i))):=Md λ_ _ _ _ _ _ _ q=>ge_int q
theorem Ew:iI X (aj1 .Lt) (λx y H Q=>∃i j,x= .str i/\y= .str j/\Q (.bl (decide (i.cps.toList < j.cps.toList))) H):=by intro pins s σ H x y v u Q I rx ry h;obtain⟨i,j,rfl,rfl,q⟩:=h;obtain⟨t,rfl⟩:=rx;obtain⟨t',rfl⟩:=ry;exact lt_str (A1 I q rfl)
theorem Ex:iI X (aj1 .In) (λx y H Q=>∃i j,x= .str i/\y= .str j/\Q (.bl (!(gJ j i 0 j.length 1).isEmpty)) H):=by intro pins s σ H x y v u Q I rx ry h;obtain⟨i,j,rfl,rfl,q⟩:=h;obtain⟨t,rfl⟩:=rx;obtain⟨t',rfl⟩:=ry;exact in_str (A1 I q rfl)
theorem Me:iI X (aj1 .IsNot) (λx y H Q=>y= .cY/\Q (.bl (!decide (x= .cY))) H):=by
 intro pins s σ H x y v u Q I rx ry h;obtain⟨rfl,q⟩:=h;cases ry;refine isnot_none_gen (A1 I q ?_);cases x<;>first
  |(cases rx;rfl)
  |(obtain⟨t,rfl⟩:=rx;rfl)
theorem Mf(ho:iI X (aj1 op) r)(ha:PE X a ta)(hb:PE X b tb)(hm:ajW op b=kt):PE X (.Compare a [op] [b] pos) (WN r ta tb):=by intro pins s σ H Q I h;exact wpAny_Compare1 (Q6 ha hb I h λv u s2 x y H2 I2 rx ry q=>ho pins s2 σ H2 x y v u Q I2 rx ry q) hm
def Pm(t:TE):TT:=λσ H Q=>t σ H λx H'=>∃k,x= .bl k/\Q k H'
theorem Mg(ho:iI X (aj1 op) r)(ha:PE X a ta)(hb:PE X b tb)(hm:ajW op b=kt):PT X (.Compare a [op] [b] pos) (Pm (WN r ta tb)):=by
 intro pins s σ H Q I h;refine wpAny_isTrue_Compare1 (bR (ha pins s σ H _ I h) λv s1 ⟨x,H1,I1,r1,q1⟩=>bR (hb pins s1 σ H1 _ I1 q1) λu s2 ⟨y,H2,I2,r2,q2⟩=>
  bR (ho pins s2 σ H2 x y v u _ I2 r1 r2 q2) λc s3 ⟨z,H3,I3,r3,k,e,q3⟩=>?_) hm
 subst e;cases r3;exact akc ⟨H3,I3,q3⟩
def A2(r r':R2)(ta tb tc:TE):TE:=λσ H Q=>ta σ H λx H1=>tb σ H1 λy H2=>r x y H2 λz H3=>∃k,z= .bl k/\
 (if k=jp then tc σ H3 λw' H4=>r' y w' H4 Q else Q (.bl kt) H3)
theorem GG{r':R2}(ho:iI X (aj1 op) r)(ho':iI X (aj1 op') r')(ha:PE X a ta)(hb:PE X b tb)(hc:PE X c tc)
  (hm:lastMarks [op,op'] [b,c]=false:=by with_unfolding_all rfl):PE X (.Compare a [op,op'] [b,c] pos) (A2 r r' ta tb tc):=by
 intro pins s σ H Q I h;refine Compare_chain (bR (ha pins s σ H _ I h) λv s1 ⟨x,H1,I1,r1,q1⟩=>chain_link (bR (hb pins s1 σ H1 _ I1 q1) λu s2 ⟨y,H2,I2,r2,q2⟩=>
  bR (ho pins s2 σ H2 x y v u _ I2 r1 r2 q2) λd s3 ⟨z,H3,I3,r3,k,e,q3⟩=>?_)) hm
 subst e;cases r3;refine akc ?_;cases k with
 |false=>exact ite_ff ⟨.bl kt,H3,I3,rfl,q3⟩
 |true=>exact ite_tt (chain_last (bR (hc pins s3 σ H3 _ I3 q3) λw' s4 ⟨z',H4,I4,r4,q4⟩=>ho' pins s4 σ H4 y z' u w' Q I4 r2 r4 q4))
theorem GH{r':R2}(ho:iI X (aj1 op) r)(ho':iI X (aj1 op') r')(ha:PE X a ta)(hb:PE X b tb)(hc:PE X c tc)
  (hm:lastMarks [op,op'] [b,c]=false:=by with_unfolding_all rfl):PT X (.Compare a [op,op'] [b,c] pos) (Pm (A2 r r' ta tb tc)):=by
 intro pins s σ H Q I h;refine isTrue_chain (bR (ha pins s σ H _ I h) λv s1 ⟨x,H1,I1,r1,q1⟩=>test_link (bR (hb pins s1 σ H1 _ I1 q1) λu s2 ⟨y,H2,I2,r2,q2⟩=>
  bR (ho pins s2 σ H2 x y v u _ I2 r1 r2 q2) λd s3 ⟨z,H3,I3,r3,k,e,q3⟩=>?_)) hm
 subst e;cases r3;refine akc ?_;cases k with
 |false=>obtain⟨k',e',q'⟩:=q3;cases e';exact ite_ff ⟨H3,I3,q'⟩
 |true=>refine ite_tt (test_last (bR (hc pins s3 σ H3 _ I3 q3) λw' s4 ⟨z',H4,I4,r4,q4⟩=>bR (ho' pins s4 σ H4 y z' u w' _ I4 r2 r4 q4) λd' s5 ⟨z2,H5,I5,r5,k2,e2,q5⟩=>?_));subst e2;cases r5;exact akc ⟨H5,I5,q5⟩
def WW(K:lc)(x:V)(H:Hp)(k:Bool):Prop :=
 match x with
 |.cY=>k=kt
 |.bl b=>k=b
 |.int i=>k=(i != 0)
 |.str y=>y.length<=aj4/\k=((y.length:Int) != 0)
 |.VJ y=>y.size<=aj4/\k=((y.size:Int) != 0)
 |.ref p=>(∃xs,ng K H p xs/\k= !xs.isEmpty)\/(∃xs,hV K H p xs/\k= !xs.isEmpty)\/∃kvs,H p=bv (.dK kvs)/\k= !kvs.isEmpty
 |_=>False
theorem A3{kvs:List (κ×V)}{vs:List (κ×ajU)}(r:KV kvs vs):(!vs.isEmpty)= !kvs.isEmpty:=by cases r<;>rfl
theorem tE{its:List ajU}(r:Vals xs its):(!its.toArray.isEmpty)= !xs.isEmpty:=by cases r<;>simp
theorem n_:(aj4:Nat) < 2 ^ 63:=by rw[sizeLine_eq];decide
theorem Ra:abY X (λx H Q=>∃k,WW X.K x H k/\Q k H):=by
 intro pins s σ H x v Q I rx h;obtain⟨k,e,q⟩:=h;have hl:=n_;have hs:aj4=16777216:=sizeLine_eq;cases x with
 |cY=>cases rx;have e':k=false:=e;subst e';exact truthy_none ⟨H,I,q⟩
 |bl b=>cases rx;have e':k=b:=e;subst e';exact akc ⟨H,I,q⟩
 |int i=>obtain⟨t,rfl⟩:=rx;have e':k=(i != 0):=e;subst e';exact PySem.P.truthy_int ⟨H,I,q⟩
 |str y=>obtain⟨t,rfl⟩:=rx;obtain⟨hy,e'⟩:y.length<=aj4/\k=((y.length:Int) != 0):=e;subst e';exact PySem.P.truthy_str (by omega) ⟨H,I.tok _,q⟩
 |VJ y=>obtain⟨t,rfl⟩:=rx;obtain⟨hy,e'⟩:y.size<=aj4/\k=((y.size:Int) != 0):=e;subst e';exact PySem.W.truthy_bytes (by omega) ⟨H,I.tok _,q⟩
 |ref p=>
  cases rx;have e':(∃xs,ng X.K H p xs/\k= !xs.isEmpty)\/(∃xs,hV X.K H p xs/\k= !xs.isEmpty)\/∃kvs,H p=bv (.dK kvs)/\k= !kvs.isEmpty:=e;rcases e' with ⟨xs,hx,e'⟩ |⟨xs,hx,e'⟩ |⟨kvs,hx,e'⟩
  ·subst e';obtain⟨its,r,pl,hz⟩:=I.list hx;have hlen:=r.length;exact wpAny_truthy_list pl.isList (by simp only[bj];omega) ⟨H,I.tok _,by rw[tE r];exact q⟩
  ·subst e';obtain⟨its,r,pl,hz⟩:=I.tuple hx;have hlen:=r.length;exact truthy_tuple pl (by simp only[bj];omega) ⟨H,I.tok _,by rw[tE r];exact q⟩
  ·subst e';obtain⟨hz,hS,vs,r,m⟩:kvs.length<=aj4/\(p == sysModules)=kt/\∃vs,KV kvs vs/\s.heap.DictOf (df X.prog X.w) p vs:=I.hok p _ hx;have hlen:kvs.length=vs.length:=Paired.length r;exact wpAny_truthy_dict hS m (by omega) ⟨H,I.tok _,by rw[A3 r];exact q⟩
 |_=>exact(show False from e).elim
theorem GJ(ha:PE X a ta)(he:∀whole,isTrue a X.env whole=(do let v <-whole;standAt a.pos;holding [v] (truthy v))):
  PT X a (λσ H Q=>ta σ H λx H'=>∃k,WW X.K x H' k/\Q k H'):=by
 intro pins s σ H Q I h;exact isTrue_plain (bR (ha pins s σ H _ I h) λv s1 ⟨x,H1,I1,r1,q1⟩=>Ra pins s1 σ H1 x v Q I1 r1 q1) (he _)
theorem A4:iI X (ajX .Add) (λx y H Q=>∃i j,x= .str i/\y= .str j/\i.length+j.length<=aj4/\Q (.str (i++j)) H):=by intro pins s σ H x y v u Q I rx ry h;obtain⟨i,j,rfl,rfl,hz,q⟩:=h;obtain⟨t,rfl⟩:=rx;obtain⟨t',rfl⟩:=ry;exact add_str (λt' tk=>⟨.str (i++j),H,I.tok _,⟨_,rfl⟩,q⟩) hz
theorem vals1{x:V}(r:Vals [x] us):∃u,us=[u]/\RelV x u:=by
 cases r with
 |cons r1 r2=>cases r2;exact⟨_,rfl,r1⟩
theorem vals2{x:V}(r:Vals [x,y] us):∃u w',us=[u,w']/\RelV x u/\RelV y w':=by
 cases r with
 |cons r1 r2=>
  cases r2 with
  |cons r3 r4=>cases r4;exact⟨_,_,rfl,r1,r3⟩
theorem GK:fS X (.builtin "abs") (λxs H Q=>∃i,xs=[.int i]/\Q (.int (if i < 0 then -i else i)) H):=by intro pins s σ H xs us Q I r h;obtain⟨i,rfl,q⟩:=h;obtain⟨u,rfl,t,rfl⟩:=vals1 r;exact call_abs_int λu tk=>⟨.int (if i < 0 then -i else i),H,I.tok _,⟨_,rfl⟩,q⟩
theorem Ey(hc:X.calm=jp):fS X (.builtin "max") (λxs H Q=>∃i j,xs=[.int i,.int j]/\Q (.int (if j > i then j else i)) H):=by
 intro pins s σ H xs us Q I r h;obtain⟨i,j,rfl,q⟩:=h;obtain⟨u,w',rfl,⟨t,rfl⟩,⟨t',rfl⟩⟩:=vals2 r;refine max_two_ints (I.ok.hd hc) λh' tk k=>⟨_,H,I.kept k,?_,q⟩;by_cases hj:j > i
 ·rw[Os hj,Os hj];exact⟨_,rfl⟩
 ·rw[OK hj,OK hj];exact⟨_,rfl⟩
theorem Ez(hc:X.calm=jp):fS X (.builtin "min") (λxs H Q=>∃i j,xs=[.int i,.int j]/\Q (.int (if j < i then j else i)) H):=by
 intro pins s σ H xs us Q I r h;obtain⟨i,j,rfl,q⟩:=h;obtain⟨u,w',rfl,⟨t,rfl⟩,⟨t',rfl⟩⟩:=vals2 r;refine min_two_ints (I.ok.hd hc) λh' tk k=>⟨_,H,I.kept k,?_,q⟩;by_cases hj:j < i
 ·rw[Os hj,Os hj];exact⟨_,rfl⟩
 ·rw[OK hj,OK hj];exact⟨_,rfl⟩
theorem EA:fS X (.type "int") (λxs H Q=>(∃i,xs=[.int i]/\Q (.int i) H)\/∃k,xs=[.bl k]/\Q (.int (if k then 1 else 0)) H):=by
 intro pins s σ H xs us Q I r h;rcases h with ⟨i,rfl,q⟩ |⟨k,rfl,q⟩
 ·obtain⟨u,rfl,t,rfl⟩:=vals1 r;exact call_int_int ⟨.int i,H,I,⟨_,rfl⟩,q⟩
 ·obtain⟨u,rfl,r1⟩:=vals1 r;cases r1;exact call_int_bool ⟨.int (if k then 1 else 0),H,I.tok _,⟨_,rfl⟩,q⟩
theorem xG:fS X (.type "str") (λxs H Q=>∃i,xs=[.int i]/\i.natAbs.log2 < 1920/\Q (.str (toString i)) H):=by intro pins s σ H xs us Q I r h;obtain⟨i,rfl,hz,q⟩:=h;obtain⟨u,rfl,t,rfl⟩:=vals1 r;exact PySem.P.str_of_int hz ⟨.str _,H,I.tok _,⟨_,rfl⟩,q⟩
theorem GL:fS X (.builtin "ord") (λxs H Q=>∃x,xs=[.str x]/\x.length=1/\Q (.int (x.cps.getD 0 0:Nat)) H):=by intro pins s σ H xs us Q I r h;obtain⟨x,rfl,hz,q⟩:=h;obtain⟨u,rfl,t,rfl⟩:=vals1 r;exact ord_of_one hz ⟨.int _,H,I.tok _,⟨_,rfl⟩,q⟩
end
structure A5(h:Heap)(x dx C:ajO)(mA:Str->Option ajU):Prop where
 obj:h.get? x=bv (xz C dx)
 ns:h.Ns1 dx mA
 ne:dx≠x
variable{dx:ajO}{mA:Str->Option ajU}
theorem EB(n:h.Ns1 dx mA):∃od,h.get? dx=bv od/\∀name,FB name od=bv (mA name):=by
 obtain⟨o,es,ep,ho,hd,hk,_,hm⟩:=n;refine⟨o,ho,λname=>?_⟩;have e:=hm name;unfold nsFind findBy at e;rw[<-Array.find?_toList]at e;unfold FB;rw[hd];dsimp only;split
 ·rename_i y q;rw[q]at e;exact congrArg bv e
 ·rename_i q;rw[q]at e;have a:es.toList.any (·.refKey)=false:=by rw[List.any_eq_false];intro y hy;obtain⟨z,t,hkey⟩:=hk y (FM.mp hy);simp[DictEntry.refKey,hkey]
  have a':¬es.toList.any (·.refKey)=true:=by rw[a];exact cS
  rw[OK a'];exact congrArg bv e
variable{C:ajO}
theorem A5.look{x:ajO}(I:A5 h x dx C mA):∃od,PySem.W.InstAt h x (xz C dx) C (bv od)/\∀name,FB name od=bv (mA name) :=
 let ⟨od,ho,hl⟩:=EB I.ns
 ⟨od,⟨I.obj,rfl,rfl,ho⟩,hl⟩
variable{kw:List (Str×ajU)}
section
variable {prog:ajS}{w:ajV}{A:ajP}{E:ajU->ajT->Prop}{s:ajT}{K:lc}{x dx C f:ajO}{mA:Str->Option ajU}{name:Str}{v:ajU}
theorem get_map{expr:Bool}(X:K.In s.heap)(I:A5 s.heap x dx C mA)(hg:FS K C name=jp)(hh:KE K C=jp)
  (ha:sK K (.ref C) name=bv gV)(hv:mA name=bv v)(hv':PySem.W.handedIn v=jp)(h:Q v { s with toks:=s.toks+1 }):
  aj6 (model prog w) A (getAttr (.ref x) name expr) Q E s:=by
 obtain⟨od,J,hl⟩:=I.look;exact PySem.W.get_value X J (KF hg).1 (PySem.W.findObj_own hh ha rfl (by rw[hl,hv])) hv' h
theorem GN{pl:Sem Bool}{Q:ajU×List ajU->ajT->Prop}(X:K.In s.heap)(I:A5 s.heap x dx C mA)(hg:FS K C name=jp)
  (hf:sK K (.ref C) name=bv (bv (.ref f)))(ht:Do K (.ref f)=jp)(hv:mA name=gV)(h:Q (.ref f,[.ref x]) s):
  aj6 (model prog w) A (getMethod (.ref x) name pl) Q E s:=by
 obtain⟨od,J,hl⟩:=I.look;exact PySem.W.method_fn X J (KF hg).1 (KF hg).2 hf (beq_iff_eq.mp ht) (by show(FB name od).map (·.isSome)=bv kt;rw[hl,hv];rfl) h
theorem Mh{ns:List Str}{Q:Unit->ajT->Prop}(X:K.In s.heap)(I:A5 s.heap x dx C mA)
  (hs:sK K (.ref C) "__setattr__"=bv (bv (.builtin "object.__setattr__")))(hp:PySem.W.plainOver K C=jp)(ht:KKq K C name=bv gV)(hh:KE K C=jp)
  (hw:PySem.Within mA ns)(hsz:ns.length<=aj4)
  (h:∀h',A5 h' x dx C (λy=>if y=name then bv v else mA y)->xD dx s.heap h'->Q () { s with heap:=h',toks:=s.toks+2 }):
  aj6 (model prog w) A (setAttr (.ref x) name v) Q E s:=by
 obtain⟨od,J,hl⟩:=I.look;refine PySem.W.set_plain X J hs (PySem.W.osa_open (s:={ s with toks:=s.toks+1 }) (r:=gV) X J hp ht λb=>?_);obtain⟨cd,hc,hd'⟩:=PySem.W.any_some hh;have hx:s.heap.get? x=bv ⟨.ref C,bv dx,.plain,#[]⟩:=I.obj;refine aj7 (akb (aj7 (aj7 (wpAny_loadPart hx (aj7 (PySem.W.Looks.here (s:={ s with toks:=s.toks+1 }) (PySem.W.looks_clsIn X hc) ?_))))));rw[hd'];refine akb (a:=bv dx) (aj7 (akb (aj7 ?_)));refine wpAny_nsSet1 (s:={ s with toks:=s.toks+1 }) I.ns λh' hn2 hs2=>?_;obtain⟨oD,esD,epD,hoD,hdD,hcD⟩:=hn2.count (PySem.Within.cons name v hw);refine aj7 (wpAny_lookBehind hoD (by rw[hdD];exact pastItsLine_dict (aA hcD (by rw[aZ];omega))) ?_);exact akb (h _ ⟨(hs2.2 _ (dM I.ne)).trans I.obj,hn2,I.ne⟩ hs2)
theorem GP{R:Result->ajT->Prop}{vs:List ajU}(X:K.In s.heap)(hm:KM K C=jp)
  (hi:sK K (.ref C) "__init__"=bv (bv (.ref f)))(hf:PySem.W.typeIn K (.ref f)=bv (.type "function"))
  (h:ajZ (model prog w) (A.under (.builtin "type.__call__" ⟨.ref C::vs,kw⟩)) (.call (.ref f) ⟨.ref (s.heap.objs.size+1)::vs,kw⟩) (PySem.W.InitBack (s.heap.objs.size+1) R)
   { s with heap:=(s.heap.push wT).push (xz C s.heap.objs.size) }):
  ajZ (model prog w) A (.call (.ref C) ⟨vs,kw⟩) R s:=by
 obtain⟨hh,g,d,t,os⟩:=s;exact PySem.W.make_core (PySem.W.makes_of X hm) (PySem.W.looks_findIn X hi) (λself=>PySem.W.bind_fn X self hf) (.inl rfl) h
end
def jZ(f:Str)(v:V):List (Str×V)->List (Str×V)
 |[]=>[(f,v)]
 |(g,x)::r=>if g=f then(g,v)::r else(g,x)::jZ f v r
theorem qS(f g:Str)(v:V):∀fs:List (Str×V),(jZ f v fs).lookup g=if g=f then bv v else fs.lookup g
 |[]=>by
  show kW g [(f,v)]=_;by_cases h:g=f
  ·have hb:(g == f)=true:=beq_iff_eq.mpr h;simp only[kW,hb,Os h]
  ·have hb:(g == f)=false:=beq_eq_false_iff_ne.mpr h;simp only[kW,hb,OK h]
 |(k,x)::r=>by
  have ih:=qS f g v r;rw[show jZ f v ((k,x)::r)=(if k=f then(k,v)::r else(k,x)::jZ f v r) from rfl];by_cases hk:k=f
  ·rw[Os hk];by_cases h:g=k
   ·have hb:(g == k)=true:=beq_iff_eq.mpr h;simp only[kW,hb,Os (h.trans hk)]
   ·have hb:(g == k)=false:=beq_eq_false_iff_ne.mpr h;simp only[kW,hb,OK (λe:g=f=>h (e.trans hk.symm))]
  ·rw[OK hk];by_cases h:g=k
   ·have hb:(g == k)=true:=beq_iff_eq.mpr h;simp only[kW,hb,OK (λe:g=f=>hk (h.symm.trans e))]
   ·have hb:(g == k)=false:=beq_eq_false_iff_ne.mpr h;simp only[kW,hb];exact ih
theorem qg(f:Str)(v:V):∀fs:List (Str×V),f∈(jZ f v fs).map (·.1)/\∀g,g∈fs.map (·.1)->g∈(jZ f v fs).map (·.1)
 |[]=>⟨by simp[jZ],λg h=>by simp at h⟩
 |(k,x)::r=>by
  obtain⟨i1,i2⟩:=qg f v r;rw[show jZ f v ((k,x)::r)=(if k=f then(k,v)::r else(k,x)::jZ f v r) from rfl];by_cases hk:k=f
  ·rw[Os hk];subst hk;exact⟨by simp,λg h=>by simpa using h⟩
  ·rw[OK hk];refine⟨?_,λg h=>?_⟩
   ·rw[bz];exact bw _ i1
   ·rw[bz]at h ⊢;rcases List.mem_cons.mp h with e |e
    ·exact List.mem_cons.mpr (.inl e)
    ·exact bw _ (i2 g e)
theorem qT(f:Str)(v:V):∀fs:List (Str×V),(jZ f v fs).length<=fs.length+1
 |[]=>by simp[jZ]
 |(k,x)::r=>by
  have ih:=qT f v r;rw[show jZ f v ((k,x)::r)=(if k=f then(k,v)::r else(k,x)::jZ f v r) from rfl];by_cases hk:k=f
  ·rw[Os hk,aZ,aZ];omega
  ·rw[OK hk,aZ,aZ];omega
variable{o:Option ajU}
theorem oU.some_of(r:oU (bv v) o):∃u,o=bv u/\RelV v u:=by
 cases o with
 |none=>exact(show False from r).elim
 |some u=>exact⟨u,rfl,r⟩
theorem oU.none_of(r:oU gV o):o=none:=by
 cases o with
 |none=>rfl
 |some u=>exact(show False from r).elim
theorem EC(r:RelV v u):PySem.W.handedIn u=true:=by
 cases v with
 |cY=>cases (show u=fN from r);rfl
 |bl b=>cases (show u=oT b from r);rfl
 |int i=>obtain⟨t,e⟩:=(show ∃t,u=oS i t from r);cases e;rfl
 |str x=>obtain⟨t,e⟩:=(show ∃t,u=kT x t from r);cases e;rfl
 |VJ b=>obtain⟨t,e⟩:=(show ∃t,u=Value.bytes b t from r);cases e;rfl
 |flt b=>obtain⟨t,e⟩:=(show ∃t,u=Value.float b t from r);cases e;rfl
 |ref a=>cases (show u=bJ a from r);rfl
 |ty n=>cases (show u=Value.type n from r);rfl
section
variable {P:ajS}{w:ajV}{H H':Hp}{h h':Heap}{a C dx:ajO}{fs fs':List (Str×V)}
theorem xH(hok:m_ P w H h)(e:H a=bv (.ins C dx fs)):∃mA,A5 h a dx C mA/\(∀f,oU (fs.lookup f) (mA f))/\PySem.Within mA (fs.map (·.1))/\fs.length<=1000/\H dx=bv (.own a):=by obtain⟨d,z,ne,ob,mA,n,r,q⟩:=(show fh P w H h a (.ins C dx fs) from hok a _ e);exact⟨mA,⟨ob,n,ne⟩,r,q,z,d⟩
end
structure ED(K:lc)(C:ajO):Prop where
 pg:FS K C Str.empty=jp
 hd:KE K C=jp
 po:PySem.W.plainOver K C=jp
 sa:sK K (.ref C) "__setattr__"=bv (bv (.builtin "object.__setattr__"))
theorem ED.get(c:ED K C)(f:Str):FS K C f=true:=c.pg
def lV(K:lc)(C:ajO)(f:Str):Prop:=sK K (.ref C) f=bv gV
theorem lV.WX{f:Str}(n:lV K C f):KKq K C f=bv none:=by unfold KKq;rw[show sK K (.ref C) f=bv gV from n];rfl
structure Meth(K:lc)(C:ajO)(m:Str)(f:ajO):Prop where
 at_:sK K (.ref C) m=bv (bv (.ref f))
 fn:Do K (.ref f)=jp
 kp:ww K (.ref f)=jp
section
variable {X:Cx}{pins:List (ajO×Obj)}{σ:St}{H:Hp}{s:ajT}{a C dx:ajO}{fs:List (Str×V)}{f:Str}{v:V}{A:ajP}{E:ajU->ajT->Prop}
theorem tF{b:Bool}(I:Inv X pins σ H s)(e:H a=bv (.ins C dx fs))(c:ED X.K C)(n:lV X.K C f)(l:fs.lookup f=bv v)
  (h:∀u s',Inv X pins σ H s'->RelV v u->Q u s'):aj6 (model X.prog X.w) A (getAttr (.ref a) f b) Q E s:=by
 obtain⟨mA,O,r,_,_,_⟩:=xH I.hok e;obtain⟨u,hu,ru⟩:=oU.some_of (v:=v) (o:=mA f) (by rw[<-l];exact r f);exact get_map I.qR O (c.get f) c.hd n hu (EC ru) (h u _ (I.tok _) ru)
theorem A6{m:Str}{g:ajO}{pl:Sem Bool}{Q:ajU×List ajU->ajT->Prop}(I:Inv X pins σ H s)(e:H a=bv (.ins C dx fs))(c:ED X.K C)(k:Meth X.K C m g)(l:fs.lookup m=gV)
  (h:Q (.ref g,[.ref a]) s):aj6 (model X.prog X.w) A (getMethod (.ref a) m pl) Q E s:=by
 obtain⟨mA,O,r,_,_,_⟩:=xH I.hok e;have hn:mA m=none:=oU.none_of (by rw[<-l];exact r m);exact GN I.qR O (c.get m) k.at_ k.fn hn h
theorem tG{Q:Unit->ajT->Prop}(I:Inv X pins σ H s)(e:H a=bv (.ins C dx fs))(c:ED X.K C)(n:lV X.K C f)(hl:fs.length < 1000)(ry:RelV y u)
  (h:∀s',Inv X pins σ (upd H a (.ins C dx (jZ f y fs))) s'->Q () s'):aj6 (model X.prog X.w) A (setAttr (.ref a) f u) Q E s:=by
 obtain⟨mA,O,r,wi,_,ho⟩:=xH I.hok e;have hz:(fs.map (·.1)).length<=aj4:=by rw[bN,sizeLine_eq];omega
 refine Mh I.qR O c.sa c.po n.WX c.hd wi hz λh' O' sb=>h _ ?_;have hd:∃o,h'.get? dx=bv o:=let ⟨o,_,_,e',_⟩:=O'.ns;⟨o,e'⟩;refine I.write (x:=a) (e:=dx) (by rw[e];exact oY) (.inr ho) (λb q hb z=>(sb.2 b hb).trans z) hd ?_;refine⟨by rw[b6 O.ne];exact ho,?_,O.ne,O'.obj,_,O'.ns,λg=>?_,λg hg=>?_⟩
 ·have:=qT f y fs;omega
 ·show oU ((jZ f y fs).lookup g) (if g=f then bv u else mA g);rw[qS];by_cases q:g=f
  ·rw[Os q,Os q];exact ry
  ·rw[OK q,OK q];exact r g
 ·by_cases q:g=f
  ·rw[q];exact(qg f y fs).1
  ·refine(qg f y fs).2 g (wi g λz=>hg ?_);show(if g=f then bv u else mA g)=gV;rw[OK q];exact z
theorem Inv.made(I:Inv X pins σ H s):Inv X pins σ (upd (upd H s.heap.objs.size (.own (s.heap.objs.size+1))) (s.heap.objs.size+1) (.ins C s.heap.objs.size []))
  { s with heap:=(s.heap.push wT).push (xz C s.heap.objs.size) }:=by
 have e1:(s.heap.push wT).get? s.heap.objs.size=bv wT:=gI s.heap rfl;have e2:((s.heap.push wT).push (xz C s.heap.objs.size)).get? (s.heap.objs.size+1)=bv (xz C s.heap.objs.size):=by
  have:=gI (s.heap.push wT) (o:=xz C s.heap.objs.size) rfl
  rwa [A7]at this
 have e3:(s.heap.push wT).Ns s.heap.objs.size (λ_=>gV):=⟨wT,#[],_,e1,rfl,(λe he=>absurd he (by simp)),λ_=>rfl⟩;have I1:=I.laid (a:=s.heap.objs.size) (o:=.own (s.heap.objs.size+1)) (h':=s.heap.push wT) (t':=s.toks) (λb u q=>cI _ q) (av _) ⟨_,e1⟩;refine I1.laid (a:=s.heap.objs.size+1) (o:=.ins C s.heap.objs.size []) (t':=s.toks) (λb u q=>cI _ q) (sx (A7 _ _)) ?_;have ne:s.heap.objs.size≠s.heap.objs.size+1:=dJ (C0 _);refine⟨by rw[b6 ne,cz],dz _,ne,e2,λ_=>gV,(Heap.Ns1.of_empty e3).at λo q=>cI _ q,λ_=>oY,λy hy=>absurd rfl hy⟩
theorem Mi{env:Env}(hb:attributeBase e f env (eval e env)=eval e env)
  (h:aj6 (model prog w) A (eval e env) (λo s₁=>aj6 (model prog w) A (getAttr o f jp) Q E s₁) E s):aj6 (model prog w) A (eval (.Attribute e f pos) env) Q E s :=
 Attribute_any_ h (by rw[arm_eval_Attribute,hb])
end
def ab0(K:lc)(ta:TE)(f:Str):TE:=λσ H Q=>ta σ H λx H1=>∃a C dx fs v,x= .ref a/\H1 a=bv (.ins C dx fs)/\ED K C/\lV K C f/\fs.lookup f=bv v/\Q v H1
def ab1(K:lc)(ta tv:TE)(f:Str):TS:=λD σ H=>tv σ H λy H1=>ta σ H1 λx H2=>∃a C dx fs,x= .ref a/\H2 a=bv (.ins C dx fs)/\ED K C/\lV K C f/\fs.length < 1000/\
 D.nx σ (upd H2 a (.ins C dx (jZ f y fs)))
def WY(X:Cx)(op:Operator)(rd:V->V->Hp->VK->Prop):Prop :=
 ∀(pins:List (ajO×Obj))(s:ajT)(σ:St)(H:Hp)(x y:V)(u v:ajU)(Q:VK),Inv X pins σ H s->RelV x u->RelV y v->rd x y H Q->aj6 (model X.prog X.w) X.A (inplaceOp op u v) (EP X pins σ Q) X.xe s
def Mj(K:lc)(ta tv:TE)(rd:V->V->Hp->VK->Prop)(f:Str):TS:=λD σ H=>ta σ H λx H1=>∃a C dx fs v,x= .ref a/\H1 a=bv (.ins C dx fs)/\ED K C/\lV K C f/\fs.lookup f=bv v/\
 tv σ H1 λy H2=>rd v y H2 λz H3=>∃Rb fs',H3 a=bv (.ins C Rb fs')/\fs'.length < 1000/\D.nx σ (upd H3 a (.ins C Rb (jZ f z fs')))
section
variable {X:Cx}{o e value:Expr}{f:Str}{pos pos' tpos:Pos}{ta tv:TE}
theorem Rc(he:PE X e ta)(hb:attributeBase e f X.env (eval e X.env)=eval e X.env):PE X (.Attribute e f pos) (ab0 X.K ta f):=by intro pins s σ H Q I h;refine Mi hb (bR (he pins s σ H _ I h) λu s1 ⟨x,H1,I1,rx,a,C,dx,fs,v,ex,ea,c,n,l,q⟩=>?_);subst ex;obtain rfl:u=bJ a:=rx;exact tF I1 ea c n l λu' s2 I2 ru=>⟨v,H1,I2,ru,q⟩
theorem Rf(ha:PE X o ta)(hv:PE X value tv)(hs:swapsWith value (bv (.Attribute o f pos')) pos.line X.env=pure kt):PS X (.Assign [.Attribute o f pos'] value pos) (ab1 X.K ta tv f):=by intro pins s σ H D I h;refine plainObj_wpAny_Assign_Attribute (bR (hv pins s σ H _ I h) λu s1 ⟨y,H1,I1,ry,q⟩=>bR (ha pins s1 σ H1 _ I1 q) λov s2 ⟨x,H2,I2,rx,a,C,dx,fs,ex,ea,c,n,l,q2⟩=>?_) hs;subst ex;obtain rfl:ov=bJ a:=rx;exact tG I2 ea c n l ry λs3 I3=>⟨σ,_,I3,q2⟩
theorem EE{op:Operator}{rd:V->V->Hp->VK->Prop}(ha:PE X o ta)(hv:PE X value tv)(hop:WY X op rd):PS X (.AugAssign (.Attribute o f tpos) op value pos) (Mj X.K ta tv rd f):=by intro pins s σ H D I h;refine wpAny_AugAssign_AttributeAny (bR (ha pins s σ H _ I h) λov s1 ⟨x,H1,I1,rx,a,C,dx,fs,v,ex,ea,c,n,l,q⟩=>?_);subst ex;obtain rfl:ov=bJ a:=rx;refine tF I1 ea c n l λu s2 I2 ru=>bR (hv pins s2 σ H1 _ I2 q) λw3 s3 ⟨y,H2,I3,ry,q3⟩=>bR (hop pins s3 σ H2 v y u w3 _ I3 ru ry q3) λw4 s4 ⟨z,H3,I4,rz,Rb,fs',ea',l',q4⟩=>?_;exact tG I4 ea' c n l' rz λs5 I5=>⟨σ,_,I5,q4⟩
end
structure iJ(k:Nat)(A:ajP):Prop where
 hd:A.handled=gV
 dp:A.depth+3 * k+5 < recursionLimit
 un:A.units+16 * k+200 < cLine
variable{k:Nat}
theorem iJ.mono(r:iJ k A)(h:j<=k):iJ j A:=⟨r.hd,by have:=r.dp;omega,by have:=r.un;omega⟩
theorem iJ.deeper(r:iJ (k+1) A)(env:Env):iJ k (A.deeper env) :=
 ⟨r.hd,by have:=r.dp;show A.depth+1+3 * k+5 < _;omega,by have:=r.un;show A.units+3+16 * k+200 < _;omega⟩
theorem A8:(A.under (.builtin "type.__call__" ⟨.ref C::us,kw⟩)).depth=A.depth+1:=by
 first |rfl |simp[Pn,Code.weight,Code.isCreation,Code.isGuard,Code.isCaller,Code.frames,GQ,guardIds]
theorem A9:(A.under (.builtin "type.__call__" ⟨.ref C::us,kw⟩)).units=A.units+1:=by
 first |rfl |simp[Pn,Code.cUnits,Code.frames,GQ]
theorem iJ.make(r:iJ (k+1) A)(C:ajO)(us:List ajU)(kw:List (Str×ajU)):iJ k (A.under (.builtin "type.__call__" ⟨.ref C::us,kw⟩)) :=
 ⟨r.hd,by have:=r.dp;rw[A8];omega,by have:=r.un;rw[A9];omega⟩
theorem iJ.depth(r:iJ k A):A.depth < recursionLimit:=by have:=r.dp;omega
def ab2:TA:=λ_ H Q=>Q [] H
def WZ(ta:TE)(tr:TA):TA:=λσ H Q=>ta σ H λx H1=>tr σ H1 λxs H2=>Q (x::xs) H2
section
variable {X:Cx}{e:Expr}{es:List Expr}{te:TE}{t:TA}{pos:Pos}
theorem Rg:PA X [] ab2:=λ_ _ _ _ H Q I h=>GR ⟨[],H,I,.nil,h⟩
theorem Ml(ha:PE X e te)(hr:PA X es t)(hs:aj5 (e::es) X.env=(kt,eval e X.env)::aj5 es X.env:=by rfl):PA X (e::es) (WZ te t):=by intro pos pins s σ H Q I h;rw[hs];show aj6 _ _ (spliced ((kt,eval e X.env)::backTo pos (aj5 es X.env))) _ _ s;refine xI (bR (ha pins s σ H _ I h) λu s1 ⟨x,H1,I1,r1,q1⟩=>?_);exact bR (hr pos pins s1 σ H1 _ I1 q1) λus s2 ⟨xs,H2,I2,r2,q2⟩=>⟨x::xs,H2,I2,.cons r1 r2,q2⟩
def ab3(t:TA):TE:=λσ H Q=>t σ H λxs H1=>xs.length<=aj4/\∀p,H1 p=gV->Q (.ref p) (upd H1 p (.tup xs))
def ab4(t:TA):TE:=λσ H Q=>t σ H λxs H1=>xs.length<=aj4/\∀p,H1 p=gV->Q (.ref p) (upd H1 p (.lst xs))
theorem Rh{x1}(h:PA X es t):PE X (.Tuple es x1 pos) (ab3 t):=by intro pins s σ H Q I hq;refine wpAny_Tuple_spliced (bR (h pos pins s σ H _ I hq) λus s1 ⟨xs,H1,I1,r,z,q⟩=>⟨by rw[<-r.length];exact z,?_⟩);have hf:H1 s1.heap.objs.size=none:=I1.hok.fresh (av _);refine⟨.ref s1.heap.objs.size,upd H1 s1.heap.objs.size (.tup xs),I1.laid (t':=s1.toks) (λb u e=>cI _ e) (av _) ?_,rfl,q _ hf⟩;exact⟨z,us,r,⟨_,gI _ rfl,rfl,_,rfl⟩,y0.new _ _⟩
theorem Ri(h:PA X es t):PE X (.List es pos) (ab4 t):=by intro pins s σ H Q I hq;refine wpAny_List_spliced (bR (h pos pins s σ H _ I hq) λus s1 ⟨xs,H1,I1,r,z,q⟩=>⟨by rw[<-r.length];exact z,?_⟩);have hf:H1 s1.heap.objs.size=none:=I1.hok.fresh (av _);refine⟨.ref s1.heap.objs.size,upd H1 s1.heap.objs.size (.lst xs),I1.laid (t':=s1.toks) (λb u e=>cI _ e) (av _) ?_,rfl,q _ hf⟩;exact⟨z,us,0,r,gI _ rfl⟩
end
abbrev Sp:=List V->Hp->VK->XK->Prop
abbrev EF:=List Env->Hp->ajT->XK->ajU->ajT->Prop
structure y7(P:ajS)(w:ajV)(K:lc)(mg:Str->Option ajU)(base:Heap)(A:ajP)(outer:List Env)(s:ajT)(H:Hp):Prop where
 frames:A.frames=bv outer
 mod:Mod K mg base
 bs:∀b o,base.get? b=bv o->s.heap.get? b=bv o/\H b=gV
 QJ:base.objs.size<=s.heap.objs.size
 tq:s.heap.FunFrames base outer
 VN:∀b∈frs outer,H b=gV
 hok:m_ P w H s.heap
 bare:AllBare s.gens
def CE(outer:List Env)(P:ajS)(w:ajV)(H:Hp)(s:ajT)(Q:VK)(u:ajU)(s':ajT):Prop :=
 ∃v H',s'.os=s.os/\AllBare s'.gens/\Un (frs outer) [] H H' s.heap s'.heap/\m_ P w H' s'.heap/\RelV v u/\Q v H'
def CR(CX:EF)(outer:List Env)(P:ajS)(w:ajV)(H:Hp)(s:ajT)(Q:VK)(E:XK)(r:Result)(s':ajT):Prop :=
 match r with
 |.ok (.ret u)=>CE outer P w H s Q u s'
 |.ok _=>False
 |.error e=>CX outer H s E e s'
structure FnOk(P:ajS)(w:ajV)(K:lc)(mg:Str->Option ajU)(base:Heap)(CX:EF)(k:Nat)(f:ajO)(fd:ajQ)(ps:List Str)(sp:Sp):Prop where
 len:∀vs H Q E,sp vs H Q E->vs.length=ps.length
 run:∀(A:ajP)(outer:List Env)(s:ajT)(H:Hp)(args:Args)(us:List ajU)(vs:List V)(Q:VK)(E:XK),iJ k A->y7 P w K mg base A outer s H->BindsTo s fd args (ps.zip us)->Vals vs us->sp vs H Q E->
  ajZ (model P w) A (.call (.ref f) args) (CR CX outer P w H s Q E) s
variable{f:ajO}{mg:Str->Option ajU}{base:Heap}{CX:EF}{ps:List Str}{sp:Sp}
theorem FnOk.mono{fd:ajQ}(F:FnOk P w K mg base CX j f fd ps sp)(h:j<=k):
  FnOk P w K mg base CX k f fd ps sp:=⟨F.len,λA outer s H args us vs Q E hr=>F.run A outer s H args us vs Q E (hr.mono h)⟩
variable{outer:List Env}
theorem y7.make(e:y7 P w K mg base A outer s H)(C:ajO)(us:List ajU)(kw:List (Str×ajU)):
  y7 P w K mg base (A.under (.builtin "type.__call__" ⟨.ref C::us,kw⟩)) outer s H:=⟨by first |exact e.frames |(simpa [Pn,Code.envs,GQ,pushEnvs]using e.frames),e.mod,e.bs,e.QJ,e.tq,e.VN,e.hok,e.bare⟩
variable{Q:VK}
section
variable {X:Cx}{pins:List (ajO×Obj)}{σ:St}{H:Hp}{s s':ajT}
theorem Inv.Rj(I:Inv X pins σ H s):y7 X.prog X.w X.K X.mg X.base X.A X.stack s H :=
 ⟨I.ok.frames,I.ok.mod,I.bs,aA I.ok.QJ I.sz,I.stack,I.xB,I.hok,I.bare⟩
theorem Inv.after(I:Inv X pins σ H s)(h:CE X.stack X.prog X.w H s Q u s'):EP X pins σ Q u s':=by obtain⟨v,H',os,bare,un,hok,r,q⟩:=h;obtain⟨hh,g,d,t,os'⟩:=s';obtain rfl:os'=s.os:=os;exact⟨v,H',I.call (h':=hh) (g':=g) (d':=d) (t':=t) (ch:=[]) un hok bare (λb z=>absurd z (by simp)),r,q⟩
end
def W0(C:ajO)(sp:Sp)(Rk:List V)(E:XK)(t:TA):TE:=λσ H Q=>t σ H λvs H1=>∀x dx,H1 x=gV->H1 dx=gV->dx≠x->
 sp (.ref x::(vs++Rk)) (upd (upd H1 dx (.own x)) x (.ins C dx [])) (λv H2=>v= .cY/\Q (.ref x) H2) E
def Binds(K:lc)(fd:ajQ)(ps:List Str)(ds:List ajU):Prop :=
 ∀(s:ajT)(us:List ajU),K.In s.heap->(us++ds).length=ps.length->BindsTo s fd ⟨us,[]⟩ (ps.zip (us++ds))
theorem Binds.all{fd:ajQ}(h:∀us:List ajU,us.length=ps.length->bindArgs fd ⟨us,[]⟩=pure (ps.zip us)):Binds K fd ps []:=λs us _ hl=>by rw[fT]at hl ⊢;exact .of_eq (h us hl)
def Passes(CX:EF)(X:Cx)(E:XK):Prop:=∀(pins:List (ajO×Obj))(σ:St)(H:Hp)(s:ajT)(e:ajU)(s':ajT),Inv X pins σ H s->CX X.stack H s E e s'->X.xe e s'
variable{vs:List V}
section
variable {X:Cx}{CX:EF}{k:Nat}{f C:ajO}{fd:ajQ}{ps:List Str}{sp:Sp}{Rk:List V}{ds:List ajU}{E:XK}{x m:Str}{p pos apos:Pos}{e o:Expr}{es:List Expr}{ta:TE}{t:TA}
structure Mk(K:lc)(C f:ajO):Prop where
 makes:KM K C=jp
 init:sK K (.ref C) "__init__"=bv (bv (.ref f))
 fn:Do K (.ref f)=jp
 kp:ww K (.ref C)=jp
theorem GU{pins:List (ajO×Obj)}(M:Mk X.K C f)(F:FnOk X.prog X.w X.K X.mg X.base CX k f fd ps sp)(hr:iJ (k+1) X.A)(hb:Binds X.K fd ps ds)(hd:Vals Rk ds)
  (hx:Passes CX X E)(I:Inv X pins σ H s)(r:Vals vs us)
  (h:∀x dx,H x=gV->H dx=gV->dx≠x->sp (.ref x::(vs++Rk)) (upd (upd H dx (.own x)) x (.ins C dx [])) (λv H2=>v= .cY/\Q (.ref x) H2) E):
  aj6 (model X.prog X.w) X.A (call (.ref C) us) (EP X pins σ Q) X.xe s:=by
 have hq:=h (s.heap.objs.size+1) s.heap.objs.size (I.hok.fresh (sy _)) (I.hok.fresh (av _)) (dJ (C0 _));have I2:=Inv.made (C:=C) I;have r2:Vals (V.ref (s.heap.objs.size+1)::(vs++Rk)) (bJ (s.heap.objs.size+1)::(us++ds)):=.cons rfl (r.append hd);have hl:(bJ (s.heap.objs.size+1)::us++ds).length=ps.length:=by have e:=r2.length;rw[F.len _ _ _ _ hq]at e;exact e.symm
 refine wpAny_call (GP (f:=f) I.qR M.makes M.init (beq_iff_eq.mp M.fn) (codeAny_mono (F.run _ X.stack _ _ ⟨bJ (s.heap.objs.size+1)::us,[]⟩ (bJ (s.heap.objs.size+1)::(us++ds)) _ _ E (hr.make C us [])
  (I2.Rj.make C us []) (hb _ (bJ (s.heap.objs.size+1)::us) I2.qR hl) r2 hq) λr s' hq'=>?_))
 cases r with
 |error e=>exact hx pins σ _ _ e s' I2 hq'
 |ok fl=>
  cases fl with
  |ret u=>obtain⟨v,H',I3,rv,ev,q3⟩:=I2.after hq';subst ev;exact⟨rv,⟨V.ref (s.heap.objs.size+1),H',I3,rfl,q3⟩⟩
  |next=>exact ab hq'
  |brk=>exact ab hq'
  |cont=>exact ab hq'
theorem Mm(M:Mk X.K C f)(F:FnOk X.prog X.w X.K X.mg X.base CX k f fd ps sp)(hr:iJ (k+1) X.A)(hg:Gl X x)(hm:X.mg x=bv (.ref C))(hb:Binds X.K fd ps ds)(hd:Vals Rk ds)(hx:Passes CX X E)
  (ha:PA X (e::es) t)(hdb:(x == ("__debug__":Str))=false:=by decide)(he:aj5 (e::es) X.env=(kt,eval e X.env)::aj5 es X.env:=by rfl)(hpl:(backTo pos (aj5 es X.env)).any (·.1)=false:=by rfl):
  PE X (.Call (.Name x p) (e::es) [] pos) (W0 C sp Rk E t):=by
 intro pins s σ H Q I h;refine wpAny_Call_Name_kw (xE I hg hm ?_ hdb);refine NE (h₀:=X.base) I.ok.mod.VM M.kp (bR (ha pos pins s σ H _ I h) λus s1 ⟨vs,H1,I1,r,q⟩=>⟨I1.qR,?_⟩) he hpl;exact GU M F hr hb hd hx I1 r q
end
structure FnScope(N P:List Str)(sc:Scope):Prop where
 kind:sc.kind= .function
 co:sc.isCoroutine=kt
 gen:sc.isGenerator=kt
 nd:N.Nodup
 pre:N.take P.length=P
 par:∀x∈P,sc.names.lookup x=bv .local\/sc.names.lookup x=bv .cell
 Rl:∀y∈sc.names,y.2≠.free
theorem wc{kindOf:Str->Option ajR}{x:Str}:∀{binds:List (Str×ajU)}{m:Str->Option ajU},(∀v,(x,v)∉binds)->bindL kindOf binds m x=m x
 |[],_,_=>rfl
 |(n,v)::r,m,h=>by
  unfold bindL;rw[wc λw hw=>h w (bw _ hw)];split
  ·have:x≠n:=by rintro rfl;exact h v aY
   simp[this]
  ·rfl
theorem wg{kindOf:Str->Option ajR}{x:Str}:∀{binds:List (Str×ajU)}{m:Str->Option ajU},(∀v,(x,v)∉binds)->bindC kindOf binds m x=m x
 |[],_,_=>rfl
 |(n,v)::r,m,h=>by
  unfold bindC;rw[wg λw hw=>h w (bw _ hw)];split
  ·rfl
  ·have:x≠n:=by rintro rfl;exact h v aY
   simp[this]
theorem wj{kindOf:Str->Option ajR}{x:Str}{v:ajU}:∀{P:List Str}{vs:List ajU}{i:Nat}{m:Str->Option ajU},P.Nodup->P[i]? =bv x->vs[i]? =bv v->kindOf x=bv .local->
  bindL kindOf (P.zip vs) m x=bv v
 |[],_,_,_,_,h,_,_=>by simp at h
 |_::_,[],_,_,_,_,h,_=>by simp at h
 |p::P,w::vs,0,m,nd,h1,h2,hk=>by simp at h1 h2;subst h1;subst h2;show bindL kindOf ((p,w)::P.zip vs) m p=_;unfold bindL;rw[wc λv hv=>(Gc.mp nd).1 (C1 hv).1,Os hk];simp
 |p::P,w::vs,i+1,m,nd,h1,h2,hk=>by show bindL kindOf ((p,w)::P.zip vs) m x=_;unfold bindL;exact wj (i:=i) (Gc.mp nd).2 (by simpa using h1) (by simpa using h2) hk
theorem wk{kindOf:Str->Option ajR}{x:Str}{v:ajU}:∀{P:List Str}{vs:List ajU}{i:Nat}{m:Str->Option ajU},P.Nodup->P[i]? =bv x->vs[i]? =bv v->kindOf x≠bv .local->
  bindC kindOf (P.zip vs) m x=bv v
 |[],_,_,_,_,h,_,_=>by simp at h
 |_::_,[],_,_,_,_,h,_=>by simp at h
 |p::P,w::vs,0,m,nd,h1,h2,hk=>by simp at h1 h2;subst h1;subst h2;show bindC kindOf ((p,w)::P.zip vs) m p=_;unfold bindC;rw[wg λv hv=>(Gc.mp nd).1 (C1 hv).1,OK hk];simp
 |p::P,w::vs,i+1,m,nd,h1,h2,hk=>by show bindC kindOf ((p,w)::P.zip vs) m x=_;unfold bindC;exact wk (i:=i) (Gc.mp nd).2 (by simpa using h1) (by simpa using h2) hk
def start(N:List Str)(vs:List V):St:=vs.map bv++aD (N.length - vs.length) gV
def vD(CX:EF)(P:ajS)(w:ajV)(K:lc)(mg:Str->Option ajU)(base:Heap)(N:List Str)(qual:Str)(scope:Scope)(f:ajO)(cd:ajU)(A:ajP)(outer:List Env)(s:ajT)(H:Hp)(E:XK):Cx where
 prog:=P
 w:=w
 K:=K
 mg:=mg
 base:=base
 A:=A.deeper (envOfC qual scope s.heap.objs.size f cd)
 N:=N
 s₀:=s
 H₀:=H
 env:=envOfC qual scope s.heap.objs.size f cd
 outer:=outer
 stack:=envOfC qual scope s.heap.objs.size f cd::outer
 ex:=[]
 calm:=jp
 fn:=λ_=>jp
 pn:=[]
 xe:=λe s'=>aj6 (model P w) (A.deeper (envOfC qual scope s.heap.objs.size f cd)) (leaving (envOfC qual scope s.heap.objs.size f cd) e) (λ_ s''=>CX outer H s E e s'') (λe' s''=>CX outer H s E e' s'') s'
theorem y8{sc:Scope}{n:Nat}(h:sc.names.lookup x=bv .cell):∃c,(cellsFrom n sc.names []).lookup x=bv c:=by have q:=PySem.W.cellsFrom_some sc.names n [] (.inl h);exact Option.isSome_iff_exists.mp q
variable{qual:Str}{scope:Scope}
theorem EG{cd:ajU}{s1:ajT}{E:XK}
  (S:FnScope N ps scope)(hd:A.handled=gV)(e0:y7 P w K mg base A outer s H)(hl:vs.length=ps.length)(r:Vals vs us)
  (x:InCallC s s.heap.objs.size (bindL (envOfC qual scope s.heap.objs.size f cd).kindOf (ps.zip us) λ_=>gV) (cellsFrom (s.heap.objs.size+1) scope.names []) (bindC (envOfC qual scope s.heap.objs.size f cd).kindOf (ps.zip us) λ_=>gV) s1):
  Inv (vD CX P w K mg base N qual scope f cd A outer s H E) [] (start N vs) H s1:=by
 have hpl:ps.length<=N.length:=by have:=congrArg jf S.pre;rw[A_]at this;omega
 obtain⟨h1,tk,rfl,hk⟩:=x.done;have W2:∀b:ajO,b∉(vD CX P w K mg base N qual scope f cd A outer s H E).ex:=λb z=>absurd (show b∈([]:List ajO) from z) (by simp);refine⟨⟨e0.mod,S.kind,rfl,rfl,av _,λy z c h1 h2=>?_,λy hy=>?_,λy c _ h=>?_,λ_=>hd,Around.frames_deeper e0.frames,.inr ⟨rfl,rfl⟩,λb z=>absurd z (W2 b),e0.bs,e0.QJ,λb _ _=>W2 b,λb z=>absurd z (W2 b),e0.tq,e0.VN⟩,
  rfl,e0.bare,Un.kept hk,⟨_,x.toInCall.ns,λi y v h1 h2 h3=>?_⟩,λy c h=>⟨_,x.cell y c h⟩,e0.hok.fresh (av _),λy c h=>?_,λp hp=>absurd (show p∈([]:List (ajO×Obj)) from hp) (by simp),e0.hok.kept hk,?_⟩
 ·exact name_of_addr x.apart (Ev h1) (Ev h2)
 ·have hy:scope.names.lookup y=bv .cell\/scope.names.lookup y=bv .free:=hy;rcases hy with hy |hy
  ·exact y8 hy
  ·exact absurd rfl (S.Rl _ (Ev hy))
 ·exact sr (x.above y c (Ev h))
 ·have hi:i < vs.length:=by
   unfold start at h2;by_cases hi:i < vs.length
   ·exact hi
   ·rw[lW (by simpa using hi)]at h2;rw[Rm]at h2;split at h2<;>cases h2
  have ha:vs[i]? =bv v:=by
   unfold start at h2;rw[gU (by simpa using hi),j3]at h2;cases e:vs[i]? with
   |none=>rw[e]at h2;cases h2
   |some a=>rw[e]at h2;cases h2;rfl
  obtain⟨u,hu,rv⟩:=r.get ha;have hp:ps[i]? =bv y:=by rw[<-S.pre,List.getElem?_take_of_lt (by omega)];exact h1
  have ndP:ps.Nodup:=by rw[<-S.pre];exact S.nd.sublist (List.take_sublist _ _)
  refine⟨u,rv,?_⟩;rcases S.par y (sC hp)with k |k
  ·exact .inl ⟨k,wj ndP hp hu k⟩
  ·obtain⟨c,e⟩:=y8 (n:=s.heap.objs.size+1) k;refine .inr ⟨.inl k,c,e,?_⟩;have q:=x.cell y c e;rw[wk ndP hp hu (by show scope.names.lookup y≠_;rw[k];decide)]at q;exact q
 ·exact e0.hok.fresh (sr (x.above y c (Ev h)))
 ·unfold start;show _=N.length;rw[bh,bN,List.length_replicate];omega
theorem W3{name:Str}{params:Arguments}{dV kV doc pm cdv ct oc:ajU}{an od:Option ajO}
  {osl:Array (Option ajU)}(lk:K.lookup f=bv ⟨oc,od,.func (tz name qual params body scope dV kV doc pm an cdv ct),osl⟩)(hcd:zn K cdv qual=jp)(S:FnScope N ps scope)
  (len:∀vs H Q E,sp vs H Q E->vs.length=ps.length)
  (hbody:∀(A:ajP)(outer:List Env)(s:ajT)(H:Hp)(vs:List V)(Q:VK)(E:XK),iJ k (A.deeper (envOfC qual scope s.heap.objs.size f cdv))->sp vs H Q E->
   ∃t,Gf (vD CX P w K mg base N qual scope f cdv A outer s H E) body t/\t { nx:=λ_ H'=>Q .cY H',rt:=Q } (start N vs) H):
  FnOk P w K mg base CX (k+1) f (tz name qual params body scope dV kV doc pm an cdv ct) ps sp:=by
 refine⟨len,λA outer s H args us vs Q E hr e0 hb r VO=>?_⟩;have hl:=len _ _ _ _ VO;have KX:K.In s.heap:=e0.mod.VM.keeps λb o e=>(e0.bs b o e).1;have lim:s.heap.NoLimit:=e0.mod.nolimit.keeps λb o e=>(e0.bs b o e).1;have hkind:∀y∈ps.zip us,scope.names.lookup y.1=bv .local\/(scope.names.lookup y.1=bv .cell/\((cellsFrom (s.heap.objs.size+1) scope.names []).lookup y.1).isSome=jp):=λ⟨n,v⟩ hy=>by
  rcases S.par n (C1 hy).1 with q |q
  ·exact .inl q
  ·exact .inr ⟨q,PySem.W.cellsFrom_some _ _ _ (.inl q)⟩
 refine codeAny_call_function hr.depth (KX _ _ lk) rfl S.co S.gen rfl (PySem.W.codeRec_of KX hcd) (hb _ _ _ _ ?_);refine wpAny_newFunctionEnv_cells S.kind hkind λenv he s1 x=>?_;subst he;refine⟨lim.keeps x.toInCall.keep,codeAny_func ?_⟩;obtain⟨t,ht,hq⟩:=hbody A outer s H vs Q E (hr.deeper _) VO;have I:Inv (vD CX P w K mg base N qual scope f cdv A outer s H E) [] (start N vs) H s1:=EG S hr.hd e0 hl r x;refine aj9 (ht [] s1 (start N vs) H _ I hq) (λfl s' hs=>?_) λe s' hs=>hs;have fin:∀{σ':St}{H':Hp}{v:V}{u:ajU},Inv (vD CX P w K mg base N qual scope f cdv A outer s H E) [] σ' H' s'->RelV v u->Q v H'->CE outer P w H s Q u s' :=
  λ{σ' H' v u} J rv q=>⟨v,H',J.os,J.bare,J.base,J.hok,rv,q⟩
 cases fl with
 |ret u=>obtain⟨v,σ',H',J,rv,q⟩:=hs;exact fin J rv q
 |next=>obtain⟨σ',H',J,q⟩:=hs;exact fin (v:=V.cY) (u:=fN) J rfl q
 |brk=>obtain⟨_,_,_,q⟩:=hs;exact ab q
 |cont=>obtain⟨_,_,_,q⟩:=hs;exact ab q
section
variable {X:Cx}{x:Str}{p pos:Pos}{e:Expr}{es:List Expr}{t:TA}{id T:String}{r:List V->Hp->VK->Prop}
def tCB(r:List V->Hp->VK->Prop)(t:TA):TE:=λσ H Q=>t σ H λvs H1=>r vs H1 Q
theorem GV(hc:fS X (.builtin id) r)(hg:Gl X x)(hm:X.mg x=gV)(hv:ajY x=bv (.builtin id))(ha:PA X (e::es) t)(hn:x≠"__name__":=by decide)(hdb:(x == ("__debug__":Str))=false:=by decide)
  (he:aj5 (e::es) X.env=(kt,eval e X.env)::aj5 es X.env:=by rfl)(hpl:(backTo pos (aj5 es X.env)).any (·.1)=false:=by rfl):PE X (.Call (.Name x p) (e::es) [] pos) (tCB r t):=by
 intro pins s σ H Q I h;refine wpAny_Call_Name_kw (xF I hg hm hv ?_ hn hdb);exact PyProof.Rows.callWith_builtin1 (bR (ha pos pins s σ H _ I h) λus s1 ⟨vs,H1,I1,r1,q1⟩=>hc pins s1 σ H1 vs us Q I1 r1 q1) he hpl
theorem EH(hc:fS X (.type T) r)(hg:Gl X x)(hm:X.mg x=gV)(hv:ajY x=bv (.type T))(ha:PA X (e::es) t)(hn:x≠"__name__":=by decide)(hdb:(x == ("__debug__":Str))=false:=by decide)
  (he:aj5 (e::es) X.env=(kt,eval e X.env)::aj5 es X.env:=by rfl)(hpl:(backTo pos (aj5 es X.env)).any (·.1)=false:=by rfl):PE X (.Call (.Name x p) (e::es) [] pos) (tCB r t):=by
 intro pins s σ H Q I h;refine wpAny_Call_Name_kw (xF I hg hm hv ?_ hn hdb);exact Mc (bR (ha pos pins s σ H _ I h) λus s1 ⟨vs,H1,I1,r1,q1⟩=>hc pins s1 σ H1 vs us Q I1 r1 q1) he hpl
end
end L2
namespace HT
open PySem PyProof.Rows
variable{Q:ajU->ajT->Prop}{sl:ajO}
section
variable {prog:ajS}{w:ajV}{A:ajP}{E:ajU->ajT->Prop}{s:ajT}
theorem Mn{t b:ajO}{vs ws:List ajU}(ht:IsTup s.heap t vs.toArray)(hb:IsTup s.heap b ws.toArray)(hv:vs≠[])
  (h1:ws=[]->Q (.ref t) s)(h2:ws≠[]->Q (.ref s.heap.objs.size) { s with heap:=s.heap.push { cls:=.type "tuple",data:=.seq (vs++ws).toArray } })
  (hsz:vs.length+ws.length<=aj4):aj6 (model prog w) A (ajX .Add (.ref t) (.ref b)) Q E s:=by
 obtain⟨⟨cls,dd,data,sl⟩,ho,hc,n,hd⟩:=id ht;obtain⟨⟨ab5,dd2,data2,sl2⟩,ho2,hc2,n2,hd2⟩:=id hb;simp only at hc hd hc2 hd2;subst hc hd hc2 hd2;have e:vs.toArray++ws.toArray=(vs++ws).toArray:=by simp
 by_cases hw:ws=[]
 ·exact concat_meets ⟨_,ho,rfl⟩ ⟨_,ho2,rfl⟩ noFill_tuple_add seq_tuple_add PySem.F.slot_tuple_add PySem.F.entry_tuple_add (PySem.F.args_tuple_add_2 _ _)
   (tuple_addW1 t b vs.toArray ws.toArray n n2 dd dd2 sl sl2 (by simpa using hv) (by simp[hw])) ⟨ho,ho2,h1 hw⟩
 ·refine concat_meets ⟨_,ho,rfl⟩ ⟨_,ho2,rfl⟩ noFill_tuple_add seq_tuple_add PySem.F.slot_tuple_add PySem.F.entry_tuple_add (PySem.F.args_tuple_add_2 _ _)
   (tuple_addW2 t b vs.toArray ws.toArray n n2 dd dd2 sl sl2 (by simpa using hv) (by simpa using hw) (by rw[bj,bj];exact hsz)) ⟨ho,ho2,?_⟩
  rw[e];exact h2 hw
def ff(n d:Nat):Option Int->Nat
 |none=>d
 |some v=>if v < 0 then(v+(n:Int)).toNat else min v.toNat n
theorem tH(n d:Nat):ff n d gV=d:=rfl
theorem mO(n d k:Nat):ff n d (bv (k:Int))=min k n:=by show(if(k:Int) < 0 then((k:Int)+(n:Int)).toNat else min (k:Int).toNat n)=min k n;rw[OK (by omega),oa]
theorem Ro(n d:Nat)(hd:d<=n)(o:Option Int):ff n d o<=n:=by
 cases o with
 |none=>exact hd
 |some v=>
  show(if v < 0 then(v+(n:Int)).toNat else min v.toNat n)<=n;by_cases hv:v < 0
  ·rw[Os hv];omega
  ·rw[OK hv];exact C3 _ _
theorem C4(v:Int)(n d:Nat):(if v < 0 then max (v+(n:Int)) 0 else min v (n:Int))=((ff n d (bv v):Nat):Int):=by
 show(if v < 0 then max (v+(n:Int)) 0 else min v (n:Int))=(((if v < 0 then(v+(n:Int)).toNat else min v.toNat n):Nat):Int);by_cases hv:v < 0
 ·simp only[Os hv];omega
 ·simp only[OK hv];omega
theorem A'(lo hi:Option Int)(n:Nat):GW lo hi 1 (n:Int)=(((ff n 0 lo:Nat):Int),((ff n n hi:Nat):Int)):=by
 have h1:¬((1:Int) < 0):=by omega
 unfold GW;simp only[h1,if_false];refine Prod.ext ?_ ?_
 ·cases lo with
  |none=>rfl
  |some v=>exact C4 v n 0
 ·cases hi with
  |none=>rfl
  |some v=>exact C4 v n n
theorem Ba(i j:Nat):Bb (i:Int) (j:Int) 1=j - i:=by
 unfold Bb;have h1:(1:Int) > 0:=by omega
 simp only[h1,if_true,Int.ediv_one];split<;>omega
theorem tJ{v:ajU}{o:Option Int}{Q:Option Int->ajT->Prop}(p:IsPart v o)(h:Q o s):aj6 (model prog w) A (Builtin.Slice.slicePartIndex v) Q E s:=by
 cases p with
 |none=>exact slicePart_none h
 |int i t=>exact slicePart_int h
theorem j_{vl vu:ajU}{lo hi:Option Int}{n:Nat}{Q:Int×Int×Nat->ajT->Prop}(hs:s.heap.IsSliceOf sl vl vu .none)(pl:IsPart vl lo)(pu:IsPart vu hi)
  (h:Q (((ff n 0 lo:Nat):Int),1,ff n n hi - ff n 0 lo) s):aj6 (model prog w) A (Rp (.ref sl) (pure (n:Int))) Q E s:=by
 obtain⟨os,hos,hcs,hds⟩:=id hs;unfold Rp Builtin.Slice.sliceFields;refine aj7 (aj7 (wpAny_field hos hds (x:=vl) rfl (aj7 (wpAny_field hos hds (x:=vu) rfl (aj7 (wpAny_field hos hds (x:=.none) rfl (akb ?_)))))));refine aj7 (slicePart_none ?_);show aj6 _ _ (if((1:Int) == 0)=jp then _ else _) _ _ s;rw[OK (by decide)];refine aj7 (tJ pl (aj7 (tJ pu (aj7 (akb ?_)))));show aj6 _ _ (match GW lo hi 1 (n:Int)with |(lo,hi)=>pure (lo,(1:Int),Bb lo hi 1)) _ _ s
 rw[A' lo hi n];show aj6 _ _ (pure (((ff n 0 lo:Nat):Int),(1:Int),Bb ((ff n 0 lo:Nat):Int) ((ff n n hi:Nat):Int) 1)) _ _ s;rw[Ba];exact akb h
theorem GX(xs:Array ajU)(i k:Nat):((oV k).filterMap λ(m:Nat)=>xs[((i:Int)+(m:Int) * 1).toNat]?).toArray=((xs.toList.drop i).take k).toArray:=by
 have e:(λ(m:Nat)=>xs[((i:Int)+(m:Int) * 1).toNat]?)=λm=>xs[i+m]?:=by
  funext m;have:((i:Int)+(m:Int) * 1).toNat=i+m:=by omega
  rw[this]
 rw[e];have:=pick_run xs i k;rw[List.filterMap_map]at this;have e2:((λx=>xs[x]?) ∘ λx=>i+x)=λm=>xs[i+m]?:=rfl;rw[e2]at this;rw[this]
theorem oZ{t:ajO}{items:Array ajU}{vl vu:ajU}{lo hi:Option Int}(ht:IsTup s.heap t items)(hs:s.heap.IsSliceOf sl vl vu .none)(pl:IsPart vl lo)(pu:IsPart vu hi)
  (hw:¬(ff items.size 0 lo=0/\ff items.size items.size hi=items.size))
  (h:Q (.ref s.heap.objs.size) { s with heap:=s.heap.push { cls:=.type "tuple",data:=.seq ((items.toList.drop (ff items.size 0 lo)).take (ff items.size items.size hi - ff items.size 0 lo)).toArray } })
  (hsz:items.size<=aj4):aj6 (model prog w) A (getItem (.ref t) (.ref sl)) Q E s:=by
 have C5:sizeOk (.seq ((items.toList.drop (ff items.size 0 lo)).take (ff items.size items.size hi - ff items.size 0 lo)).toArray):=by show((items.toList.drop (ff items.size 0 lo)).take (ff items.size items.size hi - ff items.size 0 lo)).toArray.size<=aj4;rw[bj,A_,ia,hZ];omega
 have hj:ff items.size items.size hi<=items.size:=Ro _ _ (av _) hi;obtain⟨os,hos,hcs,hds⟩:=id hs;have hTs:s.TypeIs (.ref sl) "slice":=⟨os,hos,hcs⟩;unfold getItem
 try with_reducible refine aj8 ?_
 first |refine aj7 (akb ?_) |skip
 refine aj7 (wpAny_sequenceKey ht.typeIs (by decide) ?_);refine aj7 (wpAny_callSpecial?_slot (name:=sD "__getitem__") ht.typeIs xJ
  (wpAny_call_entry xJ ht.typeIs entry_tuple_getitem ?_ (args_tuple_getitem _ _)))
 show aj6 _ _ (GY (.ref t) >>= _) _ _ s;refine aj7 (tupleItemsOf_ ht ?_);refine aj7 (wpAny_typeOf hTs ?_);rw[Os (by decide)];refine aj7 (j_ hs pl pu ?_);have hno:¬((((ff items.size 0 lo:Nat):Int) == 0&&(1:Int) == 1&&(ff items.size items.size hi - ff items.size 0 lo) == items.size)=jp):=by intro q;rw[cZ,cZ]at q;have q1:((ff items.size 0 lo:Nat):Int)=0:=eq_of_beq q.1.1;have q2:ff items.size items.size hi - ff items.size 0 lo=items.size:=eq_of_beq q.2;exact hw ⟨by omega,by omega⟩
 show aj6 _ _ (if(((ff items.size 0 lo:Nat):Int) == 0&&(1:Int) == 1&&(ff items.size items.size hi - ff items.size 0 lo) == items.size)=jp then _ else _) _ _ s;rw[OK hno,GX]
 first
  |exact aj7 (m:=Bc _) (aka (akb ⟨_,rfl,akb h⟩) C5)
  |exact aj7 (m:=Bc _) (aka (aj7 (akb (akb ⟨_,rfl,akb h⟩))) C5)
  |exact aj7 (aj7 (m:=Bc _) (aka (akb (akb ⟨_,rfl,akb h⟩)) C5))
  |exact aj7 (aj7 (m:=Bc _) (aka (akb ⟨_,rfl,akb h⟩) C5))
end
end HT
namespace L2
open PySem PySem.Spec PyProof.Rows
abbrev TO:=St->Hp->(Option Int->Hp->Prop)->Prop
def PO(X:Cx)(e:Option Expr)(t:TO):Prop :=
 ∀(pins:List (ajO×Obj))(s:ajT)(σ:St)(H:Hp)(Q:Option Int->Hp->Prop),Inv X pins σ H s->t σ H Q->
  aj6 (model X.prog X.w) X.A (evalPart e X.env) (λu s'=>∃o H',Inv X pins σ H' s'/\IsPart u o/\Q o H') X.xe s
def Mo:TO:=λ_ H Q=>Q gV H
def W4(t:TE):TO:=λσ H Q=>t σ H λx H1=>∃i,x= .int i/\Q (bv i) H1
variable{r:V->Option Int->Option Int->Hp->VK->Prop}{xs:List V}{us:List ajU}
section
variable {X:Cx}{e:Expr}{te:TE}{lo hi:Option Expr}{tl th:TO}{pos p2:Pos}
theorem Mq:PO X gV Mo:=by intro pins s σ H Q I h;rw[evalPart_none];exact akb ⟨gV,H,I,.none,h⟩
theorem Mr(h:PE X e te):PO X (bv e) (W4 te):=by intro pins s σ H Q I hw;rw[evalPart_some];refine bR (h pins s σ H _ I hw) λu s1 ⟨x,H1,I1,r1,q1⟩=>?_;obtain⟨i,rfl,q⟩:=q1;obtain⟨t,rfl⟩:=r1;exact⟨bv i,H1,I1,.int i t,q⟩
def LK(X:Cx)(r:V->Option Int->Option Int->Hp->VK->Prop):Prop :=
 ∀(pins:List (ajO×Obj))(s:ajT)(σ:St)(H:Hp)(x:V)(v vl vu:ajU)(lo hi:Option Int)(sl:ajO)(Q:VK),Inv X pins σ H s->RelV x v->s.heap.IsSliceOf sl vl vu .none->IsPart vl lo->IsPart vu hi->r x lo hi H Q->
  ∃T id,typeLookup (.type T) "__getitem__"=pure (bv (.builtin id))/\s.TypeIs v T/\aj6 (model X.prog X.w) X.A (getItem v (.ref sl)) (EP X pins σ Q) X.xe s
theorem LK.or{r':V->Option Int->Option Int->Hp->VK->Prop}(h:LK X r)(h':LK X r'):LK X (λx lo hi H Q=>r x lo hi H Q\/r' x lo hi H Q):=by
 intro pins s σ H x v vl vu lo hi sl Q I rx hs pl pu q;rcases q with q |q
 ·exact h pins s σ H x v vl vu lo hi sl Q I rx hs pl pu q
 ·exact h' pins s σ H x v vl vu lo hi sl Q I rx hs pl pu q
def tSl(r:V->Option Int->Option Int->Hp->VK->Prop)(te:TE)(tl th:TO):TE:=λσ H Q=>te σ H λx H1=>tl σ H1 λl H2=>th σ H2 λu H3=>r x l u H3 Q
theorem tK(hr:LK X r)(he:PE X e te)(hl:PO X lo tl)(hu:PO X hi th):PE X (.Subscript e (.Slice lo hi gV p2) pos) (tSl r te tl th):=by intro pins s σ H Q I h;refine Subscript_ (bR (he pins s σ H _ I h) λv s1 ⟨x,H1,I1,r1,q1⟩=>?_);refine wpAny_Slice (bR (hl pins s1 σ H1 _ I1 q1) λvl s2 ⟨l,H2,I2,pl,q2⟩=>bR (hu pins s2 σ H2 _ I2 q2) λvu s3 ⟨u,H3,I3,pu,q3⟩=>?_);rw[evalPart_none];refine akb ?_;have I4:Inv X pins σ H3 { s3 with heap:=s3.heap.push { cls:=.type "slice",data:=.fields #[vl,vu,.none] } }:=I3.kept (t':=s3.toks) λb ob q=>cI _ q;obtain⟨T,id,hT,ht,hg⟩:=hr pins { s3 with heap:=s3.heap.push { cls:=.type "slice",data:=.fields #[vl,vu,.none] } } σ H3 x v vl vu l u s3.heap.objs.size Q I4 r1 (Heap.IsSliceOf.new ..) pl pu q3;show aj6 (model X.prog X.w) X.A (subscriptTail e (.Slice lo hi gV p2) v (.ref s3.heap.objs.size)) (EP X pins σ Q) X.xe { s3 with heap:=s3.heap.push { cls:=.type "slice",data:=.fields #[vl,vu,.none] } };exact tail_any (ops:=[.ref s3.heap.objs.size,v]) ht hT hg (by with_unfolding_all rfl)
def vE(xs:List V)(lo hi:Option Int):List V:=(xs.drop (HT.ff xs.length 0 lo)).take (HT.ff xs.length xs.length hi - HT.ff xs.length 0 lo)
theorem qU(xs:List V)(lo hi:Option Int):(vE xs lo hi).length<=xs.length:=by unfold vE;rw[A_,ia];omega
def ab6(K:lc):V->Option Int->Option Int->Hp->VK->Prop:=λx lo hi H Q=>∃a xs,x= .ref a/\hV K H a xs/\
 ¬(HT.ff xs.length 0 lo=0/\HT.ff xs.length xs.length hi=xs.length)/\∀p,H p=gV->Q (.ref p) (upd H p (.tup (vE xs lo hi)))
theorem GZ:LK X (ab6 X.K):=by
 intro pins s σ H x v vl vu lo hi sl Q I rx hs pl pu h;obtain⟨a,xs,rfl,hx,hw,q⟩:=h;cases rx;obtain⟨its,r,ht,hz⟩:=I.tuple hx;have hlen:its.toArray.size=xs.length:=by rw[bj];exact r.length.symm
 refine⟨"tuple",_,PyProof.Rows.slot_tuple_getitem.lookup,ht.typeIs,?_⟩;refine HT.oZ ht hs pl pu (by rw[hlen];exact hw) ?_ (by rw[hlen];exact hz);rw[hlen];refine⟨.ref s.heap.objs.size,_,I.laid (t':=s.toks) (o:=.tup (vE xs lo hi)) (λb ob q=>cI _ q) (av _) ?_,rfl,q _ (I.hok.fresh (av _))⟩;exact⟨aA (qU xs lo hi) hz,_,(r.drop (HT.ff xs.length 0 lo)).take (HT.ff xs.length xs.length hi - HT.ff xs.length 0 lo),Bd _ _,y0.new _ _⟩
def W5(K:lc):R2:=λx y H Q=>∃a b xs ys,x= .ref a/\y= .ref b/\hV K H a xs/\hV K H b ys/\xs≠[]/\xs.length+ys.length<=aj4/\
 (ys=[]->Q (.ref a) H)/\(ys≠[]->∀p,H p=gV->Q (.ref p) (upd H p (.tup (xs++ys))))
theorem Vals.xK(r:Vals xs us):us=[]↔xs=[]:=by
 cases r with
 |nil=>simp
 |cons _ _=>simp
theorem Ms:iI X (ajX .Add) (W5 X.K):=by intro pins s σ H x y v u Q I rx ry h;obtain⟨a,b,xs,ys,rfl,rfl,ha,hb,hx,hz,q1,q2⟩:=h;cases rx;cases ry;obtain⟨its,r1,p1,_⟩:=I.tuple ha;obtain⟨its2,r2,p2,_⟩:=I.tuple hb;refine HT.Mn p1 p2 (λz=>hx (r1.xK.mp z)) (λz=>⟨.ref a,H,I,rfl,q1 (r2.xK.mp z)⟩) (λz=>?_) (by rw[<-r1.length,<-r2.length];exact hz);refine⟨.ref s.heap.objs.size,_,I.laid (t':=s.toks) (o:=.tup (xs++ys)) (λb ob q=>cI _ q) (av _) ?_,rfl,q2 (λw=>z (r2.xK.mpr w)) _ (I.hok.fresh (av _))⟩;exact⟨by rw[bh];exact hz,_,r1.append r2,Bd _ _,y0.new _ _⟩
end
def xM(n:Nat)(i:Int):Option Nat:=if 0<=i then(if i < n then bv i.toNat else gV)else if -(n:Int)<=i then bv (i+n).toNat else gV
variable{α:Type}
def kX(xs:List α)(i:Int):Option α:=(xM xs.length i).bind λj=>xs[j]?
variable{n j:Nat}{i:Int}
theorem C6(h:xM n i=bv j):seqIndex? i n=bv j/\j < n/\-(n:Int)<=i/\i < n:=by
 unfold xM at h;by_cases h0:0<=i
 ·rw[Os h0]at h;by_cases h1:i < n
  ·rw[Os h1]at h;have e:i.toNat=j:=Option.some.inj h;exact⟨by rw[seqIndex_of h0 h1,e],by omega,by omega,h1⟩
  ·rw[OK h1]at h;cases h
 ·rw[OK h0]at h;by_cases h1:-(n:Int)<=i
  ·rw[Os h1]at h;have e:(i+n).toNat=j:=Option.some.inj h;exact⟨by rw[seqIndex_neg (by omega) h1,e],by omega,h1,by omega⟩
  ·rw[OK h1]at h;cases h
theorem sE{xs:List α}{v:α}(h:kX xs i=bv v):∃j,seqIndex? i xs.length=bv j/\xs[j]? =bv v/\j < xs.length/\-(xs.length:Int)<=i/\i < xs.length:=by
 unfold kX at h;cases e:xM xs.length i with
 |none=>rw[e]at h;cases h
 |some j=>rw[e]at h;obtain⟨h1,h2,h3,h4⟩:=C6 e;exact⟨j,h1,h,h2,h3,h4⟩
theorem eZ{xs:List α}{v:α}(h:xs[j]? =bv v):kX xs (j:Int)=bv v:=by
 have hj:j < xs.length:=(np.mp h).1;have e:xM xs.length (j:Int)=bv j:=by unfold xM;rw[Os (by omega),Os (by omega)];simp
 unfold kX;rw[e];exact h
theorem G0(xs:List α)(v:α):kX (xs++[v]) (-1)=bv v:=by
 have hl:(xs++[v]).length=xs.length+1:=by simp
 have e:xM (xs++[v]).length (-1)=bv xs.length:=by
  unfold xM;rw[hl,OK (by decide),Os (by omega)]
  congr 1
  omega
 unfold kX;rw[e];show(xs++[v])[xs.length]? =bv v;simp
def C7(b:Expr):Prop:=∀o i,subscripted b kt o i=operate [o,i] (getItem o i)
def Mt(X:Cx)(r:R2):Prop :=
 ∀(value slice:Expr)(pins:List (ajO×Obj))(s:ajT)(σ:St)(H:Hp)(x y:V)(v u:ajU)(Q:VK),Inv X pins σ H s->RelV x v->RelV y u->r x y H Q->
  subscripted slice kt v u=operate [v,u] (getItem v u)->aj6 (model X.prog X.w) X.A (subscriptTail value slice v u) (EP X pins σ Q) X.xe s
def y9(X:Cx)(id:String)(r:V->List V->Hp->VK->Prop):Prop :=
 ∀(pins:List (ajO×Obj))(s:ajT)(σ:St)(H:Hp)(x:V)(xs:List V)(v:ajU)(us:List ajU)(Q:VK),Inv X pins σ H s->RelV x v->Vals xs us->r x xs H Q->
  aj6 (model X.prog X.w) X.A (call (.builtin id) (v::us)) (EP X pins σ Q) X.xe s
variable{r:R2}{σ:St}{H:Hp}{s:ajT}{p:ajO}{its its':List ajU}{x:V}{u v:ajU}
section
variable {X:Cx}{a b:Expr}{ta tb:TE}{pos:Pos}
theorem Mt.or{r':R2}(h:Mt X r)(h':Mt X r'):Mt X (λx y H Q=>r x y H Q\/r' x y H Q):=by
 intro value slice pins s σ H x y v u Q I rx ry q hs;rcases q with q |q
 ·exact h value slice pins s σ H x y v u Q I rx ry q hs
 ·exact h' value slice pins s σ H x y v u Q I rx ry q hs
theorem y9.or{id:String}{r r':V->List V->Hp->VK->Prop}(h:y9 X id r)(h':y9 X id r'):y9 X id (λx xs H Q=>r x xs H Q\/r' x xs H Q):=by
 intro pins s σ H x xs v us Q I rx rs q;rcases q with q |q
 ·exact h pins s σ H x xs v us Q I rx rs q
 ·exact h' pins s σ H x xs v us Q I rx rs q
theorem W6(hr:Mt X r)(ha:PE X a ta)(hb:PE X b tb)(hs:C7 b):PE X (.Subscript a b pos) (WN r ta tb):=by intro pins s σ H Q I h;exact Subscript_ (Q6 ha hb I h λv u s2 x y H2 I2 rx ry q=>hr a b pins s2 σ H2 x y v u Q I2 rx ry q (hs _ _))
def W7(K:lc):R2:=λx y H Q=>∃p xs i v,x= .ref p/\y= .int i/\ng K H p xs/\kX xs i=bv v/\Q v H
def W8(K:lc):R2:=λx y H Q=>∃p xs i v,x= .ref p/\y= .int i/\hV K H p xs/\kX xs i=bv v/\Q v H
def W9:R2:=λx y H Q=>∃z i c,x= .str z/\y= .int i/\z.length<=aj4/\kX z.cps.toList i=bv c/\Q (.str ⟨#[c]⟩) H
theorem Mu:Mt X (W7 X.K):=by
 intro value slice pins s σ H x y v u Q I rx ry h hs;obtain⟨p,xs,i,z,rfl,rfl,hq,he,q⟩:=h;cases rx;obtain⟨t,rfl⟩:=ry;obtain⟨its,r,pl,hz⟩:=I.list hq;obtain⟨j,h1,h2,h3,h4,h5⟩:=sE he;obtain⟨w,ew,rw'⟩:=r.get h2;have hl:=r.length;have hn:=n_;have fin:EP X pins σ Q w s:=⟨z,H,I,rw',q⟩;by_cases h0:0<=i
 ·have hj:i.toNat=j:=by rw[seqIndex_of h0 h5]at h1;exact Option.some.inj h1
  exact item_listR pl.isList h0 (by omega) (by rw[hj];simpa using ew) fin hs
 ·have hj:(i+(its.toArray.size:Int)).toNat=j:=by rw[seqIndex_neg (by omega) h4]at h1;rw[bj,<-hl];exact Option.some.inj h1
  exact subscriptTail_builtinR (x:=w) pl.isList.typeIs slot_list_getitem.lookup
   (wpAny_getItem_list_neg (Q:=λr s'=>r=w/\EP X pins σ Q r s') pl.isList (by omega) (by rw[bj]<;>omega) (by omega) (by rw[hj];simpa using ew) ⟨rfl,fin⟩) hs
theorem Rq:Mt X (W8 X.K):=by
 intro value slice pins s σ H x y v u Q I rx ry h hs;obtain⟨p,xs,i,z,rfl,rfl,hq,he,q⟩:=h;cases rx;obtain⟨t,rfl⟩:=ry;obtain⟨its,r,pl,hz⟩:=I.tuple hq;obtain⟨j,h1,h2,h3,h4,h5⟩:=sE he;obtain⟨w,ew,rw'⟩:=r.get h2;have hl:=r.length;have hn:=n_;have fin:EP X pins σ Q w s:=⟨z,H,I,rw',q⟩;exact subscriptTail_builtinR (x:=w) pl.typeIs slot_tuple_getitem.lookup
  (getItem_tuple (j:=j) (Q:=λr s'=>r=w/\EP X pins σ Q r s') pl (by omega) (by omega) (by rw[bj,<-hl];exact h1) (by simpa using ew) ⟨rfl,fin⟩) hs
theorem Rt:Mt X W9:=by
 intro value slice pins s σ H x y v u Q I rx ry h hs;obtain⟨z,i,c,rfl,rfl,hz,he,q⟩:=h;obtain⟨t,rfl⟩:=rx;obtain⟨t',rfl⟩:=ry;obtain⟨j,h1,h2,h3,h4,h5⟩:=sE he;have hl:z.cps.toList.length=z.length:=by simp[Str.length]
 rw[hl]at h1 h4 h5;have hn:=n_;exact tail_any (typeIs_str s z t) slot_str_getitem.lookup (getItem_str (c:=c) (by have e1:decide (i < -(2 ^ 63:Int))=false:=decide_eq_false (by omega);have e2:decide (i >= 2 ^ 63)=false:=decide_eq_false (by omega);rw[e1,e2,Bool.or_false]) (by rw[h1];simpa using h2) ⟨.str ⟨#[c]⟩,H,I.tok _,⟨_,rfl⟩,q⟩) hs
def rIx(K:lc):R2:=λx y H Q=>W7 K x y H Q\/W8 K x y H Q\/W9 x y H Q
theorem Ru:Mt X (rIx X.K):=Mu.or (Rq.or Rt)
theorem Be(its:List ajU)(n j:Nat)(u:ajU):o7 (·.setIfInBounds j u) { cls:=.type "list",data:=.seq its.toArray n }={ cls:=.type "list",data:=.seq (its.set j u).toArray n }:=by simp[o7]
theorem Inv.lst{pins:List (ajO×Obj)}(I:Inv X pins σ H s)(h:H p=bv (.lst xs)):
  ∃(its:List ajU)(n:Nat),Vals xs its/\s.heap.get? p=bv { cls:=.type "list",data:=.seq its.toArray n }/\xs.length<=aj4:=by
 obtain⟨z,its,n,r,e⟩:=I.hok p _ h;exact⟨its,n,r,e,z⟩
theorem Inv.Rv{pins:List (ajO×Obj)}{ys:List V}{n':Nat}{f:Obj->Obj}(I:Inv X pins σ H s)(h:H p=bv (.lst xs))
  (ho:s.heap.get? p=bv { cls:=.type "list",data:=.seq its.toArray n })(hf:f { cls:=.type "list",data:=.seq its.toArray n }={ cls:=.type "list",data:=.seq its'.toArray n' })(r:Vals ys its')(hz:ys.length<=aj4)(t:Nat):
  Inv X pins σ (upd H p (.lst ys)) { s with heap:=s.heap.update p f,toks:=t }:=by
 have e:(s.heap.update p f).get? p=bv { cls:=.type "list",data:=.seq its'.toArray n' }:=by rw[G6 f ho (by rw[hf]<;>rfl),hf]
 refine I.write (x:=p) (e:=p) (by rw[h];trivial) (.inl rfl) (λb u hb q=>(tL _ _ (dM hb)).trans q) ⟨_,e⟩ ?_;exact⟨hz,its',n',r,e⟩
def W_:V->V->V->Hp->(Hp->Prop)->Prop:=λo i v H Q=>∃p xs k j,o= .ref p/\i= .int k/\H p=bv (.lst xs)/\xM xs.length k=bv j/\Q (upd H p (.lst (xs.set j v)))
theorem set_list:WJ X W_:=by
 intro pins s σ H o i v ov iv u Q I ro ri rv h;obtain⟨p,xs,k,j,rfl,rfl,hp,hj,q⟩:=h;cases ro;obtain⟨t,rfl⟩:=ri;obtain⟨its,n,r,ho,hz⟩:=I.lst hp;obtain⟨h1,h2,h3,h4⟩:=C6 hj;have hl:=r.length;have hn:=n_;have I':Inv X pins σ (upd H p (.lst (xs.set j v))) { s with heap:=s.heap.update p (o7 (·.setIfInBounds j u)) } :=
  I.Rv hp ho (Be its n j u) (r.set rv j) (by rw[tM];exact hz) s.toks
 by_cases h0:0<=k
 ·have hk:k.toNat=j:=by rw[seqIndex_of h0 h4]at h1;exact Option.some.inj h1
  exact PySem.W.ki_setAt ho h0 (by omega) (by rw[bj,<-hl];exact h4) (by rw[hk];exact⟨_,I',q⟩)
 ·have hk:(k+(its.toArray.size:Int)).toNat=j:=by rw[seqIndex_neg (by omega) h3]at h1;rw[bj,<-hl];exact Option.some.inj h1
  exact PySem.W.ki_setBack ho (by omega) (by rw[bj,<-hl];exact h3) (by omega) (by rw[hk];exact⟨_,I',q⟩)
theorem xN(lo hi:Option Int)(n:Nat):(sliceBounds lo hi gV n).1=((HT.ff n 0 lo:Nat):Int)/\(sliceBounds lo hi gV n).2.1=((HT.ff n n hi:Nat):Int)/\(sliceBounds lo hi gV n).2.2=1:=by
 refine⟨?_,?_,rfl⟩
 ·cases lo with
  |none=>simp[sliceBounds,HT.ff]
  |some i=>
   simp only[sliceBounds,HT.ff,Option.getD_none,show(1:Int) > 0 by decide,if_true];by_cases h:i < 0
   ·simp only[h,if_true]<;>omega
   ·simp only[h,if_false]<;>omega
 ·cases hi with
  |none=>simp[sliceBounds,HT.ff]
  |some i=>
   simp only[sliceBounds,HT.ff,Option.getD_none,show(1:Int) > 0 by decide,if_true];by_cases h:i < 0
   ·simp only[h,if_true]<;>omega
   ·simp only[h,if_false]<;>omega
theorem vF(its:List ajU)(lo hi:Option Int):slicePick its.toArray lo hi gV=((its.drop (HT.ff its.length 0 lo)).take (HT.ff its.length its.length hi - HT.ff its.length 0 lo)).toArray:=by obtain⟨h1,h2,h3⟩:=xN lo hi its.toArray.size;unfold slicePick;rw[h1,h2,h3];simp only[sliceRange_one,pick_run,bj]<;>rfl
def ab7(K:lc):V->Option Int->Option Int->Hp->VK->Prop:=λx lo hi H Q=>∃a xs,x= .ref a/\ng K H a xs/\∀p,H p=gV->Q (.ref p) (upd H p (.lst (vE xs lo hi)))
theorem Mv:LK X (ab7 X.K):=by intro pins s σ H x v vl vu lo hi sl Q I rx hs pl pu h;obtain⟨a,xs,rfl,hx,q⟩:=h;cases rx;obtain⟨its,r,ht,hz⟩:=I.list hx;have hlen:=r.length;refine⟨"list",_,slot_list_getitem.lookup,ht.isList.typeIs,?_⟩;refine wpAny_getItem_list_slice ht.isList hs pl pu .none (by simp) ?_ (by rw[bj]<;>omega);rw[vF,<-hlen];refine⟨.ref s.heap.objs.size,_,I.laid (t':=s.toks) (o:=.lst (vE xs lo hi)) (λb ob q=>cI _ q) (av _) ?_,rfl,q _ (I.hok.fresh (av _))⟩;exact⟨aA (qU xs lo hi) hz,_,0,(r.drop (HT.ff xs.length 0 lo)).take (HT.ff xs.length xs.length hi - HT.ff xs.length 0 lo),gI _ rfl⟩
def h_:V->Bool
 |.cY=>jp
 |.bl _=>jp
 |.int _=>jp
 |.str _=>jp
 |_=>kt
def y_:V->V->Bool
 |.cY,.cY=>jp
 |.bl a,.bl b=>a == b
 |.bl a,.int b=>(if a then 1 else 0) == b
 |.int a,.bl b=>a == (if b then 1 else 0)
 |.int a,.int b=>a == b
 |.str a,.str b=>a == b
 |_,_=>kt
theorem Rw{A:ajP}{y:V}(ry:RelV y u)(rx:RelV x v)(fy:h_ y=jp)(fx:h_ x=jp):SeqAt.EqAt A s u v (y_ y x):=by
 cases y with
 |cY=>
  cases ry;cases x with
  |cY=>cases rx;exact L0 _
  |bl b=>cases rx;exact SeqAt.EqAt.none_bool b
  |int b=>obtain⟨t,rfl⟩:=rx;exact LY b t
  |str b=>obtain⟨t,rfl⟩:=rx;exact LZ b t
  |_=>exact absurd (show kt=jp from fx) cS
 |bl a=>
  cases ry;cases x with
  |cY=>cases rx;exact SeqAt.EqAt.bool_none a
  |bl b=>cases rx;exact SeqAt.EqAt.bool_bool a b
  |int b=>obtain⟨t,rfl⟩:=rx;exact SeqAt.EqAt.bool_int a b t
  |str b=>obtain⟨t,rfl⟩:=rx;exact SeqAt.EqAt.bool_str a b t
  |_=>exact absurd (show kt=jp from fx) cS
 |int a=>
  obtain⟨t',rfl⟩:=ry;cases x with
  |cY=>cases rx;exact LU a t'
  |bl b=>cases rx;exact SeqAt.EqAt.int_bool a t' b
  |int b=>obtain⟨t,rfl⟩:=rx;exact SeqAt.EqAt.int_int a t' b t
  |str b=>obtain⟨t,rfl⟩:=rx;exact LS a t' b t
  |_=>exact absurd (show kt=jp from fx) cS
 |str a=>
  obtain⟨t',rfl⟩:=ry;cases x with
  |cY=>cases rx;exact LX a t'
  |bl b=>cases rx;exact SeqAt.EqAt.str_bool a t' b
  |int b=>obtain⟨t,rfl⟩:=rx;exact LW a t' b t
  |str b=>obtain⟨t,rfl⟩:=rx;exact SeqAt.EqAt.str_str a t' b t
  |_=>exact absurd (show kt=jp from fx) cS
 |_=>exact absurd (show kt=jp from fy) cS
def Bf(x:V)(u:ajU):Bool:=match u with
 |.none=>y_ .cY x
 |.bool b=>y_ (.bl b) x
 |.int i _=>y_ (.int i) x
 |.str z _=>y_ (.str z) x
 |_=>kt
theorem tN{y:V}(r:RelV y u)(f:h_ y=jp):Bf x u=y_ y x:=by
 cases y with
 |cY=>cases r;rfl
 |bl b=>cases r;rfl
 |int i=>obtain⟨t,rfl⟩:=r;rfl
 |str z=>obtain⟨t,rfl⟩:=r;rfl
 |_=>exact absurd (show kt=jp from f) cS
theorem xO{x:V}:∀{xs:List V}{us:List ajU},Vals xs us->xs.all h_=jp->us.any (Bf x)=xs.any λy=>y_ y x
 |_,_,.nil,_=>rfl
 |y::xs,u::us,.cons r t,f=>by rw[fj,cZ]at f;rw[kY,kY,tN r f.1,xO t f.2]
theorem j'{A:ajP}{s:ajT}{x:V}{v:ajU}(rx:RelV x v)(fx:h_ x=jp):∀{xs:List V}{us:List ajU},Vals xs us->xs.all h_=jp->∀u∈us,SeqAt.EqAt A s u v (Bf x u)
 |_,_,.nil,_=>λu hu=>by cases hu
 |y::xs,u::us,.cons r t,f=>λu' hu=>by
  rw[fj,cZ]at f;rcases List.mem_cons.mp hu with rfl |hu
  ·rw[tN r f.1];exact Rw r rx f.1 fx
  ·exact j' rx fx t f.2 u' hu
def inV(x:V)(xs:List V):Bool:=xs.any λy=>y_ y x
def rIn(K:lc)(neg:Bool):R2:=λx y H Q=>∃p xs,y= .ref p/\(ng K H p xs\/hV K H p xs)/\h_ x=jp/\xs.all h_=jp/\Q (.bl (if neg then !inV x xs else inV x xs)) H
theorem EI:iI X (aj1 .In) (rIn X.K kt):=by
 intro pins s σ H x y v u Q I rx ry h;obtain⟨p,xs,rfl,hq,fx,fs,q⟩:=h;cases ry;rcases hq with hq |hq
 ·obtain⟨its,r,pl,hz⟩:=I.list hq;refine SeqAt.in_listAt (Bf x) pl.isList (λw hw=>j' rx fx r fs w (by simpa using hw)) ⟨.bl _,H,I,rfl,?_⟩;rw[show its.toArray.any (Bf x)=its.any (Bf x) by simp,xO r fs];exact q
 ·obtain⟨its,r,pl,hz⟩:=I.tuple hq;refine SeqAt.in_tupleAt (Bf x) pl (λw hw=>j' rx fx r fs w (by simpa using hw)) ⟨.bl _,H,I,rfl,?_⟩;rw[show its.toArray.any (Bf x)=its.any (Bf x) by simp,xO r fs];exact q
theorem xP:fS X (.builtin "len") (λxs H Q=>∃p ys,xs=[.ref p]/\(ng X.K H p ys\/hV X.K H p ys)/\Q (.int ys.length) H):=by
 intro pins s σ H xs us Q I r h;obtain⟨p,ys,rfl,hq,q⟩:=h;obtain⟨u,rfl,rx⟩:=vals1 r;cases rx;have hn:=n_;rcases hq with hq |hq
 ·obtain⟨its,r',pl,hz⟩:=I.list hq;have hlen:=r'.length;exact Calls.call_len_list pl.isList (by simp only[bj]<;>omega) ⟨.int ys.length,H,I.tok _,⟨s.toks+1,by rw[bj,hlen]⟩,q⟩
 ·obtain⟨its,r',pl,hz⟩:=I.tuple hq;have hlen:=r'.length;exact len_tuple pl (by simp only[bj]<;>omega) ⟨.int ys.length,H,I.tok _,⟨s.toks+1,by rw[bj,hlen]⟩,q⟩
theorem xQ:fS X (.builtin "len") (λxs H Q=>∃z,xs=[.str z]/\z.length<=aj4/\Q (.int z.length) H):=by intro pins s σ H xs us Q I r h;obtain⟨z,rfl,hz,q⟩:=h;obtain⟨u,rfl,t,rfl⟩:=vals1 r;have hn:=n_;exact len_str (by omega) ⟨.int z.length,H,I.tok _,⟨_,rfl⟩,q⟩
theorem fS.or{f:ajU}{r r':List V->Hp->VK->Prop}(h:fS X f r)(h':fS X f r'):fS X f (λxs H Q=>r xs H Q\/r' xs H Q):=by
 intro pins s σ H xs us Q I rs q;rcases q with q |q
 ·exact h pins s σ H xs us Q I rs q
 ·exact h' pins s σ H xs us Q I rs q
theorem xR:fS X (.type "list") (λxs H Q=>∃p ys,xs=[.ref p]/\(ng X.K H p ys\/hV X.K H p ys)/\∀l,H l=gV->Q (.ref l) (upd H l (.lst ys))):=by
 intro pins s σ H xs us Q I r h;obtain⟨p,ys,rfl,hq,q⟩:=h;obtain⟨u,rfl,rx⟩:=vals1 r;cases rx;have fin:∀(its:List ajU),Vals ys its->ys.length<=aj4->∀(h':Heap)(c':Nat),(∀b o',s.heap.get? b=bv o'->h'.get? b=bv o')->
   h'.get? s.heap.objs.size=bv { cls:=.type "list",dict:=gV,data:=.seq its.toArray c',slots:=#[] }->EP X pins σ Q (.ref s.heap.objs.size) { s with heap:=h' }:=λits r' hz h' c' kp e=>
  ⟨.ref s.heap.objs.size,_,I.laid (t':=s.toks) kp (av _) (show fh X.prog X.w _ h' _ (.lst ys) from⟨hz,its,c',r',e⟩),rfl,q _ (I.hok.fresh (av _))⟩
 rcases hq with hq |hq
 ·obtain⟨its,r',pl,hz⟩:=I.list hq;have hlen:=r'.length;obtain⟨o,ho,hc,n,hd⟩:=pl.isList;exact call_list_seq p (.inl rfl) ho hc hd (λh' c' kp e=>fin its r' hz h' c' kp e) (by simp only[bj]<;>omega)
 ·obtain⟨its,r',pl,hz⟩:=I.tuple hq;have hlen:=r'.length;obtain⟨o,ho,hc,n,hd⟩:=pl;exact call_list_seq p (.inr rfl) ho hc hd (λh' c' kp e=>fin its r' hz h' c' kp e) (by simp only[bj]<;>omega)
theorem vG:fS X (.type "tuple") (λxs H Q=>∃p ys,xs=[.ref p]/\((ng X.K H p ys/\∀l,H l=gV->Q (.ref l) (upd H l (.tup ys)))\/(hV X.K H p ys/\Q (.ref p) H))):=by
 intro pins s σ H xs us Q I r h;obtain⟨p,ys,rfl,h⟩:=h;obtain⟨u,rfl,rx⟩:=vals1 r;cases rx;rcases h with ⟨hq,q⟩ |⟨hq,q⟩
 ·obtain⟨its,r',pl,hz⟩:=I.list hq;have hlen:=r'.length;refine call_tuple_list pl.isList (λh' kp=>?_) (by simp only[bj]<;>omega);have I1:Inv X pins σ H { s with heap:=h' }:=I.kept (t':=s.toks) kp;have I2:Inv X pins σ (upd H h'.objs.size (.tup ys)) { s with heap:=h'.push { cls:=.type "tuple",data:=.seq its.toArray } } :=
   I1.laid (t':=s.toks) (λb o e=>cI _ e) (av _) (show fh X.prog X.w _ _ _ (.tup ys) from⟨hz,its,r',Bd _ _,y0.new _ _⟩)
  exact⟨.ref h'.objs.size,_,I2,rfl,q _ (I1.hok.fresh (av _))⟩
 ·obtain⟨its,r',pl,hz⟩:=I.tuple hq;exact call_tuple_same pl ⟨.ref p,H,I,rfl,q⟩
def tyV(K:lc)(T:String)(x:V)(H:Hp):Prop:=match x with
 |.str _=>T="str"
 |.int _=>T="int"
 |.ref p=>(T="list"/\∃xs,ng K H p xs)\/(T="tuple"/\((∃o,K.lookup p=bv o/\o.cls= .type "tuple"/\o.dict=gV)\/∃xs,H p=bv (.tup xs)))\/
   (T="dict"/\((∃kvs,H p=bv (.dK kvs))\/∃kvs,H p=bv (.dT kvs)))\/(T="set"/\∃S n,H p=bv (.set S n))
 |_=>False
theorem G7{pins:List (ajO×Obj)}{T:String}(I:Inv X pins σ H s)(r:RelV x v)(ty:tyV X.K T x H):
  s.TypeIs v T/\∀a,v= .ref a->∃ob,s.heap.get? a=bv ob/\ob.dict=none:=by
 cases x with
 |str z=>obtain⟨t,rfl⟩:=r;cases (show T="str" from ty);exact⟨typeIs_str s z t,λ_ e=>nomatch e⟩
 |int i=>obtain⟨t,rfl⟩:=r;cases (show T="int" from ty);exact⟨typeIs_int s i t,λ_ e=>nomatch e⟩
 |ref p=>
  cases r;rcases ty with ⟨rfl,xs,hq⟩ |⟨rfl,⟨o,hk,hc,hd⟩ |⟨xs,hk⟩⟩ |⟨rfl,hk⟩ |⟨rfl,S,n,hk⟩
  ·obtain⟨its,_,pl,_⟩:=I.list hq;refine⟨pl.isList.typeIs,λa e=>?_⟩;cases e;obtain⟨o,n,e,c,hd,_⟩:=pl;exact⟨o,e,hd⟩
  ·refine⟨⟨o,I.qR p o hk,hc⟩,λa e=>?_⟩;cases e;exact⟨o,I.qR _ o hk,hd⟩
  ·obtain⟨_,_,_,⟨o,e1,e2,_⟩,nd⟩:=I.hok p _ hk;refine⟨⟨o,e1,e2⟩,λa e=>?_⟩;cases e;exact⟨o,e1,nd o e1⟩
  ·have z:∃o,s.heap.get? p=bv o/\o.ExactDict:=by
    rcases hk with ⟨kvs,hk⟩ |⟨kvs,hk⟩
    ·obtain⟨_,_,_,_,o,_,_,e,ex,_⟩:=I.hok p _ hk;exact⟨o,e,ex⟩
    ·obtain⟨_,_,_,_,o,_,_,e,ex,_⟩:=I.hok p _ hk;exact⟨o,e,ex⟩
   obtain⟨o,e,ex⟩:=z;refine⟨⟨o,e,ex.1⟩,λa e2=>?_⟩;cases e2;exact⟨o,e,ex.2.1⟩
  ·obtain⟨o,_,_,_,e,ex,_⟩:=I.hok p _ hk;refine⟨⟨o,e,ex.1⟩,λa e2=>?_⟩;cases e2;exact⟨o,e,ex.2.1⟩
 |_=>exact ab ty
def tBM(K:lc)(T:String)(r:V->List V->Hp->VK->Prop)(to:TE)(t:TA):TE:=λσ H Q=>to σ H λx H1=>tyV K T x H1/\t σ H1 λxs H2=>r x xs H2 Q
variable {o e:Expr}{es:List Expr}{to:TE}{t:TA}{name:Str}{apos cpos:Pos}{T id:String}{r:V->List V->Hp->VK->Prop}
theorem G8(pa:PlainAttrs T)(slot:Slot T name id)(hty:typeOf (.builtin id)=pure (.type "method_descriptor"))(hm:y9 X id r)(ho:PE X o to)(ha:PA X (e::es) t)
  (hbase:attributeBase o name X.env (eval o X.env)=eval o X.env:=by rfl)
  (hfew:((backTo cpos (aj5 (e::es) X.env)).all (λx=> !x.1)&&(backToKw cpos (keywordEach [] X.env)).all (λx=>x.1.isSome)
   &&decide ((e::es).length+([]:List Keyword).length+(if([]:List Keyword).isEmpty then 0 else 1) < 30))=true:=by rfl)
  (hline:(apos.endLine == cpos.line)=true:=by rfl)(hs:aj5 (e::es) X.env=(kt,eval e X.env)::aj5 es X.env:=by rfl)(hplain:(backTo cpos (aj5 es X.env)).any (·.1)=false:=by rfl):
  PE X (.Call (.Attribute o name apos) (e::es) [] cpos) (tBM X.K T r to t):=by
 intro pins s σ H Q I h;refine wpAny_Call_method_late hbase hfew hline rfl (bR (ho pins s σ H _ I h) λv s1 ⟨x,H1,I1,r1,ty,q1⟩=>?_);obtain⟨h1,h2⟩:=G7 I1 r1 ty;refine⟨T,id,pa,slot,hty,h1,h2,?_⟩;have hA:=ha cpos pins s1 σ H1 _ I1 q1;rw[hs]at hA ⊢;refine Bg (by show(kt||(backTo cpos (aj5 es X.env)).any (·.1))=kt;rw[hplain]<;>rfl) (G9 ?_);exact bR hA λus s2 ⟨vs,H2,I2,r2,q2⟩=>hm pins s2 σ H2 x vs v us Q I2 r1 r2 q2
/- xs.append(e),list.index on a G_ tuple .. are y9 facts of 06m -/
end
def MtM(X:Cx)(id:String)(r:V->List V->Hp->VK->Prop):Prop :=
 ∀(pins:List (ajO×Obj))(s:ajT)(σ:St)(H:Hp)(x:V)(xs:List V)(v:ajU)(us:List ajU)(Q:VK),Inv X pins σ H s->RelV x v->Vals xs us->r x xs H Q->
  aj6 (model X.prog X.w) X.A (call (.builtin id) (v::us)) (EP X pins σ Q) X.xe s
theorem Vals.one:∀{x:V}{us:List ajU},Vals [x] us->∃u,us=[u]/\RelV x u
 |_,_,.cons r .nil=>⟨_,rfl,r⟩
theorem Vals.zero:∀{us:List ajU},Vals [] us->us=[]
 |_,.nil=>rfl
theorem Vals.dropLast(h:Vals xs us):Vals xs.dropLast us.dropLast:=by
 induction h with
 |nil=>exact .nil
 |cons r t ih=>
  cases t with
  |nil=>exact .nil
  |cons q t'=>exact .cons r ih
theorem Vals.rep{xs:List V}{us:List ajU}(h:Vals xs us):∀k:Nat,Vals (aD k xs).flatten (aD k us).flatten
 | 0=> .nil
 |k+1=>by rw[i6,i6,tO,tO];exact Vals.append h (Vals.rep h k)
theorem Bh(l:List α):l.eraseIdx (l.length - 1)=l.dropLast:=by
 induction l with
 |nil=>rfl
 |cons a r ih=>
  cases r with
  |nil=>rfl
  |cons b r=>
   have e:(a::b::r).length - 1=((b::r).length - 1)+1:=by have h1:(a::b::r).length=r.length+2:=rfl;have h2:(b::r).length=r.length+1:=rfl;omega
   rw[e,List.eraseIdx_cons_succ,ih]
   all_goals rfl
theorem foldl_rep(its:List ajU):∀(k:Nat)(acc:List ajU),
  tP (λx1 x2=>x1++x2) acc.toArray (aD k its.toArray)=(acc++(aD k its).flatten).toArray
 | 0,acc=>by simp
 |k+1,acc=>by
  have e:acc.toArray++its.toArray=(acc++its).toArray:=by simp
  have e2:(acc++its)++(aD k its).flatten=acc++(aD (k+1) its).flatten:=by rw[i6,tO,dm]
  rw[<-e2,<-foldl_rep its k (acc++its),<-e,i6,G']
variable{t':Nat}
section
variable {X:Cx}{pins:List (ajO×Obj)}{σ:St}{H:Hp}{s:ajT}{l b:ajO}{xs ys zs:List V}
theorem Inv.Mw{f:Array ajU->Array ajU}(I:Inv X pins σ H s)(hH:H l=bv (.lst xs))
  (e:s.heap.get? l=bv { cls:=.type "list",data:=.seq its.toArray n })(hf:f its.toArray=its'.toArray)(hv:Vals ys its')(hz:ys.length<=aj4):
  Inv X pins σ (upd H l (.lst ys)) { s with heap:=s.heap.update l (o7 f),toks:=t' }:=by
 have q:=PySem.IsL.update e f;rw[hf]at q;refine I.write (x:=l) (e:=l) (by rw[hH];exact trivial) (.inl rfl) (λb' u hb hu=>(tL s.heap (o7 f) (dM hb)).trans hu) ⟨_,q⟩ ?_;exact⟨hz,its',_,hv,q⟩
theorem Inv.Rx(I:Inv X pins σ H s)(hv:Vals ys its)(hz:ys.length<=aj4):
  Inv X pins σ (upd H s.heap.objs.size (.lst ys)) { s with heap:=s.heap.push { cls:=.type "list",data:=.seq its.toArray },toks:=t' } :=
 I.laid (λ_ _ q=>cI _ q) (av _) ⟨hz,its,0,hv,gI _ rfl⟩
theorem Inv.fresh(I:Inv X pins σ H s):H s.heap.objs.size=none:=I.hok.fresh (av _)
theorem Inv.EJ(I:Inv X pins σ H s)(hH:H l=bv (.lst xs)):xs.length<=aj4/\∃(its:List ajU)(n:Nat),Vals xs its/\xs.length=its.length/\s.heap.get? l=bv { cls:=.type "list",data:=.seq its.toArray n }:=by obtain⟨z,its,n,r,e⟩:=I.hok l _ hH;exact⟨z,its,n,r,r.length,e⟩
theorem tQ(h:n<=aj4):tR n=false:=by unfold tR;exact decide_eq_false (by omega)
end
section
variable {X:Cx}
def Mx:V->List V->Hp->VK->Prop:=λx vs H Q=>∃l xs y,x= .ref l/\vs=[y]/\H l=bv (.lst xs)/\xs.length < aj4/\Q .cY (upd H l (.lst (xs++[y])))
theorem EK:MtM X "list.append" Mx:=by intro pins s σ H x vs v us Q I rx rv h;obtain⟨l,xs,y,rfl,rfl,hH,hz,q⟩:=h;cases rx;obtain⟨u,rfl,ru⟩:=rv.one;obtain⟨z,its,n,r,hl,e⟩:=I.EJ hH;refine call_meets F.slot_list_append ⟨_,e,rfl⟩ F.entry_list_append (F.args_list_append_2 _ _) (PySem.list_append l its.toArray n u (by rw[bj];omega)) ⟨e,?_⟩;refine⟨.cY,_,I.Mw (its':=its++[u]) hH e (by simp) (r.append (.cons ru .nil)) ?_,rfl,q⟩;rw[bh,j4];omega
def Mz:V->List V->Hp->VK->Prop:=λx vs H Q=>∃l b xs zs,x= .ref l/\vs=[.ref b]/\H l=bv (.lst xs)/\H b=bv (.lst zs)/\xs.length+zs.length<=aj4/\Q .cY (upd H l (.lst (xs++zs)))
theorem EL:MtM X "list.extend" Mz:=by
 intro pins s σ H x vs v us Q I rx rv h;obtain⟨l,b,xs,zs,rfl,rfl,hH,hB,hz,q⟩:=h;cases rx;obtain⟨u,rfl,ru⟩:=rv.one;cases ru;obtain⟨z,its,n,r,hl,e⟩:=I.EJ hH;obtain⟨z2,its2,n2,r2,hl2,e2⟩:=I.EJ hB;have hsz:its.toArray.size+its2.toArray.size<=aj4:=by rw[bj,bj];omega
 have za:¬(!its.toArray.isEmpty&&tR (its.toArray.size+its2.toArray.size))=true:=by rw[tQ hsz,Bool.and_false];exact cS
 refine call_meets F.slot_list_extend ⟨_,e,rfl⟩ F.entry_list_extend (F.args_list_extend_2 _ _)
  (AutoSeq1.list_extend_list_list_0 l its.toArray n b its2.toArray n2 za (by rw[bj];omega) (by omega)) ⟨e,e2,?_⟩
 refine⟨.cY,_,I.Mw (its':=its++its2) hH e (by simp) (r.append r2) ?_,rfl,q⟩;rw[bh];omega
def W':V->List V->Hp->VK->Prop:=λx vs H Q=>∃l xs y,x= .ref l/\vs=[]/\H l=bv (.lst xs)/\xs[xs.length - 1]? =bv y/\Q y (upd H l (.lst xs.dropLast))
theorem Ry:MtM X "list.pop" W':=by
 intro pins s σ H x vs v us Q I rx rv h;obtain⟨l,xs,y,rfl,rfl,hH,hy,q⟩:=h;cases rx;have hus:=rv.zero;subst hus;obtain⟨z,its,n,r,hl,e⟩:=I.EJ hH;obtain⟨u,hu,ru⟩:=r.get hy;have hy':its.toArray[its.toArray.size - 1]? =bv u:=by show its.toArray[its.length - 1]? =bv u;rw[<-Array.getElem?_toList,<-hl];exact hu
 refine call_meets F.slot_list_pop ⟨_,e,rfl⟩ F.entry_list_pop (F.args_list_pop_1 _) (MeetsSeq.list_pop_last l its.toArray n u hy' (by rw[bj];omega)) ⟨e,?_⟩;refine⟨y,_,I.Mw (its':=its.dropLast) hH e ?_ r.dropLast ?_,ru,q⟩
 ·show its.toArray.eraseIdxIfInBounds (its.toArray.size - 1)=its.dropLast.toArray;rw[bj,List.eraseIdxIfInBounds_toArray,Bh]
 ·rw[List.length_dropLast];omega
def ab9:R2:=λx y H Q=>∃l k xs,x= .ref l/\y= .int k/\H l=bv (.lst xs)/\-(2 ^ 63)<=k/\k < 2 ^ 63/\xs.length * k.toNat<=aj4/\
 ∀p,H p=gV->Q (.ref p) (upd H p (.lst (aD k.toNat xs).flatten))
theorem len_rep(xs:List α)(k:Nat):(aD k xs).flatten.length=k * xs.length:=by
 induction k with
 |zero=>simp
 |succ k ih=>rw[i6,tO,bh,ih,Nat.succ_mul,Nat.add_comm]
theorem Rz:iI X (ajX .Mult) ab9:=by
 intro pins s σ H x y v u Q I rx ry h;obtain⟨l,k,xs,rfl,rfl,hH,h1,h2,hz,q⟩:=h;cases rx;obtain⟨t,rfl⟩:=ry;obtain⟨z,its,n,r,hl,e⟩:=I.EJ hH;have hlen:its.toArray.size * k.toNat<=aj4:=by rw[bj,<-hl];exact hz
 have hcap:¬its.toArray.size * k.toNat > (2 ^ 63 - 1) / 8:=by
  have:(aj4:Nat)<=(2 ^ 63 - 1) / 8:=by decide
  omega
 have hfit:¬(!Builtin.List.listFitsIndex k)=true:=by rw[fitsIndex_both h1 h2];exact cS
 have za:¬tR (its.toArray.size * k.toNat)=true:=by rw[tQ hlen];exact cS
 have hnew:tP (λx1 x2=>x1++x2) #[] (aD (if its.toArray.isEmpty=jp then 0 else k.toNat) its.toArray)=(aD k.toNat its).flatten.toArray:=by
  have f0:∀m:Nat,tP (λx1 x2=>x1++x2) #[] (aD m its.toArray)=(aD m its).flatten.toArray:=λm=>by have:=foldl_rep its m [];rw[iC]at this;exact this
  rw[f0];cases its with
  |nil=>simp
  |cons a r'=>rw[OK (by simp)]
 refine wpAny_binaryOp_repeat_ref (T:="list") (U:="int") (by decide) ⟨_,e,rfl⟩ (λs'=>typeIs_int s' k t) noFill_list_mul F.fills_int_mul Bi repeat_list F.slot_int_index.lookup
  (call_meets Bi (typeIs_int s k t) F.entry_int_rmul (F.args_int_rmul_2 _ _) (int___rmul___int_list k t l its.toArray n)
   ⟨e,rfl,⟨_,e,rfl⟩,call_meets F.slot_list_mul ⟨_,e,rfl⟩ F.entry_list_mul (F.args_list_mul_2 _ _) (AutoListH.list___mul___list_int_3 l its.toArray n k t hfit hcap za) ⟨e,?_⟩⟩)
 rw[hnew];exact⟨.ref _,_,I.Rx (t':=s.toks) (r.rep k.toNat) (by rw[len_rep,C8];exact hz),rfl,q _ I.fresh⟩
end
end L2
namespace Att
open PySem PySem.W PySem.Calls PyProof.Rows
variable{P:Params}{h:Heap}
theorem r8:∀(ns:List Int)(vs:List ajU),WellAll P h vs (ns.map WData.int)->IntsAre vs ns:=by
 intro ns
 induction ns with
 |nil=>intro vs w;rw[iD]at w;cases w;exact .nil
 |cons n ns ih=>
  intro vs w;rw[bz]at w;cases w with
  |cons a b=>cases a;exact .cons _ _ (ih _ b)
variable{l:OpenLaw}{n:Nat}
theorem EM(hn:l.most=bv n){args:List WData}{vals:List ajU}
  (hpre:l.row.toRowW.claim.pre args=jp)(hwl:WellAll P h vals args):
  ∃a vs ns,vals=[bJ a]/\args=[WData.list (ns.map WData.int)]/\h.get? a=bv { cls:=.type "list",data:=.seq vs.toArray }/\IntsAre vs ns/\ns.length<=n:=by
 have hsh:WShape.hasAll [] args [.list .int]=true:=(pre_splitW hpre).1;have hc:l.pre.holds [] { args:=args }=true:=(pre_splitW hpre).2;obtain⟨d,r,rfl,h1,h2⟩:=hasAllW_cons hsh;obtain rfl:=hasAllW_nil h2;obtain⟨xs,rfl,h3⟩:=hasW_list h1;obtain⟨ns,rfl⟩:=items_int h3;have hlen:ns.length<=n:=by
  unfold OpenLaw.pre at hc;have h4:(WTm.not (.lt (.lit (.int (n:Int))) (.len (.arg 0)))).holds [] { args:=[.list (ns.map .int)] }=true:=by have h4:=(holds_andW hc).1;rw[hn]at h4;exact h4
  have h5:=condW_of h4 (w_not (w_lt w_lit (w_len_list (w_arg rfl))));rw[bN]at h5;refine Nat.le_of_not_lt λq=>?_;have q':(n:Int) < ((ns.length:Nat):Int):=by omega
  first
   |(rw[decide_eq_true q']at h5;exact absurd h5 (by decide))
   |(simp at h5;omega)
 cases hwl with
 |cons w1 w2=>
  cases w2;cases w1 with
  |list ho hall=>exact⟨_,_,ns,rfl,rfl,ho,r8 ns _ hall,hlen⟩
theorem EN(l:OpenLaw)(args:List WData):l.row.toRowW.claim.post args (.bool jp) args=true :=
 postW_of (r:=l.row.toRowW) (X:=(jp == jp))
  (show WShape.has [] (.bool jp) .bool=jp by first |rfl |decide |simp[WShape.has,WShape.arms,WShape.armsAll])
  (show(WTm.eq .res (.lit (.bool jp))).value [] { args:=args,res:=bv (.bool jp),after:=args }=bv (.bool (jp == jp)) from w_eq_bool (w_res rfl) w_lit) rfl
theorem zb{q:ajS}{loose:List Str}{XP:(Str->Option ajU)->Heap->Prop}{YP:ajV->Heap->Prop}{d:DefRec}
  (hn:l.most=bv n)(hdf:d.params.defaults=[])
  (call:∀(w:ajV)(s₀ s₁:ajT)(mg mb:Str->Option ajU)(fa:ajO)(o:Obj)(pm cd doc:ajU)(a:ajO)(vs:List ajU)(ns:List Int),
   Ground q loose [] XP w s₀ mg mb s₁.heap->YP w s₁.heap->
   s₁.heap.get? fa=bv o->o.data= .func (docDef d.name d.params d.body d.scope pm cd doc)->s₁.heap.CodeRec cd d.name->mg d.name=bv (.ref fa)->
   s₁.heap.get? a=bv { cls:=.type "list",data:=.seq vs.toArray }->IntsAre vs ns->ns.length<=n->s₁.gens=#[]->
   ajZ (model l.prog w) callerA (.call (.ref fa) ⟨[.ref a],[]⟩) (λr s'=>r= .ok (.ret (.bool jp))/\OldK s₁.heap s'.heap/\s'.os=s₁.os/\AllBare s'.gens) s₁):
  WalkO q loose XP YP l.row.toRowW d [] (λf vs=>PySem.call f vs):=by
 intro w s₀ s₁ mg mb G Y fa o pm cd doc dV kV ho hd hcd hD hmg hg args vals as hpre hlay hrd hwl hlo;obtain rfl:dV= .none:=Dflts.none hD hdf;obtain rfl:kV= .none:=Dflts.noKw hD;obtain⟨a,vs,ns,rfl,rfl,hobj,hints,hlen⟩:=EM hn hpre hwl;refine enter_call (codeAny_mono (call w s₀ s₁ mg mb fa o pm cd doc a vs ns G Y ho (fd_plain hd) hcd hmg hobj hints hlen hg) λr s' hq=>?_);obtain⟨rfl,h2,h3,h4⟩:=hq;exact⟨.inl ⟨.bool jp,.bool jp,[],rfl,λ_=>rfl,.bool jp,EN l _,λ_=>⟨List.Pairwise.nil,λ_ hm=>(nomatch hm)⟩⟩,h2,h3,h4⟩
end Att
namespace L2
open PySem PySem.Spec PyProof.Rows
theorem wq:∀{vs:List ajU}{ns:List Int},IntsAre vs ns->Vals (ns.map V.int) vs
 |_,_,.nil=> .nil
 |_,_,.cons n t h=> .cons ⟨t,rfl⟩ (wq h)
def MA(H:Hp):Prop:=∀b,H b=gV\/∃o xs,H b=bv (.rZ o (.lst xs))
variable{k:Nat}{x:Str}
theorem Ha{P:ajS}{w:ajV}{K:lc}{mg mb:Str->Option ajU}{CX:EF}{fa a:ajO}{fd:ajQ}{sp:Sp}{s₁:ajT}{vs:List ajU}{ns:List Int}
  (KX:K.In s₁.heap)(hns:s₁.heap.Ns aj3 mg)(hb:s₁.heap.Ns builtinsNs mb)(hbb:∀x:Str,x≠"__name__"->mb x=ajY x)(hlim:s₁.heap.NoLimit)(hg:s₁.gens=#[])
  (ha:s₁.heap.get? a=bv { cls:=.type "list",data:=.seq vs.toArray })(hi:IntsAre vs ns)(hl:ns.length<=aj4)(hr:iJ k callerA)
  (F:∀base:Heap,K.In base->base.Ns aj3 mg->FnOk P w K mg base CX k fa fd [x] sp)(hbind:∀(s:ajT)(u:ajU),BindsTo s fd ⟨[u],[]⟩ [(x,u)])
  (VO:∀H:Hp,MA H->ng K H a (ns.map V.int)->sp [.ref a] H (λv _=>v= .bl jp) λ_ _ _=>False)
  (hCX:∀H e s',CX [] H s₁ (λ_ _ _=>False) e s'->False):
  ajZ (model P w) callerA (.call (.ref fa) ⟨[.ref a],[]⟩) (λr s'=>r= .ok (.ret (.bool jp))/\OldK s₁.heap s'.heap/\s'.os=s₁.os/\AllBare s'.gens) s₁:=by
 have rv:=wq hi;have acb:=hi.length
 -- from an abstract heap in which nothing but the script may be tracked
 have core:∀H:Hp,MA H->ng K H a (ns.map V.int)->m_ P w H s₁.heap->(∀b,H b≠gV->b=a)->(H a≠gV->K.lookup a=gV)->
   ajZ (model P w) callerA (.call (.ref fa) ⟨[.ref a],[]⟩) (λr s'=>r= .ok (.ret (.bool jp))/\OldK s₁.heap s'.heap/\s'.os=s₁.os/\AllBare s'.gens) s₁:=by
  intro H hO hS hok hA hK;have C9:∀{b:ajO}{o:Obj},s₁.heap.get? b=bv o->H b=gV->(xx s₁.heap H).get? b=bv o:=λe n=>Gm e n;have W2:∀{b:ajO}{o:Obj}{es:Array DictEntry}{ep:Nat},s₁.heap.get? b=bv o->o.data= .dict es ep->H b=none:=λ{b o es ep} e d=>by
   cases q:H b with
   |none=>rfl
   |some u=>have e':b=a:=hA b (by rw[q];simp);subst e';rw[ha]at e;cases e;have d':Data.seq vs.toArray _=Data.dict es ep:=d;cases d'
  have nsK:∀{b:ajO}{m:Str->Option ajU},s₁.heap.Ns b m->(xx s₁.heap H).Ns b m:=λ{b m} ⟨o,es,ep,e,d,r⟩=>⟨o,es,ep,C9 e (W2 e d),d,r⟩;have hKb:K.In (xx s₁.heap H):=λb o e=>C9 (KX b o e) (by
   cases q:H b with
   |none=>rfl
   |some u=>have e':b=a:=hA b (by rw[q];simp);subst e';rw[hK (by rw[q];simp)]at e;cases e)
  have hM:Mod K mg (xx s₁.heap H):=⟨hKb,nsK hns,⟨mb,nsK hb,hbb⟩,let ⟨mc,h1,h2⟩:=hlim;⟨mc,nsK h1,h2⟩⟩;have e0:y7 P w K mg (xx s₁.heap H) callerA [] s₁ H:=⟨rfl,hM,λb o e=>L4 e,sx (Ep _ _),trivial,λb hb=>absurd (show b∈([]:List ajO) from hb) (by simp),hok,.of_eq hg⟩;refine codeAny_mono ((F _ hKb (nsK hns)).run callerA [] s₁ H ⟨[.ref a],[]⟩ [.ref a] [.ref a] _ _ hr e0 (hbind s₁ (.ref a)) (.cons rfl .nil) (VO H hO hS)) λr s' h=>?_;cases r with
  |error e=>exact(hCX H e s' h).elim
  |ok fl=>
   cases fl with
   |next=>exact ab h
   |brk=>exact ab h
   |cont=>exact ab h
   |ret u=>
    obtain⟨v,H',os,bare,un,acd,r',q⟩:=h;have q':v= .bl true:=q;subst q';obtain rfl:u=oT true:=r';refine⟨rfl,OldK.of_keep λb o e=>?_,os,bare⟩;cases q:H b with
    |none=>exact un.keep b o e q (by intro z;exact absurd (show b∈([]:List ajO) from z) (by simp)) (by simp)
    |some u=>
     rcases hO b with z |⟨ob,xs,z⟩
     ·rw[q]at z;cases z
     ·have z2:=un.r6 b ob _ z;obtain⟨e1,_⟩:=hok b _ z;obtain⟨e2,_⟩:=acd b _ z2;rw[e]at e1;cases e1;exact e2
 cases hk:K.lookup a with
 |some o=>
  -- the script is one of the G_ own objects
  have e:=KX a o hk;rw[ha]at e;cases e;refine core (λ_=>gV) (λ_=> .inl rfl) (.inr ⟨_,vs.toArray,_,hk,rfl,rfl,rfl,by rw[bj,acb];exact hl,by simpa using rv⟩) (λb u z=>by have z':(gV:Option HO)=bv u:=z;cases z') (λb z=>absurd rfl z) λz=>absurd rfl z
 |none=>
  refine core (λb=>if b=a then bv (.rZ { cls:=.type "list",data:=.seq vs.toArray } (.lst (ns.map V.int)))else gV) (λb=>?_) (.inl (.inr ⟨{ cls:=.type "list",data:=.seq vs.toArray },Os rfl⟩)) (λb u z=>?_) (λb z=>?_) λ_=>hk
  ·by_cases hb:b=a
   ·exact .inr ⟨_,_,Os hb⟩
   ·exact .inl (OK hb)
  ·by_cases hb:b=a
   ·have z':=(Os hb).symm.trans z;cases z';subst hb;exact⟨ha,by rw[bN];exact hl,vs,_,rv,ha⟩
   ·have z':=(OK hb).symm.trans z;cases z'
  ·by_cases hb:b=a
   ·exact hb
   ·exact absurd (OK hb) z
abbrev KOf{K:lc}{h:Heap}(_:K.In h):lc:=K
theorem walk_of{l:PySem.W.OpenLaw}{n:Nat}{q:ajS}{loose:List Str}{XP:(Str->Option ajU)->Heap->Prop}{YP:ajV->Heap->Prop}{d:DefRec}{K:Params->lc}{CX:ajV->EF}{sp:ajV->Sp}
  (hn:l.most=bv n)(hn2:n<=aj4)(hdf:d.params.defaults=[])(hr:iJ k callerA)
  (hY:∀(w:ajV)(h:Heap),YP w h->(K w.params).In h)
  (F:∀(w:ajV)(mg:Str->Option ajU)(fa:ajO)(h:Heap),(K w.params).In h->h.Ns aj3 mg->mg d.name=bv (.ref fa)->
   ∃fd:ajQ,(∀(s:ajT)(u:ajU),BindsTo s fd ⟨[u],[]⟩ [(x,u)])/\
    ∀base:Heap,(K w.params).In base->base.Ns aj3 mg->FnOk l.prog w (K w.params) mg base (CX w) k fa fd [x] (sp w))
  (VO:∀(w:ajV)(H:Hp)(a:ajO)(ns:List Int),ns.length<=n->MA H->ng (K w.params) H a (ns.map V.int)->sp w [.ref a] H (λv _=>v= .bl jp) λ_ _ _=>False)
  (hCX:∀(w:ajV)(H:Hp)(s:ajT)(e:ajU)(s':ajT),CX w [] H s (λ_ _ _=>False) e s'->False):
  PySem.W.WalkO q loose XP YP l.row.toRowW d [] (λf vs=>PySem.call f vs):=by
 refine Att.zb hn hdf λw s₀ s₁ mg mb fa o pm cd doc a vs ns G Y ho hd hcd hmg hobj hints hlen hg=>?_;have KX:=hY w _ Y;obtain⟨fd,hb,hF⟩:=F w mg fa _ KX G.T.g hmg;exact Ha KX G.T.g G.T.b G.T.builtins G.T.nolimit hg hobj hints (aA hlen hn2) hr hF hb (λH hO hS=>VO w H a ns hlen hO hS) λH e s'=>hCX w H s₁ e s'
end L2
/- THE agZ aaK (shape;LID,My.* are afu):
   My.Adr: a structure of the addresses ag0 your afv names (classes,VP);My.Txt K t: a structure (Prop) of the equations over K;
   My.RC:{K}{implicit addresses ..} (e1:nsIn K aj3 "law"=bv (bv (.ref f))) (e2:K.lookup f=bv ⟨oc,od,.func (fnOf "law" "law" params body scope dV kV doc pm an cdv ct),sl⟩) (e3:codeIn K cdv "law"=jp) ..:∃t,My.Txt K t
set_option maxRecDepth 100000 in
set_option maxHeartbeats 0 in
theorem PySem.Challenge.cw_LID_holds:PySem.Challenge.rw_LID.Holds:=by
 w_on;o_law;k_head;(case hw=>w_witness2)
 k_fill
 refine L2.walk_of (l:=PySem.Challenge.rw_LID) (n:=63) (k:=40) (x:="script") (CX:=fun w => ..) (sp:=fun _ => My.sp_law) rfl (by decide) rfl ⟨rfl,by decide,by decide⟩ (fun w h Y => PySem.W.kIn_of Y) ?F ?S ?C
 case F=>
  intro w mg fa h KX G hmg;have T:∃t,My.Txt (L2.KOf KX) t:=by
   dsimp only[L2.KOf] -- K ag1 stand as «<heap const> w.params» for k_is;refine' My.RC ?e1 ?e2 ?e3 ..
   (case e1=>PySem.W.k_is) -- in the order: a name -> its address -> its object -> its parts
   (case e2=>PySem.W.k_is)
   ..
  obtain⟨t,T⟩:=T;have e0:=hmg.symm.trans (EQ KX G T.law);cases e0 -- fa is the afw own address;exact⟨_,λs u=> .of_eq rfl,λbase kb nb=>My.RD T kb nb⟩ -- if «.of_eq rfl» comes too early: refine' ⟨_,?b,λbase kb nb=>My.RD T kb nb⟩;exact λs u=> .of_eq rfl
 case S=>exact λw H a ns hl hO hS=> ..
 case C=>exact ..
(the tactic k_is has no namespace: write k_is) -/
namespace L2
open PySem PySem.Spec PyProof.Rows
def inClass(s:Stmt)(j:Nat):Stmt:=match s with
 |.ClassDef _ _ _ body _ _ _ _ _ _ _=>body.getD j (.Pass ⟨0,0,0,0⟩)
 |_=> .Pass ⟨0,0,0,0⟩
def defArgs(s:Stmt):Arguments:=match s with
 |.FunctionDef _ a _ _ _ _ _ _ _ _=>a
 |_=>{ posonlyargs:=[],args:=[],vararg:=gV,kwonlyargs:=[],kw_defaults:=[],kwarg:=gV,defaults:=[] }
def defBody(s:Stmt):List Stmt:=match s with
 |.FunctionDef _ _ b _ _ _ _ _ _ _=>b
 |_=>[]
def defScope(s:Stmt):Scope:=match s with
 |.FunctionDef _ _ _ _ _ _ sc _ _ _=>sc
 |_=>{ kind:=.function,names:=[],isGenerator:=kt,isCoroutine:=kt }
abbrev CX0:EF:=λ_ _ _ _ _ _=>False
structure MB(K:lc)(x qual:Str)(st:Stmt)(f:ajO)(fd:ajQ):Prop where
 ex:∃(oc:ajU)(od:Option ajO)(kV doc pm:ajU)(an:Option ajO)(cdv ct:ajU)(osl:Array (Option ajU)),
  fd=tz x qual (defArgs st) (defBody st) (defScope st) .none kV doc pm an cdv ct/\K.lookup f=bv ⟨oc,od,.func fd,osl⟩/\zn K cdv qual=jp
 kp:ww K (.ref f)=jp
variable{qual:Str}{st:Stmt}{f:ajO}
section
variable {P:ajS}{w:ajV}{K:lc}{mg:Str->Option ajU}{base:Heap}
theorem MB.binds{x:Str}{fd:ajQ}{ps:List Str}(F:MB K x qual st f fd)
  (h:∀(kV doc pm:ajU)(an:Option ajO)(cdv ct:ajU)(us:List ajU),us.length=ps.length->bindArgs (tz x qual (defArgs st) (defBody st) (defScope st) .none kV doc pm an cdv ct) ⟨us,[]⟩=pure (ps.zip us)):Binds K fd ps []:=by
 obtain⟨oc,od,kV,doc,pm,an,cdv,ct,osl,rfl,lk,hcd⟩:=F.ex;exact .all (h kV doc pm an cdv ct)
theorem Bj{x:Str}{oc:ajU}{od an:Option ajO}{osl:Array (Option ajU)}{kV doc pm cdv ct:ajU}(l:K.lookup f=bv ⟨oc,od,.func (tz x qual (defArgs st) (defBody st) (defScope st) .none kV doc pm an cdv ct),osl⟩)
  (c:zn K cdv qual=jp)(k:ww K (.ref f)=jp):MB K x qual st f (tz x qual (defArgs st) (defBody st) (defScope st) .none kV doc pm an cdv ct):=⟨⟨oc,od,kV,doc,pm,an,cdv,ct,osl,rfl,l,c⟩,k⟩
end
variable{u:ajU}{y:V}
section
variable {κ: Type} [DecidableEq κ]
def r9(kvs: List (κ×V))(k: κ): Option V := (kvs.find? λkv=>decide (kv.1=k)).map (·.2)
def putK(kvs: List (κ×V))(k: κ)(v: V): List (κ×V) :=
 if(kvs.any λkv=>decide (kv.1=k))=jp then kvs.map (λkv=>if kv.1=k then(kv.1, v)else kv)else kvs++[(k, v)]
theorem tS{p: κ×V}{r: List (κ×V)}{k: κ}(e: p.1=k): r9 (p::r) k=bv p.2 := by simp[r9, qh, e]
theorem tT{p: κ×V}{r: List (κ×V)}{k: κ}(e: ¬p.1=k): r9 (p::r) k=r9 r k := by simp[r9, qh, e]
theorem zc(kvs: List (κ×V))(k: κ)(v: V): (putK kvs k v).length<=kvs.length+1 := by
 unfold putK;split
 ·rw[bN];omega
 ·rw[bh, aZ, qi];omega
theorem oU.getD{o: Option V}{u: Option ajU}{d: V}{d': ajU}(r: oU o u)(rd: RelV d d'): RelV (o.getD d) (u.getD d') := by
 cases o with
 |none=>cases u with
  |none=>exact rd
  |some _=>exact(show False from r).elim
 |some _=>cases u with
  |none=>exact(show False from r).elim
  |some _=>exact r
theorem KV.val{kvs: List (κ×V)}{vs: List (κ×ajU)}(r: KV kvs vs)(k: κ): oU (r9 kvs k) (valueAt vs k) := by
 unfold KV at r
 induction r with
 |nil=>exact oY
 | @cons p q ps qs h t ih=>
  obtain⟨h1, h2⟩ := h;by_cases e: p.1=k
  ·have e': q.1=k := h1.symm.trans e;have b: valueAt (q::qs) k=bv q.2 := by simp[valueAt, qh, e']
   rw[tS e, b];exact h2
  ·have e': ¬q.1=k := λz=>e (h1.trans z);have b: valueAt (q::qs) k=valueAt qs k := by simp[valueAt, qh, e']
   rw[tT e, b];exact ih
theorem KV.any{kvs: List (κ×V)}{vs: List (κ×ajU)}(r: KV kvs vs)(k: κ): (kvs.any λkv=>decide (kv.1=k))=vs.any λkv=>decide (kv.1=k) := by
 unfold KV at r
 induction r with
 |nil=>rfl
 |cons h t ih=>rw[kY, kY, ih, h.1]
theorem KV.repl{kvs: List (κ×V)}{vs: List (κ×ajU)}(r: KV kvs vs)(k: κ)(ry: RelV y u):
  KV (kvs.map λkv=>if kv.1=k then(kv.1, y)else kv) (vs.map λkv=>if kv.1=k then(kv.1, u)else kv) := by
 unfold KV at r ⊢
 induction r with
 |nil=>exact .nil
 | @cons p q ps qs h t ih=>
  rw[bz, bz];refine .cons ?_ ih;obtain⟨h1, h2⟩ := h;by_cases e: p.1=k
  ·rw[Os e, Os (h1.symm.trans e)];exact⟨h1, ry⟩
  ·rw[OK e, OK (λz=>e (h1.trans z))];exact⟨h1, h2⟩
theorem KV.put{kvs: List (κ×V)}{vs: List (κ×ajU)}(r: KV kvs vs)(k: κ)(ry: RelV y u): KV (putK kvs k y) (stored vs k u) := by
 unfold putK stored;rw[r.any k];by_cases e: (vs.any λkv=>decide (kv.1=k))=jp
 ·rw[Os e, Os e];exact r.repl k ry
 ·rw[OK e, OK e];exact Paired.snoc r ⟨rfl, ry⟩
end
variable{P:ajS}{w:ajV}
theorem Hd{k: Key}(r: RelV (kV k) u): (df P w).is k u=true := by
 cases k with
 |inl i=>obtain⟨t, e⟩ := (show ∃t, u=oS i t from r);subst e;exact yY P w i t
 |inr x=>obtain⟨t, e⟩ := (show ∃t, u=kT x t from r);subst e;exact yZ P w x t
 |cY=>rw[show u=fN from r];rfl
theorem wt{P: ajS}{w: ajV}: ∀{ks: List Key}{us: List ajU}, Vals (ks.map kV) us->ItemsAre (df P w) ks us
 |[], _, r=>by rw[iD]at r;cases r;exact .nil
 |k::ks, _, r=>by
  rw[bz]at r;cases r with
  |cons h t=>exact .cons (Hd h) (wt t)
abbrev KT(H: Hp): List (List Key×V)->List (List Key×ajO×ajU)->Prop := Paired λp q=>p.1=q.1/\H q.2.1=bv (.tup (p.1.map kV))/\RelV p.2 q.2.2
variable{H:Hp}
theorem KT.val{kvs: List (List Key×V)}{xs: List (List Key×ajO×ajU)}(r: KT H kvs xs)(k: List Key): oU (r9 kvs k) ((atKey xs k).map (·.2)) := by
 induction r with
 |nil=>exact oY
 | @cons p q ps qs h t ih=>
  obtain⟨h1, _, h2⟩ := h;by_cases e: p.1=k
  ·have e': q.1=k := h1.symm.trans e;have b: atKey (q::qs) k=bv q.2 := by simp[atKey, qh, e']
   rw[tS e, b];exact h2
  ·have e': ¬q.1=k := λz=>e (h1.trans z);have b: atKey (q::qs) k=atKey qs k := by simp[atKey, qh, e']
   rw[tT e, b];exact ih
variable{kvs:List (Key×V)}
section
variable {P: ajS}{w: ajV}{H: Hp}{h: Heap}{a: ajO}
theorem Po{u: HO}(ok: m_ P w H h)(e: Rd H a u): fh P w H h a u := e.ok ok
theorem Hf(ok: m_ P w H h)(e: Rd H a (.dK kvs)): kvs.length<=aj4/\(a == sysModules)=kt/\∃vs, KV kvs vs/\h.DictOf (df P w) a vs :=
 show fh P w H h a (.dK kvs) from Po ok e
theorem Xa(ok: m_ P w H h)(e: H a=bv (.dK kvs)): kvs.length<=aj4/\(a == sysModules)=kt/\∃vs, KV kvs vs/\h.DictOf (df P w) a vs := Hf ok (.inl e)
theorem Hg{ks: List Key}(ok: m_ P w H h)(e: H a=bv (.tup (ks.map kV))): (tupleKind (df P w)).is h ks a := by obtain⟨_, its, r, ⟨o, h1, h2, n, h3⟩, _⟩ := (show fh P w H h a (.tup (ks.map kV)) from ok a _ e);exact⟨o, its.toArray, n, h1, h2, h3, by simpa using wt r⟩
theorem Pp{kvs: List (List Key×V)}(ok: m_ P w H h)(e: Rd H a (.dT kvs)): kvs.length<=aj4/\(a == sysModules)=kt/\
  ∃xs, KT H kvs xs/\h.DictOfH (tupleKind (df P w)) a xs := by
 obtain⟨z, y, xs, r, o, es, ep, h1, h2, h3, h4, h5⟩ := (show fh P w H h a (.dT kvs) from Po ok e);refine⟨z, y, xs, r, o, es, ep, h1, h2, h3, h4, λx hx=>?_, h5⟩;have all: ∀{l: List (List Key×V)}{m: List (List Key×ajO×ajU)}, KT H l m->∀x∈m, (tupleKind (df P w)).is h x.1 x.2.1 := by
  intro l m q
  induction q with
  |nil=>intro x hx;exact nomatch hx
  | @cons p q ps qs hq t ih=>
   intro x hx;rcases List.mem_cons.mp hx with e |hx
   ·subst e;exact Hg ok (by rw[<-hq.1];exact hq.2.1)
   ·exact ih x hx
 exact all r x hx
end
def Hh(H: Hp)(a: ajO)(y: V)(r: Option V): Prop :=
 (∃kvs k, Rd H a (.dK kvs)/\y=kV k/\r=r9 kvs k)\/∃kvs k b, Rd H a (.dT kvs)/\y= .ref b/\H b=bv (.tup (k.map kV))/\r=r9 kvs k
theorem Hh.k{H: Hp}{a: ajO}{kvs: List (Key×V)}{k: Key}(e: H a=bv (.dK kvs)): Hh H a (kV k) (r9 kvs k) := .inl ⟨kvs, k, .inl e, rfl, rfl⟩
variable{h':Heap}
section
variable {X: Cx}{pins: List (ajO×Obj)}{σ: St}{H: Hp}{s: ajT}{a: ajO}{y v: V}{u r: ajU}{o: Option V}{A: ajP}{E: ajU->ajT->Prop}
theorem Inv.big(I: Inv X pins σ H s): sysModules < s.heap.objs.size := by have h: aj3 < s.heap.objs.size := (I.mod.glob.keeps I.bk).lt;exact xS (by decide) h
theorem MC{t': Nat}{ob: HO}(I: Inv X pins σ H s)(mu: Wo (H a))(hs: xD a s.heap h')(he: ∃q, h'.get? a=bv q)(new: fh X.prog X.w (upd H a ob) h' a ob):
  Inv X pins σ (upd H a ob) { s with heap := h', toks := t' } :=
 I.write (x := a) (e := a) mu (.inl rfl) (λb q hb z=>(hs.2 b hb).trans z) he new
theorem RE{H': Hp}{vs: List (Key×ajU)}(z: kvs.length<=aj4)(hd: (a == sysModules)=kt)(rel: KV kvs vs)(dd: h'.DictOf (df P w) a vs):
  fh P w H' h' a (.dK kvs) :=⟨z, hd, vs, rel, dd⟩
end
def RF(i: Expr): Prop := ∀ov iv, subscripted i kt ov iv=operate [ov, iv] (getItem ov iv)
variable{s:ajT}{pos:Pos}{Q:ajU->ajT->Prop}
theorem MD{prog: ajS}{A: ajP}{E: ajU->ajT->Prop}{env: Env}{value slice: Expr}{T id: String}
  (hl: typeLookup (.type T) "__getitem__"=pure (bv (.builtin id)))(hs: RF slice)
  (h: aj6 (model prog w) A (eval value env) (λo s₁=>aj6 (model prog w) A (eval slice env) (λi s₂=>s₂.TypeIs o T/\aj6 (model prog w) A (getItem o i) Q E s₂) E s₁) E s):
  aj6 (model prog w) A (eval (.Subscript value slice pos) env) Q E s := by
 refine Subscript_ (aj9 h (λo s₁ h₁=>aj9 h₁ (λi s₂ h₂=>?_) λ_ _ x=>x) λ_ _ x=>x);obtain⟨hT, h₂⟩ := h₂;unfold subscriptTail;refine aj7 ?_;rw[getitemInPython_of_ne hT.not_modules];refine aj7 (wpAny_specialOf hT hl ?_);have fin: aj6 (model prog w) A (subscripted slice kt o i) (λr s₃=>aj6 (model prog w) A (letTemporaryGo value o r >>= λ_=>pure r) Q E s₃) E s₂ := by rw[hs o i];exact wpAny_operating (aj9 h₂ (λr s₃ h₃=>aj7 (wpAny_letTemporaryGo (akb h₃))) λ_ _ x=>x)
 first
  |exact akb (aj7 fin)
  |exact aj7 (akb (aj7 fin))
  |exact aj7 fin
theorem zd(h: Heap)(hb: sysModules < h.objs.size): fh P w H (h.push { cls := .type "dict", data := .dict #[] }) h.objs.size (.dK []) :=
 ⟨dz _, beq_eq_false_iff_ne.mpr (dM (dJ hb)), [], .nil, Heap.DictOf.new h⟩
def RG: TE := λ_ H Q=>∀p, H p=gV->Q (.ref p) (upd H p (.dK []))
section
variable {X: Cx}{pos: Pos}
theorem Hi: PE X (.Dict [] [] pos) RG := λpins s σ H Q I h=>
 wpAny_Dict_empty ⟨.ref s.heap.objs.size, _, I.laid (a := s.heap.objs.size) (o := .dK []) (t' := s.toks) (λ_ _ q=>cI _ q) (av _) (zd s.heap I.big), rfl, h _ (I.hok.fresh (av _))⟩
end
def xT: List (TE×TE)->St->Hp->(List (V×V)->Hp->Prop)->Prop
 |[], _, H, Q=>Q [] H
 |(tk, tv)::r, σ, H, Q=>tk σ H λx H1=>tv σ H1 λy H2=>xT r σ H2 λps H3=>Q ((x, y)::ps) H3
abbrev VV: List (V×V)->List (ajU×ajU)->Prop := Paired λp q=>RelV p.1 q.1/\RelV p.2 q.2
def Xb(X: Cx)(pos: Pos)(keys: List (Option Expr))(values: List Expr)(ME: List (TE×TE)): Prop :=
 ∀(pins: List (ajO×Obj))(s: ajT)(σ: St)(H: Hp)(Q: List (V×V)->Hp->Prop), Inv X pins σ H s->xT ME σ H Q->
  aj6 (model X.prog X.w) X.A (evalPairs (pairTrees keys values X.env pos)) (λvs s'=>∃ps H', Inv X pins σ H' s'/\VV ps vs/\Q ps H') X.xe s
variable{X:Cx}
theorem MF: Xb X pos [] [] [] := λpins s σ H Q I h=>pairTrees_nil_walk ⟨[], H, I, .nil, h⟩
variable{ME:List (TE×TE)}
theorem Hj{k v: Expr}{ks: List (Option Expr)}{vs: List Expr}{tk tv: TE}(hk: PE X k tk)(hv: PE X v tv)(hr: Xb X pos ks vs ME):
  Xb X pos (bv k::ks) (v::vs) ((tk, tv)::ME) := λpins s σ H Q I h=>
 pairTrees_cons_walk (bR (hk pins s σ H _ I h) λu s1 ⟨x, H1, I1, rx, q1⟩=>bR (hv pins s1 σ H1 _ I1 q1) λw2 s2 ⟨y, H2, I2, ry, q2⟩=>
  bR (hr pins s2 σ H2 _ I2 q2) λws s3 ⟨ps, H3, I3, rel, q3⟩=>⟨(x, y)::ps, H3, I3, .cons ⟨rx, ry⟩ rel, q3⟩)
def lY(kvs more: List (Key×V)): List (Key×V) := more.foldl (λacc kv=>putK acc kv.1 kv.2) kvs
theorem KV.merge: ∀{more: List (Key×V)}{rs: List (Key×ajU)}{kvs: List (Key×V)}{vs: List (Key×ajU)}, KV more rs->KV kvs vs->KV (lY kvs more) (merged vs rs) := by
 intro more rs kvs vs r;unfold KV at r
 induction r generalizing kvs vs with
 |nil=>intro q;exact q
 | @cons p q ps qs h t ih=>
  intro r0;have e: KV (putK kvs p.1 p.2) (stored vs q.1 q.2) := by have := r0.put p.1 h.2;rw[<-h.1];exact this
  exact ih e
theorem nD: ∀(more kvs: List (Key×V)), (lY kvs more).length<=kvs.length+more.length
 |[], kvs=>by show kvs.length<=kvs.length+0;omega
 |p::r, kvs=>by have h1 := nD r (putK kvs p.1 p.2);have h2 := zc kvs p.1 p.2;show(lY (putK kvs p.1 p.2) r).length<=_;rw[aZ];omega
theorem tU{P: ajS}{w: ajV}: ∀{kvs: List (Key×V)}{ws: List (ajU×ajU)}, VV (kvs.map λkv=>(kV kv.1, kv.2)) ws->∃rs, Carries (df P w) ws rs/\KV kvs rs
 |[], _, r=>by rw[iD]at r;cases r;exact⟨[], oY, .nil⟩
 |p::kvs, _, r=>by
  rw[bz]at r;cases r with
  | @cons a b as bs h t=>obtain⟨rs, c, q⟩ := tU (P := P) (w := w) t;obtain⟨b1, b2⟩ := b;exact⟨(p.1, b2)::rs, ⟨Hd h.1, rfl, c⟩, .cons ⟨rfl, h.2⟩ q⟩
def Xd(ME: List (TE×TE)): TE := λσ H Q=>∀p, H p=gV->xT ME σ (upd H p (.dK [])) λps H2=>H2 p=bv (.dK [])/\∃kvs: List (Key×V), ps=kvs.map (λkv=>(kV kv.1, kv.2))/\kvs.length<=15/\Q (.ref p) (upd H2 p (.dK (lY [] kvs)))
theorem MG{keys: List (Option Expr)}{values: List Expr}(h: Xb X pos keys values ME)(hall: keys.all (·.isSome)=jp)(hl: keys.length=values.length)(h0: keys≠[])
  (h15: keys.length<=15): PE X (.Dict keys values pos) (Xd ME) := by
 intro pins s σ H Q I q;have hn := I.hok.fresh (av s.heap.objs.size);have I1 := I.laid (a := s.heap.objs.size) (o := .dK []) (h' := s.heap.push { cls := .type "dict", data := .dict #[] }) (t' := s.toks) (λ_ _ q=>cI _ q) (av _) (zd s.heap I.big);refine wpAny_Dict_walk (knd := df X.prog X.w) hall hl h0 h15 (bR (h pins _ σ _ _ I1 (q _ hn)) λws s2 ⟨ps, H2, I2, rel, e, kvs, ep, lk, q2⟩=>?_);subst ep;obtain⟨rs, c, rk⟩ := tU (P := X.prog) (w := X.w) rel;obtain⟨z, hd, vs0, r0, dd⟩ := Xa I2.hok e;cases r0;refine⟨rs, c, dd, λh' dd' hs=>⟨.ref s.heap.objs.size, _, ?_, rfl, q2⟩⟩;have hz: (lY [] kvs).length<=aj4 := by have h1 := nD kvs [];rw[qi]at h1;rw[sizeLine_eq];omega
 have he: ∃q, h'.get? s.heap.objs.size=bv q := let ⟨q, _, _, hq, _⟩ := dd';⟨q, hq⟩;exact MC I2 (by rw[e];exact oY) hs he (RE hz hd (rk.merge .nil) dd')
structure M2(X: Cx)(o: Expr)(m: Str)(apos: Pos)(e f: Expr)(cpos: Pos): Prop where
 base: attributeBase o m X.env (eval o X.env)=eval o X.env
 few: ((backTo cpos (aj5 [e, f] X.env)).all (λx=> !x.1)&&(backToKw cpos (keywordEach [] X.env)).all (λx=>x.1.isSome)
  &&decide (([e, f]: List Expr).length+([]: List Keyword).length+(if([]: List Keyword).isEmpty then 0 else 1) < 30))=jp
 line: (apos.endLine == cpos.line)=jp
 trees: backTo cpos (aj5 [e, f] X.env)=[(kt, eval e X.env), (kt, eval f X.env)]
def IsD(H: Hp)(a: ajO): Prop := (∃kvs, Rd H a (.dK kvs))\/∃kvs, Rd H a (.dT kvs)
theorem RH{pins: List (ajO×Obj)}{σ: St}{a: ajO}(I: Inv X pins σ H s)(d: IsD H a):
  s.TypeIs (.ref a) "dict"/\(∀b, bJ a= .ref b->∃ob, s.heap.get? b=bv ob/\ob.dict=gV)/\(a == sysModules)=false := by
 rcases d with ⟨kvs, e⟩ |⟨kvs, e⟩
 ·obtain⟨_, hd, vs, _, dd⟩ := Hf I.hok e;refine⟨dd.typeIs, λb q=>?_, hd⟩;cases q;obtain⟨ob, _, _, h1, h2, _⟩ := dd;exact⟨ob, h1, h2.2.1⟩
 ·obtain⟨_, hd, xs, _, dd⟩ := Pp I.hok e;refine⟨dd.typeIs, λb q=>?_, hd⟩;cases q;obtain⟨ob, _, _, h1, h2, _⟩ := dd;exact⟨ob, h1, h2.2.1⟩
section
variable {X: Cx}{pins: List (ajO×Obj)}{σ: St}{H: Hp}{s: ajT}{a: ajO}{y d: V}{u r: ajU}{o: Option V}{A: ajP}{E: ajU->ajT->Prop}
theorem RI(hu: A.units+1 < cLine)(I: Inv X pins σ H s)(g: Hh H a y o)(ry: RelV y u)(rd: RelV d r)(h: ∀w' s', Inv X pins σ H s'->RelV (o.getD d) w'->Q w' s'):
  aj6 (model X.prog X.w) A (call (.builtin "dict.get") [.ref a, u, r]) Q E s := by
 rcases g with ⟨kvs, k, e, ey, l⟩ |⟨kvs, k, b, e, ey, eb, l⟩
 ·subst ey;obtain⟨z, hd, vs, rel, dd⟩ := Hf I.hok e;refine call_meetsIn PySem.F.slot_dict_get dd.typeIs PySem.F.entry_dict_get (PySem.F.args_dict_get_3 _ _ _) (meets_dict_get_default (df X.prog X.w) a (Hd ry) hd r) ⟨_, dd.mapOf, h _ _ (I.tok _) ?_⟩;rw[l];exact(rel.val k).getD rd
 ·subst ey;cases (show u=bJ b from ry);obtain⟨z, hd, xs, rel, dd⟩ := Pp I.hok e;refine call_meetsIn PySem.F.slot_dict_get dd.typeIs PySem.F.entry_dict_get (PySem.F.args_dict_get_3 _ _ _) (meetsH_dict_get_default (tupleKind (df X.prog X.w)) a b hd r) ⟨tupleKind_room_in1 hu, k, xs, Hg I.hok eb, dd, h _ _ (I.tok _) ?_⟩;rw[l];exact(rel.val k).getD rd
end
def RJ(td ty tx: TE): TE := λσ H Q=>td σ H λx H1=>∃a, x= .ref a/\IsD H1 a/\ty σ H1 λy H2=>tx σ H2 λz H3=>∃o, Hh H3 a y o/\Q (o.getD z) H3
section
variable {X: Cx}{o e f: Expr}{apos cpos: Pos}{td ty tx: TE}
theorem Hk(hu: X.A.units+1 < cLine)(ho: PE X o td)(he: PE X e ty)(hf: PE X f tx)(m: M2 X o "get" apos e f cpos): PE X (.Call (.Attribute o "get" apos) [e, f] [] cpos) (RJ td ty tx) := by
 intro pins s σ H Q I h;refine wpAny_Call_method m.base m.few m.line PySem.F.plainAttrs_dict PySem.F.slot_dict_get PySem.F.type_dict_get (bR (ho pins s σ H _ I h) λu s1 ⟨x, H1, I1, rx, a, ex, d, q1⟩=>?_);subst ex;obtain rfl: u=bJ a := rx;obtain⟨t1, t2, _⟩ := RH I1 d;refine⟨t1, t2, ?_⟩;rw[m.trees];refine Bg rfl (G9 (xI (bR (he pins s1 σ H1 _ I1 q1) λiv s2 ⟨y, H2, I2, ry, q2⟩=>
  xI (bR (hf pins s2 σ H2 _ I2 q2) λfv s3 ⟨z, H3, I3, rz, ov, g, q3⟩=>GR ?_))))
 exact RI hu I3 g ry rz λw' s4 I4 rw'=>⟨_, H3, I4, rw', q3⟩
end
end L2
set_option maxHeartbeats 4000000
namespace J
open PySem PySem.Spec PyProof.Rows L2
def TrX(h base:Heap)(e:ajO)(cls a0 fl:ajU):Prop :=
 ∃ox us T ot ws,h.get? e=bv ox/\(ox.cls=cls/\us[2]? =bv fN)/\ox.data= .fields us/\us[1]? =bv (.ref T)/\base.get? T=gV/\T≠e/\h.get? T=bv ot/\ot.data= .fields ws/\ws[3]? =bv fl
abbrev MH(base:Heap)(l:List Env)(e:ajO)(cls a0 fl:ajU)(h:Heap):Prop:=base.StaysIn h/\base.get? e=gV/\h.FunFrames base l/\TrX h base e cls a0 fl
def Hl(base:Heap)(l:List Env)(e:ajO)(cls a0:ajU)(L:ajO)(h:Heap):Prop:=MH base l e cls a0 (rawInt L) h
def RK(base:Heap)(l:List Env)(e:ajO)(cls a0:ajU)(h:Heap):Prop:=MH base l e cls a0 .none h
variable{ox:Obj}{us:Array ajU}
section
variable {M:Model}{A:ajP}{E:ajU->ajT->Prop}{s:ajT}{base:Heap}{env:Env}{outer l:List Env}{L e:ajO}{cls a0 nt:ajU}{Q:Unit->ajT->Prop}
theorem Bk{h h1:Heap}{S:List ajO}{ob:Obj}{ws:Array ajU}(so:Heap.SlotsOnly S h h1)(hS:S=l.filterMap (·.frame))(fs:h.FunFrames base l)(g1:h.get? e=bv ox)(g3:ox.data= .fields us)(st:base.StaysIn h)(ne:base.get? e=gV)(sz:1 < us.size)(g2:us[2]? =bv fN)
  (d:ob.data= .fields ws)(w3:ws[3]? =bv nt)(nf:ob.isFreed=kt):
  MH base l e ox.cls a0 nt ((h1.push ob).update e (o8 (·.setIfInBounds 1 (.ref h1.objs.size))))/\h.UpToSlots ((h1.push ob).update e (o8 (·.setIfInBounds 1 (.ref h1.objs.size)))):=by
 have nS:e∉S:=λz=>by rw[hS]at z;obtain⟨_,o2,q2,d2⟩:=fs.mem z;rw[g1]at q2;cases q2;exact d2 us g3
 have q1:h1.get? e=bv ox:=(so.2.1 e nS).trans g1;have lt:e≠h1.objs.size:=dJ (bL q1);have oth:∀b o,b≠e->h1.get? b=bv o->((h1.push ob).update e (o8 (·.setIfInBounds 1 (.ref h1.objs.size)))).get? b=bv o:=λb o n q=>(tL _ _ (dM n)).trans (cI _ q);have up:h.UpToSlots ((h1.push ob).update e (o8 (·.setIfInBounds 1 (.ref h1.objs.size)))):=λb o q n=>by obtain⟨sl,q2⟩:=so.2.2 b o q;exact⟨sl,oth b _ (λz=>by rw[z,g1]at q;cases q;exact n us g3) q2⟩
 have stay:base.StaysIn h1:=λb o q=>(so.2.1 b λz=>by rw[hS]at z;rw[(fs.mem z).1]at q;cases q).trans (st b o q);have fresh:base.get? h1.objs.size=none:=by
  cases z:base.get? h1.objs.size with
  |none=>rfl
  |some o=>exact absurd (bL (stay _ _ z)) (jI _)
 have d1:=C_ g3 (·.setIfInBounds 1 (bJ h1.objs.size));refine⟨⟨λb o q=>oth b o (λz=>by rw[z,ne]at q;cases q) (stay b o q),ne,fs.of_keeps λb o q n=>?_,_,_,h1.objs.size,ob,ws,G6 _ (cI _ q1) (MI d1),⟨Obj.cls_mapFields _ _,?_⟩,d1,by simp[sz],fresh,dM lt,?_,d,w3⟩,up⟩
 ·obtain⟨sl,q2⟩:=up b o q n;exact⟨_,q2,rfl⟩
 ·rw[Array.getElem?_setIfInBounds_ne (by decide)];exact g2
 ·exact(tL _ _ lt).trans (gI _ nf)
theorem Hm{head:ajU}{had:Bool}(hfr:A.frames=bv (env::outer))(fs:s.heap.FunFrames base (env::outer))(hf:env.frame=bv L)(g1:s.heap.get? e=bv ox)(st:base.StaysIn s.heap)(ne:base.get? e=gV)(g3:ox.data= .fields us)(sz:1 < us.size)(g2:us[2]? =bv fN)
  (k:∀h',Hl base (env::outer) e ox.cls a0 L h'->s.heap.UpToSlots h'->Q () { s with heap:=h' }):
  aj6 M A (do let a <-frameOf env;let pl <-entryPlaceOf L had;let b <-RL head a .none (rawInt L) .none pl;setField (.ref e) 1 b) Q E s:=by
 refine aj7 (wpAny_frameOf_fun hfr fs hf λh1 so=>aj7 (wpAny_entryPlaceOf λpl pp=>?_));have nS:e∉(env::outer).filterMap (·.frame):=λz=>by obtain⟨_,o2,q2,d2⟩:=fs.mem z;rw[g1]at q2;cases q2;exact d2 us g3
 have q1:h1.get? e=bv ox:=(so.2.1 e nS).trans g1;simp only[RL,newFields];refine aj7 (aka (wpAny_setField (cI _ q1) g3 sz ?_) (pp.sizeOk5 _ _ _ _ _));obtain⟨m,up⟩:=Bk (a0:=a0) (nt:=rawInt L) so rfl fs g1 g3 st ne sz g2 (ob:={ cls:=.type "traceback",dict:=gV,data:=.fields ([head,.ref L,.none,rawInt L,.none]++(if pl.isEmpty then aD 6 fN else pl)).toArray }) rfl (by first |(simp;done) |(rcases pp with rfl |⟨_,_,_,_,_,_,_,rfl⟩<;>simp)) rfl;exact k _ m up
theorem RM(hf:env.frame=bv L)(x:TrX s.heap base e cls a0 (rawInt L))(k:Q () s):aj6 M A (noteFrame (.ref e) env) Q E s:=by obtain⟨ox,us,T,ot,ws,g1,g2,g3,g4,g5,g6,g7,g8,g9⟩:=x;unfold noteFrame;simp only[hf];refine aj7 (wpAny_field g1 g3 g4 ?_);rw[Os (by simp)];refine aj7 (wpAny_field g7 g8 g9 ?_);rw[Os (by simp)];exact akb k
theorem Pq(x:MH base l e cls a0 nt s.heap)(k:∀h',RK base l e cls a0 h'->s.heap.UpToSlots h'->Q () { s with heap:=h' }):aj6 M A (setFlight (.ref e) gV) Q E s:=by
 obtain⟨x1,x2,x3,ox,us,T,ot,ws,g1,g2,g3,g4,g5,g6,g7,g8,g9⟩:=x;have sz:3 < ws.size:=(GM.mp g9).1;unfold setFlight;refine aj7 (wpAny_field g1 g3 g4 ?_);rw[Os (by simp)];refine wpAny_setField g7 g8 sz ?_;generalize hu:s.heap.update T _=h';have ap:∀b,b≠T->h'.get? b=s.heap.get? b:=λb n=>by rw[<-hu];exact tL _ _ (dM n)
 have pl:∀b o,s.heap.get? b=bv o->(∀vs,o.data≠.fields vs)->h'.get? b=bv o:=λb o q n=>(ap b λz=>by rw[z,g7]at q;cases q;exact n ws g8).trans q;refine k h' ⟨λb o q=>(ap b λz=>by rw[z,g5]at q;cases q).trans (x1 b o q),x2,x3.of_keeps λb o q n=>⟨o,pl b o q n,rfl⟩,ox,us,T,o8 (·.setIfInBounds 3 .none) ot,ws.setIfInBounds 3 .none,(ap e (dM g6)).trans g1,g2,g3,g4,g5,g6,?_,C_ g8 _,?_⟩ λb o q n=>⟨o.slots,pl b o q n⟩
 ·rw[<-hu];exact G6 _ g7 (MI (C_ g8 _))
 ·simp[sz]
end
structure Lm where
 a:ajO
 c:ajO
 q:PySem.Str
 xs:List V
inductive Wv where
 |cY
 |bl (b:Bool)
 |int (i:Int)
 |str (x:PySem.Str)
 |tup (ws:List Wv)
 |j5 (ws:List Wv)
 |ref (l:Nat)
 |ty (n:String)
 |cls (c:PySem.Str)
 |EO (c:PySem.Str)
 |fn (p:Lm) (ws:List Wv)
inductive Ob where
 |lst (ws:List Wv)
 |vB (ns:List Int)
 |dct (kvs:List (L2.Key×Wv))
 |Dd (kvs:List (List L2.Key×Wv))
 |AQ (kvs:List (List L2.Key×Wv))
 |ER (kvs:List (L2.Key×Wv))
 |ins (c:PySem.Str) (fs:List (PySem.Str×Wv))
abbrev Hs:=List Ob
abbrev St:=L2.St
abbrev b7:=List (Option Wv)
abbrev Mp:=List ajO
def Xe(a C:ajO):Heap->Prop:=λh=>∃o,h.get? a=bv o/\o.cls= .ref C/\∃vs,o.data= .fields vs
def ExH(a C:ajO)(u:Option HO):Prop:=∃o vs,u=bv (.rZ o (.ext (Xe a C)))/\o.data= .fields vs/\vs[2]? =bv fN
def ClsAt(K:lc)(c:PySem.Str)(C:ajO):Prop:=nw K aj3 c=bv (bv (.ref C))
def Hn(c:ajO)(q:PySem.Str):Heap->Prop:=λh=>h.CodeRec (.ref c) q
def dh:List PySem.Str:=["form_of","formula_by","turned","readied_content","ordered","fresh_book","support_of","behind","book_behind"]
def kZ(K:lc)(q:PySem.Str):Option ajO:=match Ix K q with
 |some (_,P)=>if(K.lookup P).isNone=jp then bv P else gV
 |none=>gV
def acf(q:PySem.Str):PySem.Str:=(q++".<locals>.")++"<lambda>"
def xU(K:lc)(H:Hp):Prop:=∀q P,q∈dh->kZ K q=bv P->∃ps,H P=bv (.jD ps)/\TriplesOk ps.toList/\∀pos cv,codeAmong pos ps.toList=bv cv->∃c,cv= .ref c/\H c=bv (.ext (Hn c (acf q)))
variable{K:lc}{H:Hp}
theorem xU.keep{H':Hp}(t:xU K H)(h1:∀a ps,H a=bv (.jD ps)->H' a=bv (.jD ps))(h2:∀a φ,H a=bv (.ext φ)->H' a=bv (.ext φ)):xU K H':=λq P hq hP=>by obtain⟨ps,e1,e2,e3⟩:=t q P hq hP;refine⟨ps,h1 _ _ e1,e2,λpos cv e=>?_⟩;obtain⟨c,f1,f2⟩:=e3 pos cv e;exact⟨c,f1,h2 _ _ f2⟩
def Xf(K:lc)(a:ajO)(xs:List V):Prop:=∃(o:Obj)(its:Array ajU)(n:Nat),K.lookup a=bv o/\o.cls= .type "tuple"/\o.data= .seq its n/\its.size<=aj4/\Vals xs its.toList
mutual
def aj(K:lc)(m:Mp)(H:Hp):Wv->V->Prop
 |.cY,v=>v= .cY
 |.bl b,v=>v= .bl b
 |.int i,v=>v= .int i
 |.str x,v=>v= .str x/\bc x=jp
 |.tup ws,v=>∃a xs,v= .ref a/\H a=bv (.tup xs)/\ai K m H ws xs
 |.j5 ws,v=>∃a xs,v= .ref a/\Xf K a xs/\ai K m H ws xs
 |.ref l,v=>∃a,v= .ref a/\m[l]? =bv a
 |.ty n,v=>v= .ty n
 |.cls c,v=>∃C,v= .ref C/\ClsAt K c C
 |.EO c,v=>∃a C,v= .ref a/\ClsAt K c C/\ExH a C (H a)
 |.fn p ws,v=>v= .ref p.a/\H p.c=bv (.ext (Hn p.c p.q))/\ai K m H ws p.xs
def ai(K:lc)(m:Mp)(H:Hp):List Wv->List V->Prop
 |[],xs=>xs=[]
 |w::ws,xs=>∃x r,xs=x::r/\aj K m H w x/\ai K m H ws r
end
structure Ext(K:lc)(m:Mp)(H:Hp)(m':Mp)(H':Hp):Prop where
 pre:∀(l:Nat)(a:ajO),m[l]? =bv a->m'[l]? =bv a
 tup:∀(a:ajO)(xs:List V),H a=bv (.tup xs)->H' a=bv (.tup xs)
 ext:∀(a:ajO)(φ:Heap->Prop),H a=bv (.ext φ)->H' a=bv (.ext φ)
 rZ:∀(a:ajO)(o:Obj)(u:HO),H a=bv (.rZ o u)->H' a=bv (.rZ o u)
section
variable {K:lc}{m m1 m2:Mp}{H H1 H2:Hp}
theorem Ext.refl:Ext K m H m H:=⟨λ_ _ h=>h,λ_ _ h=>h,λ_ _ h=>h,λ_ _ _ h=>h⟩
theorem Ext.trans(a:Ext K m H m1 H1)(b:Ext K m1 H1 m2 H2):Ext K m H m2 H2 :=
 ⟨λl x h=>b.pre l x (a.pre l x h),λx xs h=>b.tup x xs (a.tup x xs h),λx φ h=>b.ext x φ (a.ext x φ h),λx o u h=>b.rZ x o u (a.rZ x o u h)⟩
structure RN(K:lc)(m:Mp)(H:Hp)(m':Mp)(H':Hp):Prop where
 pre:∀(l:Nat)(a:ajO),m[l]? =bv a->m'[l]? =bv a
 tup:∀(a:ajO)(xs:List V),H a=bv (.tup xs)->H' a=bv (.tup xs)
 ext:∀(a:ajO)(φ:Heap->Prop),H a=bv (.ext φ)->H' a=bv (.ext φ)
 fx:∀(a:ajO)(o:Obj)(φ:Heap->Prop),H a=bv (.rZ o (.ext φ))->H' a=bv (.rZ o (.ext φ))
theorem Ext.z(e:Ext K m H m1 H1):RN K m H m1 H1:=⟨e.pre,e.tup,e.ext,λa o φ h=>e.rZ a o _ h⟩
mutual
theorem aj.qV(e:RN K m H m1 H1):∀(w:Wv)(v:V),aj K m H w v->aj K m1 H1 w v
 |.cY,v,h=>by unfold aj at h ⊢;exact h
 |.bl b,v,h=>by unfold aj at h ⊢;exact h
 |.int i,v,h=>by unfold aj at h ⊢;exact h
 |.str x,v,h=>by unfold aj at h ⊢;exact h
 |.ty n,v,h=>by unfold aj at h ⊢;exact h
 |.cls c,v,h=>by unfold aj at h ⊢;exact h
 |.EO c,v,h=>by unfold aj at h ⊢;obtain⟨a,C,e1,e2,o,vs,e3,e4⟩:=h;exact⟨a,C,e1,e2,o,vs,e.fx _ _ _ e3,e4⟩
 |.ref l,v,h=>by unfold aj at h ⊢;obtain⟨a,e1,e2⟩:=h;exact⟨a,e1,e.pre _ _ e2⟩
 |.tup ws,v,h=>by unfold aj at h ⊢;obtain⟨a,xs,e1,e2,e3⟩:=h;exact⟨a,xs,e1,e.tup _ _ e2,ai.qV e ws xs e3⟩
 |.j5 ws,v,h=>by unfold aj at h ⊢;obtain⟨a,xs,e1,e2,e3⟩:=h;exact⟨a,xs,e1,e2,ai.qV e ws xs e3⟩
 |.fn p ws,v,h=>by unfold aj at h ⊢;obtain⟨e1,e2,e3⟩:=h;exact⟨e1,e.ext _ _ e2,ai.qV e ws p.xs e3⟩
theorem ai.qV(e:RN K m H m1 H1):∀(ws:List Wv)(xs:List V),ai K m H ws xs->ai K m1 H1 ws xs
 |[],xs,h=>by unfold ai at h ⊢;exact h
 |w::ws,xs,h=>by unfold ai at h ⊢;obtain⟨x,r,e1,e2,e3⟩:=h;exact⟨x,r,e1,aj.qV e w x e2,ai.qV e ws r e3⟩
end
theorem aj.mono(e:Ext K m H m1 H1)(w:Wv)(v:V)(h:aj K m H w v):aj K m1 H1 w v:=aj.qV e.z w v h
theorem ai.mono(e:Ext K m H m1 H1)(ws:List Wv)(xs:List V)(h:ai K m H ws xs):ai K m1 H1 ws xs:=ai.qV e.z ws xs h
theorem ai.nil:ai K m H [] []:=by unfold ai;rfl
theorem ai.cons{w:Wv}{x:V}{ws:List Wv}{xs:List V}(h:aj K m H w x)(t:ai K m H ws xs):ai K m H (w::ws) (x::xs):=by unfold ai;exact⟨x,xs,rfl,h,t⟩
theorem ai.length:∀{ws:List Wv}{xs:List V},ai K m H ws xs->ws.length=xs.length
 |[],xs,h=>by unfold ai at h;subst h;rfl
 |w::ws,xs,h=>by unfold ai at h;obtain⟨x,r,e1,_,e3⟩:=h;subst e1;simp[ai.length e3]
theorem ai.get:∀{ws:List Wv}{xs:List V}{i:Nat}{w:Wv},ai K m H ws xs->ws[i]? =bv w->∃x,xs[i]? =bv x/\aj K m H w x
 |[],_,i,w,_,e=>by simp at e
 |a::ws,xs,0,w,h,e=>by unfold ai at h;obtain⟨x,r,e1,e2,_⟩:=h;subst e1;simp at e;subst e;exact⟨x,rfl,e2⟩
 |a::ws,xs,i+1,w,h,e=>by unfold ai at h;obtain⟨x,r,e1,_,e3⟩:=h;subst e1;obtain⟨y,f1,f2⟩:=ai.get (i:=i) (w:=w) e3 (by simpa using e);exact⟨y,by simpa using f1,f2⟩
theorem ai.append:∀{ws zs:List Wv}{xs ys:List V},ai K m H ws xs->ai K m H zs ys->ai K m H (ws++zs) (xs++ys)
 |[],_,xs,_,h,g=>by unfold ai at h;subst h;exact g
 |w::ws,zs,xs,ys,h,g=>by unfold ai at h;obtain⟨x,r,e1,e2,e3⟩:=h;subst e1;exact ai.cons e2 (ai.append e3 g)
theorem ai.set:∀{ws:List Wv}{xs:List V}(i:Nat){w:Wv}{x:V},ai K m H ws xs->aj K m H w x->ai K m H (ws.set i w) (xs.set i x)
 |[],xs,i,w,x,h,_=>by unfold ai at h;subst h;exact ai.nil
 |a::ws,xs,0,w,x,h,g=>by unfold ai at h;obtain⟨y,r,e1,e2,e3⟩:=h;subst e1;exact ai.cons g e3
 |a::ws,xs,i+1,w,x,h,g=>by unfold ai at h;obtain⟨y,r,e1,e2,e3⟩:=h;subst e1;exact ai.cons e2 (ai.set i e3 g)
theorem ai.drop:∀{ws:List Wv}{xs:List V}(i:Nat),ai K m H ws xs->ai K m H (ws.drop i) (xs.drop i)
 |ws,xs,0,h=>by simpa using h
 |[],xs,i+1,h=>by unfold ai at h;subst h;simpa using ai.nil
 |a::ws,xs,i+1,h=>by unfold ai at h;obtain⟨y,r,e1,e2,e3⟩:=h;subst e1;simpa using ai.drop i e3
theorem ai.take:∀{ws:List Wv}{xs:List V}(i:Nat),ai K m H ws xs->ai K m H (ws.take i) (xs.take i)
 |ws,xs,0,h=>by simpa using ai.nil
 |[],xs,i+1,h=>by unfold ai at h;subst h;simpa using ai.nil
 |a::ws,xs,i+1,h=>by unfold ai at h;obtain⟨y,r,e1,e2,e3⟩:=h;subst e1;simpa using ai.cons e2 (ai.take i e3)
theorem ai.ints:∀(ns:List Int),ai K m H (ns.map Wv.int) (ns.map V.int)
 |[]=>ai.nil
 |n::ns=>ai.cons (by unfold aj;rfl) (ai.ints ns)
end
def ze(K:lc)(H:Hp)(a:ajO)(ns:List Int):Prop :=
 (∃o,H a=bv (.rZ o (.lst (ns.map V.int))))\/
  ∃(o:Obj)(its:Array ajU)(n:Nat),K.lookup a=bv o/\o.cls= .type "list"/\o.dict=gV/\o.data= .seq its n/\its.size<=aj4/\Vals (ns.map V.int) its.toList
variable{κ:Type}
def RelK(K:lc)(m:Mp)(H:Hp)(kvs:List (κ×Wv))(xs:List (κ×V)):Prop:=kvs.map (·.1)=xs.map (·.1)/\ai K m H (kvs.map (·.2)) (xs.map (·.2))
def vH(K:lc)(m:Mp)(H:Hp)(a:ajO):Ob->Prop
 |.lst ws=>∃xs,H a=bv (.lst xs)/\ai K m H ws xs
 |.vB ns=>ze K H a ns
 |.dct kvs=>∃xs,H a=bv (.dK xs)/\RelK K m H kvs xs
 |.Dd kvs=>∃xs,H a=bv (.dT xs)/\RelK K m H kvs xs
 |.AQ kvs=>∃o xs,H a=bv (.rZ o (.dT xs))/\RelK K m H kvs xs
 |.ER kvs=>∃o xs,H a=bv (.rZ o (.dK xs))/\RelK K m H kvs xs
 |.ins c fs=>∃C dx xs,H a=bv (.ins C dx xs)/\ClsAt K c C/\RelK K m H fs xs
def Ob.mu:Ob->Bool
 |.vB _=>kt
 |_=>jp
def Ob.wm:Ob->Bool
 |.vB _=>kt
 |.AQ _=>kt
 |.ER _=>kt
 |_=>jp
theorem Ob.Xg{o:Ob}(h:o.wm=jp):o.mu=true:=by cases o<;>first |rfl |cases h
structure cA(K:lc)(m:Mp)(st:Hs)(H:Hp):Prop where
 len:m.length=st.length
 obj:∀(l:Nat)(a:ajO)(o:Ob),m[l]? =bv a->st[l]? =bv o->vH K m H a o
 inj:∀(l l':Nat)(a:ajO)(o o':Ob),m[l]? =bv a->m[l']? =bv a->st[l]? =bv o->st[l']? =bv o'->o.mu=jp->o'.mu=jp->l=l'
 tab:xU K H
def ax(st:Hs)(l:Nat):Option (List Wv):=match st[l]? with
 |some (.lst ws)=>bv ws
 |some (.vB ns)=>bv (ns.map Wv.int)
 |_=>gV
variable{ob:Ob}{ws:List Wv}{o u:HO}{p a b:ajO}{xs:List V}{m1:Mp}{H1:Hp}{l:Nat}
section
variable {K:lc}{m:Mp}{H:Hp}{st:Hs}
def Wr(u:Option HO):Prop:=u=gV\/(∃ys,u=bv (.lst ys))\/(∃ys,u=bv (.dK ys))\/(∃ys,u=bv (.dT ys))\/∃C dx fs,u=bv (.ins C dx fs)
theorem Wr.ne(hp:Wr (H p))(e:H a=bv u)(n1:∀ys,u≠.lst ys)(n2:∀ys,u≠.dK ys)(n3:∀ys,u≠.dT ys)(n5:∀C dx fs,u≠.ins C dx fs:=by nofun):a≠p:=λz=>by
 subst z;rcases hp with q |⟨ys,q⟩ |⟨ys,q⟩ |⟨ys,q⟩ |⟨C,dx,fs,q⟩
 ·rw[q]at e;cases e
 ·rw[q]at e;cases e;exact n1 ys rfl
 ·rw[q]at e;cases e;exact n2 ys rfl
 ·rw[q]at e;cases e;exact n3 ys rfl
 ·rw[q]at e;cases e;exact n5 C dx fs rfl
theorem Ho(hp:Wr (H p))(h:H a=bv (.tup xs)):upd H p o a=bv (.tup xs):=by rw[b6 (hp.ne h nofun nofun nofun)];exact h
theorem Hq{ns:List Int}(hp:Wr (H p))(h:ze K H a ns):ze K (upd H p o) a ns:=by
 rcases h with ⟨o',h⟩ |h
 ·exact .inl ⟨o',by rw[b6 (hp.ne h nofun nofun nofun)];exact h⟩
 ·exact .inr h
theorem Wr.of{u:Option HO}(h:u=gV\/∃ys,u=bv (.lst ys)):Wr u:=by
 rcases h with q |q
 ·exact .inl q
 ·exact .inr (.inl q)
theorem Ext.ka(hp:Wr (H p)):Ext K m H m (upd H p o):=⟨λ_ _ h=>h,λ_ _ h=>Ho hp h,λa φ h=>by
 rw[b6 (hp.ne h nofun nofun nofun)];exact h,λa o u h=>by
 rw[b6 (hp.ne h nofun nofun nofun)];exact h⟩
theorem Ext.upd{p:ajO}{o:HO}(hp:H p=gV\/∃ys,H p=bv (.lst ys)):Ext K m H m (upd H p o):=Ext.ka (Wr.of hp)
theorem RelK.mono{kvs:List (κ×Wv)}{xs:List (κ×V)}(e:Ext K m H m1 H1)(h:RelK K m H kvs xs):RelK K m1 H1 kvs xs:=⟨h.1,ai.mono e _ _ h.2⟩
theorem vH.keep{o:Ob}(ex:Ext K m H m1 (L2.upd H p u))(hp:Wr (H p))(hb:o.mu=jp->b≠p)(h:vH K m H b o):vH K m1 (L2.upd H p u) b o:=by
 cases o with
 |lst ws=>obtain⟨xs,e1,e2⟩:=h;exact⟨xs,by rw[b6 (hb rfl)];exact e1,ai.mono ex _ _ e2⟩
 |dct kvs=>obtain⟨xs,e1,e2⟩:=h;exact⟨xs,by rw[b6 (hb rfl)];exact e1,e2.mono ex⟩
 |Dd kvs=>obtain⟨xs,e1,e2⟩:=h;exact⟨xs,by rw[b6 (hb rfl)];exact e1,e2.mono ex⟩
 |AQ kvs=>obtain⟨o,xs,e1,e2⟩:=h;exact⟨o,xs,by rw[b6 (hb rfl)];exact e1,e2.mono ex⟩
 |ER kvs=>obtain⟨o,xs,e1,e2⟩:=h;exact⟨o,xs,by rw[b6 (hb rfl)];exact e1,e2.mono ex⟩
 |ins c fs=>obtain⟨C,dx,xs,e1,e2,e3⟩:=h;exact⟨C,dx,xs,by rw[b6 (hb rfl)];exact e1,e2,e3.mono ex⟩
 |vB ns=>exact Hq hp h
theorem vH.at{b:ajO}{o:Ob}(h:vH K m H b o)(hm:o.mu=jp):∃u,H b=bv u:=by
 cases o with
 |lst ws=>obtain⟨xs,e1,e2⟩:=h;exact⟨_,e1⟩
 |dct kvs=>obtain⟨xs,e1,e2⟩:=h;exact⟨_,e1⟩
 |Dd kvs=>obtain⟨xs,e1,e2⟩:=h;exact⟨_,e1⟩
 |AQ kvs=>obtain⟨o,xs,e1,e2⟩:=h;exact⟨_,e1⟩
 |ER kvs=>obtain⟨o,xs,e1,e2⟩:=h;exact⟨_,e1⟩
 |ins c fs=>obtain⟨C,dx,xs,e1,e2⟩:=h;exact⟨_,e1⟩
 |vB ns=>simp[Ob.mu]at hm
theorem vH.wr{o:Ob}(h:vH K m H b o)(hm:o.wm=jp):Wr (H b):=by
 cases o with
 |lst ws=>obtain⟨xs,e1,e2⟩:=h;exact .inr (.inl ⟨_,e1⟩)
 |dct kvs=>obtain⟨xs,e1,e2⟩:=h;exact .inr (.inr (.inl ⟨_,e1⟩))
 |Dd kvs=>obtain⟨xs,e1,e2⟩:=h;exact .inr (.inr (.inr (.inl ⟨_,e1⟩)))
 |ins c fs=>obtain⟨C,dx,xs,e1,e2⟩:=h;exact .inr (.inr (.inr (.inr ⟨_,_,_,e1⟩)))
 |AQ kvs=>cases hm
 |ER kvs=>cases hm
 |vB ns=>cases hm
theorem xU.ka(t:xU K H)(hp:Wr (H p)):xU K (L2.upd H p o):=t.keep
 (λa ps h=>by rw[b6 (hp.ne h nofun nofun nofun)];exact h)
 λa φ h=>by rw[b6 (hp.ne h nofun nofun nofun)];exact h
theorem Ext.more:Ext K m H (m++[p]) H:=⟨λl a h=>by
 rw[gU]
 ·exact h
 ·exact(np.mp h).1,λ_ _ h=>h,λ_ _ h=>h,λ_ _ _ h=>h⟩
theorem cA.fresh(S:cA K m st H)(hp:H p=gV):cA K m st (upd H p o) :=
 ⟨S.len,λl a ob h1 h2=>by have q:=S.obj l a ob h1 h2;refine q.keep (Ext.ka (.inl hp)) (.inl hp) λhm=>?_;obtain⟨u,e⟩:=q.at hm;exact gH e hp,S.inj,S.tab.ka (.inl hp)⟩
theorem cA.tV(S:cA K m st H)(h1:m[l]? =bv a)(h2:st[l]? =bv (.lst ws)):∃xs,H a=bv (.lst xs)/\ai K m H ws xs:=S.obj l a _ h1 h2
theorem cA.read(S:cA K m st H)(h1:m[l]? =bv a)(h2:ax st l=bv ws):∃xs,ng K H a xs/\ai K m H ws xs:=by
 unfold ax at h2;cases e:st[l]? with
 |none=>rw[e]at h2;cases h2
 |some o=>
  rw[e]at h2;cases o with
  |lst zs=>cases h2;obtain⟨xs,e1,e2⟩:=S.tV h1 e;exact⟨xs,ng.of e1,e2⟩
  |dct kvs=>cases h2
  |Dd kvs=>cases h2
  |AQ kvs=>cases h2
  |ER kvs=>cases h2
  |ins c fs=>cases h2
  |vB ns=>
   cases h2;have q:ze K H a ns:=S.obj l a _ h1 e;refine⟨ns.map V.int,?_,ai.ints ns⟩;rcases q with ⟨o,q⟩ |q
   ·exact .inl (.inr ⟨o,q⟩)
   ·exact .inr q
theorem cA.xV(S:cA K m st H)(hp:H p=gV)(r:vH K (m++[p]) (L2.upd H p u) p ob):cA K (m++[p]) (st++[ob]) (L2.upd H p u):=by
 have ex:Ext K m H (m++[p]) (L2.upd H p u):=Ext.more.trans (Ext.ka (.inl hp));have Hr:∀(l:Nat)(o:Ob),m[l]? =bv p->st[l]? =bv o->o.mu=jp->False:=λl o h1 h2 hm=>by obtain⟨v,e⟩:=(S.obj l p o h1 h2).at hm;rw[hp]at e;cases e
 have old:∀(l:Nat)(a:ajO),(m++[p])[l]? =bv a->(l < m.length/\m[l]? =bv a)\/(l=m.length/\a=p):=λl a h=>by
  by_cases hl:l < m.length
  ·exact .inl ⟨hl,by rw[gU hl]at h;exact h⟩
  ·have h':=h;rw[lW (by omega)]at h';have z:=np.mp h';have z1:l - m.length < 1:=by simpa using z.1
   refine .inr ⟨by omega,?_⟩;have e0:l - m.length=0:=by omega
   rw[e0]at h';simpa using h'.symm
 have olds:∀(l:Nat)(o:Ob),l < m.length->(st++[ob])[l]? =bv o->st[l]? =bv o:=λl o hl h=>by rw[gU (by rw[<-S.len];exact hl)]at h;exact h
 refine⟨by simp[S.len],λl a o h1 h2=>?_,λl l' a zs zs' h1 Pr h2 h2' k k'=>?_,S.tab.ka (.inl hp)⟩
 ·rcases old l a h1 with ⟨hl,h1⟩ |⟨hl,rfl⟩
  ·have q:=S.obj l a o h1 (olds l o hl h2);refine q.keep ex (.inl hp) λhm=>?_;obtain⟨v,e⟩:=q.at hm;exact gH e hp
  ·have e:o=ob:=by rw[hl,S.len,lW (av _),sF]at h2;simpa using h2.symm
   subst e;exact r
 ·rcases old l a h1 with ⟨hl,g1⟩ |⟨hl,ea⟩
  ·rcases old l' a Pr with ⟨hl',VQ⟩ |⟨hl',ea'⟩
   ·exact S.inj l l' a zs zs' g1 VQ (olds l _ hl h2) (olds l' _ hl' h2') k k'
   ·rw[ea']at g1;exact(Hr l zs g1 (olds l _ hl h2) k).elim
  ·rcases old l' a Pr with ⟨hl',VQ⟩ |⟨hl',_⟩
   ·rw[ea]at VQ;exact(Hr l' zs' VQ (olds l' _ hl' h2') k').elim
   ·omega
theorem cA.alloc(S:cA K m st H)(hp:H p=gV)(r:ai K m H ws xs):cA K (m++[p]) (st++[.lst ws]) (upd H p (.lst xs)) :=
 S.xV hp ⟨xs,cz,ai.mono (Ext.more.trans (Ext.ka (.inl hp))) _ _ r⟩
theorem cA.tW{o0:Ob}(S:cA K m st H)(h1:m[l]? =bv a)(h2:st[l]? =bv o0)(hw:o0.wm=jp)(r:vH K m (L2.upd H a u) a ob):cA K m (st.set l ob) (L2.upd H a u):=by
 have wr:Wr (H a):=(S.obj l a o0 h1 h2).wr hw;have hm:=Ob.Xg hw;have ex:Ext K m H m (L2.upd H a u):=Ext.ka wr;have hl:l < st.length:=(np.mp h2).1;have at':∀(k:Nat)(o:Ob),(st.set l ob)[k]? =bv o->(k=l/\o=ob)\/(k≠l/\st[k]? =bv o):=λk o h=>by
  by_cases e:l=k
  ·subst e;rw[tD hl]at h;exact .inl ⟨rfl,(Option.some.inj h).symm⟩
  ·rw[bM e]at h;exact .inr ⟨λz=>e z.symm,h⟩
 refine⟨by simp[S.len],λk b o g1 g2=>?_,λk k' b us us' g1 VQ g2 g2' q q'=>?_,S.tab.ka wr⟩
 ·rcases at' k o g2 with ⟨rfl,rfl⟩ |⟨hk,g2⟩
  ·rw[h1]at g1;cases g1;exact r
  ·have q:=S.obj k b o g1 g2;refine q.keep ex wr λho z=>?_;subst z;exact hk (S.inj k l b o o0 g1 h1 g2 h2 ho hm)
 ·have back:∀(k:Nat)(o:Ob),(st.set l ob)[k]? =bv o->o.mu=jp->∃o',st[k]? =bv o'/\o'.mu=true:=λk o h ho=>by
   rcases at' k _ h with ⟨rfl,_⟩ |⟨_,h⟩
   ·exact⟨o0,h2,hm⟩
   ·exact⟨o,h,ho⟩
  obtain⟨u1,e1,f1⟩:=back k us g2 q;obtain⟨u2,e2,f2⟩:=back k' us' g2' q';exact S.inj k k' b u1 u2 g1 VQ e1 e2 f1 f2
theorem cA.write{zs:List Wv}(S:cA K m st H)(h1:m[l]? =bv a)(h2:st[l]? =bv (.lst ws))(r:ai K m H zs xs):cA K m (st.set l (.lst zs)) (upd H a (.lst xs)) :=
 S.tW h1 h2 rfl ⟨xs,cz,ai.mono (Ext.ka ((S.obj l a _ h1 h2).wr rfl)) _ _ r⟩
end
structure a_(K:lc)(m:Mp)(H:Hp)(ρ:b7)(σ:St):Prop where
 len:ρ.length=σ.length
 get:∀(i:Nat)(w:Wv),ρ[i]? =bv (bv w)->∃v,σ[i]? =bv (bv v)/\aj K m H w v
section
variable {K:lc}{m m1:Mp}{H H1:Hp}{ρ:b7}{σ:St}
theorem a_.mono(R:a_ K m H ρ σ)(e:Ext K m H m1 H1):a_ K m1 H1 ρ σ:=⟨R.len,λi w h=>let ⟨v,h1,h2⟩:=R.get i w h;⟨v,h1,aj.mono e _ _ h2⟩⟩
theorem a_.set(R:a_ K m H ρ σ)(i:Nat){w:Wv}{v:V}(h:aj K m H w v):a_ K m H (ρ.set i (bv w)) (σ.set i (bv v)):=by
 refine⟨by simp[R.len],λj u e=>?_⟩;by_cases hj:i=j
 ·subst hj;have hi:i < ρ.length:=by have:=(np.mp e).1;simpa using this
  rw[tD hi]at e;have e':w=u:=Option.some.inj (Option.some.inj e);subst e';exact⟨v,by rw[tD (by rw[<-R.len];exact hi)],h⟩
 ·rw[bM hj]at e;obtain⟨x,h1,h2⟩:=R.get j u e;exact⟨x,by rw[bM hj];exact h1,h2⟩
end
inductive Re(α:Type) where
 |ok (a:α) (st:Hs)
 |err (c:PySem.Str) (st:Hs)
 |bad
variable{α:Type}
def Re.bind{β:Type}(r:Re α)(f:α->Hs->Re β):Re β:=match r with
 |.ok a st=>f a st
 |.err c st=> .err c st
 |.bad=> .bad
inductive Rs where
 |nx (ρ:b7) (st:Hs)
 |rt (w:Wv) (st:Hs)
 |bk (ρ:b7) (st:Hs)
 |ct (ρ:b7) (st:Hs)
 |err (c:PySem.Str) (ρ:b7) (st:Hs)
 |bad
def Re.bR(ρ:b7)(r:Re α)(f:α->Hs->Rs):Rs:=match r with
 |.ok a st=>f a st
 |.err c st=> .err c ρ st
 |.bad=> .bad
def Re.mP(r:Re α):Re α:=match r with
 |.ok a st=> .ok a st
 |_=> .bad
abbrev GE:=b7->Hs->Re Wv
abbrev GT:=b7->Hs->Re Bool
abbrev GA:=b7->Hs->Re (List Wv)
abbrev GS:=b7->Hs->Rs
def zf(P:ajS)(w:ajV)(outer:List Env)(H:Hp)(s:ajT)(H':Hp)(cls:ajU)(e:ajU)(s':ajT):Prop :=
 ∃(a:ajO)(a0:ajU)(B:Heap),e= .ref a/\s'.os=s.os/\AllBare s'.gens/\Un (frs outer) [] H H' s.heap s'.heap/\m_ P w H' B/\RK B outer a cls a0 s'.heap/\
  (∀b o,s.heap.get? b=bv o->b∉frs outer->∃o',B.get? b=bv o'/\(H b=gV->o'=o))
def Bl(X:Cx)(pins:List (ajO×Obj))(H:Hp)(s:ajT)(H':Hp)(cls:ajU)(e:ajU)(s':ajT):Prop :=
 ∃(a:ajO)(a0 nt:ajU)(B:Heap)(ch:List ajO),e= .ref a/\s'.os=s.os/\AllBare s'.gens/\(∀b∈ch,jE X pins H b)/\Un (frs X.stack) ch H H' s.heap s'.heap/\m_ X.prog X.w H' B/\
  (B.StaysIn s'.heap/\B.get? a=gV/\s'.heap.FunFrames B X.stack/\TrX s'.heap B a cls a0 nt)/\
  (∀b o,s.heap.get? b=bv o->b∉frs X.stack->b∉ch->∃o',B.get? b=bv o'/\(H b=gV->o'=o))
variable{X:Cx}
theorem zf.any{pins:List (ajO×Obj)}{H':Hp}{s s':ajT}{cls e:ajU}(f:zf X.prog X.w X.stack H s H' cls e s'):Bl X pins H s H' cls e s' :=
 let ⟨a,a0,B,e1,e2,e3,un,hok,fl,Xh⟩:=f
 ⟨a,a0,.none,B,[],e1,e2,e3,(λb z=>by cases z),un,hok,fl,λb o q hb _=>Xh b o q hb⟩
def Bm(X:Cx)(σ:St)(H':Hp)(c:PySem.Str)(e:ajU)(s':ajT):Prop :=
 ∃(C:ajO)(pins:List (ajO×Obj))(Hc:Hp)(sc:ajT),ClsAt X.K c C/\Inv X pins σ Hc sc/\
  (Bl X pins Hc sc H' (.ref C) e s'\/(H'=Hc/\∃a args,e= .ref a/\s'.os=sc.os/\s'.gens=sc.gens/\Ht sc.heap s'.heap a (.ref C) args))
def VR(X:Cx)(σ:St)(m:Mp)(H:Hp)(c:PySem.Str)(st:Hs):Prop :=
 ∀(m':Mp)(H':Hp)(e:ajU)(s':ajT),Ext X.K m H m' H'->cA X.K m' st H'->Bm X σ H' c e s'->X.xe e s'
variable{σ:St}{m:Mp}{st:Hs}
theorem VR.mono{c:PySem.Str}(h:VR X σ m H c st)(e:Ext X.K m H m1 H1):VR X σ m1 H1 c st :=
 λm' H' x s' e' S r=>h m' H' x s' (e.trans e') S r
def aE(X:Cx)(σ:St)(m:Mp)(H:Hp)(r:Re α)(ok:α->Hs->Prop):Prop:=match r with
 |.ok a st=>ok a st
 |.err c st=>VR X σ m H c st
 |.bad=>False
def tX(r:Re α)(ok:α->Hs->Prop):Prop:=match r with
 |.ok a st=>ok a st
 |_=>False
theorem aE.mP{r:Re α}{ok:α->Hs->Prop}(h:aE X σ m H r.mP ok):tX r ok:=by
 cases r with
 |ok a st=>exact h
 |err c st=>exact h
 |bad=>exact h
theorem aE.bind{β:Type}{r:Re α}{f:α->Hs->Re β}{ok:β->Hs->Prop}(h:aE X σ m H (r.bind f) ok):aE X σ m H r (λa st=>aE X σ m H (f a st) ok):=by
 cases r with
 |ok a st=>exact h
 |err c st=>exact h
 |bad=>exact h
theorem aE.imp{r:Re α}{ok ok':α->Hs->Prop}(h:aE X σ m H r ok)(e:Ext X.K m H m1 H1)(k:∀a st,ok a st->ok' a st):aE X σ m1 H1 r ok':=by
 cases r with
 |ok a st=>exact k a st h
 |err c st=>exact VR.mono (c:=c) (st:=st) h e
 |bad=>exact h
theorem tX.imp{r:Re α}{ok ok':α->Hs->Prop}(h:tX r ok)(k:∀a st,ok a st->ok' a st):tX r ok':=by
 cases r with
 |ok a st=>exact k a st h
 |err c st=>exact h
 |bad=>exact h
def RO(K:lc)(m:Mp)(H:Hp)(Q:VK)(w:Wv)(st:Hs):Prop:=∀(v:V)(m':Mp)(H':Hp),Ext K m H m' H'->cA K m' st H'->aj K m' H' w v->Q v H'
def okT(K:lc)(m:Mp)(H:Hp)(Q:Bool->Hp->Prop)(b:Bool)(st:Hs):Prop:=∀(m':Mp)(H':Hp),Ext K m H m' H'->cA K m' st H'->Q b H'
def okA(K:lc)(m:Mp)(H:Hp)(Q:List V->Hp->Prop)(ws:List Wv)(st:Hs):Prop:=∀(vs:List V)(m':Mp)(H':Hp),Ext K m H m' H'->cA K m' st H'->ai K m' H' ws vs->Q vs H'
abbrev eh(X:Cx)(σ:St)(m:Mp)(H:Hp)(r:Re Wv)(Q:VK):Prop:=aE X σ m H r (RO X.K m H Q)
abbrev ke(X:Cx)(σ:St)(m:Mp)(H:Hp)(r:Re Bool)(Q:Bool->Hp->Prop):Prop:=aE X σ m H r (okT X.K m H Q)
abbrev Pu(X:Cx)(σ:St)(m:Mp)(H:Hp)(r:Re (List Wv))(Q:List V->Hp->Prop):Prop:=aE X σ m H r (okA X.K m H Q)
variable{r:Re Wv}{Q:VK}
theorem eh.shift(h:eh X σ m H r Q)(e:Ext X.K m H m1 H1):eh X σ m1 H1 r Q:=h.imp e λ_ _ k v m' H' e'=>k v m' H' (e.trans e')
theorem ke.shift{r:Re Bool}{Q:Bool->Hp->Prop}(h:ke X σ m H r Q)(e:Ext X.K m H m1 H1):ke X σ m1 H1 r Q:=h.imp e λ_ _ k m' H' e'=>k m' H' (e.trans e')
abbrev eo(K:lc)(m:Mp)(H:Hp)(r:Re Wv)(Q:VK):Prop:=tX r (RO K m H Q)
theorem eo.shift(h:eo K m H r Q)(e:Ext K m H m1 H1):eo K m1 H1 r Q:=tX.imp h λ_ _ k v m' H' e'=>k v m' H' (e.trans e')
def bE(X:Cx)(m:Mp)(H:Hp)(r:Rs)(D:Ends):Prop:=match r with
 |.nx ρ st=>∀(σ:St)(m':Mp)(H':Hp),Ext X.K m H m' H'->cA X.K m' st H'->a_ X.K m' H' ρ σ->D.nx σ H'
 |.rt w st=>∀(v:V)(m':Mp)(H':Hp),Ext X.K m H m' H'->cA X.K m' st H'->aj X.K m' H' w v->D.rt v H'
 |.bk ρ st=>∀(σ:St)(m':Mp)(H':Hp),Ext X.K m H m' H'->cA X.K m' st H'->a_ X.K m' H' ρ σ->D.bk σ H'
 |.ct ρ st=>∀(σ:St)(m':Mp)(H':Hp),Ext X.K m H m' H'->cA X.K m' st H'->a_ X.K m' H' ρ σ->D.ct σ H'
 |.err c ρ st=>∀(σ:St)(m':Mp)(H':Hp)(e:ajU)(s':ajT),Ext X.K m H m' H'->cA X.K m' st H'->a_ X.K m' H' ρ σ->Bm X σ H' c e s'->X.xe e s'
 |.bad=>False
variable{D:Ends}
theorem bE.shift{r:Rs}(h:bE X m H r D)(e:Ext X.K m H m1 H1):bE X m1 H1 r D:=by
 cases r with
 |nx ρ st=>exact λσ m' H' e'=>h σ m' H' (e.trans e')
 |rt w st=>exact λv m' H' e'=>h v m' H' (e.trans e')
 |bk ρ st=>exact λσ m' H' e'=>h σ m' H' (e.trans e')
 |ct ρ st=>exact λσ m' H' e'=>h σ m' H' (e.trans e')
 |err c ρ st=>exact λσ m' H' x s' e'=>h σ m' H' x s' (e.trans e')
 |bad=>exact h
variable{ρ:b7}
theorem bE.fU{r:Re α}{f:α->Hs->Rs}(R:a_ X.K m H ρ σ)(h:bE X m H (r.bR ρ f) D):aE X σ m H r (λa st=>bE X m H (f a st) D):=by
 cases r with
 |ok a st=>exact h
 |err c st=>exact λm' H' x s' e' S r=>h σ m' H' x s' e' S (R.mono e') r
 |bad=>exact h
def SE(X:Cx)(e:Expr):TE:=λσ H Q=>∀(pins:List (ajO×Obj))(s:ajT),Inv X pins σ H s->aj6 (model X.prog X.w) X.A (eval e X.env) (EP X pins σ Q) X.xe s
def ST(X:Cx)(e:Expr):TT:=λσ H Q=>∀(pins:List (ajO×Obj))(s:ajT),Inv X pins σ H s->aj6 (model X.prog X.w) X.A (isTrue e X.env (eval e X.env)) (TP X pins σ Q) X.xe s
def SA(X:Cx)(es:List Expr):TA:=λσ H Q=>∀(pos:Pos)(pins:List (ajO×Obj))(s:ajT),Inv X pins σ H s->aj6 (model X.prog X.w) X.A (spliced (backTo pos (aj5 es X.env))) (AP X pins σ Q) X.xe s
def SS(X:Cx)(st:Stmt):TS:=λD σ H=>∀(pins:List (ajO×Obj))(s:ajT),Inv X pins σ H s->aj6 (model X.prog X.w) X.A (exec st X.env) (SP X pins D) X.xe s
def SSs(X:Cx)(st:List Stmt):TS:=λD σ H=>∀(pins:List (ajO×Obj))(s:ajT),Inv X pins σ H s->aj6 (model X.prog X.w) X.A (execs st X.env) (SP X pins D) X.xe s
variable{e:Expr}{es:List Expr}
section
variable {X:Cx}
theorem bq:PE X e (SE X e):=λpins s _ _ _ I h=>h pins s I
theorem qW:PT X e (ST X e):=λpins s _ _ _ I h=>h pins s I
theorem lZ:PA X es (SA X es):=λpos pins s _ _ _ I h=>h pos pins s I
theorem Pw{st:Stmt}:PS X st (SS X st):=λpins s _ _ _ I h=>h pins s I
theorem k7{st:List Stmt}:Gf X st (SSs X st):=λpins s _ _ _ I h=>h pins s I
end
def JE(X:Cx)(e:Expr)(g:GE):Prop:=∀(ρ:b7)(st:Hs)(σ:St)(H:Hp)(m:Mp)(Q:VK),cA X.K m st H->a_ X.K m H ρ σ->eh X σ m H (g ρ st) Q->SE X e σ H Q
def JT(X:Cx)(e:Expr)(g:GT):Prop:=∀(ρ:b7)(st:Hs)(σ:St)(H:Hp)(m:Mp)(Q:Bool->Hp->Prop),cA X.K m st H->a_ X.K m H ρ σ->ke X σ m H (g ρ st) Q->ST X e σ H Q
def JA(X:Cx)(es:List Expr)(g:GA):Prop:=∀(ρ:b7)(st:Hs)(σ:St)(H:Hp)(m:Mp)(Q:List V->Hp->Prop),cA X.K m st H->a_ X.K m H ρ σ->Pu X σ m H (g ρ st) Q->SA X es σ H Q
def JS(X:Cx)(s:Stmt)(g:GS):Prop:=∀(ρ:b7)(st:Hs)(σ:St)(H:Hp)(m:Mp)(D:Ends),cA X.K m st H->a_ X.K m H ρ σ->bE X m H (g ρ st) D->SS X s D σ H
def tY(X:Cx)(s:List Stmt)(g:GS):Prop:=∀(ρ:b7)(st:Hs)(σ:St)(H:Hp)(m:Mp)(D:Ends),cA X.K m st H->a_ X.K m H ρ σ->bE X m H (g ρ st) D->SSs X s D σ H
variable{g:GA}{t:TS}
section
variable {X:Cx}
theorem JE.of{g:GE}{t:TE}(h:PE X e t)(k:∀(ρ:b7)(st:Hs)(σ:St)(H:Hp)(m:Mp)(Q:VK),cA X.K m st H->a_ X.K m H ρ σ->eh X σ m H (g ρ st) Q->t σ H Q):JE X e g :=
 λρ st σ H m Q S R p pins s I=>h pins s σ H Q I (k ρ st σ H m Q S R p)
theorem JT.of{g:GT}{t:TT}(h:PT X e t)(k:∀(ρ:b7)(st:Hs)(σ:St)(H:Hp)(m:Mp)(Q:Bool->Hp->Prop),cA X.K m st H->a_ X.K m H ρ σ->ke X σ m H (g ρ st) Q->t σ H Q):JT X e g :=
 λρ st σ H m Q S R p pins s I=>h pins s σ H Q I (k ρ st σ H m Q S R p)
theorem JA.of{t:TA}(h:PA X es t)(k:∀(ρ:b7)(st:Hs)(σ:St)(H:Hp)(m:Mp)(Q:List V->Hp->Prop),cA X.K m st H->a_ X.K m H ρ σ->Pu X σ m H (g ρ st) Q->t σ H Q):JA X es g :=
 λρ st σ H m Q S R p pos pins s I=>h pos pins s σ H Q I (k ρ st σ H m Q S R p)
theorem JS.of{e:Stmt}{g:GS}(h:PS X e t)(k:∀(ρ:b7)(st:Hs)(σ:St)(H:Hp)(m:Mp)(D:Ends),cA X.K m st H->a_ X.K m H ρ σ->bE X m H (g ρ st) D->t D σ H):JS X e g :=
 λρ st σ H m D S R p pins s I=>h pins s σ H D I (k ρ st σ H m D S R p)
theorem tY.of{e:List Stmt}{g:GS}(h:Gf X e t)(k:∀(ρ:b7)(st:Hs)(σ:St)(H:Hp)(m:Mp)(D:Ends),cA X.K m st H->a_ X.K m H ρ σ->bE X m H (g ρ st) D->t D σ H):tY X e g :=
 λρ st σ H m D S R p pins s I=>h pins s σ H D I (k ρ st σ H m D S R p)
theorem JE.go{g:GE}{T:VK}{ok:Wv->Hs->Prop}(h:JE X e g)(S:cA X.K m st H)(R:a_ X.K m H ρ σ)(p:aE X σ m H (g ρ st) ok)
  (k:∀(w:Wv)(st1:Hs)(v:V)(m1:Mp)(H1:Hp),ok w st1->Ext X.K m H m1 H1->cA X.K m1 st1 H1->aj X.K m1 H1 w v->T v H1):SE X e σ H T :=
 h ρ st σ H m T S R (p.imp Ext.refl λw st1 q v m1 H1 e1 s1 r1=>k w st1 v m1 H1 q e1 s1 r1)
theorem JT.go{g:GT}{T:Bool->Hp->Prop}{ok:Bool->Hs->Prop}(h:JT X e g)(S:cA X.K m st H)(R:a_ X.K m H ρ σ)(p:aE X σ m H (g ρ st) ok)
  (k:∀(b:Bool)(st1:Hs)(m1:Mp)(H1:Hp),ok b st1->Ext X.K m H m1 H1->cA X.K m1 st1 H1->T b H1):ST X e σ H T :=
 h ρ st σ H m T S R (p.imp Ext.refl λb st1 q m1 H1 e1 s1=>k b st1 m1 H1 q e1 s1)
theorem JA.go{T:List V->Hp->Prop}{ok:List Wv->Hs->Prop}(h:JA X es g)(S:cA X.K m st H)(R:a_ X.K m H ρ σ)(p:aE X σ m H (g ρ st) ok)
  (k:∀(ws:List Wv)(st1:Hs)(vs:List V)(m1:Mp)(H1:Hp),ok ws st1->Ext X.K m H m1 H1->cA X.K m1 st1 H1->ai X.K m1 H1 ws vs->T vs H1):SA X es σ H T :=
 h ρ st σ H m T S R (p.imp Ext.refl λw st1 q v m1 H1 e1 s1 r1=>k w st1 v m1 H1 q e1 s1 r1)
end
end J
namespace J
open PySem PySem.Spec PyProof.Rows L2
def lim:Nat:=1000000
variable{n:Nat}
theorem eR(h:n<=lim):n<=aj4:=aA h (by unfold lim;rw[sizeLine_eq];decide)
theorem RP(h:n < lim):n < aj4:=bZ h (by unfold lim;rw[sizeLine_eq];decide)
def ae(i:Nat):GE:=λρ st=>match ρ[i]? with
 |some (bv w)=> .ok w st
 |_=> .bad
def gC(w:Wv):GE:=λ_ st=> .ok w st
variable{x:Str}{pos:Pos}{i:Int}{b a c e:Expr}{t:Tok}{T:String}{ga gb gc:GE}{r:R2}{ρ:b7}{st st1:Hs}{σ:St}{H H1:Hp}{m m1:Mp}{Q:VK}{o:CmpOp}{g:GA}{gt:GT}{es:List Expr}{K:lc}{ws:List Wv}{vs:List V}
section
variable {X:Cx}
theorem Bn(i:Nat)(hN:X.N[i]? =bv x:=by rfl)(hv:Vis X.env.scope x:=by first |exact Or.inl rfl |exact mQ (Or.inl rfl) |exact mQ (mQ rfl))(hd:(x == ("__debug__":Str))=false:=by decide)
  (hcd:(x == ("__classdict__":Str))=false:=by decide):JE X (.Name x pos) (ae i):=JE.of (QM hN hv hd hcd) λρ st σ H m Q S R p=>by
 unfold ae at p;cases e:ρ[i]? with
 |none=>rw[e]at p;exact ab p
 |some o=>
  cases o with
  |none=>rw[e]at p;exact ab p
  |some w=>rw[e]at p;obtain⟨v,h1,h2⟩:=R.get i w e;exact⟨v,h1,p v m H Ext.refl S h2⟩
theorem RQ{j pos}:JE X (.Constant (.int i) j pos) (gC (.int i)):=JE.of QN λρ st σ H m Q S R p=>p (.int i) m H Ext.refl S (by unfold aj;rfl)
theorem Xi{b:Bool}{j pos}:JE X (.Constant (.bool b) j pos) (gC (.bl b)):=JE.of WA λρ st σ H m Q S R p=>p (.bl b) m H Ext.refl S (by unfold aj;rfl)
theorem RS{j pos}:JE X (.Constant .none j pos) (gC .cY):=JE.of QO λρ st σ H m Q S R p=>p .cY m H Ext.refl S (by unfold aj;rfl)
theorem RT{x:PySem.Str}{j pos}(hx:bc x=true:=by decide+kernel):JE X (.Constant (.str x) j pos) (gC (.str x)):=JE.of QP λρ st σ H m Q S R p=>p (.str x) m H Ext.refl S (by unfold aj;exact⟨rfl,hx⟩)
theorem Hu(hg:Gl X x)(hm:X.mg x=bv (.int i t))(hd:(x == ("__debug__":Str))=false:=by decide):JE X (.Name x pos) (gC (.int i)) :=
 JE.of (i5 (v:=.int i) hg hm ⟨t,rfl⟩ hd) λρ st σ H m Q S R p=>p (.int i) m H Ext.refl S (by unfold aj;rfl)
theorem Hv{y:Str}(hg:Gl X x)(hm:X.mg x=bv (.str y t))(hy:bc y=true:=by decide+kernel)(hd:(x == ("__debug__":Str))=false:=by decide):JE X (.Name x pos) (gC (.str y)) :=
 JE.of (i5 (v:=.str y) hg hm ⟨t,rfl⟩ hd) λρ st σ H m Q S R p=>p (.str y) m H Ext.refl S (by unfold aj;exact⟨rfl,hy⟩)
theorem Xj(hg:Gl X x)(hm:X.mg x=gV)(hv:ajY x=bv (.type T))(hn:x≠"__name__":=by decide)(hd:(x == ("__debug__":Str))=false:=by decide):JE X (.Name x pos) (gC (.ty T)) :=
 JE.of (L5 (v:=.ty T) hg hm hv rfl hn hd) λρ st σ H m Q S R p=>p (.ty T) m H Ext.refl S (by unfold aj;rfl)
abbrev jc:=Wv->Wv->Hs->Re Wv
def af(op:jc)(ga gb:GE):GE:=λρ st=>(ga ρ st).bind λx st1=>(gb ρ st1).bind λy st2=>(op x y st2).mP
def De(X:Cx)(op:jc)(r:R2):Prop:=∀(x y:Wv)(a b:V)(st:Hs)(H:Hp)(m:Mp)(Q:VK),cA X.K m st H->aj X.K m H x a->aj X.K m H y b->eo X.K m H (op x y st) Q->r a b H Q
def lR(X:Cx)(f:ajU->ajU->Sem ajU)(op:jc):Prop:=∃r,iI X f r/\De X op r
theorem Df{op:jc}(h2:De X op r)(ha:JE X a ga)(hb:JE X b gb)(S:cA X.K m st H)(R:a_ X.K m H ρ σ)(p:eh X σ m H (af op ga gb ρ st) Q):
  WN r (SE X a) (SE X b) σ H Q:=by
 refine ha.go S R (aE.bind p) λx st1 v m1 H1 p1 e1 S1 rx=>?_;refine hb.go S1 (R.mono e1) ((aE.bind p1).imp e1 λ_ _ q=>q) λy st2 u m2 H2 p2 e2 S2 ry=>?_;exact h2 x y v u st2 H2 m2 Q S2 (aj.mono e2 _ _ rx) ry (eo.shift (aE.mP p2) (e1.trans e2))
theorem RU{o:Operator}{op:jc}(ho:lR X (ajX o) op)(ha:JE X a ga)(hb:JE X b gb):JE X (.BinOp a o b pos) (af op ga gb):=by obtain⟨r,h1,h2⟩:=ho;exact JE.of (WO h1 bq bq) λρ st σ H m Q S R p=>Df h2 ha hb S R p
theorem Hw{op:jc}(ho:lR X (aj1 o) op)(ha:JE X a ga)(hb:JE X b gb)(hm:ajW o b=kt):JE X (.Compare a [o] [b] pos) (af op ga gb):=by obtain⟨r,h1,h2⟩:=ho;exact JE.of (Mf h1 bq bq hm) λρ st σ H m Q S R p=>Df h2 ha hb S R p
def VS(w:Wv)(st:Hs):Re Bool:=match w with
 |.bl b=> .ok b st
 |_=> .bad
def aW(g:GE):GT:=λρ st=>(g ρ st).bind VS
theorem o9{r:Re Wv}{Q:Bool->Hp->Prop}(p:ke X σ m H (r.bind VS) Q):eh X σ m H r (λx H'=>∃k,x= .bl k/\Q k H'):=by
 cases r with
 |ok w st=>
  cases w with
  |bl b=>intro v m' H' e S rw';unfold aj at rw';exact⟨b,rw',p m' H' e S⟩
  |_=>exact ab p
 |err c st=>exact p
 |bad=>exact p
theorem Hx{op:jc}(ho:lR X (aj1 o) op)(ha:JE X a ga)(hb:JE X b gb)(hm:ajW o b=kt):JT X (.Compare a [o] [b] pos) (aW (af op ga gb)):=by obtain⟨r,h1,h2⟩:=ho;exact JT.of (Mg h1 bq bq hm) λρ st σ H m Q S R p=>Df h2 ha hb S R (o9 p)
def j6(op op':jc)(ga gb gc:GE):GE:=λρ st=>(ga ρ st).bind λx st1=>(gb ρ st1).bind λy st2=>(op x y st2).mP.bind λz st3=>match z with
 |.bl jp=>(gc ρ st3).bind λu AR=>(op' y u AR).mP
 |.bl kt=> .ok (.bl kt) st3
 |_=> .bad
theorem Px{op op':jc}{r':R2}(h2:De X op r)(h2':De X op' r')(ha:JE X a ga)(hb:JE X b gb)(hc:JE X c gc)
  (S:cA X.K m st H)(R:a_ X.K m H ρ σ)(p:eh X σ m H (j6 op op' ga gb gc ρ st) Q):A2 r r' (SE X a) (SE X b) (SE X c) σ H Q:=by
 refine ha.go S R (aE.bind p) λx st1 v m1 H1 p1 e1 S1 rx=>?_;refine hb.go S1 (R.mono e1) ((aE.bind p1).imp e1 λ_ _ q=>q) λy st2 u m2 H2 p2 e2 S2 ry=>?_;refine h2 x y v u st2 H2 m2 _ S2 (aj.mono e2 _ _ rx) ry (tX.imp (aE.mP (aE.bind p2)) λz st3 p3=>?_);intro z' m3 H3 e3 S3 rz;cases z with
 |bl k=>
  unfold aj at rz;refine⟨k,rz,?_⟩;cases k with
  |true=>rw[Os rfl];refine hc.go S3 (R.mono (e1.trans (e2.trans e3))) ((aE.bind p3).imp (e1.trans (e2.trans e3)) λ_ _ q=>q) λq AR u' m4 H4 p4 e4 S4 rq=>?_;exact h2' y q u u' AR H4 m4 Q S4 (aj.mono (e3.trans e4) _ _ ry) rq (eo.shift (aE.mP p4) (e1.trans (e2.trans (e3.trans e4))))
  |false=>rw[OK cS];exact p3 (.bl kt) m3 H3 (e1.trans (e2.trans e3)) S3 (by unfold aj;rfl)
 |_=>exact ab p3
theorem Hy{o':CmpOp}{op op':jc}(ho:lR X (aj1 o) op)(ho':lR X (aj1 o') op')(ha:JE X a ga)(hb:JE X b gb)(hc:JE X c gc)
  (hm:lastMarks [o,o'] [b,c]=false:=by with_unfolding_all rfl):JE X (.Compare a [o,o'] [b,c] pos) (j6 op op' ga gb gc):=by
 obtain⟨r,h1,h2⟩:=ho;obtain⟨r',Pr,h2'⟩:=ho';exact JE.of (GG h1 Pr bq bq bq hm) λρ st σ H m Q S R p=>Px h2 h2' ha hb hc S R p
theorem Hz{o':CmpOp}{op op':jc}(ho:lR X (aj1 o) op)(ho':lR X (aj1 o') op')(ha:JE X a ga)(hb:JE X b gb)(hc:JE X c gc)
  (hm:lastMarks [o,o'] [b,c]=false:=by with_unfolding_all rfl):JT X (.Compare a [o,o'] [b,c] pos) (aW (j6 op op' ga gb gc)):=by
 obtain⟨r,h1,h2⟩:=ho;obtain⟨r',Pr,h2'⟩:=ho';exact JT.of (GH h1 Pr bq bq bq hm) λρ st σ H m Q S R p=>Px h2 h2' ha hb hc S R (o9 p)
def MJ(op:Wv->Hs->Re Wv)(ga:GE):GE:=λρ st=>(ga ρ st).bind op
def o_:Wv->Hs->Re Wv
 |.int i,st=> .ok (.int (-i)) st
 |_,_=> .bad
theorem RV(ha:JE X a ga):JE X (.UnaryOp .USub a pos) (MJ o_ ga):=by
 refine JE.of (WQ Q_ bq) λρ st σ H m Q S R p=>?_;refine ha.go S R (aE.bind p) λx st1 v m1 H1 p1 e1 S1 rx=>?_;cases x with
 |int i=>unfold aj at rx;exact⟨i,rx,p1 _ m1 H1 e1 S1 (by unfold aj;rfl)⟩
 |_=>exact ab p1
def SW(X:Cx)(e:Expr):TT:=λσ H Q=>∀(wh:Sem ajU)(pins:List (ajO×Obj))(s:ajT),Inv X pins σ H s->aj6 (model X.prog X.w) X.A (isTrue e X.env wh) (TP X pins σ Q) X.xe s
theorem Py:PW X e (SW X e):=λwh pins s _ _ _ I h=>h wh pins s I
def JW(X:Cx)(e:Expr)(g:GT):Prop:=∀(ρ:b7)(st:Hs)(σ:St)(H:Hp)(m:Mp)(Q:Bool->Hp->Prop),cA X.K m st H->a_ X.K m H ρ σ->ke X σ m H (g ρ st) Q->SW X e σ H Q
theorem JW.of{g:GT}{t:TT}(h:PW X e t)(k:∀(ρ:b7)(st:Hs)(σ:St)(H:Hp)(m:Mp)(Q:Bool->Hp->Prop),cA X.K m st H->a_ X.K m H ρ σ->ke X σ m H (g ρ st) Q->t σ H Q):JW X e g :=
 λρ st σ H m Q S R p wh pins s I=>h wh pins s σ H Q I (k ρ st σ H m Q S R p)
theorem JW.jt{g:GT}(h:JW X e g):JT X e g:=λρ st σ H m Q S R p pins s I=>h ρ st σ H m Q S R p _ pins s I
def og(ga gb:GT):GT:=λρ st=>(ga ρ st).bind λb st1=>if b=jp then gb ρ st1 else .ok kt st1
def HA(ga gb:GT):GT:=λρ st=>(ga ρ st).bind λb st1=>if b=jp then .ok jp st1 else gb ρ st1
def pb(ga:GT):GT:=λρ st=>(ga ρ st).bind λb st1=> .ok (!b) st1
theorem MK{ga:GT}(ha:JT X a ga):JW X (.BoolOp .And [a] pos) ga:=JW.of (L6 qW) λρ st σ H m Q S R p=>ha ρ st σ H m Q S R p
theorem RX{ga:GT}(ha:JT X a ga):JW X (.BoolOp .Or [a] pos) ga:=JW.of (QR qW) λρ st σ H m Q S R p=>ha ρ st σ H m Q S R p
theorem RY{rest:List Expr}{ga gb:GT}(ha:JT X a ga)(hb:JW X (.BoolOp .And (b::rest) pos) gb):JW X (.BoolOp .And (a::b::rest) pos) (og ga gb):=by
 refine JW.of (QS qW Py) λρ st σ H m Q S R p=>?_;refine ha.go S R (aE.bind p) λc st1 m1 H1 p1 e1 S1=>?_;cases c with
 |true=>rw[Os rfl]at p1 ⊢;exact hb ρ st1 σ H1 m1 Q S1 (R.mono e1) (ke.shift p1 e1)
 |false=>rw[OK cS]at p1 ⊢;exact p1 m1 H1 e1 S1
theorem Xk{rest:List Expr}{ga gb:GT}(ha:JT X a ga)(hb:JW X (.BoolOp .Or (b::rest) pos) gb):JW X (.BoolOp .Or (a::b::rest) pos) (HA ga gb):=by
 refine JW.of (WB qW Py) λρ st σ H m Q S R p=>?_;refine ha.go S R (aE.bind p) λc st1 m1 H1 p1 e1 S1=>?_;cases c with
 |true=>rw[Os rfl]at p1 ⊢;exact p1 m1 H1 e1 S1
 |false=>rw[OK cS]at p1 ⊢;exact hb ρ st1 σ H1 m1 Q S1 (R.mono e1) (ke.shift p1 e1)
theorem RZ{ga:GT}(ha:JT X a ga):JT X (.UnaryOp .Not a pos) (pb ga):=by refine JT.of (QT qW) λρ st σ H m Q S R p=>?_;exact ha.go S R (aE.bind p) λc st1 m1 H1 p1 e1 S1=>p1 m1 H1 e1 S1
def cT(ga gb:GE):GE:=λρ st=>(ga ρ st).bind λw st1=>match w with
 |.bl jp=>gb ρ st1
 |.bl kt=> .ok (.bl kt) st1
 |_=> .bad
def HB(ga gb:GE):GE:=λρ st=>(ga ρ st).bind λw st1=>match w with
 |.bl jp=> .ok (.bl jp) st1
 |.bl kt=>gb ρ st1
 |_=> .bad
def zg(ga:GE):GE:=λρ st=>(ga ρ st).bind λw st1=>match w with
 |.bl b=> .ok (.bl (!b)) st1
 |_=> .bad
theorem HC{op}(ha:JE X a ga):JE X (.BoolOp op [a] pos) ga:=JE.of (QU bq) λρ st σ H m Q S R p=>ha ρ st σ H m Q S R p
theorem R0{rest:List Expr}(ha:JE X a ga)(hb:JE X (.BoolOp .And (b::rest) pos) gb):JE X (.BoolOp .And (a::b::rest) pos) (cT ga gb):=by
 refine JE.of (QV bq bq) λρ st σ H m Q S R p=>?_;refine ha.go S R (aE.bind p) λx st1 v m1 H1 p1 e1 S1 rx=>?_;cases x with
 |bl c=>
  unfold aj at rx;refine⟨c,rx,?_⟩;cases c with
  |true=>rw[Os rfl];exact hb ρ st1 σ H1 m1 Q S1 (R.mono e1) (eh.shift p1 e1)
  |false=>rw[OK cS];exact p1 _ m1 H1 e1 S1 (by unfold aj;rfl)
 |_=>exact ab p1
theorem Xl{rest:List Expr}(ha:JE X a ga)(hb:JE X (.BoolOp .Or (b::rest) pos) gb):JE X (.BoolOp .Or (a::b::rest) pos) (HB ga gb):=by
 refine JE.of (WE bq bq) λρ st σ H m Q S R p=>?_;refine ha.go S R (aE.bind p) λx st1 v m1 H1 p1 e1 S1 rx=>?_;cases x with
 |bl c=>
  unfold aj at rx;refine⟨c,rx,?_⟩;cases c with
  |true=>rw[Os rfl];exact p1 _ m1 H1 e1 S1 (by unfold aj;rfl)
  |false=>rw[OK cS];exact hb ρ st1 σ H1 m1 Q S1 (R.mono e1) (eh.shift p1 e1)
 |_=>exact ab p1
theorem R4(ha:JE X a ga):JE X (.UnaryOp .Not a pos) (zg ga):=by
 refine JE.of (QW bq) λρ st σ H m Q S R p=>?_;refine ha.go S R (aE.bind p) λx st1 v m1 H1 p1 e1 S1 rx=>?_;cases x with
 |bl c=>unfold aj at rx;exact⟨c,rx,p1 _ m1 H1 e1 S1 (by unfold aj;rfl)⟩
 |_=>exact ab p1
def vI(gt:GT)(ga gb:GE):GE:=λρ st=>(gt ρ st).bind λb st1=>if b=jp then ga ρ st1 else gb ρ st1
theorem Xm(hc:JT X c gt)(ha:JE X a ga)(hb:JE X b gb):JE X (.IfExp c a b pos) (vI gt ga gb):=by
 refine JE.of (Gs qW bq bq) λρ st σ H m Q S R p=>?_;refine hc.go S R (aE.bind p) λk st1 m1 H1 p1 e1 S1=>?_;cases k with
 |true=>rw[Os rfl]at p1 ⊢;exact ha ρ st1 σ H1 m1 Q S1 (R.mono e1) (eh.shift p1 e1)
 |false=>rw[OK cS]at p1 ⊢;exact hb ρ st1 σ H1 m1 Q S1 (R.mono e1) (eh.shift p1 e1)
def ag:GA:=λ_ st=> .ok [] st
def aa(ga:GE)(gr:GA):GA:=λρ st=>(ga ρ st).bind λx st1=>(gr ρ st1).bind λxs st2=> .ok (x::xs) st2
theorem xW:JA X [] ag:=JA.of Rg λρ st σ H m Q S R p=>p [] m H Ext.refl S ai.nil
theorem xX{gr:GA}(ha:JE X e ga)(hr:JA X es gr)(hs:aj5 (e::es) X.env=(kt,eval e X.env)::aj5 es X.env:=by rfl):JA X (e::es) (aa ga gr):=by refine JA.of (Ml bq lZ hs) λρ st σ H m Q S R p=>?_;refine ha.go S R (aE.bind p) λx st1 v m1 H1 p1 e1 S1 rx=>?_;refine hr.go S1 (R.mono e1) ((aE.bind p1).imp e1 λ_ _ q=>q) λxs st2 vs m2 H2 p2 e2 S2 rs=>?_;exact p2 (v::vs) m2 H2 (e1.trans e2) S2 (ai.cons (aj.mono e2 _ _ rx) rs)
def dA(g:GA):GE:=λρ st=>(g ρ st).bind λws st1=>if ws.length<=lim then .ok (.tup ws) st1 else .bad
def b8(g:GA):GE:=λρ st=>(g ρ st).bind λws st1=>if ws.length<=lim then .ok (.ref st1.length) (st1++[.lst ws])else .bad
theorem R6{x1 pos}(h:JA X es g):JE X (.Tuple es x1 pos) (dA g):=by
 refine JE.of (Rh lZ) λρ st σ H m Q S R p=>?_;refine h.go S R (aE.bind p) λws st1 vs m1 H1 p1 e1 S1 rs=>?_;by_cases hl:ws.length<=lim
 ·rw[Os hl]at p1;refine⟨by rw[<-rs.length];exact eR hl,λq hq=>?_⟩;have e2:Ext X.K m1 H1 m1 (upd H1 q (.tup vs)):=Ext.upd (.inl hq);exact p1 (.ref q) m1 _ (e1.trans e2) (S1.fresh hq) (by unfold aj;exact⟨q,vs,rfl,cz,ai.mono e2 _ _ rs⟩)
 ·rw[OK hl]at p1;exact ab p1
theorem cA.newest(S:cA K m st H)(q:ajO)(H':Hp):aj K (m++[q]) H' (.ref st.length) (.ref q):=by unfold aj;refine⟨q,rfl,?_⟩;rw[<-S.len,lW (av _),sF];rfl
theorem jg(p1:RO X.K m H Q (.ref st1.length) (st1++[.lst ws]))(e1:Ext X.K m H m1 H1)(S1:cA X.K m1 st1 H1)(rs:ai X.K m1 H1 ws vs)(q:ajO)(hq:H1 q=gV):
  Q (.ref q) (upd H1 q (.lst vs)) :=
 p1 (.ref q) (m1++[q]) _ (e1.trans (Ext.more.trans (Ext.upd (.inl hq)))) (S1.alloc hq rs) (S1.newest q _)
theorem R7{pos}(h:JA X es g):JE X (.List es pos) (b8 g):=by
 refine JE.of (Ri lZ) λρ st σ H m Q S R p=>?_;refine h.go S R (aE.bind p) λws st1 vs m1 H1 p1 e1 S1 rs=>?_;by_cases hl:ws.length<=lim
 ·rw[Os hl]at p1;exact⟨by rw[<-rs.length];exact eR hl,λq hq=>jg p1 e1 S1 rs q hq⟩
 ·rw[OK hl]at p1;exact ab p1
end
variable{x:PySem.Str}{a:V}
section
variable {X:Cx}
theorem iI.or{f:ajU->ajU->Sem ajU}{r':R2}(h:iI X f r)(h':iI X f r'):iI X f (λx y H Q=>r x y H Q\/r' x y H Q):=by
 intro pins s σ H x y v u Q I rx ry q;rcases q with q |q
 ·exact h pins s σ H x y v u Q I rx ry q
 ·exact h' pins s σ H x y v u Q I rx ry q
theorem HD:iI X (ajX .FloorDiv) (rI (λ_ j=>j≠0/\j.natAbs.log2 < 9000) λi j=> .int (i.fdiv j)):=opI λi j _ _ _ _ _ hc q=>floordiv_int hc.1 q (.inl (PyProof.noPylong_of_log2 hc.2))
theorem ML:iI X (ajX .Mod) (rI (λ_ j=>j≠0) λi j=> .int (i.fmod j)):=opI λi j _ _ _ _ _ hc q=>mod_int' hc q
theorem MM:iI X (ajX .Mult) (rI (λi j=>IntMulOk i j) λi j=> .int (i * j)):=opI λ_ _ _ _ _ _ _ hc q=>mul_int q hc
instance acg{a b:Int}:Decidable (IntMulOk a b):=by unfold IntMulOk;infer_instance
def l5:jc
 |.int i,.int j,st=> .ok (.int (i - j)) st
 |_,_,_=> .bad
def lF:jc
 |.int i,.int j,st=>if j≠0/\j.natAbs.log2 < 9000 then .ok (.int (i.fdiv j)) st else .bad
 |_,_,_=> .bad
def oMod:jc
 |.int i,.int j,st=>if j≠0 then .ok (.int (i.fmod j)) st else .bad
 |_,_,_=> .bad
def Bo:jc
 |.int i,.int j,st=>if 0<=j/\j<=1000000/\i.natAbs < 2 ^ 64 then .ok (.int (i ^ j.toNat)) st else .bad
 |_,_,_=> .bad
def Xn:jc
 |.int i,.int j,st=> .ok (.bl (decide (i < j))) st
 |.str i,.str j,st=> .ok (.bl (decide (i.cps.toList < j.cps.toList))) st
 |_,_,_=> .bad
def Xo:jc
 |.int i,.int j,st=> .ok (.bl (decide (i<=j))) st
 |_,_,_=> .bad
def VT:jc
 |.int i,.int j,st=> .ok (.bl (decide (j < i))) st
 |_,_,_=> .bad
def Xp:jc
 |.int i,.int j,st=> .ok (.bl (decide (j<=i))) st
 |_,_,_=> .bad
theorem bt(h:aj X.K m H (.int i) a):a= .int i:=by unfold aj at h;exact h
theorem Xq{b:Bool}(h:aj X.K m H (.bl b) a):a= .bl b:=by unfold aj at h;exact h
theorem eS(h:aj X.K m H (.str x) a):a= .str x/\bc x=true:=by unfold aj at h;exact h
theorem mkInt:aj X.K m H (.int i) (.int i):=by unfold aj;rfl
theorem oh{i:Bool}:aj X.K m H (.bl i) (.bl i):=by unfold aj;rfl
theorem Dg:aj X.K m H .cY .cY:=by unfold aj;rfl
theorem mkStr(h:bc x=jp):aj X.K m H (.str x) (.str x):=by unfold aj;exact⟨rfl,h⟩
theorem R9:lR X (ajX .Sub) l5:=⟨_,Q8,λx y a b st H m Q S rx ry p=>by
 cases x with
 |int i=>
  cases y with
  |int j=>exact⟨i,j,bt rx,bt ry,p _ m H Ext.refl S mkInt⟩
  |_=>exact ab p
 |_=>cases y<;>exact ab p⟩
theorem MN:lR X (ajX .FloorDiv) lF:=⟨_,HD,λx y a b st H m Q S rx ry p=>by
 cases x with
 |int i=>
  cases y with
  |int j=>
   dsimp only[lF]at p;by_cases c:j≠0/\j.natAbs.log2 < 9000
   ·rw[Os c]at p;exact⟨i,j,bt rx,bt ry,c,p _ m H Ext.refl S mkInt⟩
   ·rw[OK c]at p;exact ab p
  |_=>exact ab p
 |_=>cases y<;>exact ab p⟩
theorem R_:lR X (ajX .Mod) oMod:=⟨_,ML,λx y a b st H m Q S rx ry p=>by
 cases x with
 |int i=>
  cases y with
  |int j=>
   dsimp only[oMod]at p;by_cases c:j≠0
   ·rw[Os c]at p;exact⟨i,j,bt rx,bt ry,c,p _ m H Ext.refl S mkInt⟩
   ·rw[OK c]at p;exact ab p
  |_=>exact ab p
 |_=>cases y<;>exact ab p⟩
theorem Sa:lR X (ajX .Pow) Bo:=⟨_,Q9,λx y a b st H m Q S rx ry p=>by
 cases x with
 |int i=>
  cases y with
  |int j=>
   dsimp only[Bo]at p;by_cases c:0<=j/\j<=1000000/\i.natAbs < 2 ^ 64
   ·rw[Os c]at p;exact⟨i,j,bt rx,bt ry,c,p _ m H Ext.refl S mkInt⟩
   ·rw[OK c]at p;exact ab p
  |_=>exact ab p
 |_=>cases y<;>exact ab p⟩
theorem Xr:lR X (aj1 .Lt) Xn:=⟨_,iI.or WS Ew,λx y a b st H m Q S rx ry p=>by
 cases x with
 |int i=>
  cases y with
  |int j=>exact .inl ⟨i,j,bt rx,bt ry,p _ m H Ext.refl S oh⟩
  |_=>exact ab p
 |str i=>
  cases y with
  |str j=>exact .inr ⟨i,j,(eS rx).1,(eS ry).1,p _ m H Ext.refl S oh⟩
  |_=>exact ab p
 |_=>cases y<;>exact ab p⟩
theorem Xs:lR X (aj1 .LtE) Xo:=⟨_,WT,λx y a b st H m Q S rx ry p=>by
 cases x with
 |int i=>
  cases y with
  |int j=>exact⟨i,j,bt rx,bt ry,p _ m H Ext.refl S oh⟩
  |_=>exact ab p
 |_=>cases y<;>exact ab p⟩
theorem Xt:lR X (aj1 .Gt) VT:=⟨_,WU,λx y a b st H m Q S rx ry p=>by
 cases x with
 |int i=>
  cases y with
  |int j=>exact⟨i,j,bt rx,bt ry,p _ m H Ext.refl S oh⟩
  |_=>exact ab p
 |_=>cases y<;>exact ab p⟩
theorem Xu:lR X (aj1 .GtE) Xp:=⟨_,WV,λx y a b st H m Q S rx ry p=>by
 cases x with
 |int i=>
  cases y with
  |int j=>exact⟨i,j,bt rx,bt ry,p _ m H Ext.refl S oh⟩
  |_=>exact ab p
 |_=>cases y<;>exact ab p⟩
def HE:jc
 |x,.cY,st=> .ok (.bl (match x with |.cY=>kt |_=>jp)) st
 |_,_,_=> .bad
theorem Xv{x:Wv}(h:aj X.K m H x a):decide (a=V.cY)=(match x with |.cY=>jp |_=>kt):=by
 cases x with
 |cY=>unfold aj at h;subst h;rfl
 |bl b=>unfold aj at h;subst h;rfl
 |int b=>unfold aj at h;subst h;rfl
 |str b=>unfold aj at h;obtain⟨h,_⟩:=h;subst h;rfl
 |tup b=>unfold aj at h;obtain⟨q,xs,h,_⟩:=h;subst h;rfl
 |j5 b=>unfold aj at h;obtain⟨q,xs,h,_⟩:=h;subst h;rfl
 |ref b=>unfold aj at h;obtain⟨q,h,_⟩:=h;subst h;rfl
 |ty b=>unfold aj at h;subst h;rfl
 |cls b=>unfold aj at h;obtain⟨q,h,_⟩:=h;subst h;rfl
 |EO b=>unfold aj at h;obtain⟨q,C,h,_⟩:=h;subst h;rfl
 |fn fp b=>unfold aj at h;obtain⟨h,_⟩:=h;subst h;rfl
theorem HF:lR X (aj1 .IsNot) HE:=⟨_,Me,λx y a b st H m Q S rx ry p=>by
 cases y with
 |cY=>refine⟨by unfold aj at ry;exact ry,?_⟩;rw[Xv rx];cases x<;>exact p _ m H Ext.refl S oh
 |_=>cases x<;>exact ab p⟩
theorem pd{a b:PySem.Str}(ha:bc a=jp)(hb:bc b=jp):bc (a++b)=true:=by unfold bc at *;show((a.cps++b.cps).all _)=jp;rw[Array.all_append,ha,hb];rfl
def Xw(K:lc):R2:=λx y H Q=>∃l b xs zs,x= .ref l/\y= .ref b/\ng K H l xs/\ng K H b zs/\xs.length+zs.length<=aj4/\∀p,H p=gV->Q (.ref p) (upd H p (.lst (xs++zs)))
theorem MO:iI X (ajX .Add) (Xw X.K):=by
 intro pins s σ H x y v u Q I rx ry h;obtain⟨l,b,xs,zs,rfl,rfl,hH,hB,hz,q⟩:=h;cases rx;cases ry;obtain⟨its,r,pl,hs⟩:=I.list hH;obtain⟨its2,r2,pl2,hs2⟩:=I.list hB;have hl:=r.length;have hl2:=r2.length;obtain⟨⟨cls,dd,data,sl⟩,ho,hc,n,hd⟩:=id pl.isList;obtain⟨⟨ab5,dd2,data2,sl2⟩,ho2,hc2,n2,hd2⟩:=id pl2.isList;simp only at hc hd hc2 hd2;subst hc hd hc2 hd2;have e:its.toArray++its2.toArray=(its++its2).toArray:=by simp
 refine PySem.concat_meets ⟨_,ho,rfl⟩ ⟨_,ho2,rfl⟩ PySem.noFill_list_add PySem.seq_list_add PySem.F.slot_list_add PySem.F.entry_list_add (PySem.F.args_list_add_2 _ _) (list_addW l b its.toArray its2.toArray n n2 dd dd2 sl sl2 (by simp;omega)) ⟨ho,ho2,?_⟩;rw[e];exact⟨.ref _,_,I.Rx (t':=s.toks) (r.append r2) (by rw[bh];omega),rfl,q _ I.fresh⟩
def Xx(K:lc):R2:=λx y H Q=>∃a b ys,x= .ref a/\y= .ref b/\hV K H a []/\hV K H b ys/\Q (.ref b) H
theorem MP:iI X (ajX .Add) (Xx X.K):=by intro pins s σ H x y v u Q I rx ry h;obtain⟨a,b,ys,rfl,rfl,ha,hb,q⟩:=h;cases rx;cases ry;obtain⟨its,r1,p1,_⟩:=I.tuple ha;obtain⟨its2,r2,p2,_⟩:=I.tuple hb;cases r1;obtain⟨⟨c1,d1,t1,l1⟩,g1,k1,n1,j1⟩:=id p1;obtain⟨⟨c2,d2,t2,l2⟩,g2,k2,n2,j2⟩:=id p2;simp only at k1 j1 k2 j2;subst k1 j1 k2 j2;exact PySem.concat_meets ⟨_,g1,rfl⟩ ⟨_,g2,rfl⟩ PySem.noFill_tuple_add PySem.seq_tuple_add PySem.F.slot_tuple_add PySem.F.entry_tuple_add (PySem.F.args_tuple_add_2 _ _) (tuple_addW0 a b #[] its2.toArray n1 n2 d1 d2 l1 l2 (by simp)) ⟨g1,g2,⟨.ref b,H,I,rfl,q⟩⟩
def aX:jc
 |.int i,.int j,st=> .ok (.int (i+j)) st
 |.str i,.str j,st=>if i.length+j.length<=lim then .ok (.str (i++j)) st else .bad
 |.tup i,.tup j,st=>if i.length+j.length<=lim then .ok (.tup (i++j)) st else .bad
 |.ref l,.ref k,st=>match ax st l,ax st k with
  |some i,bv j=>if i.length+j.length<=lim then .ok (.ref st.length) (st++[.lst (i++j)])else .bad
  |_,_=> .bad
 |_,_,_=> .bad
instance {α:Type}{xs:List α}:Decidable (xs≠[]):=match xs with
 |[]=>isFalse (λh=>h rfl)
 |_::_=>isTrue (λh=>by cases h)
theorem Sb:lR X (ajX .Add) aX:=⟨_,iI.or Q7 (iI.or A4 (iI.or Ms (iI.or MO MP))),λx y a b st H m Q S rx ry p=>by
 cases x with
 |int i=>
  cases y with
  |int j=>exact .inl ⟨i,j,bt rx,bt ry,p _ m H Ext.refl S mkInt⟩
  |_=>exact ab p
 |str i=>
  cases y with
  |str j=>
   dsimp only[aX]at p;by_cases c:i.length+j.length<=lim
   ·rw[Os c]at p;exact .inr (.inl ⟨i,j,(eS rx).1,(eS ry).1,eR c,p _ m H Ext.refl S (mkStr (pd (eS rx).2 (eS ry).2))⟩)
   ·rw[OK c]at p;exact ab p
  |_=>exact ab p
 |tup i=>
  cases y with
  |tup j=>
   dsimp only[aX]at p;by_cases c:i.length+j.length<=lim
   ·rw[Os c]at p;by_cases c0:i=[]
    ·subst c0;unfold aj at rx ry;obtain⟨a1,xs,rfl,h1,h2⟩:=rx;obtain⟨a2,ys,rfl,h3,h4⟩:=ry;have l1:xs=[]:=xY h2.length.symm;subst l1;exact .inr (.inr (.inr (.inr ⟨a1,a2,ys,rfl,rfl,hV.of h1,hV.of h3,p (.ref a2) m H Ext.refl S (by rw[iC];unfold aj;exact⟨a2,ys,rfl,h3,h4⟩)⟩)))
    unfold aj at rx ry;obtain⟨a1,xs,rfl,h1,h2⟩:=rx;obtain⟨a2,ys,rfl,h3,h4⟩:=ry;have l1:=h2.length;have l2:=h4.length;have n1:xs≠[]:=λz=>by rw[z]at l1;exact c0 (xY l1)
    refine .inr (.inr (.inl ⟨a1,a2,xs,ys,rfl,rfl,hV.of h1,hV.of h3,n1,by rw[<-l1,<-l2];exact eR c,λz=>?_,λ_ q hq=>?_⟩))
    ·rw[z]at l2;rw[xY l2,fT]at p;exact p (.ref a1) m H Ext.refl S (by unfold aj;exact⟨a1,xs,rfl,h1,h2⟩)
    have e2:Ext X.K m H m (upd H q (.tup (xs++ys))):=Ext.upd (.inl hq);exact p (.ref q) m _ e2 (S.fresh hq) (by unfold aj;exact⟨q,xs++ys,rfl,cz,ai.mono e2 _ _ (h2.append h4)⟩)
   ·rw[OK c]at p;exact ab p
  |_=>exact ab p
 |ref l=>
  cases y with
  |ref k=>
   dsimp only[aX]at p;unfold aj at rx ry;obtain⟨a1,rfl,h1⟩:=rx;obtain⟨a2,rfl,h2⟩:=ry;cases e1:ax st l with
   |none=>rw[e1]at p;exact ab p
   |some i=>
    cases e2:ax st k with
    |none=>rw[e1,e2]at p;exact ab p
    |some j=>
     rw[e1,e2]at p;by_cases c:i.length+j.length<=lim
     ·simp only[Os c]at p;obtain⟨xs,q1,q2⟩:=S.read h1 e1;obtain⟨ys,q3,q4⟩:=S.read h2 e2;exact .inr (.inr (.inr (.inl ⟨a1,a2,xs,ys,rfl,rfl,q1,q3,by rw[<-q2.length,<-q4.length];exact eR c,λq hq=>jg p Ext.refl S (q2.append q4) q hq⟩)))
     ·simp only[OK c]at p;exact ab p
  |_=>exact ab p
 |_=>cases y<;>exact ab p⟩
def tZ(n:Nat)(x:PySem.Str):PySem.Str:=⟨(aD n x.cps).foldl (· ++·) #[]⟩
end
open PySem PySem.Spec PySem.SeqAt PyProof.Rows L2
def nh{α β:Type}(f:α->Option β):List α->Option (List β)
 |[]=>bv []
 |w::ws=>match f w,nh f ws with
  |some d,bv ds=>bv (d::ds)
  |_,_=>gV
def bO(st:Hs):Nat->Wv->Option PyData
 | 0,w=>match w with
  |.cY=>bv .none
  |.bl b=>bv (.bool b)
  |.int i=>bv (.int i)
  |.str x=>bv (.str x)
  |_=>gV
 |n+1,w=>match w with
  |.cY=>bv .none
  |.bl b=>bv (.bool b)
  |.int i=>bv (.int i)
  |.str x=>bv (.str x)
  |.tup ws=>(nh (bO st n) ws).map .tuple
  |.j5 ws=>(nh (bO st n) ws).map .tuple
  |.ref l=>match ax st l with
   |some ws=>(nh (bO st n) ws).map .list
   |none=>gV
  |.ty _=>gV
  |.cls _=>gV
  |.EO _=>gV
  |.fn _ _=>gV
section
variable {X:Cx}{pins:List (ajO×Obj)}{σ:St}{H:Hp}{s:ajT}{m:Mp}{st:Hs}
def Pz(h:Heap)(n:Nat)(u:ajU)(d:PyData):Prop:=∃as,Reads h u d as/\d.canLay0=jp/\d.depth<=n
theorem mR{n:Nat}(ih:∀(w:Wv)(a:V)(u:ajU)(d:PyData),aj X.K m H w a->RelV a u->bO st n w=bv d->Pz s.heap n u d):
  ∀(ws:List Wv)(xs:List V)(us:List ajU)(ds:List PyData),ai X.K m H ws xs->Vals xs us->nh (bO st n) ws=bv ds->∃as,ReadsAll s.heap us ds as/\Dh ds=jp/\pe ds<=n
 |[],xs,us,ds,h,r,e=>by unfold ai at h;subst h;cases r;cases e;exact⟨[],.nil,rfl,dz _⟩
 |w::ws,xs,us,ds,h,r,e=>by
  unfold ai at h;obtain⟨x,xr,rfl,h1,h2⟩:=h;cases r with
  |cons r1 r2=>
   unfold nh at e;cases e1:bO st n w with
   |none=>rw[e1]at e;cases e
   |some d=>
    cases e2:nh (bO st n) ws with
    |none=>rw[e1,e2]at e;cases e
    |some dr=>
     rw[e1,e2]at e;cases e;obtain⟨as,q1,q2,q3⟩:=ih w x _ d h1 r1 e1;obtain⟨bs,p1,p2,p3⟩:=mR ih ws xr _ dr h2 r2 e2;refine⟨as++bs,.cons q1 p1,?_,?_⟩
     ·show(PyData.canLay0 d&&Dh dr)=jp;rw[q2,p2];rfl
     ·show max d.depth (pe dr)<=n;omega
theorem iK(I:Inv X pins σ H s)(S:cA X.K m st H):∀(n:Nat)(w:Wv)(a:V)(u:ajU)(d:PyData),aj X.K m H w a->RelV a u->bO st n w=bv d->Pz s.heap n u d:=by
 intro n
 induction n with
 |zero=>
  intro w a u d h r e;cases w with
  |cY=>unfold aj at h;subst h;cases r;cases e;exact⟨[],.none,rfl,av _⟩
  |bl b=>unfold aj at h;subst h;cases r;cases e;exact⟨[],.bool b,rfl,av _⟩
  |int i=>unfold aj at h;subst h;obtain⟨t,rfl⟩:=r;cases e;exact⟨[],.int i t,rfl,av _⟩
  |str x=>unfold aj at h;obtain⟨rfl,hx⟩:=h;obtain⟨t,rfl⟩:=r;cases e;exact⟨[],.str x t,hx,av _⟩
  |tup ws=>cases e
  |j5 ws=>cases e
  |ref l=>cases e
  |ty t=>cases e
  |cls t=>cases e
  |EO t=>cases e
  |fn fp t=>cases e
 |succ n ih=>
  intro w a u d h r e;cases w with
  |cY=>unfold aj at h;subst h;cases r;cases e;exact⟨[],.none,rfl,dz _⟩
  |bl b=>unfold aj at h;subst h;cases r;cases e;exact⟨[],.bool b,rfl,dz _⟩
  |int i=>unfold aj at h;subst h;obtain⟨t,rfl⟩:=r;cases e;exact⟨[],.int i t,rfl,dz _⟩
  |str x=>unfold aj at h;obtain⟨rfl,hx⟩:=h;obtain⟨t,rfl⟩:=r;cases e;exact⟨[],.str x t,hx,dz _⟩
  |ty t=>cases e
  |cls t=>cases e
  |EO t=>cases e
  |fn fp t=>cases e
  |tup ws=>
   unfold aj at h;obtain⟨p,xs,rfl,h1,h2⟩:=h;cases r;have e':(nh (bO st n) ws).map PyData.tuple=bv d:=e;cases e2:nh (bO st n) ws with
   |none=>rw[e2]at e';cases e'
   |some ds=>rw[e2]at e';cases e';obtain⟨its,rv,ht,hz⟩:=I.tuple (hV.of h1);obtain⟨as,q1,q2,q3⟩:=mR ih ws xs its ds h2 rv e2;obtain⟨o,ho,hc,k,hd⟩:=ht;exact⟨as,.tuple ho hc hd (by simpa using q1),q2,Di q3⟩
  |j5 ws=>
   unfold aj at h;obtain⟨p,xs,rfl,h1,h2⟩:=h;cases r;have e':(nh (bO st n) ws).map PyData.tuple=bv d:=e;cases e2:nh (bO st n) ws with
   |none=>rw[e2]at e';cases e'
   |some ds=>rw[e2]at e';cases e';obtain⟨its,rv,ht,hz⟩:=I.tuple (.inr h1);obtain⟨as,q1,q2,q3⟩:=mR ih ws xs its ds h2 rv e2;obtain⟨o,ho,hc,k,hd⟩:=ht;exact⟨as,.tuple ho hc hd (by simpa using q1),q2,Di q3⟩
  |ref l=>
   unfold aj at h;obtain⟨p,rfl,h1⟩:=h;cases r;have e':(match ax st l with |some ws=>(nh (bO st n) ws).map xZ |none=>gV)=bv d:=e
   cases e1:ax st l with
   |none=>rw[e1]at e';cases e'
   |some ws=>
    rw[e1]at e';have e'':(nh (bO st n) ws).map xZ=bv d:=e';cases e2:nh (bO st n) ws with
    |none=>rw[e2]at e'';cases e''
    |some ds=>rw[e2]at e'';cases e'';obtain⟨xs,hq,h2⟩:=S.read h1 e1;obtain⟨its,rv,ht,hz⟩:=I.list hq;obtain⟨as,q1,q2,q3⟩:=mR ih ws xs its ds h2 rv e2;obtain⟨o,ho,hc,k,hd⟩:=ht.isList;exact⟨_,.list ho hc hd (by simpa using q1),q2,Di q3⟩
end
def oEq:jc:=λx y st=>match bO st 20 x,bO st 20 y with
 |some a,bv b=> .ok (.bl (k8 a b)) st
 |_,_=> .bad
def lU:jc:=λx y st=>match bO st 20 x,bO st 20 y with
 |some a,bv b=> .ok (.bl (!PyData.eqv a b)) st
 |_,_=> .bad
variable{x:Wv}{a:Expr}{g:GE}{xs:List V}{z:PySem.Str}{hi:Option Int}
section
variable {X:Cx}
def Xy(K:lc)(neg:Bool):R2:=λa b H Q=>∃m st x y da db,cA K m st H/\aj K m H x a/\aj K m H y b/\bO st 20 x=bv da/\bO st 20 y=bv db/\Q (.bl (if neg then !PyData.eqv da db else k8 da db)) H
theorem mS{d:PyData}(hn:n<=64)(h:d.canLay0=jp)(k:d.depth<=n):shaped d=true:=by unfold shaped;rw[h,decide_eq_true (aA k hn)];rfl
theorem Sd(hu:X.A.units+64 < cLine):iI X (aj1 .Eq) (Xy X.K kt):=by intro pins s σ H a b v u Q I rx ry h;obtain⟨m,st,x,y,da,db,S,h1,h2,e1,e2,q⟩:=h;obtain⟨as,q1,q2,q3⟩:=iK I S 20 x a v da h1 rx e1;obtain⟨bs,p1,p2,p3⟩:=iK I S 20 y b u db h2 ry e2;exact eq_dataH q1 p1 (mS (by decide) q2 q3) (mS (by decide) p2 p3) hu ⟨.bl _,H,I,rfl,q⟩
theorem Se(hu:X.A.units+64 < cLine):iI X (aj1 .NotEq) (Xy X.K jp):=by intro pins s σ H a b v u Q I rx ry h;obtain⟨m,st,x,y,da,db,S,h1,h2,e1,e2,q⟩:=h;obtain⟨as,q1,q2,q3⟩:=iK I S 20 x a v da h1 rx e1;obtain⟨bs,p1,p2,p3⟩:=iK I S 20 y b u db h2 ry e2;exact ne_dataH q1 p1 (mS (by decide) q2 q3) (mS (by decide) p2 p3) hu ⟨.bl _,H,I,rfl,q⟩
theorem Xz(hu:X.A.units+64 < cLine):lR X (aj1 .Eq) oEq:=⟨_,Sd hu,λx y a b st H m Q S rx ry p=>by
 unfold oEq at p;cases e1:bO st 20 x with
 |none=>rw[e1]at p;exact ab p
 |some da=>
  cases e2:bO st 20 y with
  |none=>rw[e1,e2]at p;exact ab p
  |some db=>rw[e1,e2]at p;exact⟨m,st,x,y,da,db,S,rx,ry,e1,e2,p _ m H Ext.refl S oh⟩⟩
theorem XA(hu:X.A.units+64 < cLine):lR X (aj1 .NotEq) lU:=⟨_,Se hu,λx y a b st H m Q S rx ry p=>by
 unfold lU at p;cases e1:bO st 20 x with
 |none=>rw[e1]at p;exact ab p
 |some da=>
  cases e2:bO st 20 y with
  |none=>rw[e1,e2]at p;exact ab p
  |some db=>rw[e1,e2]at p;exact⟨m,st,x,y,da,db,S,rx,ry,e1,e2,p _ m H Ext.refl S oh⟩⟩
def cU:Wv->Bool
 |.cY=>jp
 |.bl _=>jp
 |.int _=>jp
 |.str _=>jp
 |_=>kt
def wz:Wv->Wv->Bool
 |.cY,.cY=>jp
 |.bl a,.bl b=>a == b
 |.bl a,.int b=>(if a then 1 else 0) == b
 |.int a,.bl b=>a == (if b then 1 else 0)
 |.int a,.int b=>a == b
 |.str a,.str b=>a == b
 |_,_=>kt
def pf(st:Hs):Wv->Option (List Wv)
 |.tup ws=>bv ws
 |.j5 ws=>bv ws
 |.ref l=>ax st l
 |_=>gV
def oIn:jc:=λx y st=>match pf st y with
 |some ws=>if cU x=jp/\ws.all cU=jp then .ok (.bl (ws.any λz=>wz z x)) st else .bad
 |none=> .bad
theorem kg{a:V}(h:aj X.K m H x a)(f:cU x=jp):h_ a=true:=by
 cases x with
 |cY=>unfold aj at h;subst h;rfl
 |bl b=>unfold aj at h;subst h;rfl
 |int b=>unfold aj at h;subst h;rfl
 |str b=>unfold aj at h;obtain⟨h,_⟩:=h;subst h;rfl
 |_=>cases f
theorem x8{y:Wv}{a b:V}(h:aj X.K m H x a)(k:aj X.K m H y b)(f:cU x=jp)(g:cU y=jp):y_ a b=wz x y:=by
 cases x with
 |cY=>
  unfold aj at h;subst h;cases y with
  |str j=>unfold aj at k;obtain⟨k,_⟩:=k;subst k;rfl
  |tup j=>cases g
  |j5 j=>cases g
  |ref j=>cases g
  |ty j=>cases g
  |cls j=>cases g
  |EO j=>cases g
  |fn fp j=>cases g
  |_=>unfold aj at k;subst k;rfl
 |bl i=>
  unfold aj at h;subst h;cases y with
  |str j=>unfold aj at k;obtain⟨k,_⟩:=k;subst k;rfl
  |tup j=>cases g
  |j5 j=>cases g
  |ref j=>cases g
  |ty j=>cases g
  |cls j=>cases g
  |EO j=>cases g
  |fn fp j=>cases g
  |_=>unfold aj at k;subst k;rfl
 |int i=>
  unfold aj at h;subst h;cases y with
  |str j=>unfold aj at k;obtain⟨k,_⟩:=k;subst k;rfl
  |tup j=>cases g
  |j5 j=>cases g
  |ref j=>cases g
  |ty j=>cases g
  |cls j=>cases g
  |EO j=>cases g
  |fn fp j=>cases g
  |_=>unfold aj at k;subst k;rfl
 |str i=>
  unfold aj at h;obtain⟨h,_⟩:=h;subst h;cases y with
  |str j=>unfold aj at k;obtain⟨k,_⟩:=k;subst k;rfl
  |tup j=>cases g
  |j5 j=>cases g
  |ref j=>cases g
  |ty j=>cases g
  |cls j=>cases g
  |EO j=>cases g
  |fn fp j=>cases g
  |_=>unfold aj at k;subst k;rfl
 |_=>cases f
theorem wC{m:Mp}{H:Hp}{x:Wv}{a:V}(h:aj X.K m H x a)(f:cU x=jp):∀{ws:List Wv}{xs:List V},ai X.K m H ws xs->ws.all cU=jp->xs.all h_=jp/\inV a xs=ws.any λz=>wz z x
 |[],xs,r,_=>by unfold ai at r;subst r;exact⟨rfl,rfl⟩
 |w::ws,xs,r,g=>by
  unfold ai at r;obtain⟨y,yr,rfl,r1,r2⟩:=r;rw[fj,cZ]at g;obtain⟨q1,q2⟩:=wC h f r2 g.2;constructor
  ·rw[fj,kg r1 g.1,q1];rfl
  ·unfold inV at q2 ⊢;rw[kY,kY,x8 r1 h g.1 f,q2]
theorem x9{y:Wv}{b:V}(S:cA X.K m st H)(h:aj X.K m H y b)(e:pf st y=bv ws):∃p xs,b= .ref p/\(ng X.K H p xs\/hV X.K H p xs)/\ai X.K m H ws xs:=by
 cases y with
 |tup zs=>cases e;unfold aj at h;obtain⟨p,xs,e1,e2,e3⟩:=h;exact⟨p,xs,e1,.inr (hV.of e2),e3⟩
 |j5 zs=>cases e;unfold aj at h;obtain⟨p,xs,e1,e2,e3⟩:=h;exact⟨p,xs,e1,.inr (.inr e2),e3⟩
 |ref l=>unfold aj at h;obtain⟨p,e1,e2⟩:=h;obtain⟨xs,q1,q2⟩:=S.read e2 e;exact⟨p,xs,e1,.inl q1,q2⟩
 |_=>cases e
theorem XB:lR X (aj1 .In) oIn:=⟨_,EI,λx y a b st H m Q S rx ry p=>by
 unfold oIn at p;cases e:pf st y with
 |none=>rw[e]at p;exact ab p
 |some ws=>
  rw[e]at p;by_cases c:cU x=jp/\ws.all cU=jp
  ·simp only[Os c]at p;obtain⟨q,xs,e1,e2,e3⟩:=x9 S ry e;obtain⟨f1,f2⟩:=wC rx c.1 e3 c.2;refine⟨q,xs,e1,e2,kg rx c.1,f1,?_⟩;rw[f2];exact p _ m H Ext.refl S oh
  ·simp only[OK c]at p;exact ab p⟩
def aV:jc
 |.str z,.int i,st=>if z.length<=lim then(match kX z.cps.toList i with |some c=> .ok (.str ⟨#[c]⟩) st |none=> .bad)else .bad
 |x,.int i,st=>match pf st x with
  |some ws=>(match kX ws i with |some w=> .ok w st |none=> .bad)
  |none=> .bad
 |_,_,_=> .bad
theorem MQ{w:Wv}(r:ai X.K m H ws xs)(h:kX ws i=bv w):∃x,kX xs i=bv x/\aj X.K m H w x:=by
 unfold kX at h ⊢;rw[<-r.length];cases e:xM ws.length i with
 |none=>rw[e]at h;cases h
 |some j=>rw[e]at h;exact r.get h
theorem MR{α:Type}{xs:List α}{v:α}(h:kX xs i=bv v):v∈xs:=by obtain⟨j,_,h2,_⟩:=sE h;exact sC h2
theorem ES{c:Nat}(h:bc z=jp)(hc:c∈z.cps.toList):bc ⟨#[c]⟩=true:=by unfold bc at h ⊢;rw[PB]at h;have q:=h c (by simpa using hc);simpa using q
theorem XC(ha:JE X a ga)(hb:JE X b gb)(hs:C7 b:=by exact λ_ _=>rfl):JE X (.Subscript a b pos) (af aV ga gb) :=
 JE.of (W6 Ru bq bq hs) λρ st σ H m Q S R p=>Df (op:=aV) (λx y a b st H m Q S rx ry p=>by
  have seqs:∀(i:Int),y= .int i->(match pf st x with |some ws=>(match kX ws i with |some w=>Re.ok w st |none=> .bad) |none=> .bad)=aV x y st->rIx X.K a b H Q:=λi hy hp=>by
   subst hy;rw[<-hp]at p;cases e:pf st x with
   |none=>rw[e]at p;exact ab p
   |some ws=>
    rw[e]at p;dsimp only at p;cases e1:kX ws i with
    |none=>rw[e1]at p;exact ab p
    |some w=>
     rw[e1]at p;obtain⟨q,xs,e2,e3,e4⟩:=x9 S rx e;obtain⟨v,f1,f2⟩:=MQ e4 e1;rcases e3 with e3 |e3
     ·exact .inl ⟨q,xs,i,v,e2,bt ry,e3,f1,p v m H Ext.refl S f2⟩
     ·exact .inr (.inl ⟨q,xs,i,v,e2,bt ry,e3,f1,p v m H Ext.refl S f2⟩)
  cases y with
  |int i=>
   cases x with
   |str z=>
    dsimp only[aV]at p;by_cases c:z.length<=lim
    ·simp only[Os c]at p;cases e1:kX z.cps.toList i with
     |none=>rw[e1]at p;exact ab p
     |some ch=>rw[e1]at p;exact .inr (.inr ⟨z,i,ch,(eS rx).1,bt ry,eR c,e1,p _ m H Ext.refl S (mkStr (ES (eS rx).2 (MR e1)))⟩)
    ·simp only[OK c]at p;exact ab p
   |_=>exact seqs i rfl rfl
  |_=>cases x<;>exact ab p) ha hb S R p
abbrev GO:=b7->Hs->Re (Option Int)
def SO(X:Cx)(e:Option Expr):TO:=λσ H Q=>∀(pins:List (ajO×Obj))(s:ajT),Inv X pins σ H s->aj6 (model X.prog X.w) X.A (evalPart e X.env) (λu s'=>∃o H',Inv X pins σ H' s'/\IsPart u o/\Q o H') X.xe s
theorem wD{e:Option Expr}:PO X e (SO X e):=λpins s _ _ _ I h=>h pins s I
def okO(K:lc)(m:Mp)(H:Hp)(Q:Option Int->Hp->Prop)(o:Option Int)(st:Hs):Prop:=∀(m':Mp)(H':Hp),Ext K m H m' H'->cA K m' st H'->Q o H'
def JO(X:Cx)(e:Option Expr)(g:GO):Prop:=∀(ρ:b7)(st:Hs)(σ:St)(H:Hp)(m:Mp)(Q:Option Int->Hp->Prop),cA X.K m st H->a_ X.K m H ρ σ->aE X σ m H (g ρ st) (okO X.K m H Q)->SO X e σ H Q
def bP:GO:=λ_ st=> .ok gV st
def cJ(g:GE):GO:=λρ st=>(g ρ st).bind λw st1=>match w with
 |.int i=> .ok (bv i) st1
 |_=> .bad
theorem MS:JO X gV bP:=λρ st σ H m Q S R p pins s I=>Mq pins s σ H Q I (p m H Ext.refl S)
theorem MT(h:JE X e g):JO X (bv e) (cJ g):=λρ st σ H m Q S R p pins s I=>
 Mr bq pins s σ H Q I (h.go S R (aE.bind p) λw st1 v m1 H1 p1 e1 S1 r1=>by
  cases w with
  |int i=>exact⟨i,bt r1,p1 m1 H1 e1 S1⟩
  |_=>exact ab p1)
theorem JO.go{e:Option Expr}{g:GO}{T:Option Int->Hp->Prop}{ok:Option Int->Hs->Prop}(h:JO X e g)(S:cA X.K m st H)(R:a_ X.K m H ρ σ)(p:aE X σ m H (g ρ st) ok)
  (k:∀(b:Option Int)(st1:Hs)(m1:Mp)(H1:Hp),ok b st1->Ext X.K m H m1 H1->cA X.K m1 st1 H1->T b H1):SO X e σ H T :=
 h ρ st σ H m T S R (p.imp Ext.refl λb st1 q m1 H1 e1 s1=>k b st1 m1 H1 q e1 s1)
def i7(xs:List Wv)(lo hi:Option Int):List Wv:=(xs.drop (HT.ff xs.length 0 lo)).take (HT.ff xs.length xs.length hi - HT.ff xs.length 0 lo)
def Sf(x:Wv)(lo hi:Option Int)(st:Hs):Re Wv:=match x with
 |.tup ws=>if HT.ff ws.length 0 lo=0/\HT.ff ws.length ws.length hi=ws.length then .bad else .ok (.tup (i7 ws lo hi)) st
 |.ref l=>match ax st l with
  |some ws=> .ok (.ref st.length) (st++[.lst (i7 ws lo hi)])
  |none=> .bad
 |_=> .bad
theorem x_{lo:Option Int}(r:ai X.K m H ws xs):ai X.K m H (i7 ws lo hi) (vE xs lo hi):=by unfold i7 vE;rw[<-r.length];exact(r.drop _).take _
def Bp(ga:GE)(gl gh:GO):GE:=λρ st=>(ga ρ st).bind λx st1=>(gl ρ st1).bind λlo st2=>(gh ρ st2).bind λhi st3=>Sf x lo hi st3
theorem zh{lo hi:Option Expr}{gl gh:GO}{p2:Pos}(ha:JE X a ga)(hl:JO X lo gl)(hh:JO X hi gh):JE X (.Subscript a (.Slice lo hi gV p2) pos) (Bp ga gl gh):=by
 refine JE.of (tK (GZ.or Mv) bq wD wD) λρ st σ H m Q S R p=>?_;refine ha.go S R (aE.bind p) λx st1 v m1 H1 p1 e1 S1 rx=>?_;refine hl.go S1 (R.mono e1) ((aE.bind p1).imp e1 λ_ _ q=>q) λl st2 m2 H2 p2 e2 S2=>?_;refine hh.go S2 (R.mono (e1.trans e2)) ((aE.bind p2).imp (e1.trans e2) λ_ _ q=>q) λh st3 m3 H3 p3 e3 S3=>?_;have LL:=e1.trans (e2.trans e3);have rx3:=aj.mono (e2.trans e3) _ _ rx;cases x with
 |tup ws=>
  have ph:eh X σ m H (if HT.ff ws.length 0 l=0/\HT.ff ws.length ws.length h=ws.length then .bad else .ok (.tup (i7 ws l h)) st3) Q:=p3;by_cases c:HT.ff ws.length 0 l=0/\HT.ff ws.length ws.length h=ws.length
  ·rw[Os c]at ph;exact ab ph
  ·rw[OK c]at ph;unfold aj at rx3;obtain⟨q,xs,rfl,f1,f2⟩:=rx3;refine .inl ⟨q,xs,rfl,hV.of f1,by rw[<-f2.length];exact c,λr hr=>?_⟩;have e4:Ext X.K m3 H3 m3 (upd H3 r (.tup (vE xs l h))):=Ext.upd (.inl hr);exact ph (.ref r) m3 _ (LL.trans e4) (S3.fresh hr) (by unfold aj;exact⟨r,_,rfl,cz,ai.mono e4 _ _ (x_ f2)⟩)
 |ref k=>
  have ph:eh X σ m H (match ax st3 k with |some ws=> .ok (.ref st3.length) (st3++[.lst (i7 ws l h)]) |none=> .bad) Q:=p3
  unfold aj at rx3;obtain⟨q,rfl,f1⟩:=rx3;cases e:ax st3 k with
  |none=>rw[e]at ph;exact ab ph
  |some ws=>rw[e]at ph;obtain⟨xs,g1,g2⟩:=S3.read f1 e;exact .inr ⟨q,xs,rfl,g1,λr hr=>jg ph LL S3 (x_ g2) r hr⟩
 |_=>exact ab p3
end
variable{x:Str}{gb:GS}{op:List Wv->Hs->Re Wv}{p pos':Pos}{s:Stmt}{go gi ge:GE}
section
variable {X:Cx}
def et(X:Cx)(f:ajU)(op:List Wv->Hs->Re Wv):Prop:=∃r,fS X f r/\∀(ws:List Wv)(vs:List V)(st:Hs)(H:Hp)(m:Mp)(Q:VK),cA X.K m st H->ai X.K m H ws vs->eo X.K m H (op ws st) Q->r vs H Q
def aH(op:List Wv->Hs->Re Wv)(g:GA):GE:=λρ st=>(g ρ st).bind λws st1=>(op ws st1).mP
theorem HG{id:String}{g:GA}(hc:et X (.builtin id) op)(hg:Gl X x)(hm:X.mg x=gV)(hv:ajY x=bv (.builtin id))(ha:JA X (e::es) g)
  (hn:x≠"__name__":=by decide)(hdb:(x == ("__debug__":Str))=false:=by decide)(he:aj5 (e::es) X.env=(kt,eval e X.env)::aj5 es X.env:=by rfl)(hpl:(backTo pos (aj5 es X.env)).any (·.1)=false:=by rfl):
  JE X (.Call (.Name x p) (e::es) [] pos) (aH op g):=by
 obtain⟨r,h1,h2⟩:=hc;refine JE.of (GV h1 hg hm hv lZ hn hdb he hpl) λρ st σ H m Q S R p=>?_;exact ha.go S R (aE.bind p) λws st1 vs m1 H1 p1 e1 S1 rs=>h2 ws vs st1 H1 m1 Q S1 rs (eo.shift (aE.mP p1) e1)
theorem ET{g:GA}(hc:et X (.type T) op)(hg:Gl X x)(hm:X.mg x=gV)(hv:ajY x=bv (.type T))(ha:JA X (e::es) g)
  (hn:x≠"__name__":=by decide)(hdb:(x == ("__debug__":Str))=false:=by decide)(he:aj5 (e::es) X.env=(kt,eval e X.env)::aj5 es X.env:=by rfl)(hpl:(backTo pos (aj5 es X.env)).any (·.1)=false:=by rfl):
  JE X (.Call (.Name x p) (e::es) [] pos) (aH op g):=by
 obtain⟨r,h1,h2⟩:=hc;refine JE.of (EH h1 hg hm hv lZ hn hdb he hpl) λρ st σ H m Q S R p=>?_;exact ha.go S R (aE.bind p) λws st1 vs m1 H1 p1 e1 S1 rs=>h2 ws vs st1 H1 m1 Q S1 rs (eo.shift (aE.mP p1) e1)
theorem kh{w:Wv}(r:ai X.K m H [w] vs):∃v,vs=[v]/\aj X.K m H w v:=by unfold ai at r;obtain⟨v,t,rfl,h1,h2⟩:=r;unfold ai at h2;subst h2;exact⟨v,rfl,h1⟩
theorem MU{w w':Wv}(r:ai X.K m H [w,w'] vs):∃v v',vs=[v,v']/\aj X.K m H w v/\aj X.K m H w' v':=by unfold ai at r;obtain⟨v,t,rfl,h1,h2⟩:=r;obtain⟨v',rfl,h3⟩:=kh h2;exact⟨v,v',rfl,h1,h3⟩
def dH:List Wv->Hs->Re Wv
 |[.str z],st=>if z.length<=lim then .ok (.int z.length) st else .bad
 |[x],st=>match pf st x with
  |some ws=> .ok (.int ws.length) st
  |none=> .bad
 |_,_=> .bad
theorem Bq:et X (.builtin "len") dH:=⟨_,xP.or xQ,λws vs st H m Q S r p=>by
 match ws,r,p with
 |[],r,p=>exact ab p
 |x::y::t,r,p=>cases x<;>exact ab p
 |[x],r,p=>
  obtain⟨v,rfl,rx⟩:=kh r;have seqs:(match pf st x with |some ws=>Re.ok (Wv.int ws.length) st |none=> .bad)=dH [x] st->(∃p ys,[v]=[V.ref p]/\(ng X.K H p ys\/hV X.K H p ys)/\Q (.int ys.length) H):=λhp=>by
   rw[<-hp]at p;cases e:pf st x with
   |none=>rw[e]at p;exact ab p
   |some ws=>rw[e]at p;obtain⟨q,xs,rfl,e2,e3⟩:=x9 S rx e;refine⟨q,xs,rfl,e2,?_⟩;rw[<-e3.length];exact p _ m H Ext.refl S mkInt
  cases x with
  |str z=>
   have p':eo X.K m H (if z.length<=lim then .ok (.int z.length) st else .bad) Q:=p;by_cases c:z.length<=lim
   ·rw[Os c]at p';obtain⟨rfl,_⟩:=eS rx;exact .inr ⟨z,rfl,eR c,p' _ m H Ext.refl S mkInt⟩
   ·rw[OK c]at p';exact ab p'
  |_=>exact .inl (seqs rfl)⟩
def MV:List Wv->Hs->Re Wv
 |[.int i],st=> .ok (.int (if i < 0 then -i else i)) st
 |_,_=> .bad
theorem Sh:et X (.builtin "abs") MV:=⟨_,GK,λws vs st H m Q S r p=>by
 match ws,r,p with
 |[],r,p=>exact ab p
 |x::y::t,r,p=>cases x<;>exact ab p
 |[x],r,p=>
  obtain⟨v,rfl,rx⟩:=kh r;cases x with
  |int i=>cases bt rx;exact⟨i,rfl,p _ m H Ext.refl S mkInt⟩
  |_=>exact ab p⟩
def MW(st:Hs)(T:String):Wv->Option Bool
 |.cY=>bv kt
 |.bl _=>bv (T == "bool"||T == "int")
 |.int _=>bv (T == "int")
 |.str _=>bv (T == "str")
 |.tup _=>bv (T == "tuple")
 |.j5 _=>gV
 |.ref l=>(ax st l).map λ_=>T == "list"
 |.ty _=>gV
 |.cls _=>gV
 |.EO _=>gV
 |.fn _ _=>gV
def r_(T:String):Bool:=T == "int"||T == "str"||T == "bool"||T == "tuple"||T == "list"
def XD:List Wv->Hs->Re Wv
 |[x,.ty T],st=>if r_ T=jp then(match MW st T x with |some b=> .ok (.bl b) st |none=> .bad)else .bad
 |_,_=> .bad
def aci(K:lc):List V->Hp->VK->Prop:=λvs H Q=>∃m st x T v b,vs=[v,.ty T]/\cA K m st H/\aj K m H x v/\r_ T=jp/\MW st T x=bv b/\Q (.bl b) H
theorem ib(h:r_ T=jp):T="int"\/T="str"\/T="bool"\/T="tuple"\/T="list":=by unfold r_ at h;simp only[ya,beq_iff_eq]at h;rcases h with (((h |h) |h) |h) |h<;>simp[h]
theorem HH(h:r_ T=jp):wP K (.type "NoneType") (.type T)=bv false:=by rcases ib h with rfl |rfl |rfl |rfl |rfl<;>kernel_rfl
theorem HI(h:r_ T=jp):wP K (.type "bool") (.type T)=bv (T == "bool"||T == "int"):=by rcases ib h with rfl |rfl |rfl |rfl |rfl<;>kernel_rfl
theorem MX(h:r_ T=jp):wP K (.type "int") (.type T)=bv (T == "int"):=by rcases ib h with rfl |rfl |rfl |rfl |rfl<;>kernel_rfl
theorem MY(h:r_ T=jp):wP K (.type "str") (.type T)=bv (T == "str"):=by rcases ib h with rfl |rfl |rfl |rfl |rfl<;>kernel_rfl
theorem MZ(h:r_ T=jp):wP K (.type "tuple") (.type T)=bv (T == "tuple"):=by rcases ib h with rfl |rfl |rfl |rfl |rfl<;>kernel_rfl
theorem HJ(h:r_ T=jp):wP K (.type "list") (.type T)=bv (T == "list"):=by rcases ib h with rfl |rfl |rfl |rfl |rfl<;>kernel_rfl
theorem HK:fS X (.builtin "isinstance") (aci X.K):=by
 intro pins s σ H xs us Q I r h;obtain⟨m,st,x,T,v,b,rfl,S,rx,hT,hb,q⟩:=h;obtain⟨u,u',rfl,r1,r2⟩:=vals2 r;cases r2;have fin:∀tk,EP X pins σ Q (.bool b) { s with toks:=tk }:=λtk=>⟨.bl b,H,I.tok tk,rfl,q⟩;cases x with
 |cY=>unfold aj at rx;subst rx;cases r1;cases hb;exact AC PySem.W.kitx_none I.qR trivial (HH hT) (by intro z;cases z) fin
 |bl c=>unfold aj at rx;subst rx;cases r1;cases hb;exact AC PySem.W.kitx_bool I.qR trivial (HI hT) (by intro z;cases z) fin
 |int c=>unfold aj at rx;subst rx;obtain⟨t,rfl⟩:=r1;cases hb;exact AC PySem.W.kitx_int I.qR trivial (MX hT) (by intro z;cases z) fin
 |str c=>obtain⟨rfl,_⟩:=eS rx;obtain⟨t,rfl⟩:=r1;cases hb;exact AC PySem.W.kitx_str I.qR trivial (MY hT) (by intro z;cases z) fin
 |tup ws=>unfold aj at rx;obtain⟨a,xs,rfl,h1,h2⟩:=rx;cases r1;cases hb;obtain⟨its,rv,⟨o,ho,hc,_⟩,hz⟩:=I.tuple (hV.of h1);exact AC PySem.W.kitx_tuple I.qR ⟨o,ho,hc⟩ (MZ hT) (by intro z;cases z) fin
 |ref l=>
  unfold aj at rx;obtain⟨a,rfl,h1⟩:=rx;cases r1;have hb':(ax st l).map (λ_=>T == "list")=bv b:=hb;cases e:ax st l with
  |none=>rw[e]at hb';cases hb'
  |some ws=>rw[e]at hb';cases hb';obtain⟨xs,hq,h2⟩:=S.read h1 e;obtain⟨its,rv,ht,hz⟩:=I.list hq;obtain⟨o,ho,hc,_⟩:=ht.isList;exact AC PySem.W.kitx_list I.qR ⟨o,ho,hc⟩ (HJ hT) (by intro z;cases z) fin
 |_=>cases hb
theorem Si:et X (.builtin "isinstance") XD:=⟨_,HK,λws vs st H m Q S r p=>by
 match ws,r,p with
 |[],r,p=>exact ab p
 |[x],r,p=>cases x<;>exact ab p
 |x::y::z::t,r,p=>cases y<;>exact ab p
 |[x,y],r,p=>
  obtain⟨v,v',rfl,rx,ry⟩:=MU r;cases y with
  |ty T=>
   unfold aj at ry;subst ry;have p':eo X.K m H (if r_ T=jp then(match MW st T x with |some b=> .ok (.bl b) st |none=> .bad)else .bad) Q:=p
   by_cases c:r_ T=jp
   ·rw[Os c]at p';cases e:MW st T x with
    |none=>rw[e]at p';exact ab p'
    |some b=>rw[e]at p';exact⟨m,st,x,T,v,b,rfl,S,rx,c,e,p' _ m H Ext.refl S oh⟩
   ·rw[OK c]at p';exact ab p'
  |_=>exact ab p⟩
def aN:GS:=λρ st=> .nx ρ st
def aq(g h:GS):GS:=λρ st=>match g ρ st with
 |.nx ρ' st'=>h ρ' st'
 |r=>r
theorem M1:tY X [] aN:=tY.of L7 λρ st σ H m D S R p=>p σ m H Ext.refl S R
theorem HL{rest:List Stmt}{g h:GS}(h1:JS X s g)(h2:tY X rest h):tY X (s::rest) (aq g h) :=
 tY.of (Gv Pw k7) λρ st σ H m D S R p=>h1 ρ st σ H m _ S R (by
  unfold aq at p;cases e:g ρ st with
  |nx ρ' st'=>rw[e]at p;exact λσ' m' H' e' S' R'=>h2 ρ' st' σ' H' m' D S' R' (bE.shift p e')
  |rt w st'=>rw[e]at p;exact p
  |bk ρ' st'=>rw[e]at p;exact p
  |ct ρ' st'=>rw[e]at p;exact p
  |err c ρ' st'=>rw[e]at p;exact p
  |bad=>rw[e]at p;exact p)
theorem M3{g:GS}(h1:JS X s g):tY X [s] g:=tY.of (L8 Pw) λρ st σ H m D S R p=>h1 ρ st σ H m D S R p
def aQ(g:GE):GS:=λρ st=>(g ρ st).bR ρ λw st'=> .rt w st'
theorem Sj(h:JE X e g):JS X (.Return (bv e) pos) (aQ g) :=
 JS.of (QX bq) λρ st σ H m D S R p=>h.go S R (bE.fU R p) λw st1 v m1 H1 q e1 S1 r1=>q v m1 H1 e1 S1 r1
theorem M4:JS X (.Pass pos) aN:=JS.of L9 λρ st σ H m D S R p=>p σ m H Ext.refl S R
def gP(g:GE):GS:=λρ st=>(g ρ st).bR ρ λ_ st'=> .nx ρ st'
theorem M5(h:JE X e g)(hs:swapsWith e gV pos.line X.env=pure false:=by rfl):JS X (.Expr e pos) (gP g) :=
 JS.of (L_ bq hs) λρ st σ H m D S R p=>h.go S R (bE.fU R p) λw st1 v m1 H1 q e1 S1 r1=>q σ m1 H1 e1 S1 (R.mono e1)
def cR(gt:GT)(ga gb:GS):GS:=λρ st=>(gt ρ st).bR ρ λb st'=>if b=jp then ga ρ st' else gb ρ st'
theorem XE{a b:List Stmt}{ga:GS}(hc:JT X c gt)(ha:tY X a ga)(hb:tY X b gb):JS X (.If c a b pos) (cR gt ga gb) :=
 JS.of (WI qW k7 k7) λρ st σ H m D S R p=>hc.go S R (bE.fU R p) λk st1 m1 H1 q e1 S1=>by
  cases k with
  |true=>rw[Os rfl]at q ⊢;exact ha ρ st1 σ H1 m1 D S1 (R.mono e1) (bE.shift q e1)
  |false=>rw[OK cS]at q ⊢;exact hb ρ st1 σ H1 m1 D S1 (R.mono e1) (bE.shift q e1)
def aO(i:Nat)(g:GE):GS:=λρ st=>(g ρ st).bR ρ λw st'=> .nx (ρ.set i (bv w)) st'
theorem HM(i:Nat)(hN:X.N.Nodup)(h:JE X e g)(hi:X.N[i]? =bv x:=by rfl)(hx:Loc X.env.scope x:=by first |exact Or.inl rfl |exact mQ rfl)(hs:swapsWith e (bv (.Name x pos')) pos.line X.env=pure false:=by rfl)
  (hf:X.fn x=jp\/X.env.scope.names.lookup x=bv .local:=by first |exact .inl rfl |exact .inr rfl |assumption):JS X (.Assign [.Name x pos'] e pos) (aO i g) :=
 JS.of (Q0 hN hi hx bq hs hf) λρ st σ H m D S R p=>h.go S R (bE.fU R p) λw st1 v m1 H1 q e1 S1 r1=>q _ m1 H1 e1 S1 ((R.mono e1).set i r1)
def bH:GS:=λ_ _=> .bad
theorem b9:JS X s bH:=JS.of Gx λρ st σ H m D S R p=>p
theorem EU{s:List Stmt}:tY X s bH:=tY.of Es λρ st σ H m D S R p=>p
def M6(o i v:Wv)(ρ:b7)(st:Hs):Rs:=match o,i with
 |.ref l,.int k=>match st[l]? with
  |some (.lst ws)=>(match xM ws.length k with |some j=> .nx ρ (st.set l (.lst (ws.set j v))) |none=> .bad)
  |_=> .bad
 |_,_=> .bad
def nE(ge go gi:GE):GS:=λρ st=>(ge ρ st).bR ρ λv st1=>(go ρ st1).bR ρ λo st2=>(gi ρ st2).bR ρ λi st3=>M6 o i v ρ st3
theorem M7{o i:Expr}(he:JE X e ge)(ho:JE X o go)(hi:JE X i gi)(hs:swapsWithSole [.Subscript o i pos'] e pos.line X.env=pure false:=by rfl)(hw:swappedStores [.Subscript o i pos'] e X.env=pure none:=by rfl)
  (h1:(assignEach [.Subscript o i pos'] X.env).map (·.2)=[assign (.Subscript o i pos') X.env]:=by rfl)
  (ha:∀v,assign (.Subscript o i pos') X.env v=(do
   let ov <-holding [v] (eval o X.env)
   let iv <-holding [v,ov] (eval i X.env)
   standAt pos'
   holding [v,ov,iv] (setItem ov iv v)
   release [v,ov,iv] []):=by intro _;rfl):JS X (.Assign [.Subscript o i pos'] e pos) (nE ge go gi):=by
 refine JS.of (QZ bq (QY bq bq set_list ha) hs hw h1) λρ st σ H m D S R p=>?_;refine he.go S R (bE.fU R p) λv st1 vv m1 H1 p1 e1 S1 rv=>?_;refine ho.go S1 (R.mono e1) ((bE.fU (m:=m) (H:=H) R p1).imp e1 λ_ _ q=>q) λo' st2 ov m2 H2 p2 e2 S2 ro=>?_;refine hi.go S2 (R.mono (e1.trans e2)) ((bE.fU (m:=m) (H:=H) R p2).imp (e1.trans e2) λ_ _ q=>q) λi' st3 iv m3 H3 p3 e3 S3 ri=>?_;have LL:=e1.trans (e2.trans e3);cases o' with
 |ref l=>
  cases i' with
  |int k=>
   have ph:bE X m H (match st3[l]? with |some (.lst ws)=>(match xM ws.length k with |some j=> .nx ρ (st3.set l (.lst (ws.set j v))) |none=> .bad) |_=> .bad) D:=p3
   have ro3:=aj.mono e3 _ _ ro;unfold aj at ro3;obtain⟨a,rfl,f1⟩:=ro3;cases e:st3[l]? with
   |none=>rw[e]at ph;exact ab ph
   |some ob=>
    cases ob with
    |dct kvs=>rw[e]at ph;exact ab ph
    |Dd kvs=>rw[e]at ph;exact ab ph
    |AQ kvs=>rw[e]at ph;exact ab ph
    |ER kvs=>rw[e]at ph;exact ab ph
    |ins _ _=>rw[e]at ph;exact ab ph
    |vB ns=>rw[e]at ph;exact ab ph
    |lst ws=>
     rw[e]at ph;cases ej:xM ws.length k with
     |none=>simp only[ej]at ph;exact ab ph
     |some j=>simp only[ej]at ph;obtain⟨xs,g1,g2⟩:=S3.tV f1 e;refine⟨a,xs,k,j,rfl,bt ri,g1,by rw[<-g2.length];exact ej,?_⟩;have rv3:=aj.mono (e2.trans e3) _ _ rv;have e4:Ext X.K m3 H3 m3 (upd H3 a (.lst (xs.set j vv))):=Ext.upd (.inr ⟨xs,g1⟩);exact ph σ m3 _ (LL.trans e4) (S3.write f1 e (g2.set j rv3)) (R.mono (LL.trans e4))
  |_=>exact ab p3
 |_=>cases i'<;>exact ab p3
open Classical in
def forL(i:Nat)(gb:GS)(l:Nat)(all:List Wv):List Wv->b7->Hs->Rs
 |[],ρ,st=> .nx ρ st
 |w::r,ρ,st=>match gb (ρ.set i (bv w)) st with
  |.nx ρ' st'=>if ax st' l=bv all then forL i gb l all r ρ' st' else .bad
  |.ct ρ' st'=>if ax st' l=bv all then forL i gb l all r ρ' st' else .bad
  |.bk ρ' st'=> .nx ρ' st'
  |.rt w st'=> .rt w st'
  |.err c ρ' st'=> .err c ρ' st'
  |.bad=> .bad
end
def CXJ(P:ajS)(w:ajV):EF:=λouter H s E e s'=>∃H' C,zf P w outer H s H' (.ref C) e s'/\E (.ref C) gV H'
variable{b C:ajO}{o:Obj}{s:ajT}{h base h2:Heap}{M:Model}{A:ajP}{env:Env}{outer:List Env}{args:List ajU}{P:ajS}
section
variable {X:Cx}{pins:List (ajO×Obj)}{σ:St}{Hc H':Hp}{sc s':ajT}{cls e:ajU}{E:ajU->ajT->Prop}{Q:Unit->ajT->Prop}
theorem old_ne(I:Inv X pins σ Hc sc)(q:X.s₀.heap.get? b=bv o):b≠X.env.locals:=λz=>by have h1:=bL q;have h2:=I.ok.above;rw[z]at h1;exact absurd (bZ h1 h2) (jI _)
theorem M8(I:Inv X pins σ Hc sc)(hst:X.stack=X.env::X.outer)(hf:X.env.frame=bv X.env.locals)(q:X.s₀.heap.get? b=bv o)(hb:b∉frs X.outer):b∉frs X.stack:=λz=>by
 rw[hst]at z;unfold frs at z;rw[xy,hf]at z;rcases List.mem_cons.mp z with z |z
 ·exact old_ne I q z
 ·exact hb z
theorem HN(hst:X.stack=X.env::X.outer)(hf:X.env.frame=bv X.env.locals)(hb:b∈frs X.outer):b∈frs X.stack:=by rw[hst];unfold frs;rw[xy,hf];exact bw _ hb
theorem HP{L e:ajO}{a0 nt:ajU}(hfr:A.frames=bv (env::outer))(hf:env.frame=bv L)
  (x:base.StaysIn s.heap/\base.get? e=gV/\s.heap.FunFrames base (env::outer)/\TrX s.heap base e cls a0 nt)(k:∀h',Hl base (env::outer) e cls a0 L h'->s.heap.UpToSlots h'->Q () { s with heap:=h' }):
  aj6 M A (noteFrame (.ref e) env) Q E s:=by
 obtain⟨x1,x2,x3,x4⟩:=x;by_cases z:nt=rawInt L
 ·subst z;exact RM hf x4 (k s.heap ⟨x1,x2,x3,x4⟩ (Heap.UpToSlots.refl _))
 ·obtain⟨ox,us,T,ot,ws,g1,⟨g2,g3⟩,g4,g5,g6,g7,g8,g9,g10⟩:=x4;subst g2;have apart:∀b,b≠T->(s.heap.update T (o8 (·.setIfInBounds 3 fN))).get? b=s.heap.get? b:=λb hb=>tL _ _ (dM hb);have plain:∀b o,s.heap.get? b=bv o->(∀vs,o.data≠.fields vs)->b≠T:=λb o hb hd q=>by subst q;rw[g8]at hb;cases hb;exact hd ws g9
  unfold noteFrame;simp only[hf];refine aj7 (wpAny_field g1 g4 g5 ?_);rw[Os (show(bJ T != fN)=jp from by simp)];refine aj7 (wpAny_field g8 g9 g10 ?_);rw[OK (show ¬((nt == rawInt L)=jp) from by simpa using z)];refine aj7 (wpAny_setField g8 g9 (GM.mp g10).1 ?_);refine Hm (a0:=a0) hfr (x3.of_keeps λb o hb hd=>⟨o,(apart b (plain b o hb hd)).trans hb,rfl⟩) hf ((apart e (dM g7)).trans g1) (λb o hb=>(apart b λq=>by rw[q,g6]at hb;cases hb).trans (x1 b o hb)) x2 g4 (GM.mp g5).1 g3 λh' y y4=>?_;exact k h' y λb o hb hd=>y4 b o ((apart b (plain b o hb hd)).trans hb) hd
theorem EV{L a:ajO}(hfr:A.frames=bv (env::outer))(hf:env.frame=bv L)
  (st:base.StaysIn h)(fs:h.FunFrames base (env::outer))(mk:Ht h s.heap a cls args)(k:∀h' a0,Hl base (env::outer) a cls a0 L h'->s.heap.UpToSlots h'->Q () { s with heap:=h' }):
  aj6 M A (noteFrame (.ref a) env) Q E s:=by
 obtain⟨t,e1,e2,e3⟩:=mk.there;have fresh:∀b,h.get? b=gV->base.get? b=none:=λb hb=>by
  cases q:base.get? b with
  |none=>rfl
  |some o'=>have z:=st b o' q;rw[hb]at z;cases z
 have fs':=fs.of_keeps (h':=s.heap) λb o hb _=>⟨o,mk.keeps b o hb,rfl⟩;unfold noteFrame;simp only[hf];refine aj7 (wpAny_field e1 rfl (x:=.none) rfl ?_);rw[OK (by decide)];exact Hm hfr fs' hf e1 (λb o hb=>mk.keeps b o (st b o hb)) (fresh a mk.new) rfl (by simp) (a0:=.ref t) rfl λh' l1 l4=>k h' (.ref t) l1 l4
theorem HQ{ch:List ajO}(hx:X.ex=[])(hst:X.stack=X.env::X.outer)(hf:X.env.frame=bv X.env.locals)(I:Inv X pins σ Hc sc){B:Heap}(hch:∀b∈ch,jE X pins Hc b)(un:Un (frs X.stack) ch Hc H' sc.heap s'.heap)(up:s'.heap.UpToSlots h2)(stay:B.StaysIn h2)
  (Xh:∀b o,sc.heap.get? b=bv o->b∉frs X.stack->b∉ch->∃o',B.get? b=bv o'/\(Hc b=gV->o'=o)):
  Un (frs X.outer) [] X.H₀ H' X.s₀.heap h2/\(∀b o,X.s₀.heap.get? b=bv o->b∉frs X.outer->∃o',B.get? b=bv o'/\(X.H₀ b=gV->o'=o)):=by
 have nx:∀b:ajO,b∉X.ex:=λb=>by rw[hx];simp
 have nc:∀b o,X.s₀.heap.get? b=bv o->b∉ch:=λb o q z=>by
  rcases(hch b z).2.2.2.1 with y |y
  ·exact nx b y
  ·exact absurd (bZ (bL q) y) (jI _)
 have Sk:∀b o,X.s₀.heap.get? b=bv o->b∉frs X.outer->∃o',B.get? b=bv o'/\(X.H₀ b=gV->o'=o):=λb o q hb=>by obtain⟨o1,q1⟩:=I.base.there b o q (nx b);obtain⟨o2,q2,q3⟩:=Xh b o1 q1 (M8 I hst hf q hb) (nc b o q);refine⟨o2,q2,λn=>?_⟩;have q4:=I.base.keep b o q n hb (nx b);rw[q4]at q1;cases q1;exact q3 (I.base.free b o q n (nx b))
 have sl:∀b o,X.s₀.heap.get? b=bv o->X.H₀ b=gV->b∈frs X.outer->∃sl,h2.get? b=bv { o with slots:=sl }:=λb o q n hb=>by obtain⟨s1,q1⟩:=I.base.slot b o q n hb (nx b);obtain⟨s2,q2⟩:=un.slot b _ q1 (I.base.free b o q n (nx b)) (HN hst hf hb) (nc b o q);obtain⟨_,o3,q3,q4⟩:=I.ok.tq.mem hb;rw[q]at q3;cases q3;obtain⟨s3,q5⟩:=up b _ q2 q4;exact⟨s3,q5⟩
 refine⟨⟨λb o q n hb _=>?_,λb o q n hb _=>sl b o q n hb,λb o q n _=>?_,λb o q _=>?_,λb xs h=>un.tups b xs (I.base.tups b xs h),λb o u h=>un.r6 b o u (I.base.r6 b o u h),λb ps h=>?_⟩,Sk⟩
 ·obtain⟨o2,q2,q3⟩:=Sk b o q hb;rw[q3 n]at q2;exact stay b o q2
 ·obtain⟨o1,q1⟩:=I.base.there b o q (nx b);exact un.free b o1 q1 (I.base.free b o q n (nx b)) (nc b o q)
 ·by_cases hb:b∈frs X.outer
  ·obtain⟨s3,q3⟩:=sl b o q (I.ok.VN b hb) hb;exact⟨_,q3⟩
  ·obtain⟨o2,q2,_⟩:=Sk b o q hb;exact⟨o2,stay b o2 q2⟩
 ·obtain⟨m1,t1⟩:=I.base.vC b ps h;obtain⟨m2,t2⟩:=un.vC b _ t1;exact⟨m1++m2,by rw[<-Pj];exact t2⟩
theorem zi(hx:X.ex=[])(hst:X.stack=X.env::X.outer)(hf:X.env.frame=bv X.env.locals)(I:Inv X pins σ Hc sc)(F:Bl X pins Hc sc H' cls e s')
  (k:∀s2,zf X.prog X.w X.outer X.H₀ X.s₀ H' cls e s2->Q () s2):aj6 (model X.prog X.w) X.A (leaving X.env e) Q E s':=by
 obtain⟨a,a0,nt,B,ch,rfl,os,bare,hch,un,hok,fl,Xh⟩:=F;have hfr:X.A.frames=bv (X.env::X.outer):=by rw[I.ok.frames,hst]
 rw[hst]at fl;unfold leaving;refine aj7 (HP hfr hf fl λh1 hd1 up1=>?_);refine Pq hd1 λh2 LM up2=>k _ ?_;obtain⟨k1,k2,⟨_,_,k3⟩,k4⟩:=LM;obtain⟨u2,c2⟩:=HQ hx hst hf I hch un (up1.trans up2) k1 Xh;exact⟨a,a0,B,rfl,os.trans I.os,bare,u2,hok,⟨k1,k2,k3,k4⟩,c2⟩
theorem HR{w:ajV}{l:List ajO}(ok:m_ P w H h)(fr:∀b∈l,H b=gV):m_ P w H (BT h l):=λa o q=>
 (ok a o q).stay (λb u hb r=>KB _ r λz=>by
  have n:=fr b z;rcases hb with hb |hb
  ·rw[hb,q]at n;cases n
  ·rw[hb]at n;cases n) (λ_ r=>r) λ_ _ r=>r
theorem Br{a:ajO}(hx:X.ex=[])(hst:X.stack=X.env::X.outer)(hf:X.env.frame=bv X.env.locals)(I:Inv X pins σ Hc sc)(ho:s'.os=sc.os)(hgn:s'.gens=sc.gens)
  (M:Ht sc.heap s'.heap a (.ref C) args)(k:∀s2,zf X.prog X.w X.outer X.H₀ X.s₀ Hc (.ref C) (.ref a) s2->Q () s2):aj6 (model X.prog X.w) X.A (leaving X.env (.ref a)) Q E s':=by
 have hfr:X.A.frames=bv (X.env::X.outer):=by rw[I.ok.frames,hst]
 have fs:sc.heap.FunFrames (BT sc.heap (frs X.stack)) (X.env::X.outer):=by rw[<-hst];exact PySem.W.funFrames_hide I.stack λenv he b hb=>Fk.mpr ⟨env,he,hb⟩
 unfold leaving;refine aj7 (EV (base:=BT sc.heap (frs X.stack)) hfr hf (λb o q=>PySem.W.of_hideAll _ q) fs M λh1 t hd1 up1=>?_);refine Pq hd1 λh2 LM up2=>k _ ?_;have up:=up1.trans up2
 replace LM:RK (BT sc.heap (frs X.stack)) X.outer a (.ref C) t h2:=let ⟨k1,k2,⟨_,_,k3⟩,k4⟩:=LM;⟨k1,k2,k3,k4⟩
 obtain⟨u2,c2⟩:=HQ (H':=Hc) (s':=s') (ch:=[]) hx hst hf I (λb z=>by cases z) (Un.kept M.keeps) up LM.1 λb o q hb _=>⟨o,KB _ q hb,λ_=>rfl⟩;exact⟨a,t,_,rfl,ho.trans I.os,by rw[show({ s' with heap:=h2 }:ajT).gens=sc.gens from hgn];exact I.bare,u2,HR I.hok I.xB,LM,c2⟩
end
def PD(K:lc)(m:Mp)(H:Hp)(r:Re Wv)(Q:VK)(E:XK):Prop:=match r with
 |.ok w st=>RO K m H Q w st
 |.err c st=>∀(m':Mp)(H':Hp)(C:ajO),Ext K m H m' H'->cA K m' st H'->ClsAt K c C->E (.ref C) gV H'
 |.bad=>False
def spW(K:lc)(n:Nat)(F:List Wv->Hs->Re Wv):Sp:=λvs H Q E=>∃m st ws,cA K m st H/\ai K m H ws vs/\ws.length=n/\PD K m H (F ws st) Q E
def ao(n:Nat)(F:List Wv->Hs->Re Wv)(g:GA):GE:=λρ st=>(g ρ st).bind λws st1=>if ws.length=n then F ws st1 else .bad
variable{f:ajO}{k:Nat}{ps:List Str}{F:List Wv->Hs->Re Wv}
section
variable {X:Cx}
theorem M9{fd:ajQ}{g:GA}
  (G:FnOk X.prog X.w X.K X.mg X.base (CXJ X.prog X.w) k f fd ps (spW X.K n F))(hr:iJ k X.A)(hm:X.mg x=bv (.ref f))(hk:ww X.K (.ref f)=jp)(hb:Binds X.K fd ps [])(ha:JA X (e::es) g)(hg:Gl X x:=by rfl)
  (hdb:(x == ("__debug__":Str))=false:=by decide)(he:aj5 (e::es) X.env=(kt,eval e X.env)::aj5 es X.env:=by rfl)(hpl:(backTo pos (aj5 es X.env)).any (·.1)=false:=by rfl):
  JE X (.Call (.Name x p) (e::es) [] pos) (ao n F g):=by
 intro ρ st σ H m Q S R p pins s I;have args:=ha.go (T:=λvs H1=>∃ws st1 m1,eh X σ m H (if ws.length=n then F ws st1 else .bad) Q/\Ext X.K m H m1 H1/\cA X.K m1 st1 H1/\ai X.K m1 H1 ws vs) S R (aE.bind p)
  λws st1 vs m1 H1 p1 e1 S1 rs=>⟨ws,st1,m1,p1,e1,S1,rs⟩
 refine wpAny_Call_Name_kw (xE I hg hm ?_ hdb);refine NE (h₀:=X.base) I.ok.mod.VM hk (bR (args pos pins s I) λus s1 ⟨vs,H1,I1,r,ws,st1,m1,p1,e1,S1,rs⟩=>⟨I1.qR,?_⟩) he hpl;by_cases c:ws.length=n
 ·rw[Os c]at p1
  let E:XK:=λcl _ H2=>∃c' st2 m2 C,cl= .ref C/\ClsAt X.K c' C/\F ws st1= .err c' st2/\Ext X.K m1 H1 m2 H2/\cA X.K m2 st2 H2
  have sp:spW X.K n F vs H1 Q E:=by
   refine⟨m1,st1,ws,S1,rs,c,?_⟩;cases er:F ws st1 with
   |ok w st2=>rw[er]at p1;exact eh.shift (r:=.ok w st2) p1 e1
   |err c' st2=>exact λm2 H2 C e2 S2 hC=>⟨c',st2,m2,C,rfl,hC,er,e2,S2⟩
   |bad=>rw[er]at p1;exact ab p1
  have hl:us.length=ps.length:=by rw[<-r.length];exact G.len _ _ _ _ sp
  have bd:=hb s1 us I1.qR (by rw[fT];exact hl);rw[fT]at bd;refine wpAny_call (codeAny_mono (G.run X.A X.stack s1 H1 ⟨us,[]⟩ us vs Q E hr I1.Rj bd r sp) λrr s2 hq=>?_);cases rr with
  |error x=>obtain⟨H2,C,fl,c',st2,m2,C',ec,hC,er,e2,S2⟩:=hq;cases ec;rw[er]at p1;exact p1 m2 H2 x s2 (e1.trans e2) S2 ⟨C,pins,H1,s1,hC,I1,.inl fl.any⟩
  |ok fw=>
   cases fw with
   |ret u=>exact I1.after hq
   |next=>exact ab hq
   |brk=>exact ab hq
   |cont=>exact ab hq
 ·rw[OK c]at p1;exact ab p1
end
def bf(n:Nat)(g:GS):List Wv->Hs->Re Wv:=λws st=>match g (ws.map bv++aD (n - ws.length) gV) st with
 |.nx _ st'=> .ok .cY st'
 |.rt w st'=> .ok w st'
 |.err c _ st'=> .err c st'
 |_=> .bad
variable{N:List Str}
theorem HS(r:ai K m H ws vs)(h:ws.length<=N.length):a_ K m H (ws.map bv++aD (N.length - ws.length) gV) (L2.start N vs):=by
 have hl:=r.length;refine⟨by unfold L2.start;simp[hl],λi w e=>?_⟩;by_cases hi:i < ws.length
 ·rw[gU (by simpa using hi),j3]at e;cases q:ws[i]? with
  |none=>rw[q]at e;cases e
  |some w'=>rw[q]at e;cases e;obtain⟨x,h1,h2⟩:=r.get q;refine⟨x,?_,h2⟩;unfold L2.start;rw[gU (by simp;omega),j3,h1];rfl
 ·rw[lW (by simpa using hi),Rm]at e;split at e<;>cases e
variable{qual:Str}{scope:Scope}{cdv:ajU}
section
variable {P:ajS}{w:ajV}{K:lc}{mg:Str->Option ajU}{base:Heap}
theorem Bs{s':ajT}{H':Hp}{E:XK}{c:PySem.Str}{e:ajU}
  (r:Bm (vD (CXJ P w) P w K mg base N qual scope f cdv A outer s H E) σ H' c e s')(h:∀C,ClsAt K c C->E (.ref C) gV H'):(vD (CXJ P w) P w K mg base N qual scope f cdv A outer s H E).xe e s':=by
 obtain⟨C,pins,Hc,sc,hC,I,r⟩:=r;rcases r with fl |⟨rfl,a,args,rfl,ho,hg,M⟩
 ·exact zi (X:=vD (CXJ P w) P w K mg base N qual scope f cdv A outer s H E) rfl rfl rfl I fl λs2 LM=>⟨H',C,LM,h C hC⟩
 ·exact Br (X:=vD (CXJ P w) P w K mg base N qual scope f cdv A outer s H E) rfl rfl rfl I ho hg M λs2 LM=>⟨H',C,LM,h C hC⟩
def HU(K:lc)(f:ajO)(cdv:ajU):Prop:=∃o,K.lookup f=bv o/\∃fd,o.data= .func fd/\fd.code=cdv
theorem Dj{st:Stmt}{fd:ajQ}{g:GS}(F:MB K x qual st f fd)(S:FnScope N ps (defScope st))
  (body:∀(cdv:ajU),HU K f cdv->∀(A:ajP)(outer:List Env)(s:ajT)(H:Hp)(E:XK),iJ k (A.deeper (envOfC qual (defScope st) s.heap.objs.size f cdv))->tY (vD (CXJ P w) P w K mg base N qual (defScope st) f cdv A outer s H E) (defBody st) g):
  FnOk P w K mg base (CXJ P w) (k+1) f fd ps (spW K ps.length (bf N.length g)):=by
 have hpl:ps.length<=N.length:=by have:=congrArg jf S.pre;rw[A_]at this;omega
 obtain⟨oc,od,kV,doc,pm,an,cdv,ct,osl,rfl,lk,hcd⟩:=F.ex;refine W3 lk hcd S (λvs H Q E h=>?_) λA outer s H vs Q E hr h=>?_
 ·obtain⟨m,st',ws,_,r,hl,_⟩:=h;rw[<-r.length];exact hl
 ·obtain⟨m,st',ws,S',r,hl,p⟩:=h;refine⟨_,k7,?_⟩;refine body cdv ⟨_,lk,_,rfl,rfl⟩ A outer s H E hr _ st' _ H m _ S' (HS r (by omega)) ?_;unfold bf at p;cases e:g (ws.map bv++aD (N.length - ws.length) gV) st' with
  |nx ρ st2=>rw[e]at p;exact λσ m' H' e' S2 R2=>p _ m' H' e' S2 (by unfold aj;rfl)
  |rt w' st2=>rw[e]at p;exact p
  |bk ρ st2=>rw[e]at p;exact ab p
  |ct ρ st2=>rw[e]at p;exact ab p
  |err c ρ st2=>rw[e]at p;exact λσ m' H' x s' e' S2 R2 rz=>Bs rz λC hC=>p m' H' C e' S2 hC
  |bad=>rw[e]at p;exact ab p
end
def OnlyT(H:Hp):Prop:=∀b,H b=gV\/(∃o xs,H b=bv (.rZ o (.lst xs)))\/H b=bv (.jD #[])
theorem OnlyT.of(h:MA H):OnlyT H:=λb=>by
 rcases h b with q |q
 ·exact .inl q
 ·exact .inr (.inl q)
theorem law_sp(h:∀ns:List Int,ns.length<=63->∃st,F [.ref 0] [.vB ns]= .ok (.bl jp) st)(H:Hp)(a:ajO)(ns:List Int)(hl:ns.length<=63)(hO:OnlyT H)(hS:ng K H a (ns.map V.int))(hT:xU K H):
  spW K 1 F [.ref a] H (λv _=>v= .bl jp) λ_ _ _=>False:=by
 obtain⟨st,e⟩:=h ns hl;refine⟨[a],[.vB ns],[.ref 0],⟨rfl,λl b o h1 h2=>?_,λl l' b ws ws' _ _ h2 _ k _=>?_,hT⟩,ai.cons (by unfold aj;exact⟨a,rfl,rfl⟩) ai.nil,rfl,?_⟩
 ·cases l with
  |zero=>
   simp at h1 h2;subst h1 h2;show ze K H a ns;rcases hS with (q |⟨o',q⟩) |q
   ·rcases hO a with z |⟨o',xs,z⟩ |z
    ·rw[z]at q;cases q
    ·rw[z]at q;cases q
    ·rw[z]at q;cases q
   ·exact .inl ⟨o',q⟩
   ·exact .inr q
  |succ l=>simp at h1
 ·cases l with
  |zero=>simp at h2;subst h2;simp[Ob.mu]at k
  |succ l=>simp at h2
 ·rw[e];intro v m' H' _ _ r;unfold aj at r;exact r
def HV(w:Wv)(st:Hs):Re Bool:=match w with
 |.cY=> .ok kt st
 |.bl b=> .ok b st
 |.int i=> .ok (i != 0) st
 |.str y=>if y.length<=lim then .ok ((y.length:Int) != 0) st else .bad
 |.tup ws=> .ok (!ws.isEmpty) st
 |.j5 _=> .bad
 |.ref l=>match ax st l with
  |some ws=> .ok (!ws.isEmpty) st
  |none=> .bad
 |.ty _=> .bad
 |.cls _=> .bad
 |.EO _=> .bad
 |.fn _ _=> .bad
def gK(g:GE):GT:=λρ st=>(g ρ st).bind HV
variable{x:PySem.Str}
section
variable {X:Cx}
theorem isE(r:ai X.K m H ws xs):(!ws.isEmpty)= !xs.isEmpty:=by have h:=r.length;cases ws<;>cases xs<;>simp_all
theorem t6(h:JE X e g)(he:∀whole,isTrue e X.env whole=(do let v <-whole;standAt e.pos;holding [v] (truthy v))):JT X e (gK g) :=
 JT.of (GJ bq he) λρ st σ H m Q S R p=>h.go S R (aE.bind p) λw st1 v m1 H1 p1 e1 S1 r1=>by
  cases w with
  |cY=>unfold aj at r1;subst r1;exact⟨kt,rfl,p1 m1 H1 e1 S1⟩
  |bl b=>unfold aj at r1;subst r1;exact⟨b,rfl,p1 m1 H1 e1 S1⟩
  |int i=>unfold aj at r1;subst r1;exact⟨_,rfl,p1 m1 H1 e1 S1⟩
  |str y=>
   obtain⟨rfl,_⟩:=eS r1;have p2:ke X σ m H (if y.length<=lim then .ok ((y.length:Int) != 0) st1 else .bad) Q:=p1;by_cases c:y.length<=lim
   ·rw[Os c]at p2;exact⟨_,⟨eR c,rfl⟩,p2 m1 H1 e1 S1⟩
   ·rw[OK c]at p2;exact ab p2
  |j5 ws=>exact ab p1
  |tup ws=>unfold aj at r1;obtain⟨a,xs,rfl,h1,h2⟩:=r1;refine⟨!xs.isEmpty,.inr (.inl ⟨xs,hV.of h1,rfl⟩),?_⟩;rw[<-isE h2];exact p1 m1 H1 e1 S1
  |ref l=>
   unfold aj at r1;obtain⟨a,rfl,h1⟩:=r1;have p2:ke X σ m H (match ax st1 l with |some ws=> .ok (!ws.isEmpty) st1 |none=> .bad) Q:=p1
   cases el:ax st1 l with
   |none=>rw[el]at p2;exact ab p2
   |some ws=>rw[el]at p2;obtain⟨xs,hq,h2⟩:=S1.read h1 el;refine⟨!xs.isEmpty,.inl ⟨xs,hq,rfl⟩,?_⟩;rw[<-isE h2];exact p2 m1 H1 e1 S1
  |ty T=>exact ab p1
  |cls T=>exact ab p1
  |EO T=>exact ab p1
  |fn fp T=>exact ab p1
theorem zj{p:Nat->Bool}{x:Array Nat}(hx:x.all p=jp):∀(n:Nat)(a:Array Nat),a.all p=jp->((aD n x).foldl (· ++·) a).all p=jp
 | 0,a,h=>h
 |n+1,a,h=>by rw[i6,G'];refine zj hx n _ ?_;rw[Array.all_append,h,hx];rfl
theorem EW(h:bc x=jp):bc (tZ n x)=true:=by unfold bc at h ⊢;unfold tZ;exact zj h n #[] (by simp)
theorem wF{x:Array Nat}:∀(n:Nat)(a:Array Nat),((aD n x).foldl (· ++·) a).size=a.size+x.size * n
 | 0,a=>by simp
 |n+1,a=>by rw[i6,G',wF n,Array.size_append,Nat.mul_succ];omega
theorem zk:(tZ n x).length=x.length * n:=by show((aD n x.cps).foldl (· ++·) #[]).size=x.cps.size * n;rw[wF];simp
def t8(x:PySem.Str)(n:Int):Prop:=1 < n/\n<=100000/\x.length≠0/\x.length * n.toNat<=lim
instance {x n}:Decidable (t8 x n):=by unfold t8;infer_instance
theorem M_:iI X (ajX .Mult) (λx y H Q=>∃z n,x= .str z/\y= .int n/\t8 z n/\Q (.str (tZ n.toNat z)) H):=by
 intro pins s σ H x y v u Q I rx ry h;obtain⟨z,n,rfl,rfl,⟨h1,h2,h3,h4⟩,q⟩:=h;obtain⟨t,rfl⟩:=rx;obtain⟨t',rfl⟩:=ry;have n1:¬n < 1:=by omega
 have hlen:z.length<=lim:=by refine aA ?_ h4;exact Nat.le_mul_of_pos_right _ (by omega)
 have hne:(n == 1||z.length == 0)=false:=by
  have e1:(n == 1)=false:=by rw[beq_eq_false_iff_ne];omega
  have e2:(z.length == 0)=false:=by rw[beq_eq_false_iff_ne];exact h3
  rw[e1,e2];rfl
 have hl:PySem.Builtin.Str.tooLong (z.length * n.toNat)=false:=by
  unfold PySem.Builtin.Str.tooLong;have q:=eR h4
  first
   |exact decide_eq_false (by omega)
   |simp only[decide_eq_false_iff_not];omega
 refine PySem.P.mul_str (by
   have e1:¬n < -(2 ^ 63:Int):=by omega
   have e2:¬n >= 2 ^ 63:=by omega
   rw[decide_eq_false e1,decide_eq_false e2];rfl) (λ_ _=>?_) (λ_ _=>hl) ?_
 ·have e:((2:Int) ^ 63 - 1) / 100000<=(2 ^ 63 - 1) / n:=by refine Int.le_ediv_of_mul_le (by omega) ?_;have:((2:Int) ^ 63 - 1) / 100000 * n<=((2:Int) ^ 63 - 1) / 100000 * 100000:=Sl h2 (by decide);exact Bt this (by decide)
  have e':(1000000:Int)<=(2 ^ 63 - 1) / 100000:=by decide
  unfold lim at hlen;omega
 ·rw[OK n1,OK (by rw[hne];exact cS)];exact⟨by show(tZ n.toNat z).length<=_;rw[zk];exact eR h4,.str (tZ n.toNat z),H,I.tok _,⟨_,rfl⟩,q⟩
def PF:jc
 |.int i,.int j,st=>if IntMulOk i j then .ok (.int (i * j)) st else .bad
 |.str z,.int n,st=>if t8 z n then .ok (.str (tZ n.toNat z)) st else .bad
 |_,_,_=> .bad
theorem M':lR X (ajX .Mult) PF:=⟨_,iI.or MM M_,λx y a b st H m Q S rx ry p=>by
 cases x with
 |int i=>
  cases y with
  |int j=>
   cases bt rx;cases bt ry;have p':eo X.K m H (if IntMulOk i j then .ok (.int (i * j)) st else .bad) Q:=p;by_cases c:IntMulOk i j
   ·rw[Os c]at p';exact .inl ⟨i,j,rfl,rfl,c,p' _ m H Ext.refl S mkInt⟩
   ·rw[OK c]at p';exact ab p'
  |_=>exact ab p
 |str z=>
  cases y with
  |int n=>
   obtain⟨rfl,hz⟩:=eS rx;cases bt ry;have p':eo X.K m H (if t8 z n then .ok (.str (tZ n.toNat z)) st else .bad) Q:=p;by_cases c:t8 z n
   ·rw[Os c]at p';exact .inr ⟨z,n,rfl,rfl,c,p' _ m H Ext.refl S (mkStr (EW hz))⟩
   ·rw[OK c]at p';exact ab p'
  |_=>exact ab p
 |_=>exact ab p⟩
def bW:GE:=λ_ _=> .bad
def nG:GT:=λ_ _=> .bad
theorem aM:JE X e bW:=λρ st σ H m Q S R p=>ab p
theorem oi:JT X e nG:=λρ st σ H m Q S R p=>ab p
end
def dk(P:ajS)(w:ajV)(K:lc)(mg:Str->Option ajU)(base:Heap)(k:Nat)(x:Str)(n:Nat)(F:List Wv->Hs->Re Wv):Prop :=
 ∃f fd ps,FnOk P w K mg base (CXJ P w) k f fd ps (spW K n F)/\mg x=bv (.ref f)/\ww K (.ref f)=jp/\Binds K fd ps []
variable{x:Str}{mg:Str->Option ajU}
theorem dk.mono{w:ajV}{j:Nat}(h:dk P w K mg base j x n F)(l:j<=k):dk P w K mg base k x n F:=by obtain⟨f,fd,ps,G,r⟩:=h;exact⟨f,fd,ps,G.mono l,r⟩
def a6(K:lc)(x:Str)(st:Stmt):Prop:=∃f fd,nw K aj3 x=bv (bv (.ref f))/\MB K x x st f fd
theorem Bu{st:Stmt}{oc:ajU}{od an:Option ajO}{osl:Array (Option ajU)}{kV doc pm ct:ajU}(a:nw K aj3 x=bv (bv (.ref f)))
  (l:K.lookup f=bv ⟨oc,od,.func (tz x x (defArgs st) (defBody st) (defScope st) .none kV doc pm an cdv ct),osl⟩)(c:zn K cdv x=jp)(k:ww K (.ref f)=jp):a6 K x st:=⟨f,_,a,Bj l c k⟩
theorem HW:ajY "isinstance"=bv (.builtin "isinstance"):=by decide+kernel
theorem EY:ajY "abs"=bv (.builtin "abs"):=by decide+kernel
theorem EZ:ajY "len"=bv (.builtin "len"):=by decide+kernel
theorem zl:ajY "int"=bv (.type "int"):=by decide+kernel
theorem zm:ajY "str"=bv (.type "str"):=by decide+kernel
theorem HX:ajY "bool"=bv (.type "bool"):=by decide+kernel
theorem zp:ajY "tuple"=bv (.type "tuple"):=by decide+kernel
theorem zq:ajY "list"=bv (.type "list"):=by decide+kernel
def Sm:Wv->Option Int
 |.int i=>bv i
 |_=>gV
theorem HY{w:Wv}(h:Sm w=bv i):w= .int i:=by cases w<;>cases h<;>rfl
def two:List Wv->Option (Int×Int)
 |[x,y]=>(Sm x).bind λi=>(Sm y).map λj=>(i,j)
 |_=>gV
theorem two_eq{j:Int}(h:two ws=bv (i,j)):ws=[.int i,.int j]:=by
 cases ws with
 |nil=>cases h
 |cons x r=>
  cases r with
  |nil=>cases h
  |cons y r=>
   cases r with
   |cons _ _=>cases h
   |nil=>
    have h:(Sm x).bind (λi=>(Sm y).map λj=>(i,j))=bv (i,j):=h;cases e1:Sm x with
    |none=>rw[e1]at h;cases h
    |some a=>
     cases e2:Sm y with
     |none=>rw[e1,e2]at h;cases h
     |some b=>rw[e1,e2]at h;cases h;rw[HY e1,HY e2]
@[simp] theorem two_i{j:Int}:two [.int i,.int j]=bv (i,j):=rfl
def jF(i:Nat)(gb:GS):List Wv->b7->Hs->Rs
 |[],ρ,st=> .nx ρ st
 |w::r,ρ,st=>match gb (ρ.set i (bv w)) st with
  |.nx ρ' st'=>jF i gb r ρ' st'
  |.ct ρ' st'=>jF i gb r ρ' st'
  |.bk ρ' st'=> .nx ρ' st'
  |.rt w st'=> .rt w st'
  |.err c ρ' st'=> .err c ρ' st'
  |.bad=> .bad
variable{lo:Int}{body:List Stmt}{J':It}{D:Ends}{tg iter:Expr}{tl:TE}
section
variable {X:Cx}
theorem t9(i:Nat)(hb:tY X body gb)(S1:cA X.K m1 st1 H1)(R:a_ X.K m1 H1 ρ σ)(p1:bE X m1 H1 (jF i gb ws ρ st1) D)
  (hgo:∀(k:Nat)(H:Hp)(m':Mp),Ext X.K m1 H1 m' H->k < ws.length->J'.go k H)(hstop:∀(k:Nat)(H:Hp)(m':Mp),Ext X.K m1 H1 m' H->k=ws.length->J'.stop k H)
  (hy:∀(k:Nat)(hk:k < ws.length)(H:Hp)(x:V)(H':Hp)(m':Mp),Ext X.K m1 H1 m' H->J'.Gg k H x H'->H'=H/\aj X.K m' H ws[k] x):
  ∃W:Nat->Nat->St->Hp->Prop,(∃m,W 0 m σ H1)/\∀k n σ H,W k n σ H->
   (J'.stop k H/\D.nx σ H)\/(J'.go k H/\∃N:St->Hp->Prop,(∀σ' H',N σ' H'->∃m',m' < n/\W (k+1) m' σ' H')/\∀x H',J'.Gg k H x H'->CV i x σ H' λσ2 H2=>SSs X body { D with nx:=N,ct:=N,bk:=D.nx } σ2 H2):=by
 let Pv:Nat->St->Hp->Prop:=λk σ H=>∃ρ st m',Ext X.K m1 H1 m' H/\cA X.K m' st H/\a_ X.K m' H ρ σ/\bE X m' H (jF i gb (ws.drop k) ρ st) D
 refine⟨λk n σ H=>n=ws.length - k/\k<=ws.length/\Pv k σ H,⟨ws.length,by simp,dz _,ρ,st1,m1,Ext.refl,S1,R,p1⟩,?_⟩;rintro k n σ2 H2 ⟨rfl,hk,ρ2,st2,m2,e2,S2,R2,p2⟩;by_cases hlt:k < ws.length
 ·refine .inr ⟨hgo k H2 m2 e2 hlt,Pv (k+1),λσ' H' p'=>⟨ws.length - (k+1),by omega,rfl,hlt,p'⟩,λx H' y=>?_⟩;obtain⟨ee,AS⟩:=hy k hlt H2 x H' m2 e2 y;subst ee;have ed:ws.drop k=ws[k]::ws.drop (k+1):=yb hlt;rw[ed]at p2;refine hb _ st2 _ _ m2 _ S2 (R2.set i AS) ?_;unfold jF at p2;cases eg:gb (ρ2.set i (bv ws[k])) st2 with
  |nx ρ3 st3=>rw[eg]at p2;exact λσ3 m3 H3 e3 S3 R3=>⟨ρ3,st3,m3,e2.trans e3,S3,R3,bE.shift p2 e3⟩
  |ct ρ3 st3=>rw[eg]at p2;exact λσ3 m3 H3 e3 S3 R3=>⟨ρ3,st3,m3,e2.trans e3,S3,R3,bE.shift p2 e3⟩
  |bk ρ3 st3=>rw[eg]at p2;exact p2
  |rt w3 st3=>rw[eg]at p2;exact p2
  |err c3 ρ3 st3=>rw[eg]at p2;exact p2
  |bad=>rw[eg]at p2;exact p2
 ·have e:k=ws.length:=by omega
  subst e;rw[Bv]at p2;exact .inl ⟨hstop _ H2 m2 e2 rfl,p2 σ2 m2 H2 Ext.refl S2 R2⟩
def ack(K:lc)(tl:TE):TI:=λσ H R=>tl σ H λx H1=>∃a,x= .ref a/\(((∃xs,ng K H1 a xs)/\R (Itl K a) H1)\/((∃xs,hV K H1 a xs)/\R (Itt K a) H1))
theorem HZ{l:Expr}(hl:PE X l tl):PI X tg l (ack X.K tl):=by
 intro pins s σ H R I h;refine bR (hl pins s σ H _ I h) λv s1 ⟨x,H1,I1,r1,q1⟩=>?_;obtain⟨a,e,q1⟩:=q1;subst e;cases r1;have frs:∀b∈[s1.heap.objs.size],jE X pins H1 b:=λb hb=>by
  have e:b=s1.heap.objs.size:=by simpa using hb
  subst e;exact I1.Mb (av _) (I1.hok.fresh (av _))
 rcases q1 with ⟨⟨xs,hq⟩,q⟩ |⟨⟨xs,hq⟩,q⟩
 ·obtain⟨its,rv,p,hz⟩:=I1.list hq;refine wpAny_pyIter_list p.isList ?_;exact⟨s1.heap.objs.size,[s1.heap.objs.size],_,_,H1,rfl,I1.kept (t':=s1.toks) λb o e=>cI _ e,Et a _,⟨_,gI _ rfl,rfl,rfl⟩,frs,q⟩
 ·obtain⟨its,rv,p,hz⟩:=I1.tuple hq;refine wpAny_pyIter_tuple (show s1.heap.IsTuple a its.toArray from p) ?_;exact⟨s1.heap.objs.size,[s1.heap.objs.size],_,_,H1,rfl,I1.kept (t':=s1.toks) λb o e=>cI _ e,AZ a _,⟨_,gI _ rfl,rfl,rfl⟩,frs,q⟩
def vJ(i:Nat)(gi:GE)(gb:GS):GS:=λρ st=>(gi ρ st).bR ρ λw st1=>match w with
 |.ref l=>(match ax st1 l with |some ws=>forL i gb l ws ws ρ st1 |none=> .bad)
 |.tup ws=>jF i gb ws ρ st1
 |.j5 ws=>jF i gb ws ρ st1
 |_=> .bad
theorem H_(i:Nat)(hN:X.N.Nodup)(hp:PassesOwn (model X.prog X.w) X.A X.env X.xe)(hc:X.calm=jp)(hi:JE X iter gi)(hb:tY X body gb)
  (hx:X.N[i]? =bv x)(hlo:Loc X.env.scope x)(hlf:X.fn x=jp\/X.env.scope.names.lookup x=bv .local)
  (hs:∀x,aj2 iter X.env x=pure x):JS X (.For (.Name x pos') iter body [] pos) (vJ i gi gb):=by
 refine JS.of (GD hp hc (HZ bq) (CY hN hx hlo hlf) k7 hs) λρ st σ H m D S R p=>?_;refine hi.go S R (bE.fU R p) λw st1 v m1 H1 p1 e1 S1 rw'=>?_;cases w with
 |ref l=>
  have p1':bE X m H (match ax st1 l with |some ws=>forL i gb l ws ws ρ st1 |none=> .bad) D:=p1
  unfold aj at rw';obtain⟨a,rfl,hla⟩:=rw';cases el:ax st1 l with
  |none=>rw[el]at p1';exact ab p1'
  |some ws=>
   rw[el]at p1';obtain⟨xs0,q0,_⟩:=S1.read hla el;refine⟨a,rfl,.inl ⟨⟨xs0,q0⟩,?_⟩⟩
   let Pv:Nat->St->Hp->Prop:=λk σ H=>∃ρ st m',Ext X.K m1 H1 m' H/\cA X.K m' st H/\a_ X.K m' H ρ σ/\ax st l=bv ws/\bE X m' H (forL i gb l ws (ws.drop k) ρ st) D
   refine⟨λk n σ H=>n=ws.length - k/\k<=ws.length/\Pv k σ H,⟨ws.length,by simp,dz _,ρ,st1,m1,Ext.refl,S1,R.mono e1,el,bE.shift p1' e1⟩,?_⟩;rintro k n σ2 H2 ⟨rfl,hk,ρ2,st2,m2,e2,S2,R2,l2,p2⟩;obtain⟨xs,hq,rws⟩:=S2.read (e2.pre _ _ hla) l2;have hlen:=rws.length;by_cases hlt:k < ws.length
   ·have hx':k < xs.length:=by omega
    refine .inr ⟨⟨xs,xs[k],hq,by simp[hx']⟩,Pv (k+1),λσ' H' p'=>⟨ws.length - (k+1),by omega,rfl,hlt,p'⟩,λx H' y=>?_⟩;obtain⟨ee,y⟩:=y;subst ee;have ey:=y xs hq;have ed:ws.drop k=ws[k]::ws.drop (k+1):=yb hlt;obtain⟨x',ex',AS⟩:=rws.get (i:=k) (w:=ws[k]) (fk hlt);rw[ey]at ex';cases ex';rw[ed]at p2;refine hb _ st2 _ _ m2 _ S2 (R2.set i AS) ?_;unfold forL at p2;cases eg:gb (ρ2.set i (bv ws[k])) st2 with
    |nx ρ3 st3=>
     rw[eg]at p2;by_cases c:ax st3 l=bv ws
     ·simp only[Os c]at p2;exact λσ3 m3 H3 e3 S3 R3=>⟨ρ3,st3,m3,e2.trans e3,S3,R3,c,bE.shift p2 e3⟩
     ·simp only[OK c]at p2;exact ab p2
    |ct ρ3 st3=>
     rw[eg]at p2;by_cases c:ax st3 l=bv ws
     ·simp only[Os c]at p2;exact λσ3 m3 H3 e3 S3 R3=>⟨ρ3,st3,m3,e2.trans e3,S3,R3,c,bE.shift p2 e3⟩
     ·simp only[OK c]at p2;exact ab p2
    |bk ρ3 st3=>rw[eg]at p2;exact p2
    |rt w3 st3=>rw[eg]at p2;exact p2
    |err c3 ρ3 st3=>rw[eg]at p2;exact p2
    |bad=>rw[eg]at p2;exact p2
   ·have e:k=ws.length:=by omega
    subst e;rw[Bv]at p2;exact .inl ⟨⟨xs,hq,by omega⟩,p2 σ2 m2 H2 Ext.refl S2 R2⟩
 |tup ws=>
  unfold aj at rw';obtain⟨a,xs,rfl,hq,rws⟩:=rw';have hlen:=rws.length;refine⟨a,rfl,.inr ⟨⟨xs,hV.of hq⟩,?_⟩⟩;refine t9 i hb (ws:=ws) S1 (R.mono e1) (bE.shift p1 e1) (λk H m' e hk=>?_) (λk H m' e hk=>?_) λk hk H x H' m' e y=>?_
  ·have hx':k < xs.length:=by omega
   exact⟨xs,xs[k],hV.of (e.tup _ _ hq),by simp[hx']⟩
  ·exact⟨xs,hV.of (e.tup _ _ hq),by omega⟩
  ·obtain⟨ee,y⟩:=y;refine⟨ee,?_⟩;obtain⟨x',ex',AS⟩:=(ai.mono e _ _ rws).get (i:=k) (w:=ws[k]) (fk hk);rw[y xs (hV.of (e.tup _ _ hq))]at ex';cases ex';exact AS
 |j5 ws=>
  unfold aj at rw';obtain⟨a,xs,rfl,hq,rws⟩:=rw';have hlen:=rws.length;refine⟨a,rfl,.inr ⟨⟨xs,.inr hq⟩,?_⟩⟩;refine t9 i hb (ws:=ws) S1 (R.mono e1) (bE.shift p1 e1) (λk H m' e hk=>?_) (λk H m' e hk=>?_) λk hk H x H' m' e y=>?_
  ·have hx':k < xs.length:=by omega
   exact⟨xs,xs[k],.inr hq,by simp[hx']⟩
  ·exact⟨xs,.inr hq,by omega⟩
  ·obtain⟨ee,y⟩:=y;refine⟨ee,?_⟩;obtain⟨x',ex',AS⟩:=(ai.mono e _ _ rws).get (i:=k) (w:=ws[k]) (fk hk);rw[y xs (.inr hq)]at ex';cases ex';exact AS
 |_=>exact ab p1
def eL(lo:Int)(n:Nat):List Wv:=(oV n).map λk:Nat=>Wv.int (lo+k)
theorem E0(h:k < n):(eL lo n)[k]? =bv (.int (lo+k)):=by unfold eL;rw[j3,List.getElem?_range h];rfl
theorem zr(h:k < (eL lo n).length):(eL lo n)[k]= .int (lo+k):=by have q:=E0 (lo:=lo) (n:=n) (k:=k) (by unfold eL at h;simpa using h);rw[fk h]at q;exact Option.some.inj q
theorem dQ:(eL lo n).length=n:=by unfold eL;simp
def lS(i:Int):Prop:=-(2 ^ 62)<=i/\i < 2 ^ 62
instance {i}:Decidable (lS i):=Ia _
def l6(i:Nat)(ga:GA)(gb:GS):GS:=λρ st=>(ga ρ st).bR ρ λws st1=>match ws with
 |[.int j]=>if lS j then jF i gb (eL 0 j.toNat) ρ st1 else .bad
 |_=> .bad
theorem Na(i:Nat)(hb:tY X body gb)(S1:cA X.K m1 st1 H1)(R:a_ X.K m1 H1 ρ σ)(p1:bE X m1 H1 (jF i gb (eL lo n) ρ st1) D):
  ∃W:Nat->Nat->St->Hp->Prop,(∃m,W 0 m σ H1)/\∀k n' σ H,W k n' σ H->
   ((Q3 lo n).stop k H/\D.nx σ H)\/((Q3 lo n).go k H/\∃N:St->Hp->Prop,(∀σ' H',N σ' H'->∃m',m' < n'/\W (k+1) m' σ' H')/\∀x H',(Q3 lo n).Gg k H x H'->CV i x σ H' λσ2 H2=>SSs X body { D with nx:=N,ct:=N,bk:=D.nx } σ2 H2) :=
 t9 i hb S1 R p1 (λk H m' e hk=>by rw[dQ]at hk;exact hk) (λk H m' e hk=>by rw[dQ]at hk;exact sx hk.symm) λk hk H x H' m' e y=>by obtain⟨y1,y2⟩:=y;refine⟨y1,?_⟩;rw[zr,y2];exact mkInt
theorem Ib(i:Nat){ga:GA}{q:Pos}(hN:X.N.Nodup)(hp:PassesOwn (model X.prog X.w) X.A X.env X.xe)(hc:X.calm=jp)(hg:Gl X "range")(hm:X.mg "range"=gV)(ha:JA X [a] ga)(hb:tY X body gb)
  (hx:X.N[i]? =bv x)(hlo:Loc X.env.scope x)(hlf:X.fn x=jp\/X.env.scope.names.lookup x=bv .local)(hst:aj5 [a] X.env=[(kt,eval a X.env)]):JS X (.For (.Name x pos') (.Call (.Name "range" p) [a] [] q) body [] pos) (l6 i ga gb):=by
 refine JS.of (GD hp hc (wb hg hm lZ hst) (CY hN hx hlo hlf) k7 (λ_=>rfl)) λρ st σ H m D S R p=>?_;refine ha.go S R (bE.fU R p) λws st1 vs m1 H1 p1 e1 S1 rs=>?_
 match ws,rs,p1 with
 |[],rs,p1=>exact ab p1
 |x::y::t,rs,p1=>cases x<;>exact ab p1
 |[x],rs,p1=>
  obtain⟨v,rfl,r1⟩:=kh rs;cases x with
  |int j=>
   cases bt r1;have p2:bE X m H (if lS j then jF i gb (eL 0 j.toNat) ρ st1 else .bad) D:=p1;by_cases c:lS j
   ·rw[Os c]at p2;exact⟨j,rfl,c.1,c.2,Na i hb S1 (R.mono e1) (bE.shift p2 e1)⟩
   ·rw[OK c]at p2;exact ab p2
  |_=>exact ab p1
theorem Nb:JS X (.Return gV pos) (aQ (gC .cY)):=JS.of L' λρ st σ H m D S R p=>p .cY m H Ext.refl S Dg
end
abbrev VU:List ajU:=[.type "ValueError",.type "Exception",.type "BaseException",.type "object"]
abbrev VW:String:="ValueError.__new__"
structure Nc(K:lc)(c:PySem.Str)(C:ajO):Prop where
 cls:ClsAt K c C
 exc:AT K C VU VW=jp
structure Nd(K:lc)(C:ajO):Prop where
 exc:AT K C VU VW=jp
 ga:sK K (.ref C) "__getattribute__"=bv (bv (.builtin "BaseException.__getattribute__"))
 gx:sK K (.ref C) "__getattr__"=bv gV
 cl:sK K (.ref C) "__class__"=bv (bv (.builtin "object.__class__"))
structure Nf(X:Cx):Prop where
 st:X.stack=X.env::X.outer
 fr:X.env.frame=bv X.env.locals
 ex:X.ex=[]
def XF(o:Obj):Prop:=∃vs,o.data= .fields vs/\vs[2]? =bv fN
abbrev Tab:=List ((PySem.Str×PySem.Str)×Bool)
abbrev E1:=List ((PySem.Str×String)×Bool)
structure TabOk(K:lc)(tb:Tab)(tt:E1)(tc:Tab):Prop where
 own:∀c d b C D,tb.lookup (c,d)=bv b->ClsAt K c C->ClsAt K d D->Nd K C/\wP K (.ref C) (.ref D)=bv b
 cat:∀c d b C D,tc.lookup (c,d)=bv b->ClsAt K c C->ClsAt K d D->AT K C VU VW=jp/\AT K D VU VW=jp/\PySem.W.mroIn K C (.ref D)=bv b
 typ:∀c T b C,tt.lookup (c,T)=bv b->ClsAt K c C->Nd K C/\wP K (.ref C) (.type T)=bv b
def jG(tb:Tab)(tt:E1):List Wv->Hs->Re Wv:=XD
section
variable {X:Cx}
theorem Sn{tb:Tab}{tt:E1}{tc:Tab}(O:TabOk X.K tb tt tc):et X (.builtin "isinstance") (jG tb tt):=Si
end
section
variable {X:Cx}{pins:List (ajO×Obj)}{σ:St}{H:Hp}{s:ajT}
def So(X:Cx):Prop:=X.A.handled=gV\/∃a o u,X.A.handled=bv (.ref a)/\XF o/\X.H₀ a=bv (.rZ o u)
def E2(A:ajP)(H:Hp):Prop:=A.handled=gV\/∃a o u,A.handled=bv (.ref a)/\XF o/\H a=bv (.rZ o u)
theorem So.at(h:So X)(I:Inv X pins σ H s):E2 X.A H:=h.imp id λ⟨a,o,u,h1,h2,h3⟩=>⟨a,o,u,h1,h2,I.base.r6 _ _ _ h3⟩
end
theorem Ie(x:String):bc (sD x)=true:=by
 unfold bc;rw[PB];intro c hc;have:∃ch:Char,c=ch.toNat:=by rw[Str.ofString_eq_toList]at hc;simp at hc;obtain⟨ch,_,e⟩:=hc;exact⟨ch,e.symm⟩
 obtain⟨ch,rfl⟩:=this;have h:=ch.valid;simp only[decide_eq_true_eq];rcases h with h |⟨_,h⟩
 ·exact xS h (by decide)
 ·exact h
variable{name:Str}{apos cpos:Pos}{mt:Wv->Wv->Hs->Re Wv}
section
variable {X:Cx}
def Ng:List Wv->Hs->Re Wv
 |[.int i],st=>if i.natAbs.log2 < 1920 then .ok (.str (toString i:String)) st else .bad
 |_,_=> .bad
theorem Sq:et X (.type "str") Ng:=⟨_,xG,λws vs st H m Q S r p=>by
 match ws,r,p with
 |[],r,p=>exact ab p
 |x::y::t,r,p=>cases x<;>exact ab p
 |[x],r,p=>
  obtain⟨v,rfl,rx⟩:=kh r;cases x with
  |int i=>
   cases bt rx;have p':eo X.K m H (if i.natAbs.log2 < 1920 then .ok (.str (toString i:String)) st else .bad) Q:=p;by_cases c:i.natAbs.log2 < 1920
   ·rw[Os c]at p';exact⟨i,rfl,c,p' _ m H Ext.refl S (mkStr (Ie _))⟩
   ·rw[OK c]at p';exact ab p'
  |_=>exact ab p⟩
def ni(o v:Wv)(st:Hs):Re Wv:=match o with
 |.ref l=>(match st[l]? with
  |some (.lst ws)=>if ws.length < lim then .ok .cY (st.set l (.lst (ws++[v])))else .bad
  |_=> .bad)
 |_=> .bad
def XG(o v:Wv)(st:Hs):Re Wv:=match o,v with
 |.ref l,.ref k=>(match st[l]?,st[k]? with
  |some (.lst ws),bv (.lst zs)=>if ws.length+zs.length<=lim then .ok .cY (st.set l (.lst (ws++zs)))else .bad
  |_,_=> .bad)
 |_,_=> .bad
def jh(mt:Wv->Wv->Hs->Re Wv)(go ga:GE):GE:=λρ st=>(go ρ st).bind λo st1=>match o with
 |.ref l=>(match ax st1 l with
  |some _=>(ga ρ st1).bind λv st2=>(mt o v st2).mP
  |none=> .bad)
 |_=> .bad
def PH(X:Cx)(id:String)(mt:Wv->Wv->Hs->Re Wv):Prop:=∃r,y9 X id r/\∀(o w:Wv)(x v:V)(st:Hs)(H:Hp)(m:Mp)(Q:VK),cA X.K m st H->aj X.K m H o x->aj X.K m H w v->eo X.K m H (mt o w st) Q->r x [v] H Q
theorem Ig:PH X "list.append" ni:=⟨_,EK,λo w x v st H m Q S ro rw' p=>by
 cases o with
 |ref l=>
  unfold aj at ro;obtain⟨a,rfl,ha⟩:=ro;have p':eo X.K m H (match st[l]? with |some (.lst ws)=>if ws.length < lim then .ok .cY (st.set l (.lst (ws++[w])))else .bad |_=> .bad) Q:=p
  cases e:st[l]? with
  |none=>rw[e]at p';exact ab p'
  |some ob=>
   cases ob with
   |dct kvs=>rw[e]at p';exact ab p'
   |Dd kvs=>rw[e]at p';exact ab p'
   |AQ kvs=>rw[e]at p';exact ab p'
   |ER kvs=>rw[e]at p';exact ab p'
   |ins _ _=>rw[e]at p';exact ab p'
   |vB ns=>rw[e]at p';exact ab p'
   |lst ws=>
    rw[e]at p';dsimp only at p';by_cases c:ws.length < lim
    ·rw[Os c]at p';obtain⟨xs,h1,h2⟩:=S.tV ha e;have e4:Ext X.K m H m (upd H a (.lst (xs++[v]))):=Ext.upd (.inr ⟨xs,h1⟩);exact⟨a,xs,v,rfl,rfl,h1,by rw[<-h2.length];exact RP c,p' _ m _ e4 (S.write ha e (h2.append (ai.cons rw' ai.nil))) Dg⟩
    ·rw[OK c]at p';exact ab p'
 |_=>exact ab p⟩
theorem Sr:PH X "list.extend" XG:=⟨_,EL,λo w x v st H m Q S ro rw' p=>by
 cases o with
 |ref l=>
  cases w with
  |ref k=>
   unfold aj at ro rw';obtain⟨a,rfl,ha⟩:=ro;obtain⟨b,rfl,hb⟩:=rw';have p':eo X.K m H (match st[l]?,st[k]? with |some (.lst ws),bv (.lst zs)=>if ws.length+zs.length<=lim then .ok .cY (st.set l (.lst (ws++zs)))else .bad |_,_=> .bad) Q:=p
   cases e:st[l]? with
   |none=>rw[e]at p';exact ab p'
   |some ob=>
    cases ob with
    |dct kvs=>rw[e]at p';exact ab p'
    |Dd kvs=>rw[e]at p';exact ab p'
    |AQ kvs=>rw[e]at p';exact ab p'
    |ER kvs=>rw[e]at p';exact ab p'
    |ins _ _=>rw[e]at p';exact ab p'
    |vB ns=>rw[e]at p';exact ab p'
    |lst ws=>
     cases e2:st[k]? with
     |none=>rw[e,e2]at p';exact ab p'
     |some ob2=>
      cases ob2 with
      |dct kvs=>rw[e,e2]at p';exact ab p'
      |Dd kvs=>rw[e,e2]at p';exact ab p'
      |AQ kvs=>rw[e,e2]at p';exact ab p'
      |ER kvs=>rw[e,e2]at p';exact ab p'
      |ins _ _=>rw[e,e2]at p';exact ab p'
      |vB ns=>rw[e,e2]at p';exact ab p'
      |lst zs=>
       rw[e,e2]at p';dsimp only at p';by_cases c:ws.length+zs.length<=lim
       ·rw[Os c]at p';obtain⟨xs,h1,h2⟩:=S.tV ha e;obtain⟨ys,g1,g2⟩:=S.tV hb e2;have e4:Ext X.K m H m (upd H a (.lst (xs++ys))):=Ext.upd (.inr ⟨xs,h1⟩);exact⟨a,b,xs,ys,rfl,rfl,h1,g1,by rw[<-h2.length,<-g2.length];exact eR c,p' _ m _ e4 (S.write ha e (h2.append g2)) Dg⟩
       ·rw[OK c]at p';exact ab p'
  |_=>exact ab p
 |_=>exact ab p⟩
theorem sG{id:String}(hm:PH X id mt)(slot:Slot "list" name id)(hty:typeOf (.builtin id)=pure (.type "method_descriptor"))(ho:JE X (.Name x p) go)(ha:JE X e ga)
  (hst:aj5 [e] X.env=[(kt,eval e X.env)])(hline:(apos.endLine == cpos.line)=jp):JE X (.Call (.Attribute (.Name x p) name apos) [e] [] cpos) (jh mt go ga):=by
 obtain⟨r,h1,h2⟩:=hm;have hfew:((backTo cpos (aj5 [e] X.env)).all (λx=> !x.1)&&(backToKw cpos (keywordEach [] X.env)).all (λx=>x.1.isSome)&&decide ([e].length+([]:List Keyword).length+(if([]:List Keyword).isEmpty then 0 else 1) < 30))=true:=by rw[hst];rfl
 refine JE.of (G8 PySem.F.plainAttrs_list slot hty h1 bq lZ rfl hfew hline hst rfl) λρ st σ H m Q S R p=>?_;refine ho.go S R (aE.bind p) λo st1 v m1 H1 p1 e1 S1 ro=>?_;cases o with
 |ref l=>
  dsimp only at p1;cases el:ax st1 l with
  |none=>rw[el]at p1;exact ab p1
  |some ws0=>
   rw[el]at p1;dsimp only at p1;have XH:=ro;unfold aj at XH;obtain⟨a,rfl,hla⟩:=XH;obtain⟨xs,hq,_⟩:=S1.read hla el;refine⟨.inl ⟨rfl,xs,hq⟩,?_⟩;refine(xX ha xW hst).go S1 (R.mono e1) (ok:=λws st2=>aE X σ m H (match ws with |[w]=>(mt (.ref l) w st2).mP |_=> .bad) (RO X.K m H Q)) ?_ λws st2 vs m2 H2 p2 e2 S2 rs=>?_
   ·have p3:=(aE.bind p1).imp e1 (λ_ _ q=>q);show aE X σ m1 H1 ((ga ρ st1).bind λx st1=>(ag ρ st1).bind λxs st2=> .ok (x::xs) st2) _;cases eg:ga ρ st1 with
    |ok w st2=>rw[eg]at p3;exact p3
    |err c st2=>rw[eg]at p3;exact p3
    |bad=>rw[eg]at p3;exact p3
   ·match ws,rs,p2 with
    |[],rs,p2=>exact ab p2
    |[w],rs,p2=>obtain⟨v2,rfl,rw2⟩:=kh rs;exact h2 (.ref l) w (.ref a) v2 st2 H2 m2 Q S2 (aj.mono e2 _ _ ro) rw2 (eo.shift (aE.mP p2) (e1.trans e2))
    |_::_::_,rs,p2=>exact ab p2
 |_=>exact ab p1
end
section
variable {X:Cx}
def l7:List Wv->Hs->Re Wv
 |[.str z],st=> .ok (.str z) st
 |ws,st=>Ng ws st
theorem Bw:fS X (.type "str") (λxs H Q=>∃z,xs=[.str z]/\Q (.str z) H):=by intro pins s σ H xs us Q I r h;obtain⟨z,rfl,q⟩:=h;obtain⟨u,rfl,t,rfl⟩:=vals1 r;exact PySem.P.str_of_str ⟨.str z,H,I,⟨t,rfl⟩,q⟩
theorem Nh:et X (.type "str") l7:=by
 obtain⟨r,h1,h2⟩:=Sq (X:=X);refine⟨_,Bw.or h1,λws vs st H m Q S rs p=>?_⟩;unfold l7 at p;split at p
 ·obtain⟨v,rfl,r1⟩:=kh rs;obtain⟨rfl,hz⟩:=eS r1;exact .inl ⟨_,rfl,p _ m H Ext.refl S (mkStr hz)⟩
 ·exact .inr (h2 ws vs st H m Q S rs p)
def XI:List Wv->Hs->Re Wv
 |[.int i],st=> .ok (.int i) st
 |[.bl b],st=> .ok (.int (if b then 1 else 0)) st
 |_,_=> .bad
theorem Ss:et X (.type "int") XI:=⟨_,EA,λws vs st H m Q S rs p=>by
 match ws,rs,p with
 |[],rs,p=>exact ab p
 |x::y::t,rs,p=>cases x<;>exact ab p
 |[x],rs,p=>
  obtain⟨v,rfl,r1⟩:=kh rs;cases x with
  |int i=>cases bt r1;exact .inl ⟨i,rfl,p _ m H Ext.refl S mkInt⟩
  |bl b=>cases Xq r1;exact .inr ⟨b,rfl,p _ m H Ext.refl S mkInt⟩
  |_=>exact ab p⟩
def Su(ws:List Wv)(st:Hs):Re Wv:=match two ws with
 |some (i,j)=> .ok (.int (if j > i then j else i)) st
 |none=> .bad
theorem Sv(hc:X.calm=jp):et X (.builtin "max") Su:=⟨_,Ey hc,λws vs st H m Q S rs p=>by
 unfold Su at p;cases q:two ws with
 |none=>rw[q]at p;exact ab p
 |some t=>obtain⟨i,j⟩:=t;obtain rfl:=two_eq q;rw[q]at p;obtain⟨v,v',rfl,r1,r2⟩:=MU rs;cases bt r1;cases bt r2;exact⟨i,j,rfl,p _ m H Ext.refl S mkInt⟩⟩
def Sw(ws:List Wv)(st:Hs):Re Wv:=match two ws with
 |some (i,j)=> .ok (.int (if j < i then j else i)) st
 |none=> .bad
theorem Sx(hc:X.calm=jp):et X (.builtin "min") Sw:=⟨_,Ez hc,λws vs st H m Q S rs p=>by
 unfold Sw at p;cases q:two ws with
 |none=>rw[q]at p;exact ab p
 |some t=>obtain⟨i,j⟩:=t;obtain rfl:=two_eq q;rw[q]at p;obtain⟨v,v',rfl,r1,r2⟩:=MU rs;cases bt r1;cases bt r2;exact⟨i,j,rfl,p _ m H Ext.refl S mkInt⟩⟩
end
def yc(env:Env):List (Str×ajR)->List (Str×ajO)->List (Str×ajO)
 |[],acc=>acc
 |(n,k)::r,acc=>if k= .free then yc env r ((n,(env.cells.lookup n).getD 0)::acc)else yc env r acc
theorem zt(env:Env):∀(names:List (Str×ajR))(acc:List (Str×ajO)),(∀y∈names,y.2= .free->∃c,env.cells.lookup y.1=bv c)->
  (forIn names acc λx r=>match x with
   |(name,kind)=>if(kind == gn)=jp then do let c <-cellOf env name;pure (t_ ((name,c)::r))else(pure (t_ r):Sem _))=pure (yc env names acc)
 |[],acc,_=>rfl
 |(n,k)::r,acc,h=>by
  have ih:=λacc=>zt env r acc λy hy=>h y (bw _ hy);rw[List.forIn_cons];by_cases hk:k= .free
  ·subst hk;obtain⟨c,e⟩:=h (n,.free) aY rfl;have e':env.cells.lookup n=bv c:=e;have cc:cellOf env n=pure c:=by unfold cellOf;rw[e']
   simp only[beq_self_eq_true,if_true,cc];have q:yc env ((n,.free)::r) acc=yc env r ((n,c)::acc):=by show(if gn= .free then yc env r ((n,(env.cells.lookup n).getD 0)::acc)else _)=_;rw[Os rfl,e'];rfl
   rw[q,<-ih];rfl
  ·have hb:(k == gn)=false:=by simpa using hk
   simp only[hb,Dk,if_false];have q:yc env ((n,k)::r) acc=yc env r acc:=by show(if k= .free then _ else yc env r acc)=_;rw[OK hk]
   rw[q,<-ih];rfl
theorem Ni(h:∀y∈scope.names,y.2= .free->∃c,env.cells.lookup y.1=bv c):closureFor scope env=pure (yc env scope.names []):=by
 have q:=zt env scope.names [] h;unfold closureFor
 first
  |(rw[<-q];rfl)
  |(simp only[bind_pure];exact q)
theorem yd{env:Env}:∀{names:List (Str×ajR)}{acc:List (Str×ajO)}{y:Str}{c:ajO},(∀y∈names,y.2= .free->∃c,env.cells.lookup y.1=bv c)->(∀y c,acc.lookup y=bv c->env.cells.lookup y=bv c)->(yc env names acc).lookup y=bv c->env.cells.lookup y=bv c
 |[],acc,y,c,_,ha,e=>ha y c e
 |(n,k)::r,acc,y,c,h,ha,e=>by
  unfold yc at e;by_cases hk:k= .free
  ·rw[Os hk]at e;subst hk;obtain⟨c0,e0⟩:=h (n,.free) aY rfl;have e0':env.cells.lookup n=bv c0:=e0;refine yd (λy hy=>h y (bw _ hy)) (λy' c' e'=>?_) e;rw[e_]at e';cases q:y' == n with
   |true=>rw[q]at e';have q':=eq_of_beq q;subst q';rw[e0']at e' ⊢;exact e'
   |false=>rw[q]at e';exact ha y' c' e'
  ·rw[OK hk]at e;exact yd (λy hy=>h y (bw _ hy)) ha e
theorem sH{env:Env}{y:Str}:∀{names:List (Str×ajR)}{acc:List (Str×ajO)},((∃c,acc.lookup y=bv c)\/(y,gn)∈names)->∃c,(yc env names acc).lookup y=bv c
 |[],acc,h=>by
  rcases h with h |h
  ·exact h
  ·cases h
 |(n,k)::r,acc,h=>by
  unfold yc;by_cases hk:k= .free
  ·rw[Os hk];refine sH ?_;rw[e_];cases q:y == n with
   |true=>exact .inl ⟨_,rfl⟩
   |false=>
    rcases h with h |h
    ·exact .inl h
    ·rcases List.mem_cons.mp h with h |h
     ·cases h;simp at q
     ·exact .inr h
  ·rw[OK hk];refine sH ?_;rcases h with h |h
   ·exact .inl h
   ·rcases List.mem_cons.mp h with h |h
    ·cases h;exact absurd rfl hk
    ·exact .inr h
theorem lookup_mem{α β:Type}[BEq α][LawfulBEq α]{y:α}{k:β}:∀{names:List (α×β)},names.lookup y=bv k->(y,k)∈names
 |[],h=>by cases h
 |(n,j)::r,h=>by
  rw[e_]at h;cases q:y == n with
  |true=>rw[q]at h;cases h;have q':=eq_of_beq q;subst q';exact aY
  |false=>rw[q]at h;exact bw _ (lookup_mem h)
theorem pj{env:Env}:∀{names:List (Str×ajR)}{y:Str},(names.map λ(n,k)=>if(k == gn&&env.scope.kind == .function&&env.kindOf n == bv .cell)then(n,gq)else(n,k)).lookup y=
  (names.lookup y).map λk=>if(k == gn&&env.scope.kind == .function&&env.kindOf y == bv .cell)=jp then gq else k
 |[],y=>rfl
 |(n,k)::r,y=>by
  have ih:=pj (env:=env) (names:=r) (y:=y);show kW y ((if(k == gn&&env.scope.kind == .function&&env.kindOf n == bv .cell)=jp then(n,gq)else(n,k))::_)=_;cases q:y == n with
  |true=>
   have q':=eq_of_beq q;subst q';by_cases hc:(k == gn&&env.scope.kind == .function&&env.kindOf y == bv .cell)=jp
   ·rw[Os hc];simp only[e_,beq_self_eq_true,sI];rw[Os hc]
   ·rw[OK hc];simp only[e_,beq_self_eq_true,sI];rw[OK hc]
  |false=>
   by_cases hc:(k == gn&&env.scope.kind == .function&&env.kindOf n == bv .cell)=jp
   ·rw[Os hc];simp only[e_,q];exact ih
   ·rw[OK hc];simp only[e_,q];exact ih
open Classical in
def ji(ck:Hs->Prop)(gt:Wv->Hs->Re Bool)(ge:Wv->Hs->Re Wv)(l:Nat):List Wv->Hs->Option Hs
 |[],st=>bv st
 |w::r,st=>match gt w st with
  |.ok kt st1=>if ck st1 then ji ck gt ge l r st1 else gV
  |.ok jp st1=>(match ge w st1 with
   |.ok v st2=>(match ni (.ref l) v st2 with
    |.ok _ st3=>if ck st3 then ji ck gt ge l r st3 else gV
    |_=>gV)
   |_=>gV)
  |_=>gV
open Classical in
def qX(ck:Hs->Prop)(gt:Wv->Hs->Re Bool)(ge:Wv->Hs->Re Wv)(l:Nat):List Wv->Hs->Re Unit
 |[],st=> .ok () st
 |w::r,st=>match gt w st with
  |.ok kt st1=>if ck st1 then qX ck gt ge l r st1 else .bad
  |.ok jp st1=>(match ge w st1 with
   |.ok v st2=>(match ni (.ref l) v st2 with
    |.ok _ st3=>if ck st3 then qX ck gt ge l r st3 else .bad
    |_=> .bad)
   |.err c st2=> .err c st2
   |.bad=> .bad)
  |.err c st1=> .err c st1
  |.bad=> .bad
theorem ua{ck:Hs->Prop}{gt:Wv->Hs->Re Bool}{ge:Wv->Hs->Re Wv}{l:Nat}{Dl:Hs}:∀(ws:List Wv)(st:Hs),ji ck gt ge l ws st=bv Dl->qX ck gt ge l ws st= .ok () Dl
 |[],st,h=>by cases h;rfl
 |w::r,st,h=>by
  unfold ji at h;unfold qX;cases eg:gt w st with
  |err c st1=>rw[eg]at h;cases h
  |bad=>rw[eg]at h;cases h
  |ok b st1=>
   rw[eg]at h;cases b with
   |false=>
    dsimp only at h ⊢;by_cases c:ck st1
    ·rw[Os c]at h ⊢;exact ua r st1 h
    ·rw[OK c]at h;cases h
   |true=>
    dsimp only at h ⊢;cases ee:ge w st1 with
    |err c st2=>rw[ee]at h;cases h
    |bad=>rw[ee]at h;cases h
    |ok v st2=>
     rw[ee]at h;dsimp only at h ⊢;cases ea:ni (.ref l) v st2 with
     |err c st3=>rw[ea]at h;cases h
     |bad=>rw[ea]at h;cases h
     |ok u st3=>
      rw[ea]at h;dsimp only at h ⊢;by_cases c:ck st3
      ·rw[Os c]at h ⊢;exact ua r st3 h
      ·rw[OK c]at h;cases h
abbrev i8:=List (Str×Nat)
def gT(cs:i8)(ρ:b7):b7:=cs.map λp=>(ρ[p.2]?).getD gV
def ye(cs:i8)(σ:St):St:=cs.map λp=>(σ[p.2]?).getD gV
theorem Nj(cs:i8)(R:a_ K m H ρ σ):a_ K m H (gT cs ρ) (ye cs σ):=by
 refine⟨by unfold gT ye;simp,λi w e=>?_⟩;unfold gT at e;rw[j3]at e;cases q:cs[i]? with
 |none=>rw[q]at e;cases e
 |some p=>
  rw[q]at e;have e':(ρ[p.2]?).getD gV=bv w:=by simpa using e
  cases q2:ρ[p.2]? with
  |none=>rw[q2]at e';cases e'
  |some o=>rw[q2]at e';have e2:o=bv w:=e';subst e2;obtain⟨v,h1,h2⟩:=R.get _ _ q2;refine⟨v,?_,h2⟩;unfold ye;rw[j3,q];simp[h1]
def AU(X:Cx)(scope:Scope)(C:ajO):List (Str×ajO):=cellsFrom (C+1) scope.names (yc X.env scope.names [])
theorem pv:∀{names:List (Str×ajR)}(n:Nat)(acc:List (Str×ajO))(h:Heap),(names.filter λy=>y.2 == .cell)=[]->cellsFrom n names acc=acc/\pushCells h names=h
 |[],_,_,_,_=>⟨rfl,rfl⟩
 |(y,k)::r,n,acc,h,e=>by
  cases q:(k == gq)with
  |true=>rw[Ih (by exact q)]at e;cases e
  |false=>rw[Ii (by show ¬(k == gq)=jp;rw[q];exact cS)]at e;unfold cellsFrom pushCells;rw[q];exact pv n acc h e
theorem kj{x:Str}:∀{names:List (Str×ajR)}(n:Nat)(acc:List (Str×ajO))(h:Heap),(names.filter λy=>y.2 == .cell)=[(x,.cell)]->cellsFrom n names acc=(x,n)::acc/\pushCells h names=h.push { cls:=.type "cell",data:=.cell gV }
 |[],_,_,_,e=>by cases e
 |(y,k)::r,n,acc,h,e=>by
  cases q:(k == gq)with
  |true=>rw[Ih (by exact q)]at e;have e1:=(List.cons.inj e).1;have e2:=(List.cons.inj e).2;cases e1;unfold cellsFrom pushCells;rw[q];exact pv _ _ _ e2
  |false=>rw[Ii (by show ¬(k == gq)=jp;rw[q];exact cS)]at e;unfold cellsFrom pushCells;rw[q];exact kj n acc h e
variable{E:ajU->ajT->Prop}
theorem ub{globals:ajO}{closure:List (Str×ajO)}{Q:Env->ajT->Prop}
  (hQ:Q (newEnv scope s.heap.objs.size globals (cellsFrom (s.heap.objs.size+1) scope.names closure) qual gV .none (bv env) builtinsNs) { s with heap:=pushCells (s.heap.push { cls:=.type "dict",data:=.dict #[] }) scope.names }):
  aj6 M A (newFunctionEnv scope globals closure [] qual gV .none (bv env)) Q E s:=by
 simp only[newFunctionEnv,Option.isSome_some,if_true];refine aj7 (wpAny_alloc ?_);refine aj7 (wpAny_layCells _ (λname kind cells=>by cases hkc:kind == gq<;>simp[hkc]) _ _ _ _ ?_);rw[show({ s with heap:=s.heap.push { cls:=.type "dict",data:=.dict #[] } }:ajT).heap.objs.size=s.heap.objs.size+1 from A7 ..];rw[List.forIn_nil];exact aj7 (akb (akb hQ))
def iW(X:Cx)(scope:Scope)(x:Str)(cs:i8)(C:ajO)(s0:ajT)(H0:Hp)(fp:List ajO)(pn:List (ajO×Obj))(E:ajU->ajT->Prop):Cx where
 prog:=X.prog
 w:=X.w
 K:=X.K
 mg:=X.mg
 base:=X.base
 A:=X.A
 N:=x::cs.map (·.1)
 s₀:=s0
 H₀:=H0
 env:=compEnvC scope (AU X scope C) C X.env
 outer:=X.stack
 stack:=X.stack
 ex:=fp
 fn:=λy=>scope.names.lookup y == bv .cell
 calm:=X.calm
 pn:=pn
 xe:=E
structure eT(X:Cx)(scope:Scope)(x:Str)(cs:i8):Prop where
 kind:scope.kind= .function
 look:∀y∈scope.names,scope.names.lookup y.1=bv y.2
 own:(scope.names.filter λy=>y.2 == .cell)=[]\/(scope.names.filter λy=>y.2 == .cell)=[(x,.cell)]
 var:scope.names.lookup x=bv .local\/scope.names.lookup x=bv .cell
 cap:∀y∈scope.names,y.2= .free->X.env.kindOf y.1=bv .cell\/X.env.kindOf y.1=bv .free
 at_:∀p∈cs,X.N[p.2]? =bv p.1/\scope.names.lookup p.1=bv .free
 nd:(x::cs.map (·.1)).Nodup
variable{fp:List ajO}{He:Hp}{se:ajT}
section
variable {X:Cx}{pins:List (ajO×Obj)}{σ:St}{H:Hp}{s:ajT}{scope:Scope}{x:Str}{cs:i8}
theorem zu(I:Inv X pins σ H s)(f:jE X pins H b):b∉frs X.stack:=λz=>by
 rcases List.mem_cons.mp (I.xA b z)with q |q
 ·exact f.2.1 q
 ·exact f.2.2.1 q
theorem eT.has(S:eT X scope x cs)(ok:X.Ok):∀y∈scope.names,y.2= .free->∃c,X.env.cells.lookup y.1=bv c:=λy hy e=>ok.has y.1 (S.cap y hy e)
theorem eT.Ij(S:eT X scope x cs){y:Str}(e:scope.names.lookup y=bv .cell):y=x/\(scope.names.filter λy=>y.2 == .cell)=[(x,.cell)]:=by
 have h:(y,gq)∈scope.names.filter λy=>y.2 == .cell:=Db.mpr ⟨lookup_mem e,rfl⟩;rcases S.own with z |z
 ·rw[z]at h;cases h
 ·rw[z]at h;have:=lw.mp h;cases this;exact⟨rfl,z⟩
theorem eT.sub(S:eT X scope x cs)(ok:X.Ok){y:Str}{c:ajO}(e:(AU X scope C).lookup y=bv c):(c=C+1/\y=x/\(scope.names.filter λy=>y.2 == .cell)=[(x,.cell)])\/(X.env.cells.lookup y=bv c/\scope.names.lookup y≠bv .cell):=by
 have old:∀{y:Str}{c:ajO},(yc X.env scope.names []).lookup y=bv c->X.env.cells.lookup y=bv c:=λe=>yd (S.has ok) (λ_ _ z=>by cases z) e;unfold AU at e;rcases S.own with z |z
 ·rw[(pv _ _ X.base z).1]at e;refine .inr ⟨old e,λq=>?_⟩;rw[(S.Ij q).2]at z;cases z
 ·rw[(kj _ _ X.base z).1,e_]at e;cases q:(y == x)with
  |true=>rw[q]at e;cases e;exact .inl ⟨rfl,eq_of_beq q,z⟩
  |false=>rw[q]at e;exact .inr ⟨old e,λw=>by rw[(S.Ij w).1]at q;simp at q⟩
theorem eT.to(S:eT X scope x cs){y:Str}{c:ajO}(e:(yc X.env scope.names []).lookup y=bv c)(n:scope.names.lookup y≠bv .cell):(AU X scope C).lookup y=bv c:=by
 unfold AU;rcases S.own with z |z
 ·rw[(pv _ _ X.base z).1];exact e
 ·rw[(kj _ _ X.base z).1,e_];have hx:scope.names.lookup x=bv .cell:=by
   have hm:(x,gq)∈scope.names.filter λy=>y.2 == .cell:=by rw[z];exact aY
   exact S.look _ (Db.mp hm).1
  cases q:(y == x)with
  |true=>exact absurd (by rw[eq_of_beq q];exact hx) n
  |false=>exact e
theorem eT.Sy(S:eT X scope x cs){y:Str}(h:(compEnvC scope (AU X scope C) C X.env).kindOf y=bv .cell\/(compEnvC scope (AU X scope C) C X.env).kindOf y=bv .free):scope.names.lookup y=bv .free\/scope.names.lookup y=bv .cell:=by
 have q:(compEnvC scope (AU X scope C) C X.env).kindOf y=(scope.names.lookup y).map λk=>if(k == gn&&X.env.scope.kind == .function&&X.env.kindOf y == bv .cell)=jp then gq else k:=pj
 rw[q]at h;cases e:scope.names.lookup y with
 |none=>rw[e]at h;simp at h
 |some k=>
  rw[e]at h;simp only[sI,Option.some.injEq]at h;by_cases hk:k= .free
  ·rw[hk];exact .inl rfl
  ·have hb:(k == gn)=false:=by simpa using hk
   rw[hb]at h;simp only[Bool.false_and,Dk,if_false]at h;rcases h with h |h
   ·rw[h];exact .inr rfl
   ·exact absurd h hk
theorem eT.Il(S:eT X scope x cs){y:Str}(e:scope.names.lookup y=bv .free):(compEnvC scope (AU X scope C) C X.env).kindOf y=bv .cell\/(compEnvC scope (AU X scope C) C X.env).kindOf y=bv .free:=by
 have q:(compEnvC scope (AU X scope C) C X.env).kindOf y=(scope.names.lookup y).map λk=>if(k == gn&&X.env.scope.kind == .function&&X.env.kindOf y == bv .cell)=jp then gq else k:=pj
 rw[q,e];simp only[sI];split
 ·exact .inl rfl
 ·exact .inr rfl
theorem Im{tk:Nat}(S:eT X scope x cs)(I:Inv X pins σ H s)(hf:∀b∈fp,jE X pins H b)(hl:∀b∈fp,b < s.heap.objs.size):
  Inv (iW X scope x cs s.heap.objs.size s H fp (X.pn++pins) E) [] (gV::ye cs σ) H { s with heap:=pushCells (s.heap.push { cls:=.type "dict",data:=.dict #[] }) scope.names,toks:=tk }:=by
 have keep:∀b o,s.heap.get? b=bv o->(pushCells (s.heap.push { cls:=.type "dict",data:=.dict #[] }) scope.names).get? b=bv o:=λb o e=>pushCells_keeps _ _ b o (cI _ e);have ns:(pushCells (s.heap.push { cls:=.type "dict",data:=.dict #[] }) scope.names).Ns s.heap.objs.size λ_=>none:=(Heap.Ns.new s.heap (.type "dict")).keeps (pushCells_keeps _ _);have own:(scope.names.filter λy=>y.2 == .cell)=[(x,.cell)]->(pushCells (s.heap.push { cls:=.type "dict",data:=.dict #[] }) scope.names).IsCell (s.heap.objs.size+1) none:=λz=>by rw[(kj 0 [] _ z).2];have:=gI (s.heap.push { cls:=.type "dict",data:=.dict #[] }) (o:={ cls:=.type "cell",data:=.cell gV }) rfl;rw[A7]at this;exact⟨_,this,rfl⟩
 generalize (pushCells (s.heap.push { cls:=.type "dict",data:=.dict #[] }) scope.names)=h2 at keep ns own ⊢;have sub:=λ{y:Str}{c:ajO}(e:(AU X scope s.heap.objs.size).lookup y=bv c)=>S.sub I.ok e;have cellK:∀y c,X.env.cells.lookup y=bv c->∀v,s.heap.IsCell c v->h2.IsCell c v:=λy c _ v ⟨o,ho,hd⟩=>⟨o,keep c o ho,hd⟩;have lt:∀{y:Str}{c:ajO},X.env.cells.lookup y=bv c->c < s.heap.objs.size:=λ{y c} e=>by obtain⟨v,z⟩:=I.cell y c e;exact z.lt
 refine⟨⟨I.ok.mod,S.kind,I.ok.glob,I.ok.blt,av _,(λy z c e1 e2=>?_),λy h=>?_,(λy c e1 e2=>?_),I.ok.hd,I.ok.frames,.inl rfl,λb hb=>⟨dJ (hl b hb),λy c e=>?_⟩,I.bs,aA I.ok.QJ I.sz,λb o e hb=>?_,λb hb=>zu I (hf b hb),I.stack,I.xB⟩,rfl,I.bare,Un.kept keep,⟨_,ns,λi y v e1 e2 e3=>?_⟩,(λy c e=>?_),I.fresh,(λy c e=>?_),λp hp=>?_,I.hok.kept keep,by unfold iW ye;simp⟩
 ·rcases sub e1 with ⟨q1,q2,_⟩ |⟨q1,_⟩<;>rcases sub e2 with ⟨q3,q4,_⟩ |⟨q3,_⟩
  ·rw[q2,q4]
  ·exact absurd (lt q3) (by rw[q1];exact Nat.not_lt.mpr (sy _))
  ·exact absurd (lt q1) (by rw[q3];exact Nat.not_lt.mpr (sy _))
  ·exact I.ok.inj y z c q1 q3
 ·rcases S.Sy h with k |k
  ·obtain⟨c,e⟩:=sH (env:=X.env) (y:=y) (names:=scope.names) (acc:=[]) (.inr (lookup_mem k));exact⟨c,S.to e (by rw[k];decide)⟩
  ·obtain⟨rfl,z⟩:=S.Ij k;refine⟨s.heap.objs.size+1,?_⟩;show(AU X scope s.heap.objs.size).lookup y=_;unfold AU;rw[(kj _ _ s.heap z).1,e_,beq_self_eq_true]
 ·rcases sub e2 with ⟨q1,_,_⟩ |⟨_,q2⟩
  ·rw[q1];exact sy _
  ·exact absurd (eq_of_beq e1) q2
 ·rcases sub e with ⟨q1,_,_⟩ |⟨q1,_⟩
  ·rw[q1];exact CZ (Nat.lt_succ_of_lt (hl b hb))
  ·exact(hf b hb).2.2.2.2.1 y c q1
 ·rcases(hf b hb).2.2.2.1 with z |z
  ·exact I.ok.QK b o e z
  ·exact absurd (bZ (bL e) (aA I.ok.QJ z)) (jI _)
 ·cases i with
  |zero=>cases e2
  |succ i=>
   have zw:(cs.map (·.1))[i]? =bv y:=e1;have LN:(ye cs σ)[i]? =bv (bv v):=e2;unfold ye at LN;rw[j3]at zw LN;cases q:cs[i]? with
   |none=>rw[q]at zw;cases zw
   |some p=>
    rw[q]at zw LN;have y1:p.1=y:=by simpa using zw
    have e4:(σ[p.2]?).getD gV=bv v:=by simpa using LN
    have e5:σ[p.2]? =bv (bv v):=by
     cases q2:σ[p.2]? with
     |none=>rw[q2]at e4;cases e4
     |some o=>rw[q2]at e4;have:o=bv v:=e4;rw[this]
    have hp:=S.at_ p (List.mem_iff_getElem?.mpr ⟨i,q⟩);rw[y1]at hp;have kd:=S.cap (y,.free) (lookup_mem hp.2) rfl;obtain⟨m,hn,hl'⟩:=I.loc;obtain⟨u,r,l⟩:=hl' p.2 y v hp.1 e5 (.inr kd);refine⟨u,r,.inr ⟨S.Il hp.2,?_⟩⟩;rcases l with ⟨l,_⟩ |⟨_,c,e,z⟩
    ·rcases kd with kd |kd
     ·have kd':X.env.kindOf y=bv .cell:=kd;rw[kd']at l;cases l
     ·have kd':X.env.kindOf y=bv .free:=kd;rw[kd']at l;cases l
    ·obtain⟨c',e'⟩:=sH (env:=X.env) (y:=y) (names:=scope.names) (acc:=[]) (.inr (lookup_mem hp.2));have e6:=S.to (C:=s.heap.objs.size) e' (by rw[hp.2];decide);rcases sub e6 with ⟨_,w1,w2⟩ |⟨w1,_⟩
     ·have hm:(x,gq)∈scope.names.filter λy=>y.2 == .cell:=by rw[w2];exact aY
      have:=S.look _ (Db.mp hm).1;rw[<-w1,hp.2]at this;cases this
     ·rw[e]at w1;cases w1;exact⟨c,e6,cellK y c e _ z⟩
 ·rcases sub e with ⟨rfl,_,q2⟩ |⟨q1,_⟩
  ·exact⟨gV,own q2⟩
  ·obtain⟨v,z⟩:=I.cell y c q1;exact⟨v,cellK y c q1 v z⟩
 ·rcases sub e with ⟨rfl,_,_⟩ |⟨q1,_⟩
  ·exact I.hok.fresh (sy _)
  ·exact I.qQ y c q1
 ·rw[fT]at hp;obtain⟨e,n,ne,nf,d⟩:=I.pin p hp;refine⟨keep _ _ e,n,dJ (bL e),λz=>?_,d⟩;rcases List.mem_cons.mp (I.xA p.1 z)with q |q
  ·exact ne q
  ·exact nf q
theorem Io{Hb:Hp}{sb:ajT}{σ':St}{CU:List (ajO×Obj)}(I:Inv X pins σ Hb sb)(hf:∀b∈fp,jE X pins Hb b)(J:Inv (iW X scope x cs C sb Hb fp (X.pn++pins) E) CU σ' He se):Inv X pins σ He se:=by have un:Un (frs X.stack) fp Hb He sb.heap se.heap:=J.base;exact I.Wz (ch:=fp) J.os un J.hok J.bare λb hb=>⟨(hf b hb).2.2.2.1,(hf b hb).2.1,(hf b hb).2.2.2.2.1,λp hp=>(hf b hb).2.2.2.2.2 p hp⟩
theorem wG(I:Inv X pins σ He se)(f:jE X pins He C)(same:xD C se.heap h2):Inv X pins σ He { se with heap:=h2 } :=
 I.turned (t':=se.toks) (it:=C) (λb o hb e=>(same.2 b hb).trans e) f.1 f.2.1 f.2.2.2.1 f.2.2.2.2.1 f.2.2.2.2.2
end
def Ip(X:Cx):Prop:=∃(env:Env)(outer:List Env)(L:ajO),X.stack=env::outer/\env.frame=bv L/\X.env.frame=bv L
structure Iq(Y:Cx->Prop)(P:ajS)(w:ajV)(K:lc)(tg:Expr)(J:It)(fp:List ajO)(it:ajO)(tn:Nat->Heap->Prop):Prop where
 obj:∀i h,tn i h->∀b∈fp,∃o,h.get? b=bv o/\∀v,o.data≠.cell v
 keep:∀i h h',tn i h->(∀b∈fp,∀o,h.get? b=bv o->h'.get? b=bv o)->tn i h'
 item:∀(X:Cx),X.prog=P->X.w=w->X.K=K->Y X->∀(i:Nat)(pins:List (ajO×Obj))(s:ajT)(σ:St)(H:Hp)(E:ajU->ajT->Prop),Inv X pins σ H s->(∀b∈fp,jE X pins H b)->tn i s.heap->J.go i H->aj6 (model P w) X.A (pyNext (.ref it)) (λr s1=>∃u,r=bv u/\
  aj6 (model P w) X.A (letOwnedTupleGo tg (.ref it) u) (λ_ s2=>∃x H',Inv X pins σ H' s2/\RelV x u/\J.Gg i H x H'/\tn (i+1) s2.heap/\∀b∈fp,H' b=gV) E s1) E s
 done:∀(X:Cx),X.prog=P->X.w=w->X.K=K->Y X->∀(i:Nat)(pins:List (ajO×Obj))(s:ajT)(σ:St)(H:Hp)(E:ajU->ajT->Prop),Inv X pins σ H s->(∀b∈fp,jE X pins H b)->tn i s.heap->J.stop i H->aj6 (model P w) X.A (pyNext (.ref it)) (λr s1=>r=gV/\Inv X pins σ H s1) E s
 self:∀(A:ajP)(i:Nat)(s:ajT)(Q:ajU->ajT->Prop)(E:ajU->ajT->Prop),tn i s.heap->Q (.ref it) s->aj6 (model P w) A (pyIter (.ref it)) Q E s
abbrev Calm(X:Cx):Prop:=X.calm=jp
variable{it:ajO}{tn:Nat->Heap->Prop}
theorem _root_.L2.Turn.y{w:ajV}{J:It}(T:Turn P w K tg J fp it tn):Iq Calm P w K tg J fp it tn:=⟨T.obj,T.keep,T.item,T.done,T.self⟩
def XJ(Y:Cx->Prop)(X:Cx):Prop:=∀{pins:List (ajO×Obj)}{σ:St}{H:Hp}{s:ajT}(scope:Scope)(x:Str)(cs:i8)(C:ajO)(s0:ajT)(fp:List ajO)(pn:List (ajO×Obj))(E:ajU->ajT->Prop),Inv X pins σ H s->Y (iW X scope x cs C s0 H fp pn E)
variable{X:Cx}
theorem zx(hc:X.calm=jp):XJ Calm X:=λ_ _ _ _ _ _ _ _ _=>hc
def Sz(X:Cx)(ifs:List Expr)(g:GT):Prop:=∀(ρ:b7)(st:Hs)(σ:St)(H:Hp)(m:Mp)(Q:Bool->Hp->Prop),cA X.K m st H->a_ X.K m H ρ σ->ke X σ m H (g ρ st) Q->∀(pins:List (ajO×Obj))(s:ajT),Inv X pins σ H s->
 aj6 (model X.prog X.w) X.A (forIn ifs jp λc r=>if r=jp then do let ok <-isTrue c X.env (eval c X.env);pure (t_ ok)else pure (t_ r)) (TP X pins σ Q) X.xe s
variable{Q:ajU->ajT->Prop}{cs:i8}{px:Pos}{elt:Expr}{ifs:List Expr}{use:Option (ajU->Sem Unit)}{Y:Cx->Prop}
section
variable {X:Cx}
theorem Nk:Sz X [] (λ_ st=> .ok jp st):=λρ st σ H m Q S R p pins s I=>wpAny_tests_nil ⟨H,I,p m H Ext.refl S⟩
theorem Bx{pins:List (ajO×Obj)}{ck:Hs->Prop}
  {res:Re Unit}
  {H2:Hp}{s2:ajT}(fr:Ip X)(S:eT X scope x cs)(hY:XJ Y X)(hH:So X)(I2:Inv X pins σ H2 s2)(T:Iq Y X.prog X.w X.K (.Name x px) J' fp it tn)(t0:tn 0 s2.heap)(f2:∀b∈fp,jE X pins H2 b)
  (S1:cA X.K m1 st1 H2)(R:a_ X.K m1 H2 ρ σ)(hck:ck (st1++[.lst []]))(run:qX ck (λw=>gt (bv w::gT cs ρ)) (λw=>ge (bv w::gT cs ρ)) st1.length ws (st1++[.lst []])=res)(nb:res≠.bad)(hx:∀c stE,res≠.err c stE)
  (hE:∀C s0 H0 pn E,E2 X.A H0->JE (iW X scope x cs C s0 H0 fp pn E) elt ge)(hT:∀C s0 H0 pn E,E2 X.A H0->Sz (iW X scope x cs C s0 H0 fp pn E) ifs gt)
  (hgo:∀(k:Nat)(H:Hp)(m':Mp)(st:Hs),Ext X.K m1 H2 m' H->cA X.K m' st H->ck st->k < ws.length->J'.go k H)(hstop:∀(k:Nat)(H:Hp)(m':Mp)(st:Hs),Ext X.K m1 H2 m' H->cA X.K m' st H->ck st->k=ws.length->J'.stop k H)
  (hy:∀(k:Nat)(hk:k < ws.length)(H:Hp)(v:V)(H':Hp)(m':Mp)(st:Hs),Ext X.K m1 H2 m' H->cA X.K m' st H->ck st->J'.Gg k H v H'->H'=H/\aj X.K m' H ws[k] v)
  (fin:∀(Dl:Hs),res= .ok () Dl->∀(D C:ajO)(mm:Str->Option ajU)(m':Mp)(H':Hp)(s':ajT),Ext X.K m1 H2 m' H'->cA X.K m' Dl H'->m'[st1.length]? =bv D->Inv X pins σ H' s'->jE X pins H' C->s'.heap.Ns C mm->(∀y c,X.env.cells.lookup y=bv c->c≠C)->aj0 (model X.prog X.w) X.A X.xe use Q (.ref D) C (.ok .next) s'):
  aj6 (model X.prog X.w) X.A (newList []) (λacc s3=>aj6 (model X.prog X.w) X.A (newFunctionEnv scope X.env.globals (yc X.env scope.names []) [] X.env.qual gV .none (bv X.env)) (λcenv s4=>
   ajZ (model X.prog X.w) X.A (.compStart (.ListComp elt [⟨.Name x px,iter,ifs,0⟩] scope pos) 0 (.ref it) acc { cenv with scope:=relabel scope X.env }) (aj0 (model X.prog X.w) X.A X.xe use Q acc cenv.locals) s4) E s3) E s2:=by
 refine wpAny_newList ?_;have I3:Inv X pins σ (upd H2 s2.heap.objs.size (.lst [])) { s2 with heap:=s2.heap.push { cls:=.type "list",data:=.seq ([]:List ajU).toArray } }:=I2.Rx (ys:=[]) (its:=[]) (t':=s2.toks) .nil (dz _);have lt2:∀b∈fp,b < s2.heap.objs.size:=λb hb=>by obtain⟨o,e,_⟩:=T.obj _ _ t0 b hb;exact bL e
 have hD:H2 s2.heap.objs.size=none:=I2.fresh;have f3:∀b∈fp,jE X pins (upd H2 s2.heap.objs.size (.lst [])) b:=λb hb=>⟨by rw[b6 (dJ (lt2 b hb))];exact(f2 b hb).1,(f2 b hb).2⟩;have S3:=S1.alloc (ws:=[]) (xs:=[]) hD ai.nil;have e3:Ext X.K m1 H2 (m1++[s2.heap.objs.size]) (upd H2 s2.heap.objs.size (.lst [])):=Ext.more.trans (Ext.upd (.inl hD));have lab:(m1++[s2.heap.objs.size])[st1.length]? =bv s2.heap.objs.size:=by rw[<-S1.len,lW (av _),sF];rfl
 generalize SD:({ s2 with heap:=s2.heap.push { cls:=.type "list",data:=.seq ([]:List ajU).toArray } }:ajT)=s3 at I3;have k23:∀b o,s2.heap.get? b=bv o->s3.heap.get? b=bv o:=λb o e=>by rw[<-SD];exact cI _ e
 have lt3:∀b∈fp,b < s3.heap.objs.size:=λb hb=>by obtain⟨o,e,_⟩:=T.obj _ _ t0 b hb;exact bL (k23 b o e)
 generalize hDD:s2.heap.objs.size=D at *;generalize hH3:upd H2 D (.lst [])=H3 at *;generalize hm3:m1++[D]=m3 at *;have R3:a_ X.K m3 H3 (gT cs ρ) (ye cs σ):=(Nj cs R).mono e3;generalize hrr:gT cs ρ=ρc at *;generalize hss:ye cs σ=σc at *;refine ub ?_;have Ic:=λE=>Im (E:=E) (tk:=s3.toks) S I3 f3 lt3;have k34:∀b o,s3.heap.get? b=bv o->(pushCells (s3.heap.push { cls:=.type "dict",data:=.dict #[] }) scope.names).get? b=bv o:=λb o e=>pushCells_keeps _ _ b o (cI _ e);generalize (pushCells (s3.heap.push { cls:=.type "dict",data:=.dict #[] }) scope.names)=h4 at Ic k34 ⊢;have t4:tn 0 h4:=T.keep _ _ _ t0 λb _ o e=>k34 b o (k23 b o e)
 let EX:ajU->ajT->Prop:=notedBy (model X.prog X.w) X.A (compEnvC scope (AU X scope s3.heap.objs.size) s3.heap.objs.size X.env) λe s'=>aj0 (model X.prog X.w) X.A X.xe use Q (.ref D) s3.heap.objs.size (.error e) s'
 let Xc:=iW X scope x cs s3.heap.objs.size s3 H3 fp (X.pn++pins) EX
 have noted:∀{σ':St}{m:Mp}{H:Hp}{c:Str}{st:Hs},Ext X.K m1 H2 m H->res= .err c st->VR Xc σ' m H c st:=λ_ er=>(hx _ _ er).elim;have vis:Loc Xc.env.scope x/\(Xc.fn x=jp\/Xc.env.scope.names.lookup x=bv .local):=by
  rcases S.var with v |v
  ·exact⟨.inl (lookup_relabel_local v),.inr (lookup_relabel_local v)⟩
  ·have q:Xc.env.scope.names.lookup x=bv .cell:=by show(scope.names.map _).lookup x=_;rw[pj,v];rfl
   exact⟨.inr q,.inl (by show(scope.names.lookup x == bv .cell)=jp;rw[v];rfl)⟩
 have fpc:∀(H':Hp),(∀b∈fp,H' b=gV)->∀b∈fp,jE Xc [] H' b:=λH' hn b hb=>⟨hn b hb,dJ (lt3 b hb),zu I3 (f3 b hb),.inl hb,λy c e=>(by
  rcases S.sub I3.ok e with ⟨q1,_,_⟩ |⟨q1,_⟩
  ·rw[q1];exact CZ (Nat.lt_succ_of_lt (lt3 b hb))
  ·exact(f3 b hb).2.2.2.2.1 y c q1),λp hp=>(f2 b hb).2.2.2.2.2 p (by have hp':p∈(X.pn++pins)++[]:=hp;rw[fT]at hp';exact hp')⟩
 let Pv:Nat->ajT->Prop:=λk s'=>∃z H' st m',Inv Xc [] (z::σc) H' s'/\tn k s'.heap/\(∀b∈fp,H' b=gV)/\Ext X.K m3 H3 m' H'/\cA X.K m' st H'/\ck st/\qX ck (λw=>gt (bv w::ρc)) (λw=>ge (bv w::ρc)) st1.length (ws.drop k) st=res
 have loop:∀s4:ajT,Pv 0 s4->ajZ (model X.prog X.w) X.A (.compLoop (.ListComp elt [⟨.Name x px,iter,ifs,0⟩] scope pos) 0 (.ref it) (.ref D) (compEnvC scope (AU X scope s3.heap.objs.size) s3.heap.objs.size X.env)) (aj0 (model X.prog X.w) X.A X.xe use Q (.ref D) s3.heap.objs.size) s4:=λs4 p0=>by
  refine codeAny_compLoop_tests (λn s'=>∃k,n=ws.length - k/\k<=ws.length/\Pv k s') ?_ ws.length ⟨0,by simp,dz _,p0⟩;rintro n s5 ⟨k,rfl,hk,z5,H5,GF,m5,I5,tn5,fr5,e5,S5,c5,gL⟩;have VX:=e3.trans e5;by_cases hlt:k < ws.length
  ·refine bR (T.item Xc rfl rfl rfl (hY _ _ _ _ _ _ _ _ I3) k [] s5 (z5::σc) H5 _ I5 (fpc H5 fr5) tn5 (hgo k H5 m5 GF VX S5 c5 hlt)) λr s6 h6=>?_;obtain⟨u,rfl,h6⟩:=h6;show aj6 (model X.prog X.w) X.A (pure () >>= λ_=>assign (.Name x px) Xc.env u) _ _ s6;refine aj7 (bR h6 λ_ s7 h7=>?_);obtain⟨v,H7,I7,rv,yl,tn7,fr7⟩:=h7;obtain⟨rfl,rw7⟩:=hy k hlt H5 v H7 m5 GF VX S5 c5 yl;have I7':=I7.pinned (fpc H7 fr7) (T.obj _ _ tn7);refine wpAny_assign_Name (oW (i:=0) I7' S.nd rfl vis.1 rv (λs8 I8=>?_) vis.2);have I8':Inv Xc ([]++je fp s7.heap) (bv v::σc) H7 s8:=I8;have R8:a_ X.K m5 H7 (bv ws[k]::ρc) (bv v::σc):=by
    have R5:=R3.mono e5;refine⟨by simp[R5.len],λi w e=>?_⟩;cases i with
    |zero=>cases e;exact⟨v,rfl,rw7⟩
    |succ i=>exact R5.get i w e
   have ed:ws.drop k=ws[k]::ws.drop (k+1):=yb hlt;rw[ed]at gL;unfold qX at gL;have back:∀{H':Hp}{s':ajT}{m':Mp}{st:Hs},Inv Xc ([]++je fp s7.heap) (bv v::σc) H' s'->Ext X.K m3 H3 m' H'->cA X.K m' st H'->ck st->qX ck (λw=>gt (bv w::ρc)) (λw=>ge (bv w::ρc)) st1.length (ws.drop (k+1)) st=res->∃n',n' < ws.length - k/\∃k',n'=ws.length - k'/\k'<=ws.length/\Pv k' s' :=
    λ{H' s' m' st} I' e' S' c' r'=>⟨ws.length - (k+1),by omega,k+1,rfl,hlt,bv v,H',st,m',I'.oX,T.keep _ _ _ tn7 λb hb o e=>(I'.pin (b,o) (iB _ (iB _ (kU hb e)))).1,λb hb=>by obtain⟨o,e,_⟩:=T.obj _ _ tn7 b hb;exact(I'.pin (b,o) (iB _ (iB _ (kU hb e)))).2.1,e',S',c',r'⟩
   cases eg:gt (bv ws[k]::ρc) GF with
   |err c VY=>rw[eg]at gL;refine aj9 (hT s3.heap.objs.size s3 H3 (X.pn++pins) EX (hH.at I3) (bv ws[k]::ρc) GF (bv v::σc) H7 m5 (λ_ _=>False) S5 R8 (by rw[eg];exact noted VX gL.symm) ([]++je fp s7.heap) s8 I8') (λ_ _ h9=>?_) λ_ _ z=>z;obtain⟨_,_,z⟩:=h9;exact z.elim
   |bad=>rw[eg]at gL;exact absurd gL.symm nb
   |ok b VY=>
    rw[eg]at gL;have VS:=hT s3.heap.objs.size s3 H3 (X.pn++pins) EX (hH.at I3) (bv ws[k]::ρc) GF (bv v::σc) H7 m5 (λb' H'=>b'=b/\∃m',Ext X.K m5 H7 m' H'/\cA X.K m' VY H') S5 R8 (by rw[eg];exact λm' H' e' S'=>⟨rfl,m',e',S'⟩) ([]++je fp s7.heap) s8 I8';refine aj9 VS (λok s9 h9=>?_) λ_ _ z=>z;obtain⟨H9,I9,rfl,m9,e9,S9⟩:=h9;cases ok with
    |false=>
     dsimp only at gL;by_cases c6:ck VY
     ·rw[Os c6]at gL;rw[OK cS];exact back I9 (e5.trans e9) S9 c6 gL
     ·rw[OK c6]at gL;exact absurd gL.symm nb
    |true=>
     dsimp only at gL;rw[Os rfl];cases ee:ge (bv ws[k]::ρc) VY with
     |err c st7=>rw[ee]at gL;refine aj9 (hE s3.heap.objs.size s3 H3 (X.pn++pins) EX (hH.at I3) (bv ws[k]::ρc) VY (bv v::σc) H9 m9 (λ_ _=>False) S9 (R8.mono e9) (by rw[ee];exact noted (VX.trans e9) gL.symm) ([]++je fp s7.heap) s9 I9) (λ_ _ h10=>?_) λ_ _ z=>z;obtain⟨_,_,_,_,z⟩:=h10;exact z.elim
     |bad=>rw[ee]at gL;exact absurd gL.symm nb
     |ok w st7=>
      rw[ee]at gL;dsimp only at gL;cases ea:ni (.ref st1.length) w st7 with
      |err c st8=>rw[ea]at gL;exact absurd gL.symm nb
      |bad=>rw[ea]at gL;exact absurd gL.symm nb
      |ok w2 st8=>
       rw[ea]at gL;dsimp only at gL;by_cases c8:ck st8
       ·rw[Os c8]at gL;have el:=hE s3.heap.objs.size s3 H3 (X.pn++pins) EX (hH.at I3) (bv ws[k]::ρc) VY (bv v::σc) H9 m9 (λv' H'=>∃m',Ext X.K m9 H9 m' H'/\cA X.K m' st7 H'/\aj X.K m' H' w v') S9 (R8.mono e9) (by rw[ee];exact λv' m' H' e' S' r'=>⟨m',e',S',r'⟩) ([]++je fp s7.heap) s9 I9;refine aj9 el (λu2 s10 h10=>?_) λ_ _ z=>z;obtain⟨v2,VZ,I10,r2,m10,e10,S10,acx⟩:=h10;obtain⟨r,h1,h2⟩:=Ig (X:=Xc);have eA:=(e5.trans e9).trans e10;have ro:aj X.K m10 VZ (.ref st1.length) (.ref D):=by unfold aj;exact⟨D,rfl,eA.pre _ _ lab⟩
        have rd:=h2 (.ref st1.length) w (.ref D) v2 st7 VZ m10 (λ_ H'=>∃m',Ext X.K m10 VZ m' H'/\cA X.K m' st8 H') S10 ro acx (by rw[ea];exact λv' m' H' e' S' r'=>⟨m',e',S'⟩);refine aj9 (h1 ([]++je fp s7.heap) s10 (bv v::σc) VZ (.ref D) [v2] (.ref D) [u2] _ I10 rfl (.cons r2 .nil) rd) (λ_ s11 h11=>?_) λ_ _ z=>z;obtain⟨_,H11,I11,_,m11,e11,S11⟩:=h11;exact back I11 (eA.trans e11) S11 c8 gL
       ·rw[OK c8]at gL;exact absurd gL.symm nb
  ·have ek:k=ws.length:=by omega
   subst ek;refine bR (T.done Xc rfl rfl rfl (hY _ _ _ _ _ _ _ _ I3) _ [] s5 (z5::σc) H5 _ I5 (fpc H5 fr5) tn5 (hstop _ H5 m5 GF VX S5 c5 rfl)) λr s6 h6=>?_;obtain⟨rfl,I6⟩:=h6;rw[Bv]at gL;obtain⟨mm,ns6,_⟩:=id I6.loc;have fC:=I3.Mb (H':=H5) (av _) I6.free;exact fin GF gL.symm D _ mm m5 H5 _ VX S5 (e5.pre _ _ lab) (Io I3 f3 I6) fC ns6 fC.2.2.2.2.1
 have p0:Pv 0 { s3 with heap:=h4,toks:=s3.toks }:=⟨gV,H3,st1++[Ob.lst []],m3,hss ▸ Ic EX,t4,λb hb=>(f3 b hb).1,Ext.refl,S3,hck,by rw[Ir];exact run⟩;exact codeAny_compStart_list (loop _ p0) (T.self X.A 0 _ _ _ t4 (loop _ p0))
end
abbrev Wk:=Option Nat×List Wv
def k9(w:Wk)(st:Hs):Prop:=match w.1 with
 |some l=>ax st l=bv w.2
 |none=>True
structure zy(X:Cx)(w:Wk)(m1:Mp)(H1:Hp)(J':It):Prop where
 go:∀(k:Nat)(H:Hp)(m':Mp)(st:Hs),Ext X.K m1 H1 m' H->cA X.K m' st H->k9 w st->k < w.2.length->J'.go k H
 stop:∀(k:Nat)(H:Hp)(m':Mp)(st:Hs),Ext X.K m1 H1 m' H->cA X.K m' st H->k9 w st->k=w.2.length->J'.stop k H
 Gg:∀(k:Nat)(hk:k < w.2.length)(H:Hp)(v:V)(H':Hp)(m':Mp)(st:Hs),Ext X.K m1 H1 m' H->cA X.K m' st H->k9 w st->J'.Gg k H v H'->H'=H/\aj X.K m' H w.2[k] v
abbrev GI:=b7->Hs->Re Wk
def acy(Y:Cx->Prop)(X:Cx)(pins:List (ajO×Obj))(σ:St)(tg:Expr)(R:It->Hp->Prop)(itv:ajU)(s2:ajT):Prop :=
 ∃(it:ajO)(fp:List ajO)(tn:Nat->Heap->Prop)(J:It)(H':Hp),itv= .ref it/\Inv X pins σ H' s2/\Iq Y X.prog X.w X.K tg J fp it tn/\tn 0 s2.heap/\(∀b∈fp,jE X pins H' b)/\R J H'
def PIY(Y:Cx->Prop)(X:Cx)(tg iter:Expr)(wi:TI):Prop:=∀(pins:List (ajO×Obj))(s:ajT)(σ:St)(H:Hp)(R:It->Hp->Prop),Inv X pins σ H s->wi σ H R->
 aj6 (model X.prog X.w) X.A (eval iter X.env) (λv s1=>aj6 (model X.prog X.w) X.A (pyIter v) (acy Y X pins σ tg R) X.xe s1) X.xe s
theorem _root_.L2.PI.y{wi:TI}(h:PI X tg iter wi):PIY Calm X tg iter wi:=λpins s σ H R I q=>bR (h pins s σ H R I q) λ_ _ h1=>bR h1 λ_ _ h2=>
 let ⟨it,fp,tn,J,H',e,I',T,r⟩:=h2;⟨it,fp,tn,J,H',e,I',T.y,r⟩
def JIY(Y:Cx->Prop)(X:Cx)(tg iter:Expr)(gi:GI):Prop:=∃wi,PIY Y X tg iter wi/\∀(ρ:b7)(st:Hs)(σ:St)(H:Hp)(m:Mp)(R:It->Hp->Prop),cA X.K m st H->a_ X.K m H ρ σ->
 aE X σ m H (gi ρ st) (λw st1=>∀(m1:Mp)(H1:Hp)(J':It),Ext X.K m H m1 H1->cA X.K m1 st1 H1->k9 w st1->zy X w m1 H1 J'->R J' H1)->wi σ H R
def JI(X:Cx)(tg iter:Expr)(gi:GI):Prop:=∃wi,PI X tg iter wi/\∀(ρ:b7)(st:Hs)(σ:St)(H:Hp)(m:Mp)(R:It->Hp->Prop),cA X.K m st H->a_ X.K m H ρ σ->
 aE X σ m H (gi ρ st) (λw st1=>∀(m1:Mp)(H1:Hp)(J':It),Ext X.K m H m1 H1->cA X.K m1 st1 H1->k9 w st1->zy X w m1 H1 J'->R J' H1)->wi σ H R
variable{gi:GI}
theorem JI.y(h:JI X tg iter gi):JIY Calm X tg iter gi:=let ⟨wi,h1,h2⟩:=h;⟨wi,h1.y,h2⟩
def SF(w:Wv)(st:Hs):Re Wk:=match w with
 |.ref l=>(match ax st l with |some ws=> .ok (bv l,ws) st |none=> .bad)
 |.tup ws=> .ok (gV,ws) st
 |.j5 ws=> .ok (gV,ws) st
 |_=> .bad
def Iu(g:GE):GI:=λρ st=>(g ρ st).bind SF
variable{l:Nat}{more:Hs}
section
variable {X:Cx}
theorem SG(h:JE X iter g):JI X tg iter (Iu g):=by
 refine⟨_,HZ bq,λρ st σ H m Q S R p=>?_⟩;refine h.go S R (aE.bind p) λw st1 v m1 H1 p1 e1 S1 rw'=>?_;cases w with
 |ref l=>
  unfold aj at rw';obtain⟨a,rfl,hla⟩:=rw';unfold SF at p1;cases el:ax st1 l with
  |none=>simp only[el]at p1;exact ab p1
  |some ws=>
   simp only[el]at p1;obtain⟨xs0,q0,_⟩:=S1.read hla el;refine⟨a,rfl,.inl ⟨⟨xs0,q0⟩,p1 m1 H1 _ e1 S1 el ⟨λk H' m' st' e S' c hk=>?_,λk H' m' st' e S' c hk=>?_,λk hk H' v H'' m' st' e S' c y=>?_⟩⟩⟩
   ·obtain⟨xs,hq,rws⟩:=S'.read (e.pre _ _ hla) c;have hx':k < xs.length:=by rw[<-rws.length];exact hk
    exact⟨xs,xs[k],hq,by simp[hx']⟩
   ·obtain⟨xs,hq,rws⟩:=S'.read (e.pre _ _ hla) c;exact⟨xs,hq,by rw[<-rws.length,hk];exact av _⟩
   ·obtain⟨xs,hq,rws⟩:=S'.read (e.pre _ _ hla) c;obtain⟨ee,y⟩:=y;refine⟨ee,?_⟩;obtain⟨x',ex',AS⟩:=rws.get (i:=k) (w:=ws[k]) (fk hk);rw[y xs hq]at ex';cases ex';exact AS
 |tup ws=>
  unfold aj at rw';obtain⟨a,xs,rfl,hq,rws⟩:=rw';refine⟨a,rfl,.inr ⟨⟨xs,hV.of hq⟩,p1 m1 H1 _ e1 S1 trivial ⟨λk H' m' st' e S' c hk=>?_,λk H' m' st' e S' c hk=>?_,λk hk H' v H'' m' st' e S' c y=>?_⟩⟩⟩
  ·have hx':k < xs.length:=by rw[<-rws.length];exact hk
   exact⟨xs,xs[k],hV.of (e.tup _ _ hq),by simp[hx']⟩
  ·exact⟨xs,hV.of (e.tup _ _ hq),by rw[<-rws.length,hk];exact av _⟩
  ·obtain⟨ee,y⟩:=y;refine⟨ee,?_⟩;obtain⟨x',ex',AS⟩:=(ai.mono e _ _ rws).get (i:=k) (w:=ws[k]) (fk hk);rw[y xs (hV.of (e.tup _ _ hq))]at ex';cases ex';exact AS
 |j5 ws=>
  unfold aj at rw';obtain⟨a,xs,rfl,hq,rws⟩:=rw';refine⟨a,rfl,.inr ⟨⟨xs,.inr hq⟩,p1 m1 H1 _ e1 S1 trivial ⟨λk H' m' st' e S' c hk=>?_,λk H' m' st' e S' c hk=>?_,λk hk H' v H'' m' st' e S' c y=>?_⟩⟩⟩
  ·have hx':k < xs.length:=by rw[<-rws.length];exact hk
   exact⟨xs,xs[k],.inr hq,by simp[hx']⟩
  ·exact⟨xs,.inr hq,by rw[<-rws.length,hk];exact av _⟩
  ·obtain⟨ee,y⟩:=y;refine⟨ee,?_⟩;obtain⟨x',ex',AS⟩:=(ai.mono e _ _ rws).get (i:=k) (w:=ws[k]) (fk hk);rw[y xs (.inr hq)]at ex';cases ex';exact AS
 |_=>exact ab p1
theorem SH:zy X (gV,eL lo n) m1 H1 (Q3 lo n) where
 go:=λk H m' st e S c hk=>by have:(eL lo n).length=n:=dQ;have hk':k < (eL lo n).length:=hk;rw[this]at hk';exact hk'
 stop:=λk H m' st e S c hk=>by have:(eL lo n).length=n:=dQ;have hk':k=(eL lo n).length:=hk;rw[this]at hk';exact sx hk'.symm
 Gg:=λk hk H v H' m' st e S c y=>by obtain⟨y1,y2⟩:=y;refine⟨y1,?_⟩;have q:(eL lo n)[k]'hk= .int (lo+k):=zr hk;show aj X.K m' H ((eL lo n)[k]'hk) v;rw[q,y2];exact mkInt
def Dm(ws:List Wv)(st:Hs):Re Wk:=match ws with
 |[.int j]=>if lS j then .ok (gV,eL 0 j.toNat) st else .bad
 |_=> .bad
def PJ(ws:List Wv)(st:Hs):Re Wk:=match two ws with
 |some (a,j)=>if lS a/\lS j then .ok (gV,eL a (j - a).toNat) st else .bad
 |none=> .bad
def By(g:GA):GI:=λρ st=>(g ρ st).bind Dm
def acz(g:GA):GI:=λρ st=>(g ρ st).bind PJ
theorem XM{ga:GA}{q:Pos}(hg:Gl X "range")(hm:X.mg "range"=gV)(ha:JA X [a] ga)(hst:aj5 [a] X.env=[(kt,eval a X.env)]):JI X tg (.Call (.Name "range" p) [a] [] q) (By ga):=by
 refine⟨_,wb hg hm lZ hst,λρ st σ H m Q S R p=>?_⟩;refine ha.go S R (aE.bind p) λws st1 vs m1 H1 p1 e1 S1 rs=>?_
 match ws,rs,p1 with
 |[],rs,p1=>exact ab p1
 |x::y::t,rs,p1=>cases x<;>exact ab p1
 |[x],rs,p1=>
  obtain⟨v,rfl,r1⟩:=kh rs;cases x with
  |int j=>
   cases bt r1;unfold Dm at p1;by_cases c:lS j
   ·simp only[Os c]at p1;exact⟨j,rfl,c.1,c.2,p1 m1 H1 _ e1 S1 trivial SH⟩
   ·simp only[OK c]at p1;exact ab p1
  |_=>exact ab p1
def Iv:GI:=λ_ _=> .bad
theorem Iw:PI X tg iter (λ_ _ _=>False):=λ_ _ _ _ _ _ h=>h.elim
theorem Iy:JI X tg iter Iv:=⟨_,Iw,λρ st σ H m Q S R p=>p⟩
def dj(cs:i8)(gt:GT)(ge:GE)(ρ:b7)(w:Wk)(st:Hs):Re Wv:=match ji (k9 w) (λv=>gt (bv v::gT cs ρ)) (λv=>ge (bv v::gT cs ρ)) st.length w.2 (st++[.lst []])with
 |some Dl=> .ok (.ref st.length) Dl
 |none=> .bad
def jk(cs:i8)(gi:GI)(gt:GT)(ge:GE):GE:=λρ st=>(gi ρ st).bind λw st1=>dj cs gt ge ρ w st1
theorem E3(h:ax st l=bv ws):ax (st++more) l=bv ws:=by
 unfold ax at h ⊢;cases e:st[l]? with
 |none=>rw[e]at h;cases h
 |some o=>have hl:=(np.mp e).1;rw[gU hl,e];rw[e]at h;exact h
theorem uc{w:Wk}(h:k9 w st):k9 w (st++more):=by
 obtain⟨o,ws⟩:=w;cases o with
 |none=>trivial
 |some l=>exact E3 h
theorem Dn{P:Wv->Hs->Prop}
  {pins:List (ajO×Obj)}{ps:Pos}
  (fr:Ip X)(CS:eT X scope x cs)(hc:XJ Y X)(hH:So X)(hi:JIY Y X (.Name x px) iter gi)(hE:∀C s0 H0 fp pn E,E2 X.A H0->JE (iW X scope x cs C s0 H0 fp pn E) elt ge)(hT:∀C s0 H0 fp pn E,E2 X.A H0->Sz (iW X scope x cs C s0 H0 fp pn E) ifs gt)(hs:∀x,aj2 iter X.env x=pure x)
  (S:cA X.K m st H)(R:a_ X.K m H ρ σ)(I:Inv X pins σ H s)(p:aE X σ m H (jk cs gi gt ge ρ st) P)
  (fin:∀(w:Wv)(Dl:Hs)(v:V)(D C:ajO)(mm:Str->Option ajU)(m':Mp)(H':Hp)(s':ajT),P w Dl->Ext X.K m H m' H'->cA X.K m' Dl H'->aj X.K m' H' w v->v= .ref D->Inv X pins σ H' s'->jE X pins H' C->s'.heap.Ns C mm->aj0 (model X.prog X.w) X.A X.xe use Q (.ref D) C (.ok .next) s'):
  aj6 (model X.prog X.w) X.A (comprehension (.ListComp elt [⟨.Name x px,iter,ifs,0⟩] scope pos) scope X.env ps (newList []) kt (eval iter X.env) use) Q X.xe s:=by
 obtain⟨wi,hpi,hw⟩:=hi
 let R':It->Hp->Prop:=λJ' H1=>∃(w:Wk)(st1:Hs)(m1:Mp),aE X σ m H (dj cs gt ge ρ w st1) P/\Ext X.K m H m1 H1/\cA X.K m1 st1 H1/\k9 w st1/\zy X w m1 H1 J'
 have hr:=hw ρ st σ H m R' S R ((aE.bind p).imp Ext.refl λw st1 q m1 H1 J' e1 S1 c1 XN=>⟨w,st1,m1,q,e1,S1,c1,XN⟩);refine wpAny_comprehension_free (g:=⟨.Name x px,iter,ifs,0⟩) (gs:=[]) (cl:=yc X.env scope.names []) rfl hs (Ni (CS.has I.ok)) CS.kind (λy hy e=>by rw[CS.look y hy,e]) (bR (hpi pins s σ H R' I hr) λv s1 h1=>bR h1 λitv s2 h2=>?_);obtain⟨it,fp,tn,J',H1,rfl,I2,T,t0,f2,w,st1,m1,q,e1,S1,c1,XN⟩:=h2;unfold dj at q;cases run:ji (k9 w) (λv=>gt (bv v::gT cs ρ)) (λv=>ge (bv v::gT cs ρ)) st1.length w.2 (st1++[.lst []])with
 |none=>rw[run]at q;exact ab q
 |some Dl=>rw[run]at q;refine Bx (use:=use) (Q:=Q) fr CS hc hH I2 T t0 f2 S1 (R.mono e1) (uc c1) (ua _ _ run) (by intro z;cases z) (λc' ahq z=>by cases z) (λC s0 H0 pn E=>hE C s0 H0 fp pn E) (λC s0 H0 pn E=>hT C s0 H0 fp pn E) XN.go XN.stop XN.Gg ?_;intro ahr z D C mm m' H' s' e' S' lab I' fC ns _;cases z;exact fin _ Dl (.ref D) D C mm m' H' s' q (e1.trans e') S' (by unfold aj;exact⟨D,rfl,lab⟩) rfl I' fC ns
theorem Dp
  (fr:Ip X)(CS:eT X scope x cs)(hc:XJ Y X)(hH:So X)(hi:JIY Y X (.Name x px) iter gi)(hE:∀C s0 H0 fp pn E,E2 X.A H0->JE (iW X scope x cs C s0 H0 fp pn E) elt ge)(hT:∀C s0 H0 fp pn E,E2 X.A H0->Sz (iW X scope x cs C s0 H0 fp pn E) ifs gt)(hs:∀x,aj2 iter X.env x=pure x):
  JE X (.ListComp elt [⟨.Name x px,iter,ifs,0⟩] scope pos) (jk cs gi gt ge):=λρ st σ H m Q S R p pins s I=>by
 rw[eval_ListComp];refine Dn (use:=gV) fr CS hc hH hi hE hT hs S R I p ?_;intro w Dl v D C mm m' H' s' q e' S' rw' ev I' fC ns;exact⟨mm,ns,λh' same=>⟨.ref D,H',wG I' fC same,rfl,ev ▸ q v m' H' e' S' rw'⟩⟩
theorem Nl(i:Nat){y:Str}{spos py:Pos}(hN:X.N.Nodup)
  (fr:Ip X)(CS:eT X scope x cs)(hc:XJ Y X)(hH:So X)(hi:JIY Y X (.Name x px) iter gi)(hE:∀C s0 H0 fp pn E,E2 X.A H0->JE (iW X scope x cs C s0 H0 fp pn E) elt ge)(hT:∀C s0 H0 fp pn E,E2 X.A H0->Sz (iW X scope x cs C s0 H0 fp pn E) ifs gt)(hs:∀x,aj2 iter X.env x=pure x)
  (hx:X.N[i]? =bv y)(hl:Loc X.env.scope y)(hf:X.fn y=jp\/X.env.scope.names.lookup y=bv .local):
  JS X (.Assign [.Name y py] (.ListComp elt [⟨.Name x px,iter,ifs,0⟩] scope pos) spos) (aO i (jk cs gi gt ge)):=by
 have sw:∃b,swapsWith (.ListComp elt [⟨.Name x px,iter,ifs,0⟩] scope pos) (bv (.Name y py)) spos.line X.env=pure b:=⟨_,rfl⟩;obtain⟨b,sw⟩:=sw;cases b with
 |false=>exact HM i hN (Dp fr CS hc hH hi hE hT hs) hx hl sw hf
 |true=>
  intro ρ st σ H m D S R p pins s I;rw[exec_Assign_Name_used _ _ _ _ sw];refine aj7 (wpAny_standAt (aj7 ?_));show aj6 _ X.A (do let _ <-comprehension (.ListComp elt [⟨.Name x px,iter,ifs,0⟩] scope pos) scope X.env _ (newList []) kt (eval iter X.env) (bv (assign (.Name y py) X.env))) _ _ s;refine aj7 (aj9 (Dn (use:=bv (assign (.Name y py) X.env)) (Q:=λ_ s'=>SP X pins D .next s') fr CS hc hH hi hE hT hs S R I (bE.fU R p) ?_) (λ_ s' hq=>akb (akb hq)) λ_ _ e=>e);intro w Dl v D' C mm m' H' s' q e' S' rw' ev I' fC ns;refine wpAny_assign_Name (wa (i:=i) I' hN hx hl (show RelV v (.ref D') by rw[ev];rfl) (λs2 I2 h2=>?_) hf);obtain⟨a,sb,ha⟩:=h2;have hca:C≠a:=by
   rcases ha with z |z
   ·rw[z];exact fC.2.1
   ·exact dM (fC.2.2.2.2.1 y a z)
  exact⟨mm,ns.sameBut sb hca,λh' same=>⟨_,_,wG I2 fC same,q _ m' H' e' S' ((R.mono e').set i rw')⟩⟩
end
section
variable {X:Cx}
def SI(n:Nat)(k:Int):Prop:=-(2 ^ 62)<=k/\k < 2 ^ 62/\n * k.toNat<=lim
instance {n k}:Decidable (SI n k):=Ia _
def ud:jc
 |.ref l,.int n,st=>match st[l]? with
  |some (.lst ws)=>if SI ws.length n then .ok (.ref st.length) (st++[.lst (aD n.toNat ws).flatten])else .bad
  |_=> .bad
 |x,y,st=>PF x y st
theorem qj{K:lc}{m:Mp}{H:Hp}{ws:List Wv}{xs:List V}(r:ai K m H ws xs):∀n:Nat,ai K m H (aD n ws).flatten (aD n xs).flatten
 | 0=>ai.nil
 |n+1=>by rw[i6,tO,i6,tO];exact r.append (qj r n)
theorem Nm:lR X (ajX .Mult) ud:=by
 obtain⟨r,h1,h2⟩:=M' (X:=X);refine⟨_,iI.or Rz h1,λx y a b st H m Q S rx ry p=>?_⟩;unfold ud at p;split at p
 ·rename_i l n;unfold aj at rx;obtain⟨a1,rfl,hl⟩:=rx;cases bt ry;cases e:st[l]? with
  |none=>rw[e]at p;exact ab p
  |some o=>
   cases o with
   |dct kvs=>rw[e]at p;exact ab p
   |Dd kvs=>rw[e]at p;exact ab p
   |AQ kvs=>rw[e]at p;exact ab p
   |ER kvs=>rw[e]at p;exact ab p
   |ins _ _=>rw[e]at p;exact ab p
   |vB ns=>rw[e]at p;exact ab p
   |lst ws=>
    rw[e]at p;dsimp only at p;by_cases c:SI ws.length n
    ·rw[Os c]at p;obtain⟨xs,q1,q2⟩:=S.tV hl e;refine .inl ⟨a1,n,xs,rfl,rfl,q1,by have:=c.1;omega,by have:=c.2.1;omega,by rw[<-q2.length];exact eR c.2.2,λq hq=>?_⟩;exact jg p Ext.refl S (qj q2 n.toNat) q hq
    ·rw[OK c]at p;exact ab p
 ·exact .inr (h2 x y a b st H m Q S rx ry p)
def l8:List Wv->Option (List Bool)
 |[]=>bv []
 |.bl b::r=>(match l8 r with |some l=>bv (b::l) |none=>gV)
 |_=>gV
def ue:List Wv->Hs->Re Wv
 |[.ref l],st=>match ax st l with
  |some ws=>(match l8 ws with |some bs=> .ok (.bl (bs.all id)) st |none=> .bad)
  |none=> .bad
 |_,_=> .bad
theorem wH{K:lc}{m:Mp}{H:Hp}:∀{ws:List Wv}{xs:List V}{bs:List Bool},ai K m H ws xs->l8 ws=bv bs->xs=bs.map V.bl
 |[],xs,bs,r,h=>by unfold ai at r;cases h;exact r
 |w::ws,xs,bs,r,h=>by
  unfold ai at r;obtain⟨x,t,rfl,r1,r2⟩:=r;cases w with
  |bl b=>
   unfold l8 at h;cases e:l8 ws with
   |none=>rw[e]at h;cases h
   |some l=>rw[e]at h;cases h;unfold aj at r1;rw[r1,wH r2 e];rfl
  |_=>cases h
theorem Dq:∀{bs:List Bool}{its:List ajU},Vals (bs.map V.bl) its->its=bs.map oT
 |[],its,r=>by cases r;rfl
 |b::bs,its,r=>by
  cases r with
  |cons h t=>cases h;rw[bz,Dq t]
theorem all_range:∀(bs:List Bool),(oV bs.length).all (λi=>bs.getD i jp)=bs.all id
 |[]=>rfl
 |b::bs=>by rw[aZ,List.range_succ_eq_map,fj,List.all_map,fj,<-all_range bs];rfl
theorem E4(hc:X.calm=jp):fS X (.builtin "all") (λxs H Q=>∃(p:ajO)(bs:List Bool),xs=[.ref p]/\ng X.K H p (bs.map V.bl)/\Q (.bl (bs.all id)) H):=by
 intro pins s σ H xs us Q I r h;obtain⟨p,bs,rfl,hq,q⟩:=h;obtain⟨u,rfl,rx⟩:=vals1 r;cases rx;obtain⟨its,r',pl,hz⟩:=I.list hq;have hb:=Dq r';subst hb;have hl:=pl.isList;have hlt:p < s.heap.objs.size:=by obtain⟨_,e,_⟩:=hl;exact bL e
 refine call_all_walk (wpAny_pyIter_list hl ?_);refine⟨_,_,_,_,_,_,λi=>bs.getD i jp,rfl,Walks.list (A:=X.A.in1) (I.ok.hd hc) _ p (dJ hlt) (bs.map oT).toArray,⟨⟨_,gI _ rfl,rfl,rfl⟩,hl.push _⟩,?_,λh' tk hk=>?_⟩
 ·intro i v s' Q' E' hP hQ;have XO:(bs.map oT).toArray[i]? =bv v:=hP;rw[SJ,j3]at XO;cases e:bs[i]? with
  |none=>rw[e]at XO;cases XO
  |some b=>
   rw[e]at XO;cases XO;have:(bs.getD i jp)=b:=by rw[Bz,e];rfl
   dsimp only at hQ;rw[this]at hQ;exact akc hQ
 ·have hk':∀b o,s.heap.get? b=bv o->h'.get? b=bv o:=old_kept hk;refine⟨.bl _,H,I.kept (t':=tk) hk',?_,q⟩;rw[<-all_range bs];simp only[bj,bN];rfl
theorem BA(hc:X.calm=jp):et X (.builtin "all") ue:=⟨_,E4 hc,λws vs st H m Q S rs p=>by
 match ws,rs,p with
 |[],rs,p=>exact ab p
 |x::y::t,rs,p=>cases x<;>exact ab p
 |[x],rs,p=>
  obtain⟨v,rfl,r1⟩:=kh rs;cases x with
  |ref l=>
   unfold ue at p;unfold aj at r1;obtain⟨a,rfl,hl⟩:=r1;cases e:ax st l with
   |none=>simp only[e]at p;exact ab p
   |some ws=>
    simp only[e]at p;cases e2:l8 ws with
    |none=>simp only[e2]at p;exact ab p
    |some bs=>simp only[e2]at p;obtain⟨xs,q1,q2⟩:=S.read hl e;have q3:=wH q2 e2;subst q3;exact⟨a,bs,rfl,q1,p _ m H Ext.refl S oh⟩
  |_=>exact ab p⟩
def BB:List Wv->Hs->Re Wv
 |[.ref l],st=>match ax st l with
  |some ws=> .ok (.ref st.length) (st++[.lst ws])
  |none=> .bad
 |[.tup ws],st=> .ok (.ref st.length) (st++[.lst ws])
 |_,_=> .bad
theorem Nn:et X (.type "list") BB:=⟨_,xR,λws vs st H m Q S rs p=>by
 match ws,rs,p with
 |[],rs,p=>exact ab p
 |x::y::t,rs,p=>cases x<;>exact ab p
 |[x],rs,p=>
  obtain⟨v,rfl,r1⟩:=kh rs;cases x with
  |ref l=>
   unfold BB at p;unfold aj at r1;obtain⟨a,rfl,hl⟩:=r1;cases e:ax st l with
   |none=>simp only[e]at p;exact ab p
   |some ws=>simp only[e]at p;obtain⟨xs,q1,q2⟩:=S.read hl e;exact⟨a,xs,rfl,.inl q1,λq hq=>jg p Ext.refl S q2 q hq⟩
  |tup ws=>unfold aj at r1;obtain⟨a,xs,rfl,q1,q2⟩:=r1;exact⟨a,xs,rfl,.inr (hV.of q1),λq hq=>jg p Ext.refl S q2 q hq⟩
  |_=>exact ab p⟩
def nH:List Wv->Hs->Re Wv
 |[.ref l],st=>match ax st l with
  |some ws=> .ok (.tup ws) st
  |none=> .bad
 |[.tup ws],st=> .ok (.tup ws) st
 |_,_=> .bad
theorem SK:et X (.type "tuple") nH:=⟨_,vG,λws vs st H m Q S rs p=>by
 match ws,rs,p with
 |[],rs,p=>exact ab p
 |x::y::t,rs,p=>cases x<;>exact ab p
 |[x],rs,p=>
  obtain⟨v,rfl,r1⟩:=kh rs;cases x with
  |ref l=>
   unfold nH at p;unfold aj at r1;obtain⟨a,rfl,hl⟩:=r1;cases e:ax st l with
   |none=>simp only[e]at p;exact ab p
   |some ws=>simp only[e]at p;obtain⟨xs,q1,q2⟩:=S.read hl e;refine⟨a,xs,rfl,.inl ⟨q1,λq hq=>?_⟩⟩;have e2:Ext X.K m H m (upd H q (.tup xs)):=Ext.upd (.inl hq);exact p (.ref q) m _ e2 (S.fresh hq) (by unfold aj;exact⟨q,xs,rfl,cz,ai.mono e2 _ _ q2⟩)
  |tup ws=>have r1':=r1;unfold aj at r1';obtain⟨a,xs,rfl,q1,q2⟩:=r1';exact⟨a,xs,rfl,.inr ⟨hV.of q1,p _ m H Ext.refl S r1⟩⟩
  |_=>exact ab p⟩
end
variable{i:Nat}
section
variable {X:Cx}
def yf(ga gb:GE):GE:=λρ st=>match ga ρ st with
  |.bad=>gb ρ st
  |r=>r
theorem Iz{gb:GE}(ha:JE X e ga)(hb:JE X e gb):JE X e (yf ga gb):=by
  intro ρ st σ H m Q S R p;unfold yf at p;cases e1:ga ρ st with
  |bad=>rw[e1]at p;exact hb ρ st σ H m Q S R p
  |ok w st'=>rw[e1]at p;exact ha ρ st σ H m Q S R (by rw[e1];exact p)
  |err c st'=>rw[e1]at p;exact ha ρ st σ H m Q S R (by rw[e1];exact p)
def intsOf:List Wv->Option (List Int)
  |[]=>bv []
  |.int b::r=>(match intsOf r with |some l=>bv (b::l) |none=>gV)
  |_=>gV
theorem uf{K:lc}{m:Mp}{H:Hp}:∀{ws:List Wv}{xs:List V}{bs:List Int},ai K m H ws xs->intsOf ws=bv bs->xs=bs.map V.int
  |[],xs,bs,r,h=>by unfold ai at r;cases h;exact r
  |w::ws,xs,bs,r,h=>by
    unfold ai at r;obtain⟨x,t,rfl,r1,r2⟩:=r;cases w with
    |int b=>
      unfold intsOf at h;cases e:intsOf ws with
      |none=>rw[e]at h;cases h
      |some l=>rw[e]at h;cases h;unfold aj at r1;rw[r1,uf r2 e];rfl
    |_=>cases h
theorem zz:∀{ns:List Int}{its:List ajU},Vals (ns.map V.int) its->∃xs:List (Int×Tok),its=xs.map (λp=>oS p.1 p.2)/\xs.map (·.1)=ns
  |[],its,r=>by cases r;exact⟨[],rfl,rfl⟩
  |n::ns,its,r=>by
    cases r with
    |cons h t=>obtain⟨tk,rfl⟩:=h;obtain⟨xs,e1,e2⟩:=zz t;exact⟨(n,tk)::xs,by rw[e1];rfl,by rw[<-e2];rfl⟩
theorem E5(xs:List (Int×Tok))(i:Nat):numAt xs.toArray i=(xs.map (·.1)).getD i 0:=by unfold numAt;rw[SJ,Bz,j3]
def IA(n:Int)(r:List Int):Int:=r.foldl (λa b=>if b > a then b else a) n
theorem IB:∀(r:List Int)(n:Int),IA n r∈n::r/\∀a∈n::r,a<=IA n r
  |[],n=>by simp[IA]
  |b::r,n=>by
    have e:IA n (b::r)=IA (if b > n then b else n) r:=rfl;obtain⟨h1,h2⟩:=IB r (if b > n then b else n);rw[e];constructor
    · rcases List.mem_cons.mp h1 with z |z
      · rw[z];split<;>simp
      · simp[z]
    · intro a ha;have hn:n<=IA (if b > n then b else n) r/\b<=IA (if b > n then b else n) r:=by have q:=h2 _ aY;revert q;split<;>intro q<;>constructor<;>omega
      rcases List.mem_cons.mp ha with z |z
      · rw[z];exact hn.1
      · rcases List.mem_cons.mp z with z |z
        · rw[z];exact hn.2
        · exact h2 a (bw _ z)
theorem XQ{n M:Int}{r:List Int}(h:M∈n::r)(k:∀a∈n::r,a<=M):M=IA n r:=by obtain⟨h1,h2⟩:=IB r n;have:=h2 M h;have:=k _ h1;omega
theorem E6{l:List Int}(h:i < l.length):l.getD i 0∈l:=by rw[Bz,fk h];exact ug h
theorem E7(hc:X.calm=jp):fS X (.builtin "max") (λxs H Q=>∃(p:ajO)(n:Int)(ns:List Int),xs=[.ref p]/\ng X.K H p ((n::ns).map V.int)/\Q (.int (IA n ns)) H):=by
  intro pins s σ H xs us Q I r h;obtain⟨p,n,ns,rfl,hq,q⟩:=h;obtain⟨u,rfl,rx⟩:=vals1 r;cases rx;obtain⟨its,r',pl,hz⟩:=I.list hq;obtain⟨xs,rfl,e0⟩:=zz r';have hl:=pl.isList;have e:(xs.map λp=>oS p.1 p.2).toArray=intItems xs.toArray:=by unfold intItems;simp
  rw[e]at hl;have hsz:xs.length=(n::ns).length:=by rw[<-e0];simp
  have hs0:0 < xs.toArray.size:=by simp[hsz]
  refine max_intList (I.ok.hd hc) hl hs0 λv h' tk hv hk=>?_;obtain⟨t,rfl⟩:=intItems_at hv;obtain⟨h1,h2⟩:=PySem.argBest_gt (numAt xs.toArray) (xs.toArray.size - 1);refine⟨.int _,H,I.kept hk,⟨t,?_⟩,q⟩
  congr 1
  have hn:=λi=>E5 xs i;rw[e0]at hn;refine XQ ?_ λa ha=>?_
  · rw[hn];refine E6 ?_;have:xs.toArray.size=(n::ns).length:=by simp[hsz]
    omega
  · obtain⟨j,hj,rfl⟩:=List.mem_iff_getElem.mp ha
    have q2 := h2 j (by have : xs.toArray.size = (n :: ns).length := by simp [hsz]
                        omega)
    rw[hn j,Bz,fk hj]at q2;exact q2
def uh:List Wv->Hs->Re Wv
  |[.ref l],st=>match ax st l with
    |some ws=>(match intsOf ws with |some (n::r)=> .ok (.int (IA n r)) st |_=> .bad)
    |none=> .bad
  |ws,st=>Su ws st
def Dr:List Wv->Hs->Re Wv:=λws st=>Sw ws st
theorem et.or{f:ajU}{op':List Wv->Hs->Re Wv}(g:List Wv->Hs->Re Wv)(h:et X f op)(h':et X f op')(k:∀ws st,g ws st=op ws st\/g ws st=op' ws st):et X f g:=by
  obtain⟨r,h1,h2⟩:=h;obtain⟨r',Pr,h2'⟩:=h';refine⟨_,h1.or Pr,λws vs st H m Q S rs p=>?_⟩;rcases k ws st with e |e
  · rw[e]at p;exact .inl (h2 ws vs st H m Q S rs p)
  · rw[e]at p;exact .inr (h2' ws vs st H m Q S rs p)
def IC:List Wv->Hs->Re Wv
  |[.ref l],st=>match ax st l with
    |some ws=>(match intsOf ws with |some (n::r)=> .ok (.int (IA n r)) st |_=> .bad)
    |none=> .bad
  |_,_=> .bad
theorem Np(hc:X.calm=jp):et X (.builtin "max") IC:=⟨_,E7 hc,λws vs st H m Q S rs p=>by
  match ws,rs,p with
  |[],rs,p=>exact ab p
  |x::y::t,rs,p=>cases x<;>exact ab p
  |[x],rs,p=>
    obtain⟨v,rfl,r1⟩:=kh rs;cases x with
    |ref l=>
      unfold IC at p;unfold aj at r1;obtain⟨a,rfl,hl⟩:=r1;cases e:ax st l with
      |none=>simp only[e]at p;exact ab p
      |some ws=>
        simp only[e]at p;cases e2:intsOf ws with
        |none=>simp only[e2]at p;exact ab p
        |some bs=>
          cases bs with
          |nil=>simp only[e2]at p;exact ab p
          |cons n bs=>simp only[e2]at p;obtain⟨xs,q1,q2⟩:=S.read hl e;have q3:=uf q2 e2;subst q3;exact⟨a,n,bs,rfl,q1,p _ m H Ext.refl S mkInt⟩
    |_=>exact ab p⟩
theorem Nq(hc:X.calm=jp):et X (.builtin "max") uh:=et.or uh (Np hc) (Sv hc) λws st=>by
  unfold uh IC;split
  · exact .inl rfl
  · exact .inr rfl
theorem Nr(hc:X.calm=jp):et X (.builtin "min") Dr:=Sx hc
end
variable{o:Expr}
section
variable {X:Cx}
def iP(mt:PySem.Str->List Wv->Hs->Re Wv)(go:GE)(ga:GA):GE:=λρ st=>(go ρ st).bind λo st1=>match o with
 |.str z=>(ga ρ st1).bind λws st2=>(mt z ws st2).mP
 |_=> .bad
def V_(X:Cx)(id:String)(mt:PySem.Str->List Wv->Hs->Re Wv):Prop:=∃r,y9 X id r/\∀(z:PySem.Str)(ws:List Wv)(vs:List V)(st:Hs)(H:Hp)(m:Mp)(Q:VK),bc z=jp->cA X.K m st H->ai X.K m H ws vs->eo X.K m H (mt z ws st) Q->r (.str z) vs H Q
theorem pw{id:String}{ga:GA}{mt:PySem.Str->List Wv->Hs->Re Wv}(hm:V_ X id mt)(slot:Slot "str" name id)(hty:typeOf (.builtin id)=pure (.type "method_descriptor"))(ho:JE X o go)(ha:JA X (e::es) ga)
  (hbase:attributeBase o name X.env (eval o X.env)=eval o X.env)
  (hfew:((backTo cpos (aj5 (e::es) X.env)).all (λx=> !x.1)&&(backToKw cpos (keywordEach [] X.env)).all (λx=>x.1.isSome)&&decide ((e::es).length+([]:List Keyword).length+(if([]:List Keyword).isEmpty then 0 else 1) < 30))=jp)
  (hline:(apos.endLine == cpos.line)=jp)(hs:aj5 (e::es) X.env=(kt,eval e X.env)::aj5 es X.env)(hplain:(backTo cpos (aj5 es X.env)).any (·.1)=kt):
  JE X (.Call (.Attribute o name apos) (e::es) [] cpos) (iP mt go ga):=by
 obtain⟨r,h1,h2⟩:=hm;refine JE.of (G8 PySem.F.plainAttrs_str slot hty h1 bq lZ hbase hfew hline hs hplain) λρ st σ H m Q S R p=>?_;refine ho.go S R (aE.bind p) λo st1 v m1 H1 p1 e1 S1 ro=>?_;cases o with
 |str z=>dsimp only at p1;unfold aj at ro;obtain⟨rfl,hz⟩:=ro;refine⟨rfl,?_⟩;refine ha.go S1 (R.mono e1) ((aE.bind p1).imp e1 λ_ _ q=>q) λws st2 vs m2 H2 p2 e2 S2 rs=>?_;exact h2 z ws vs st2 H2 m2 Q hz S2 rs (eo.shift (aE.mP p2) (e1.trans e2))
 |_=>exact ab p1
def strsOf:List Wv->Option (List PySem.Str)
 |[]=>bv []
 |.str b::r=>(match strsOf r with |some l=>bv (b::l) |none=>gV)
 |_=>gV
theorem ui:∀ns:List PySem.Str,strsOf (ns.map Wv.str)=bv ns
 |[]=>rfl
 |n::r=>by rw[bz];unfold strsOf;rw[ui r]
theorem oj{K:lc}{m:Mp}{H:Hp}:∀{ws:List Wv}{xs:List V}{bs:List PySem.Str},ai K m H ws xs->strsOf ws=bv bs->xs=bs.map V.str/\∀b∈bs,bc b=jp
 |[],xs,bs,r,h=>by unfold ai at r;cases h;exact⟨r,λ_ z=>by cases z⟩
 |w::ws,xs,bs,r,h=>by
  unfold ai at r;obtain⟨x,t,rfl,r1,r2⟩:=r;cases w with
  |str b=>
   unfold strsOf at h;cases e:strsOf ws with
   |none=>rw[e]at h;cases h
   |some l=>
    rw[e]at h;cases h;unfold aj at r1;obtain⟨rfl,hb⟩:=r1;obtain⟨q1,q2⟩:=oj r2 e;refine⟨by rw[q1];rfl,λc hc=>?_⟩;rcases List.mem_cons.mp hc with z |z
    ·rw[z];exact hb
    ·exact q2 c z
  |_=>cases h
theorem uj:∀{ns:List PySem.Str}{its:List ajU},Vals (ns.map V.str) its->StrsAre its ns
 |[],its,r=>by cases r;exact .nil
 |n::ns,its,r=>by
  cases r with
  |cons h t=>obtain⟨tk,rfl⟩:=h;exact .cons n tk (uj t)
theorem Nt:y9 X "str.join" (λx xs H Q=>∃(z:PySem.Str)(p:ajO)(ys:List PySem.Str),x= .str z/\xs=[.ref p]/\(ng X.K H p (ys.map V.str)\/hV X.K H p (ys.map V.str))/\(ys.map (·.length)).sum+ys.length * z.length<=16777216/\Q (.str (gW z ys)) H):=by
 intro pins s σ H x xs v us Q I rx rv h;obtain⟨z,p,ys,rfl,rfl,hq,hz,q⟩:=h;obtain⟨t,rfl⟩:=rx;obtain⟨u,rfl,ru⟩:=vals1 rv;cases ru;rcases hq with hq |hq
 ·obtain⟨its,r',pl,_⟩:=I.list hq;exact join_list pl.isList (by simpa using uj r') hz λt' k=>⟨.str _,H,I.tok k,⟨t',rfl⟩,q⟩
 ·obtain⟨its,r',pl,_⟩:=I.tuple hq;exact join_tuple pl (by simpa using uj r') hz λt' k=>⟨.str _,H,I.tok k,⟨t',rfl⟩,q⟩
theorem ko:bc z=jp↔∀c∈z.cps.toList,c < 1114112:=by
 unfold bc;rw[PB];constructor
 ·intro h c hc;simpa using h c (FM.mp hc)
 ·intro h c hc;simpa using h c (FM.mpr hc)
theorem uk{ys:List PySem.Str}(hz:bc z=jp)(hy:∀b∈ys,bc b=jp):bc (gW z ys)=true:=by
 have ej:gW z ys=PySem.Str.join z ys:=by simpa using join_plain_closes z ys
 rw[ej];rw[ko]at hz ⊢;intro c hc;rcases(mem_join z c ys).mp hc with ⟨t,ht,h⟩ |⟨_,h⟩
 ·exact(ko.mp (hy t ht)) c h
 ·exact hz c h
def qY(z:PySem.Str):List Wv->Hs->Re Wv
 |[.ref l],st=>match ax st l with
  |some ws=>(match strsOf ws with |some ys=>if(ys.map (·.length)).sum+ys.length * z.length<=16777216 then .ok (.str (gW z ys)) st else .bad |none=> .bad)
  |none=> .bad
 |[.tup ws],st=>(match strsOf ws with |some ys=>if(ys.map (·.length)).sum+ys.length * z.length<=16777216 then .ok (.str (gW z ys)) st else .bad |none=> .bad)
 |_,_=> .bad
theorem Nu:V_ X "str.join" qY:=⟨_,Nt,λz ws vs st H m Q hz S rs p=>by
 match ws,rs,p with
 |[],rs,p=>exact ab p
 |x::y::t,rs,p=>cases x<;>exact ab p
 |[x],rs,p=>
  obtain⟨v,rfl,r1⟩:=kh rs;cases x with
  |ref l=>
   unfold qY at p;unfold aj at r1;obtain⟨a,rfl,hl⟩:=r1;cases e:ax st l with
   |none=>simp only[e]at p;exact ab p
   |some ws=>
    simp only[e]at p;cases e2:strsOf ws with
    |none=>simp only[e2]at p;exact ab p
    |some bs=>
     simp only[e2]at p;by_cases c:(bs.map (·.length)).sum+bs.length * z.length<=16777216
     ·rw[Os c]at p;obtain⟨xs,q1,q2⟩:=S.read hl e;obtain⟨q3,q4⟩:=oj q2 e2;subst q3;exact⟨z,a,bs,rfl,rfl,.inl q1,c,p _ m H Ext.refl S (mkStr (uk hz q4))⟩
     ·rw[OK c]at p;exact ab p
  |tup ws=>
   unfold qY at p;unfold aj at r1;obtain⟨a,xs,rfl,q1,q2⟩:=r1;cases e2:strsOf ws with
   |none=>simp only[e2]at p;exact ab p
   |some bs=>
    simp only[e2]at p;by_cases c:(bs.map (·.length)).sum+bs.length * z.length<=16777216
    ·rw[Os c]at p;obtain⟨q3,q4⟩:=oj q2 e2;subst q3;exact⟨z,a,bs,rfl,rfl,.inr (hV.of q1),c,p _ m H Ext.refl S (mkStr (uk hz q4))⟩
    ·rw[OK c]at p;exact ab p
  |_=>exact ab p⟩
end
variable{lo:Option Int}
section
variable {X:Cx}
theorem SM:LK X (λx lo hi H Q=>∃z,x= .str z/\z.length<=aj4/\Q (.str (aL z lo hi)) H):=by
 intro pins s σ H x v vl vu lo hi sl Q I rx hs pl pu h;obtain⟨z,rfl,hz,q⟩:=h;obtain⟨t,rfl⟩:=rx;have fin:∀t' k,EP X pins σ Q (.str (aL z lo hi) t') { s with toks:=k }:=λt' k=>⟨.str _,H,I.tok k,⟨t',rfl⟩,q⟩;refine⟨"str",_,PySem.F.slot_str_getitem.lookup,typeIs_str _ _ _,?_⟩;have hl:=aA (Txt.slice_le z lo hi) hz;cases pl with
 |none=>
  cases pu with
  |none=>exact wpAny_getItem_str_slice (l:=gV) (u:=gV) (st:=gV) hs rfl (post_val_or_str ⟨hl,fin⟩)
  |int j tj=>exact wpAny_getItem_str_slice (l:=gV) (u:=bv (j,tj)) (st:=gV) hs rfl (post_val_or_str ⟨hl,fin⟩)
 |int i ti=>
  cases pu with
  |none=>exact wpAny_getItem_str_slice (l:=bv (i,ti)) (u:=gV) (st:=gV) hs rfl (post_val_or_str ⟨hl,fin⟩)
  |int j tj=>exact wpAny_getItem_str_slice (l:=bv (i,ti)) (u:=bv (j,tj)) (st:=gV) hs rfl (post_val_or_str ⟨hl,fin⟩)
theorem E8{c:Nat}(h:c∈(aL z lo hi).cps.toList):c∈z.cps.toList:=by
 unfold aL at h;split at h
 ·exact h
 ·simp only[Fk]at h;obtain⟨i,_,e⟩:=h;rw[GM]at e;obtain⟨hi,rfl⟩:=e;exact FM.mpr (Array.getElem_mem hi)
theorem zA(h:bc z=jp):bc (aL z lo hi)=true:=by rw[ko]at h ⊢;exact λc hc=>h c (E8 hc)
end
section
open HT
theorem vK{prog:ajS}{w:ajV}{t sl:ajO}{us:Array ajU}{vl vu:ajU}(ht:IsTup s.heap t us)(hs:s.heap.IsSliceOf sl vl vu .none)(pl:IsPart vl lo)(pu:IsPart vu hi)
  (hw:ff us.size 0 lo=0/\ff us.size us.size hi=us.size)(h:Q (.ref t) s):aj6 (model prog w) A (getItem (.ref t) (.ref sl)) Q E s:=by
 obtain⟨os,o1,o2,o3⟩:=id hs;have tys:s.TypeIs (.ref sl) "slice":=⟨os,o1,o2⟩;unfold getItem;try with_reducible refine aj8 ?_
 first |refine aj7 (akb ?_) |skip
 refine aj7 (wpAny_sequenceKey ht.typeIs (by decide) ?_);refine aj7 (wpAny_callSpecial?_slot (name:=sD "__getitem__") ht.typeIs xJ (wpAny_call_entry xJ ht.typeIs entry_tuple_getitem ?_ (args_tuple_getitem _ _)));show aj6 _ _ (GY (.ref t) >>= _) _ _ _;refine aj7 (tupleItemsOf_ ht ?_);refine aj7 (wpAny_typeOf tys ?_);rw[Os (by decide)];refine aj7 (j_ hs pl pu ?_);rw[hw.1,hw.2];have yes:((((0:Nat):Int)) == 0&&(1:Int) == 1&&(us.size - 0) == us.size)=true:=by simp
 show aj6 _ _ (if((((0:Nat):Int)) == 0&&(1:Int) == 1&&(us.size - 0) == us.size)=jp then _ else _) _ _ s;rw[Os yes];refine aj7 (m:=SN _) ?_;unfold SN;refine aj7 (wpAny_typeOf ht.typeIs (akb ?_));rw[Os (by decide)];exact aj7 (wpAny_rule (akb ⟨_,rfl,akb h⟩))
end
section
variable {X:Cx}
def acA(K:lc):V->Option Int->Option Int->Hp->VK->Prop:=λx lo hi H Q=>∃a xs,x= .ref a/\hV K H a xs/\(HT.ff xs.length 0 lo=0/\HT.ff xs.length xs.length hi=xs.length)/\Q (.ref a) H
theorem ID:LK X (acA X.K):=by
 intro pins s σ H x v vl vu lo hi sl Q I rx hs pl pu h;obtain⟨a,xs,rfl,hx,hw,q⟩:=h;cases rx;obtain⟨its,r,ht,hz⟩:=I.tuple hx;have n:its.toArray.size=xs.length:=by rw[bj];exact r.length.symm
 exact⟨"tuple",_,PyProof.Rows.slot_tuple_getitem.lookup,ht.typeIs,vK ht hs pl pu (by rw[n];exact hw) ⟨.ref a,H,I,rfl,q⟩⟩
def f7(n:Nat)(lo hi:Option Int):Prop:=HT.ff n 0 lo=0/\HT.ff n n hi=n
instance {n:Nat}{lo hi:Option Int}:Decidable (f7 n lo hi):=inferInstanceAs (Decidable (HT.ff n 0 lo=0/\HT.ff n n hi=n))
def kq(x:Wv)(lo hi:Option Int)(st:Hs):Re Wv:=match x with
 |.str z=>if z.length<=lim then .ok (.str (aL z lo hi)) st else .bad
 |.tup ws=>if f7 ws.length lo hi then .ok (.tup ws) st else Sf (.tup ws) lo hi st
 |x=>Sf x lo hi st
def bA(ga:GE)(gl gh:GO):GE:=λρ st=>(ga ρ st).bind λx st1=>(gl ρ st1).bind λlo st2=>(gh ρ st2).bind λhi st3=>kq x lo hi st3
theorem E9{lo hi:Option Expr}{gl gh:GO}{p2:Pos}(ha:JE X a ga)(hl:JO X lo gl)(hh:JO X hi gh):JE X (.Subscript a (.Slice lo hi gV p2) pos) (bA ga gl gh):=by
 have hS:JE X (.Subscript a (.Slice lo hi gV p2) pos) (λρ st=>(ga ρ st).bind λx st1=>(gl ρ st1).bind λlo st2=>(gh ρ st2).bind λhi st3=>match x with |.str z=>if z.length<=lim then .ok (.str (aL z lo hi)) st3 else .bad |_=> .bad):=by
  refine JE.of (tK SM bq wD wD) λρ st σ H m Q S R p=>?_;refine ha.go S R (aE.bind p) λx st1 v m1 H1 p1 e1 S1 rx=>?_;refine hl.go S1 (R.mono e1) ((aE.bind p1).imp e1 λ_ _ q=>q) λl st2 m2 H2 p2 e2 S2=>?_;refine hh.go S2 (R.mono (e1.trans e2)) ((aE.bind p2).imp (e1.trans e2) λ_ _ q=>q) λh st3 m3 H3 p3 e3 S3=>?_;have LL:=e1.trans (e2.trans e3);cases x with
  |str z=>
   dsimp only at p3;by_cases c:z.length<=lim
   ·rw[Os c]at p3;unfold aj at rx;obtain⟨rfl,hz⟩:=rx;exact⟨z,rfl,eR c,p3 _ m3 H3 LL S3 (mkStr (zA hz))⟩
   ·rw[OK c]at p3;exact ab p3
  |_=>exact ab p3
 have hW:JE X (.Subscript a (.Slice lo hi gV p2) pos) (λρ st=>(ga ρ st).bind λx st1=>(gl ρ st1).bind λlo st2=>(gh ρ st2).bind λhi st3=>match x with |.tup ws=>if f7 ws.length lo hi then .ok (.tup ws) st3 else Sf (.tup ws) lo hi st3 |_=> .bad):=by
  refine JE.of (tK (LK.or ID GZ) bq wD wD) λρ st σ H m Q S R p=>?_;refine ha.go S R (aE.bind p) λx st1 v m1 H1 p1 e1 S1 rx=>?_;refine hl.go S1 (R.mono e1) ((aE.bind p1).imp e1 λ_ _ q=>q) λl st2 m2 H2 p2 e2 S2=>?_;refine hh.go S2 (R.mono (e1.trans e2)) ((aE.bind p2).imp (e1.trans e2) λ_ _ q=>q) λh st3 m3 H3 p3 e3 S3=>?_;have LL:=e1.trans (e2.trans e3);cases x with
  |tup ws=>
   dsimp only at p3;have AS:=aj.mono (e2.trans e3) _ _ rx;unfold aj at AS;obtain⟨a',xs,rfl,f1,f2⟩:=AS;by_cases c:f7 ws.length l h
   ·rw[Os c]at p3;unfold f7 at c;rw[f2.length]at c;exact .inl ⟨a',xs,rfl,hV.of f1,c,p3 _ m3 H3 LL S3 (by unfold aj;exact⟨a',xs,rfl,f1,f2⟩)⟩
   ·rw[OK c]at p3;unfold Sf at p3;dsimp only at p3;unfold f7 at c;rw[OK c]at p3;rw[f2.length]at c;refine .inr ⟨a',xs,rfl,hV.of f1,c,λq hq=>?_⟩;have eU:Ext X.K m3 H3 m3 (L2.upd H3 q (.tup (vE xs l h))):=Ext.ka (.inl hq);exact p3 (.ref q) m3 _ (LL.trans eU) (S3.fresh hq) (by unfold aj;exact⟨q,_,rfl,L2.cz,ai.mono eU _ _ (x_ f2)⟩)
  |_=>exact ab p3
 intro ρ st σ H m Q S R p;unfold bA at p;cases e1:ga ρ st with
 |bad=>rw[e1]at p;exact ab p
 |err c st1=>rw[e1]at p;exact zh ha hl hh ρ st σ H m Q S R (by unfold Bp;rw[e1];exact p)
 |ok x st1=>
  rw[e1]at p;cases x with
  |str z=>exact hS ρ st σ H m Q S R (by dsimp only;rw[e1];exact p)
  |tup ws=>exact hW ρ st σ H m Q S R (by dsimp only;rw[e1];exact p)
  |_=>exact zh ha hl hh ρ st σ H m Q S R (by unfold Bp;rw[e1];exact p)
def eG:jc
 |.str i,.str j,st=> .ok (.bl (!(gJ j i 0 j.length 1).isEmpty)) st
 |x,y,st=>oIn x y st
theorem SQ:lR X (aj1 .In) eG:=by
 obtain⟨r,h1,h2⟩:=XB (X:=X);refine⟨_,iI.or Ex h1,λx y a b st H m Q S rx ry p=>?_⟩;unfold eG at p;split at p
 ·rename_i i j;unfold aj at rx ry;obtain⟨rfl,_⟩:=rx;obtain⟨rfl,_⟩:=ry;exact .inl ⟨i,j,rfl,rfl,p _ m H Ext.refl S oh⟩
 ·exact .inr (h2 x y a b st H m Q S rx ry p)
theorem Nv:y9 X "str.find" (λx xs H Q=>∃z y,x= .str z/\xs=[.str y]/\Q (.int (Txt.find z y)) H):=by intro pins s σ H x xs v us Q I rx rv h;obtain⟨z,y,rfl,rfl,q⟩:=h;obtain⟨t,rfl⟩:=rx;obtain⟨u,rfl,t',rfl⟩:=vals1 rv;exact SC.find ⟨.int _,H,I.tok _,⟨_,rfl⟩,q⟩
theorem IE:y9 X "str.index" (λx xs H Q=>∃z y i r,x= .str z/\xs=[.str y]/\gJ z y 0 z.length 1=i::r/\Q (.int (i:Nat)) H):=by intro pins s σ H x xs v us Q I rx rv h;obtain⟨z,y,i,r,rfl,rfl,ho,q⟩:=h;obtain⟨t,rfl⟩:=rx;obtain⟨u,rfl,t',rfl⟩:=vals1 rv;exact SC.index ho ⟨.int _,H,I.tok _,⟨_,rfl⟩,q⟩
def PK(z:PySem.Str):List Wv->Hs->Re Wv
 |[.str y],st=> .ok (.int (Txt.find z y)) st
 |_,_=> .bad
def om(z:PySem.Str):List Wv->Hs->Re Wv
 |[.str y],st=>(match gJ z y 0 z.length 1 with |i::_=> .ok (.int (i:Nat)) st |[]=> .bad)
 |_,_=> .bad
theorem Nw:V_ X "str.find" PK:=⟨_,Nv,λz ws vs st H m Q hz S rs p=>by
 match ws,rs,p with
 |[],rs,p=>exact ab p
 |x::y::t,rs,p=>cases x<;>exact ab p
 |[x],rs,p=>
  obtain⟨v,rfl,r1⟩:=kh rs;cases x with
  |str y=>unfold aj at r1;obtain⟨rfl,_⟩:=r1;exact⟨z,y,rfl,rfl,p _ m H Ext.refl S mkInt⟩
  |_=>exact ab p⟩
theorem IF:V_ X "str.index" om:=⟨_,IE,λz ws vs st H m Q hz S rs p=>by
 match ws,rs,p with
 |[],rs,p=>exact ab p
 |x::y::t,rs,p=>cases x<;>exact ab p
 |[x],rs,p=>
  obtain⟨v,rfl,r1⟩:=kh rs;cases x with
  |str y=>
   unfold aj at r1;obtain⟨rfl,_⟩:=r1;unfold om at p;dsimp only at p;cases e:gJ z y 0 z.length 1 with
   |nil=>rw[e]at p;exact ab p
   |cons i r=>rw[e]at p;exact⟨z,y,i,r,rfl,rfl,e,p _ m H Ext.refl S mkInt⟩
  |_=>exact ab p⟩
end
open PySem PySem.Spec PyProof.Rows L2 PySem.W
def XR(x:Str):It:=⟨λi _=>i < x.cps.size,λi H v H'=>H'=H/\∃c,x.cps[i]? =bv c/\v= .str ⟨#[c]⟩,λi _=>x.cps.size<=i⟩
theorem BC{w:ajV}(x:Str)(t:Tok)(it:ajO):Turn P w K tg (XR x) [it] it (λi h=>h.IsStrIter it "str_ascii_iterator" x t i) where
 mem:=lw.mpr rfl
 obj:=λi h st b hb=>by cases lw.mp hb;obtain⟨o,e,c,d⟩:=st;exact⟨o,e,λv z=>by rw[d]at z;cases z⟩
 keep:=λi h h' st k=>let ⟨o,e,r⟩:=st;⟨o,k it (lw.mpr rfl) o e,r⟩
 item:=by intro X hP hw hK hc i pins s σ H E I hf st hg;subst hP;subst hw;subst hK;obtain⟨f0,f1,f2,f3,f4,f5⟩:=hf it (lw.mpr rfl);have hi:i < x.cps.size:=hg;refine wpAny_pyNext_ascii_item st (c:=x.cps[i]) (by simp[hi]) λh' st' sb=>?_;have I1:L2.Inv X pins σ H { s with heap:=h',toks:=s.toks+1 }:=I.turned (t':=s.toks+1) (λb o hb e=>sb.extBut b o hb e) f0 f1 f3 f4 f5;obtain⟨o,e,c,d⟩:=id st';exact⟨_,rfl,y6 (s:={ s with heap:=h',toks:=s.toks+1 }) e c d (by decide) ⟨.str ⟨#[x.cps[i]]⟩,H,I1,⟨_,rfl⟩,⟨rfl,_,by simp[hi],rfl⟩,st',λb hb=>(hf b hb).1⟩⟩
 done:=by intro X hP hw hK hc i pins s σ H E I hf st hg;subst hP;subst hw;subst hK;obtain⟨f0,f1,f2,f3,f4,f5⟩:=hf it (lw.mpr rfl);have hi:x.cps.size<=i:=hg;exact wpAny_pyNext_ascii_end (I.ok.hd hc) st (by simp[hi]) λh' eb=>⟨rfl,I.turned (t':=s.toks) (λb o hb e=>eb b o hb e) f0 f1 f3 f4 f5⟩
 self:=λ_ _ _ _ _ st h=>wpAny_pyIter_striter_ascii st h
theorem E_{w:ajV}(x:Str)(t:Tok)(it:ajO):Turn P w K tg (XR x) [it] it (λi h=>h.IsStrIter it "str_iterator" x t i) where
 mem:=lw.mpr rfl
 obj:=λi h st b hb=>by cases lw.mp hb;obtain⟨o,e,c,d⟩:=st;exact⟨o,e,λv z=>by rw[d]at z;cases z⟩
 keep:=λi h h' st k=>let ⟨o,e,r⟩:=st;⟨o,k it (lw.mpr rfl) o e,r⟩
 item:=by intro X hP hw hK hc i pins s σ H E I hf st hg;subst hP;subst hw;subst hK;obtain⟨f0,f1,f2,f3,f4,f5⟩:=hf it (lw.mpr rfl);have hi:i < x.cps.size:=hg;refine wpAny_pyNext_wide_item st (c:=x.cps[i]) (by simp[hi]) λh' st' sb=>?_;have I1:L2.Inv X pins σ H { s with heap:=h',toks:=s.toks+1 }:=I.turned (t':=s.toks+1) (λb o hb e=>sb.extBut b o hb e) f0 f1 f3 f4 f5;obtain⟨o,e,c,d⟩:=id st';exact⟨_,rfl,y6 (s:={ s with heap:=h',toks:=s.toks+1 }) e c d (by decide) ⟨.str ⟨#[x.cps[i]]⟩,H,I1,⟨_,rfl⟩,⟨rfl,_,by simp[hi],rfl⟩,st',λb hb=>(hf b hb).1⟩⟩
 done:=by intro X hP hw hK hc i pins s σ H E I hf st hg;subst hP;subst hw;subst hK;obtain⟨f0,f1,f2,f3,f4,f5⟩:=hf it (lw.mpr rfl);have hi:x.cps.size<=i:=hg;exact wpAny_pyNext_wide_end (I.ok.hd hc) st (by simp[hi]) λh' eb=>⟨rfl,I.turned (t':=s.toks) (λb o hb e=>eb b o hb e) f0 f1 f3 f4 f5⟩
 self:=λ_ _ _ _ _ st h=>wpAny_pyIter_striter_wide st h
section
variable {X:Cx}
theorem SR{l:Expr}(hl:PE X l tl):PI X tg l (λσ H R=>tl σ H λv H1=>∃z,v= .str z/\R (XR z) H1):=by
 intro pins s σ H R I h;refine bR (hl pins s σ H _ I h) λv s1 ⟨x,H1,I1,r1,z,e,q⟩=>?_;subst e;obtain⟨t,rfl⟩:=r1;have frs:∀b∈[s1.heap.objs.size],jE X pins H1 b:=λb hb=>by cases lw.mp hb;exact I1.Mb (av _) (I1.hok.fresh (av _))
 cases ha:z.cps.all (· < 128)
 ·exact wpAny_pyIter_wide ha ⟨s1.heap.objs.size,[s1.heap.objs.size],_,_,H1,rfl,I1.kept (t':=s1.toks) λb o e=>cI _ e,E_ z t _,⟨_,gI _ rfl,rfl,rfl⟩,frs,q⟩
 ·exact wpAny_pyIter_ascii ha ⟨s1.heap.objs.size,[s1.heap.objs.size],_,_,H1,rfl,I1.kept (t':=s1.toks) λb o e=>cI _ e,BC z t _,⟨_,gI _ rfl,rfl,rfl⟩,frs,q⟩
def cK(z:PySem.Str):List Wv:=z.cps.toList.map λc=>Wv.str ⟨#[c]⟩
def um(w:Wv)(st:Hs):Re Wk:=match w with
 |.str z=> .ok (gV,cK z) st
 |w=>SF w st
def jl(g:GE):GI:=λρ st=>(g ρ st).bind um
theorem SU(hz:bc z=jp):zy X (gV,cK z) m1 H1 (XR z) where
 go:=λk H m' st _ _ _ hk=>by
  have:k < z.cps.size:=by simpa [cK]using hk
  exact this
 stop:=λk H m' st _ _ _ hk=>by
  have:k=z.cps.size:=by simpa [cK]using hk
  exact sx this.symm
 Gg:=λk hk H v H' m' st _ _ _ y=>by
  obtain⟨rfl,c,hc,rfl⟩:=y;refine⟨rfl,?_⟩;have hk':k < z.cps.size:=by simpa [cK]using hk
  have e:∀h:k < (cK z).length,(cK z)[k]'h= .str ⟨#[z.cps[k]]⟩:=by intro h;simp[cK]
  have hc':z.cps[k]=c:=by simpa [hk']using hc
  show aj X.K m' H' ((cK z)[k]'hk) _;rw[e hk,hc'];refine mkStr ?_;rw[ko]at hz ⊢;intro d hd;simp at hd;rw[hd,<-hc'];exact hz _ (by simp)
theorem Ds(h:JE X iter g):JI X tg iter (jl g):=by
 obtain⟨w1,h1,k1⟩:=SG (tg:=tg) h;refine⟨λσ H R=>w1 σ H R\/(SE X iter σ H λv H1=>∃z,v= .str z/\R (XR z) H1),λpins s σ H R I q=>?_,λρ st σ H m R S RR p=>?_⟩
 ·rcases q with q |q
  ·exact h1 pins s σ H R I q
  ·exact SR bq pins s σ H R I q
 ·unfold jl at p;cases e:g ρ st with
  |bad=>rw[e]at p;exact ab p
  |err c st'=>rw[e]at p;exact .inl (k1 ρ st σ H m R S RR (by unfold Iu;rw[e];exact p))
  |ok w st'=>
   rw[e]at p;cases w with
   |str z=>refine .inr ?_;refine h.go (ok:=λw st1=>w= .str z/\st1=st') S RR (by rw[e];exact⟨rfl,rfl⟩) λw st1 v m1 H1 q e1 S1 r1=>?_;obtain⟨rfl,rfl⟩:=q;unfold aj at r1;obtain⟨rfl,hz⟩:=r1;exact⟨z,rfl,p m1 H1 _ e1 S1 trivial (SU hz)⟩
   |_=>exact .inl (k1 ρ st σ H m R S RR (by unfold Iu;rw[e];exact p))
theorem yg:fS X (.type "int") (λxs H Q=>∃z n,xs=[.str z]/\xL z=bv n/\z.length<=640/\Q (.int n) H):=by intro pins s σ H xs us Q I r h;obtain⟨z,n,rfl,hn,hl,q⟩:=h;obtain⟨u,rfl,t,rfl⟩:=vals1 r;exact PySem.W.KIN.call_text hn hl ⟨.int n,H,I.tok _,⟨_,rfl⟩,q⟩
def uo:List Wv->Hs->Re Wv
 |[.str z],st=>(match xL z with |some n=>if z.length<=640 then .ok (.int n) st else .bad |none=> .bad)
 |ws,st=>XI ws st
theorem Nx:et X (.type "int") uo:=by
 obtain⟨r,h1,h2⟩:=Ss (X:=X);refine⟨_,yg.or h1,λws vs st H m Q S rs p=>?_⟩;unfold uo at p;split at p
 ·rename_i z;obtain⟨v,rfl,r1⟩:=kh rs;unfold aj at r1;obtain⟨rfl,_⟩:=r1;cases e:xL z with
  |none=>rw[e]at p;exact ab p
  |some n=>
   rw[e]at p;dsimp only at p;by_cases c:z.length<=640
   ·rw[Os c]at p;exact .inl ⟨z,n,rfl,e,c,p _ m H Ext.refl S mkInt⟩
   ·rw[OK c]at p;exact ab p
 ·exact .inr (h2 _ vs st H m Q S rs p)
theorem IG:y9 X "str.split" (λx xs H Q=>∃z y,x= .str z/\xs=[.str y]/\(y.length == 0)=kt/\z.length+2<=aj4/\∀l,H l=gV->Q (.ref l) (upd H l (.lst ((dN z y).map V.str)))):=by
 intro pins s σ H x xs v us Q I rx rv h;obtain⟨z,y,rfl,rfl,hy,hz,q⟩:=h;obtain⟨t,rfl⟩:=rx;obtain⟨u,rfl,t',rfl⟩:=vals1 rv;have vv:∀l:List (Str×Tok),Vals ((l.map (·.1)).map V.str) (strValues l):=by
  intro l
  induction l with
  |nil=>exact .nil
  |cons p r ih=>exact .cons ⟨p.2,rfl⟩ ih
 have hn:(IH z (gJ z y 0 z.length (z.length+1)) y.length).length<=aj4:=by have e1:=StrLaws.occ_length_le z y 0 z.length (z.length+1);rw[length_partsBetween];omega
 have fin:∀(l:List (Str×Tok))(k:Nat),l.map (·.1)=dN z y->l.length<=aj4->EP X pins σ Q (.ref s.heap.objs.size) { s with toks:=k,heap:=s.heap.push { cls:=.type "list",data:=.seq (strValues l).toArray } }:=by intro l k hl hlen;rw[<-hl]at q;refine⟨.ref s.heap.objs.size,_,I.laid (t':=k) (λb o e=>cI _ e) (av _) (show fh X.prog X.w _ _ _ (.lst _) from⟨by simpa using hlen,strValues l,0,vv l,gI _ rfl⟩),rfl,q _ (I.hok.fresh (av _))⟩
 have e0:dN z y=dN z y:=rfl;unfold dN at e0;cases h1:(decide (z.length < y.length)||decide (SV z < SV y))with
 |true=>refine call_meets PySem.F.slot_str_split (typeIs_str _ _ _) PySem.F.entry_str_split (PySem.F.args_str_split_2 _ _) (meets_str_split_cannot_occur z y t t' h1) (fin [(z,t)] s.toks ?_ (by show 1<=aj4;decide));unfold dN;rw[Os h1];rfl
 |false=>
  cases hf:(gJ z y 0 z.length (z.length+1)).isEmpty with
  |true=>refine call_meets PySem.F.slot_str_split (typeIs_str _ _ _) PySem.F.entry_str_split (PySem.F.args_str_split_2 _ _) (meets_str_split_not_found z y t t' h1 hy hf) (fin [(z,t)] s.toks ?_ (by show 1<=aj4;decide));unfold dN;rw[OK (ne_true_of_eq_false h1),Os hf];rfl
  |false=>
   refine call_meets PySem.F.slot_str_split (typeIs_str _ _ _) PySem.F.entry_str_split (PySem.F.args_str_split_2 _ _) (meets_str_split_sep z y t t' h1 hy hf (by omega) hn) ?_;show wants _ _ _ _;rw[strsFrom_eq];refine fin (numbered s.toks _) _ ?_ ?_
   ·rw[numbered_texts];unfold dN;rw[OK (ne_true_of_eq_false h1),OK (ne_true_of_eq_false hf)]
   ·have:=congrArg jf (numbered_texts s.toks (IH z (gJ z y 0 z.length (z.length+1)) y.length));rw[bN]at this;omega
theorem Ny{j c:Nat}(h:c∈(SX z i j).cps.toList):c∈z.cps.toList:=by unfold SX at h;simp only[Array.toList_extract,List.extract_eq_take_drop]at h;exact List.mem_of_mem_drop (List.mem_of_mem_take h)
theorem zB{y:PySem.Str}(h:bc z=jp):∀b∈dN z y,bc b=true:=by
 intro b hb;have one:∀c∈b.cps.toList,c∈z.cps.toList:=by
  intro c hc;unfold dN at hb;split at hb
  ·simp at hb;rw[hb]at hc;exact hc
  ·split at hb
   ·simp at hb;rw[hb]at hc;exact hc
   ·unfold IH at hb;obtain⟨p,_,rfl⟩:=u8.mp hb;exact Ny hc
 rw[ko]at h ⊢;exact λc hc=>h c (one c hc)
def qk(z:PySem.Str):List Wv->Hs->Re Wv
 |[.str y],st=>if(y.length == 0)=kt/\z.length<=lim then .ok (.ref st.length) (st++[.lst ((dN z y).map Wv.str)])else .bad
 |_,_=> .bad
theorem zC{K:lc}{m:Mp}{H:Hp}:∀(ys:List PySem.Str),(∀b∈ys,bc b=jp)->ai K m H (ys.map Wv.str) (ys.map V.str)
 |[],_=>ai.nil
 |y::r,h=>ai.cons (by unfold aj;exact⟨rfl,h y aY⟩) (zC r λb hb=>h b (bw _ hb))
theorem II:V_ X "str.split" qk:=⟨_,IG,λz ws vs st H m Q hz S rs p=>by
 match ws,rs,p with
 |[],rs,p=>exact ab p
 |x::y::t,rs,p=>cases x<;>exact ab p
 |[x],rs,p=>
  obtain⟨v,rfl,r1⟩:=kh rs;cases x with
  |str y=>
   unfold aj at r1;obtain⟨rfl,_⟩:=r1;unfold qk at p;dsimp only at p;by_cases c:(y.length == 0)=kt/\z.length<=lim
   ·rw[Os c]at p;refine⟨z,y,rfl,rfl,c.1,?_,λl hl=>jg p Ext.refl S (zC _ (zB hz)) l hl⟩;have:=c.2;unfold lim at this;rw[sizeLine_eq];omega
   ·rw[OK c]at p;exact ab p
  |_=>exact ab p⟩
end
section
variable {X:Cx}
theorem uq{x:V}:∀{xs:List V}{us:List ajU},Vals xs us->xs.all h_=jp->us.countP (Bf x)=xs.countP λy=>y_ y x
 |_,_,.nil,_=>rfl
 |y::xs,u::us,.cons r t,f=>by rw[fj,cZ]at f;rw[BD,BD,tN r f.1,uq t f.2]
theorem Fb:y9 X "list.count" (λx xs H Q=>∃(p:ajO)(ys:List V)(y:V),x= .ref p/\xs=[y]/\ng X.K H p ys/\h_ y=jp/\ys.all h_=jp/\Q (.int (ys.countP λz=>y_ z y:Nat)) H):=by intro pins s σ H x xs v us Q I rx rv h;obtain⟨p,ys,y,rfl,rfl,hq,fy,fs,q⟩:=h;cases rx;obtain⟨u,rfl,ru⟩:=vals1 rv;obtain⟨its,r,pl,hz⟩:=I.list hq;obtain⟨⟨cls,dd,data,sl⟩,ho,hc,n,hd⟩:=pl.isList;simp only at hc hd;subst hc;subst hd;refine call_meets PySem.F.slot_list_count ⟨_,ho,rfl⟩ PySem.F.entry_list_count (PySem.F.args_list_count_2 _ _) (SeqAt.list_countAt p its.toArray n dd sl u (Bf y)) ⟨ho,λw hw=>j' ru fy r fs w (by simpa using hw),?_⟩;refine⟨.int _,H,I.tok _,⟨s.toks,?_⟩,q⟩;rw[List.toList_toArray,uq r fs]
theorem Fc:y9 X "list.index" (λx xs H Q=>∃(p:ajO)(ys:List V)(y:V)(j:Nat),x= .ref p/\xs=[y]/\ng X.K H p ys/\h_ y=jp/\ys.all h_=jp/\ys.findIdx? (λz=>y_ z y)=bv j/\Q (.int (j:Nat)) H):=by
 intro pins s σ H x xs v us Q I rx rv h;obtain⟨p,ys,y,j,rfl,rfl,hq,fy,fs,hj,q⟩:=h;cases rx;obtain⟨u,rfl,ru⟩:=vals1 rv;obtain⟨its,r,pl,hz⟩:=I.list hq;have hlen:=r.length;obtain⟨⟨cls,dd,data,sl⟩,ho,hc,n,hd⟩:=pl.isList;simp only at hc hd;subst hc;subst hd;rw[SY]at hj;obtain⟨hj1,hj2,hj3⟩:=hj;have at':∀(k:Nat)(h:k < ys.length)(h':k < its.length),Bf y its[k]=y_ ys[k] y:=by intro k h h';obtain⟨w,hw,rw'⟩:=r.get (fk h);rw[fk h']at hw;cases hw;exact tN rw' (List.all_eq_true.mp fs _ (ug h))
 have hs:aj4=16777216:=sizeLine_eq;refine call_meets PySem.F.slot_list_index ⟨_,ho,rfl⟩ PySem.F.entry_list_index (PySem.F.args_list_index_2 _ _) (SeqAt.list_indexAt p its.toArray n dd sl u (Bf y) j (by simp;omega) (by omega) ?_ ?_) ⟨ho,λw hw=>j' ru fy r fs w (by simpa using hw),⟨.int _,H,I.tok _,⟨_,rfl⟩,q⟩⟩
 ·rw[BE,at' j hj1 (by omega)];exact hj2
 ·intro m hm hlt;rw[BE,at' m (by omega) (by omega)];simpa using hj3 m hlt
def yh(o v:Wv)(st:Hs):Re Wv:=match o with
 |.ref l=>(match ax st l with
  |some ws=>if cU v=jp/\ws.all cU=jp then .ok (.int (ws.countP λz=>wz z v:Nat)) st else .bad
  |none=> .bad)
 |_=> .bad
def sJ(o v:Wv)(st:Hs):Re Wv:=match o with
 |.ref l=>(match ax st l with
  |some ws=>if cU v=jp/\ws.all cU=jp then(match ws.findIdx? (λz=>wz z v)with |some j=> .ok (.int (j:Nat)) st |none=> .bad)else .bad
  |none=> .bad)
 |_=> .bad
theorem k_{m:Mp}{H:Hp}:∀{ws:List Wv}{xs:List V},ai X.K m H ws xs->ws.all cU=jp->xs.all h_=jp
 |[],xs,r,_=>by unfold ai at r;subst r;rfl
 |w::ws,xs,r,f=>by unfold ai at r;obtain⟨x,t,rfl,r1,r2⟩:=r;rw[fj,cZ]at f ⊢;exact⟨kg r1 f.1,k_ r2 f.2⟩
theorem wI{m:Mp}{H:Hp}{v:Wv}{y:V}(rv:aj X.K m H v y)(fv:cU v=jp):∀{ws:List Wv}{xs:List V},ai X.K m H ws xs->ws.all cU=jp->(xs.countP λz=>y_ z y)=ws.countP λz=>wz z v
 |[],xs,r,_=>by unfold ai at r;subst r;rfl
 |w::ws,xs,r,f=>by unfold ai at r;obtain⟨x,t,rfl,r1,r2⟩:=r;rw[fj,cZ]at f;rw[BD,BD,wI rv fv r2 f.2,x8 r1 rv f.1 fv]
theorem ur{m:Mp}{H:Hp}{v:Wv}{y:V}(rv:aj X.K m H v y)(fv:cU v=jp):∀{ws:List Wv}{xs:List V},ai X.K m H ws xs->ws.all cU=jp->xs.findIdx? (λz=>y_ z y)=ws.findIdx? λz=>wz z v
 |[],xs,r,_=>by unfold ai at r;subst r;rfl
 |w::ws,xs,r,f=>by unfold ai at r;obtain⟨x,t,rfl,r1,r2⟩:=r;rw[fj,cZ]at f;rw[List.findIdx?_cons,List.findIdx?_cons,ur rv fv r2 f.2,x8 r1 rv f.1 fv]
theorem Fe:PH X "list.count" yh:=⟨_,Fb,λo w x v st H m Q S ro rw' p=>by
 cases o with
 |ref l=>
  unfold aj at ro;obtain⟨a,rfl,ha⟩:=ro;unfold yh at p;cases e:ax st l with
  |none=>simp only[e]at p;exact ab p
  |some ws=>
   simp only[e]at p;by_cases c:cU w=jp/\ws.all cU=jp
   ·rw[Os c]at p;obtain⟨xs,q1,q2⟩:=S.read ha e;refine⟨a,xs,v,rfl,rfl,q1,kg rw' c.1,k_ q2 c.2,?_⟩;rw[wI rw' c.1 q2 c.2];exact p _ m H Ext.refl S mkInt
   ·rw[OK c]at p;exact ab p
 |_=>exact ab p⟩
theorem Ff:PH X "list.index" sJ:=⟨_,Fc,λo w x v st H m Q S ro rw' p=>by
 cases o with
 |ref l=>
  unfold aj at ro;obtain⟨a,rfl,ha⟩:=ro;unfold sJ at p;cases e:ax st l with
  |none=>simp only[e]at p;exact ab p
  |some ws=>
   simp only[e]at p;by_cases c:cU w=jp/\ws.all cU=jp
   ·rw[Os c]at p;obtain⟨xs,q1,q2⟩:=S.read ha e;cases ej:ws.findIdx? (λz=>wz z w)with
    |none=>rw[ej]at p;exact ab p
    |some j=>rw[ej]at p;exact⟨a,xs,v,j,rfl,rfl,q1,kg rw' c.1,k_ q2 c.2,by rw[ur rw' c.1 q2 c.2];exact ej,p _ m H Ext.refl S mkInt⟩
   ·rw[OK c]at p;exact ab p
 |_=>exact ab p⟩
end
def keyOf:Wv->Option L2.Key
 |.int i=>bv (.inl i)
 |.str x=>bv (.inr x)
 |.cY=>bv .cY
 |_=>gV
theorem wJ{w:Wv}{v:V}{k:L2.Key}(r:aj K m H w v)(e:keyOf w=bv k):v=kV k:=by
 cases w with
 |int i=>cases e;unfold aj at r;rw[r];rfl
 |str x=>cases e;unfold aj at r;rw[r.1];rfl
 |cY=>cases e;unfold aj at r;rw[r];rfl
 |_=>cases e
def oo{κ:Type}[DecidableEq κ](kvs:List (κ×Wv))(k:κ):Option Wv:=match kvs with
 |[]=>gV
 |p::r=>if p.1=k then bv p.2 else oo r k
def Nz{κ:Type}[DecidableEq κ](kvs:List (κ×Wv))(k:κ)(v:Wv):List (κ×Wv):=if(kvs.any λkv=>decide (kv.1=k))=jp then kvs.map (λkv=>if kv.1=k then(kv.1,v)else kv)else kvs++[(k,v)]
def eI(kvs more:List (L2.Key×Wv)):List (L2.Key×Wv):=more.foldl (λacc kv=>Nz acc kv.1 kv.2) kvs
section
variable {K:lc}{m:Mp}{H:Hp}{κ:Type}
theorem RelK.nil:RelK (κ:=κ) K m H [] []:=⟨rfl,ai.nil⟩
theorem RelK.cons{k:κ}{w:Wv}{v:V}{kvs:List (κ×Wv)}{xs:List (κ×V)}(h:aj K m H w v)(t:RelK K m H kvs xs):RelK K m H ((k,w)::kvs) ((k,v)::xs) :=
 ⟨by simp[t.1],by simpa using ai.cons h t.2⟩
theorem RelK.nil_inv{xs:List (κ×V)}(h:RelK K m H [] xs):xs=[]:=by
 have:=h.1;cases xs with
 |nil=>rfl
 |cons a b=>simp at this
theorem RelK.cons_inv{p:κ×Wv}{kvs:List (κ×Wv)}{xs:List (κ×V)}(h:RelK K m H (p::kvs) xs):∃v t,xs=(p.1,v)::t/\aj K m H p.2 v/\RelK K m H kvs t:=by
 obtain⟨h1,h2⟩:=h;cases xs with
 |nil=>simp at h1
 |cons q t=>simp at h1 h2;unfold ai at h2;obtain⟨x,r,e1,e2,e3⟩:=h2;cases e1;exact⟨q.2,t,by rw[h1.1],e2,h1.2,e3⟩
theorem RelK.length{kvs:List (κ×Wv)}{xs:List (κ×V)}(h:RelK K m H kvs xs):kvs.length=xs.length:=by have:=congrArg jf h.1;simpa using this
variable [DecidableEq κ]
theorem RelK.val:∀{kvs:List (κ×Wv)}{xs:List (κ×V)}(k:κ),RelK K m H kvs xs->(oo kvs k=gV->r9 xs k=gV)/\∀w,oo kvs k=bv w->∃v,r9 xs k=bv v/\aj K m H w v
 |[],xs,k,h=>by rw[h.nil_inv];exact⟨λ_=>rfl,(λw e=>by cases e)⟩
 |p::r,xs,k,h=>by
  obtain⟨v,t,rfl,h1,h2⟩:=h.cons_inv;obtain⟨i1,i2⟩:=RelK.val k h2;unfold oo;by_cases e:p.1=k
  ·rw[Os e,tS (by exact e)];exact⟨(λz=>by cases z),λw z=>⟨v,rfl,by cases z;exact h1⟩⟩
  ·rw[OK e,tT (by exact e)];exact⟨i1,i2⟩
theorem RelK.any:∀{kvs:List (κ×Wv)}{xs:List (κ×V)}(k:κ),RelK K m H kvs xs->(kvs.any λkv=>decide (kv.1=k))=xs.any λkv=>decide (kv.1=k)
 |[],xs,k,h=>by rw[h.nil_inv];rfl
 |p::r,xs,k,h=>by obtain⟨v,t,rfl,h1,h2⟩:=h.cons_inv;rw[kY,kY,RelK.any k h2]
theorem RelK.repl:∀{kvs:List (κ×Wv)}{xs:List (κ×V)}(k:κ){w:Wv}{v:V},RelK K m H kvs xs->aj K m H w v->RelK K m H (kvs.map λkv=>if kv.1=k then(kv.1,w)else kv) (xs.map λkv=>if kv.1=k then(kv.1,v)else kv)
 |[],xs,k,w,v,h,r=>by rw[h.nil_inv];exact RelK.nil
 |p::kvs,xs,k,w,v,h,r=>by
  obtain⟨u,t,rfl,h1,h2⟩:=h.cons_inv;rw[bz,bz];by_cases e:p.1=k
  ·rw[Os e,Os (by exact e)];exact RelK.cons r (RelK.repl k h2 r)
  ·rw[OK e,OK (by exact e)];exact RelK.cons h1 (RelK.repl k h2 r)
theorem RelK.snoc:∀{kvs:List (κ×Wv)}{xs:List (κ×V)}(k:κ){w:Wv}{v:V},RelK K m H kvs xs->aj K m H w v->RelK K m H (kvs++[(k,w)]) (xs++[(k,v)])
 |[],xs,k,w,v,h,r=>by rw[h.nil_inv];exact RelK.cons r RelK.nil
 |p::kvs,xs,k,w,v,h,r=>by obtain⟨u,t,rfl,h1,h2⟩:=h.cons_inv;exact RelK.cons h1 (RelK.snoc k h2 r)
theorem RelK.put{kvs:List (κ×Wv)}{xs:List (κ×V)}(k:κ){w:Wv}{v:V}(h:RelK K m H kvs xs)(r:aj K m H w v):RelK K m H (Nz kvs k w) (putK xs k v):=by
 unfold Nz putK;rw[h.any k];split
 ·exact h.repl k r
 ·exact h.snoc k r
end
section
variable {K:lc}{m:Mp}{H:Hp}
theorem RelK.merge:∀{more:List (L2.Key×Wv)}{ms:List (L2.Key×V)}{kvs:List (L2.Key×Wv)}{xs:List (L2.Key×V)},RelK K m H kvs xs->RelK K m H more ms->RelK K m H (eI kvs more) (lY xs ms)
 |[],ms,kvs,xs,h,g=>by rw[g.nil_inv];exact h
 |p::more,ms,kvs,xs,h,g=>by obtain⟨u,t,rfl,h1,h2⟩:=g.cons_inv;have:=RelK.merge (more:=more) (ms:=t) (kvs:=Nz kvs p.1 p.2) (xs:=putK xs p.1 u) (RelK.put p.1 h h1) h2;exact this
end
abbrev GKV:=b7->Hs->Re (List (L2.Key×Wv))
def uu:List (GE×GE)->GKV
 |[]=>λ_ st=> .ok [] st
 |(gk,gv)::r=>λρ st=>(gk ρ st).bind λk st1=>match keyOf k with
  |none=> .bad
  |some kk=>(gv ρ st1).bind λv st2=>(uu r ρ st2).bind λl st3=> .ok ((kk,v)::l) st3
def pz(gs:List (GE×GE)):GE:=λρ st=>(uu gs ρ (st++[.dct []])).bind λkvs st2=>match st2[st.length]? with
 |some (.dct [])=> .ok (.ref st.length) (st2.set st.length (.dct (eI [] kvs)))
 |_=> .bad
variable{vs:List Expr}{ks:List (Option Expr)}{gs:List (GE×GE)}
section
variable {X:Cx}
inductive PL(X:Cx)(pos:Pos):List (Option Expr)->List Expr->List (GE×GE)->Prop
 |nil:PL X pos [] [] []
 |cons {k v:Expr}{ks:List (Option Expr)}{vs:List Expr}{gk gv:GE}{gs:List (GE×GE)}:JE X k gk->JE X v gv->PL X pos ks vs gs->PL X pos (bv k::ks) (v::vs) ((gk,gv)::gs)
def IJ(X:Cx):List (Option Expr)->List Expr->List (TE×TE)
 |some k::ks,v::vs=>(SE X k,SE X v)::IJ X ks vs
 |_,_=>[]
theorem NA(h:PL X pos ks vs gs):Xb X pos ks vs (IJ X ks vs):=by
 induction h with
 |nil=>exact MF
 |cons _ _ _ ih=>exact Hj bq bq ih
theorem yi(h:PL X pos ks vs gs):ks.all (·.isSome)=jp/\ks.length=vs.length/\gs.length=ks.length:=by
 induction h with
 |nil=>exact⟨rfl,rfl,rfl⟩
 |cons _ _ _ ih=>exact⟨by simp[ih.1],by simp[ih.2.1],by simp[ih.2.2]⟩
theorem IK(h:PL X pos ks vs gs):∀{ρ:b7}{st:Hs}{σ:St}{H:Hp}{m:Mp}{ok:List (L2.Key×Wv)->Hs->Prop}{T:List (V×V)->Hp->Prop},cA X.K m st H->a_ X.K m H ρ σ->aE X σ m H (uu gs ρ st) ok->
  (∀(kvs:List (L2.Key×Wv))(st1:Hs)(xs:List (L2.Key×V))(m1:Mp)(H1:Hp),ok kvs st1->Ext X.K m H m1 H1->cA X.K m1 st1 H1->RelK X.K m1 H1 kvs xs->kvs.length=gs.length->T (xs.map λkv=>(kV kv.1,kv.2)) H1)->xT (IJ X ks vs) σ H T:=by
 induction h with
 |nil=>intro ρ st σ H m ok T S R p k;exact k [] st [] m H p Ext.refl S RelK.nil rfl
 |cons hk hv _ ih=>
  intro ρ st σ H m ok T S R p k;unfold uu at p;refine hk.go S R (aE.bind p) λw st1 v m1 H1 p1 e1 S1 r1=>?_;cases e:keyOf w with
  |none=>rw[e]at p1;exact ab p1
  |some kk=>rw[e]at p1;refine hv.go S1 (R.mono e1) ((aE.bind p1).imp e1 λ_ _ q=>q) λw2 st2 v2 m2 H2 p2 e2 S2 r2=>?_;refine ih S2 (R.mono (e1.trans e2)) ((aE.bind p2).imp (e1.trans e2) λ_ _ q=>q) λkvs st3 xs m3 H3 p3 e3 S3 r3 l3=>?_;have:=k ((kk,w2)::kvs) st3 ((kk,v2)::xs) m3 H3 p3 (e1.trans (e2.trans e3)) S3 (RelK.cons (aj.mono e3 _ _ r2) r3) (by simp[l3]);rw[wJ r1 e];exact this
theorem NB(h:PL X pos ks vs gs)(h0:ks≠[])(h15:ks.length<=15):JE X (.Dict ks vs pos) (pz gs) :=
 JE.of (MG (NA h) (yi h).1 (yi h).2.1 h0 h15) λρ st σ H m Q S R p=>by
  intro q hq;have ex:Ext X.K m H (m++[q]) (upd H q (.dK [])):=Ext.more.trans (Ext.ka (.inl hq));have S0:cA X.K (m++[q]) (st++[.dct []]) (upd H q (.dK [])):=S.xV hq ⟨[],cz,RelK.nil⟩;refine IK h S0 (R.mono ex) ((aE.bind p).imp ex λ_ _ q=>q) λkvs st2 xs m2 H2 p2 e2 S2 r2 l2=>?_;have hm:m2[st.length]? =bv q:=e2.pre _ _ (by rw[<-S.len,lW (av _),sF];rfl);cases e:st2[st.length]? with
  |none=>rw[e]at p2;exact ab p2
  |some o=>
   rw[e]at p2;cases o with
   |lst _=>exact ab p2
   |vB _=>exact ab p2
   |Dd _=>exact ab p2
   |AQ _=>exact ab p2
   |ER _=>exact ab p2
   |ins _ _=>exact ab p2
   |dct kk=>
    cases kk with
    |cons _ _=>exact ab p2
    |nil=>obtain⟨ys,y1,y2⟩:=(show ∃ys,H2 q=bv (.dK ys)/\RelK X.K m2 H2 [] ys from S2.obj _ _ _ hm e);rw[y2.nil_inv]at y1;have wr:Wr (H2 q):=.inr (.inr (.inl ⟨_,y1⟩));have e3:Ext X.K m2 H2 m2 (upd H2 q (.dK (lY [] xs))):=Ext.ka wr;have S3:=S2.tW (ob:=.dct (eI [] kvs)) hm e rfl ⟨lY [] xs,cz,(RelK.merge RelK.nil r2).mono e3⟩;refine⟨y1,xs,rfl,by rw[<-r2.length,l2,(yi h).2.2];exact h15,?_⟩;exact p2 (.ref q) m2 _ (ex.trans (e2.trans e3)) S3 (by unfold aj;exact⟨q,rfl,hm⟩)
def uv(st:Hs)(l:Nat):Bool:=match st[l]? with
 |some (.dct _)=>jp
 |_=>kt
def l9(gd gk gx:GE):GE:=λρ st=>(gd ρ st).bind λd st1=>match d with
 |.ref l=>if uv st1 l=jp then(gk ρ st1).bind λk st2=>(gx ρ st2).bind λx st3=>(match keyOf k,st3[l]? with
  |some kk,bv (.dct kvs)=> .ok ((oo kvs kk).getD x) st3
  |_,_=> .bad)else .bad
 |_=> .bad
theorem IL{a:ajO}(S:cA X.K m st H)(ha:m[l]? =bv a)(h:uv st l=jp):IsD H a:=by
 unfold uv at h;cases e:st[l]? with
 |none=>rw[e]at h;cases h
 |some o=>
  rw[e]at h;cases o with
  |dct kvs=>obtain⟨xs,e1,_⟩:=(show ∃ys,H a=bv (.dK ys)/\RelK X.K m H kvs ys from S.obj _ _ _ ha e);exact .inl ⟨xs,.inl e1⟩
  |_=>cases h
theorem IM{f:Expr}{gd gk gx:GE}(hu:X.A.units+1 < cLine)(ho:JE X o gd)(he:JE X e gk)(hf:JE X f gx)(M:M2 X o "get" apos e f cpos):JE X (.Call (.Attribute o "get" apos) [e,f] [] cpos) (l9 gd gk gx) :=
 JE.of (Hk hu bq bq bq M) λρ st σ H m Q S R p=>by
  refine ho.go S R (aE.bind p) λd st1 v m1 H1 p1 e1 S1 r1=>?_;cases d with
  |ref l=>
   dsimp only at p1;by_cases hd:uv st1 l=jp
   ·rw[Os hd]at p1;unfold aj at r1;obtain⟨a,rfl,ha⟩:=r1;refine⟨a,rfl,IL S1 ha hd,?_⟩;refine he.go S1 (R.mono e1) ((aE.bind p1).imp e1 λ_ _ q=>q) λk st2 y m2 H2 p2 e2 S2 r2=>?_;refine hf.go S2 (R.mono (e1.trans e2)) ((aE.bind p2).imp (e1.trans e2) λ_ _ q=>q) λx st3 z m3 H3 p3 e3 S3 r3=>?_;cases q1:keyOf k with
    |none=>rw[q1]at p3;exact ab p3
    |some kk=>
     cases q2:st3[l]? with
     |none=>rw[q1,q2]at p3;exact ab p3
     |some ob=>
      rw[q1,q2]at p3;cases ob with
      |dct kvs=>
       have IP:m3[l]? =bv a:=(e2.trans e3).pre _ _ ha;obtain⟨xs,y1,y2⟩:=(show ∃ys,H3 a=bv (.dK ys)/\RelK X.K m3 H3 kvs ys from S3.obj _ _ _ IP q2);dsimp only at p3;refine⟨_,by rw[wJ r2 q1];exact Hh.k y1,?_⟩;obtain⟨i1,i2⟩:=y2.val kk;cases q3:oo kvs kk with
       |none=>rw[i1 q3];rw[q3]at p3;exact p3 z m3 H3 (e1.trans (e2.trans e3)) S3 r3
       |some w=>obtain⟨u,j1,j2⟩:=i2 w q3;rw[j1];rw[q3]at p3;exact p3 u m3 H3 (e1.trans (e2.trans e3)) S3 j2
      |_=>exact ab p3
   ·rw[OK hd]at p1;exact ab p1
  |_=>exact ab p1
end
def wK:List Wv->List V->Prop
 |[],[]=>True
 |.int i::r,.int j::t=>i=j/\wK r t
 |.str x::r,.str y::t=>(x=y/\bc x=jp)/\wK r t
 |_,_=>False
theorem wK.rel:∀{ws:List Wv}{vs:List V},wK ws vs->ai K m H ws vs
 |[],[],_=>ai.nil
 |.int i::r,.int j::t,h=>by obtain⟨rfl,h⟩:=h;exact ai.cons (by unfold aj;rfl) h.rel
 |.str x::r,.str y::t,h=>by obtain⟨⟨rfl,hx⟩,h⟩:=h;exact ai.cons (by unfold aj;exact⟨rfl,hx⟩) h.rel
 |[],_::_,h=>ab h
 |.int i::r,[],h=>ab h
 |.str i::r,[],h=>ab h
 |.int i::r,.str _::_,h=>ab h
 |.str i::r,.int _::_,h=>ab h
def qZ(K:lc):Wv->ajU->Prop
 |.int i,u=>∃t,u= .int i t
 |.str x,u=>(∃t,u= .str x t)/\bc x=jp
 |.j5 ws,u=>∃(a:ajO)(vs:List V),u= .ref a/\Xf K a vs/\wK ws vs
 |_,_=>False
def XS:Wv->ajU->V
 |.int i,_=> .int i
 |.str x,_=> .str x
 |_,.ref a=> .ref a
 |_,_=> .cY
theorem qZ.v:∀{w:Wv}{u:ajU},qZ K w u->RelV (XS w u) u
 |.int i,u,h=>by obtain⟨t,rfl⟩:=h;exact⟨t,rfl⟩
 |.str x,u,h=>by obtain⟨⟨t,rfl⟩,_⟩:=h;exact⟨t,rfl⟩
 |.j5 ws,u,h=>by obtain⟨a,vs,rfl,_⟩:=h;rfl
theorem qZ.w{K:lc}{m:Mp}{H:Hp}:∀{w:Wv}{u:ajU},qZ K w u->aj K m H w (XS w u)
 |.int i,u,h=>by unfold aj;rfl
 |.str x,u,h=>by unfold aj;exact⟨rfl,h.2⟩
 |.j5 ws,u,h=>by obtain⟨a,vs,rfl,h1,h2⟩:=h;unfold aj;exact⟨a,vs,rfl,h1,h2.rel⟩
abbrev Dc:=List (PySem.Str×Wv)
def yj(K:lc)(w:ajV):Dc->List DictEntry->Prop
 |[],[]=>True
 |(k,v)::r,e::t=>(e.hash=hashStr w k/\(∃tk,e.key= .str k tk)/\qZ K v e.val)/\yj K w r t
 |_,_=>False
def nj(K:lc)(w:ajV)(mg:Str->Option ajU)(x:Str)(kvs:Dc):Prop :=
 ∃(a:ajO)(es:Array DictEntry)(ep:Nat),mg x=bv (.ref a)/\K.lookup a=bv ⟨.type "dict",gV,.dict es ep,#[]⟩/\(a == sysModules)=kt/\yj K w kvs es.toList/\(kvs.map (·.1)).Nodup
theorem zD{P:ajS}{w:ajV}{K:lc}:∀{kvs:Dc}{l:List DictEntry},yj K w kvs l->∃vs:List (PySem.Str×ajU),vs.map (·.1)=kvs.map (·.1)/\Pairs (PySem.strKind P w) l vs/\(∀e∈l,∃k,(PySem.strKind P w).is k e.key=jp/\e.hash=(PySem.strKind P w).hash k)/\
  ∀k,(kvs.lookup k=gV->valueAt vs k=gV)/\∀v,kvs.lookup k=bv v->∃u,valueAt vs k=bv u/\qZ K v u
 |[],[],_=>⟨[],rfl,.nil,(λ_ z=>by cases z),λk=>⟨λ_=>rfl,(λv z=>by cases z)⟩⟩
 |(k,v)::r,e::t,h=>by
  obtain⟨⟨h1,⟨tk,h2⟩,h3⟩,h4⟩:=h;obtain⟨vs,i1,i2,i3,i4⟩:=zD (P:=P) h4;have his:(PySem.strKind P w).is k e.key=true:=by rw[h2];exact strKind_is P w k tk
  refine⟨(k,e.val)::vs,by simp[i1],.cons his rfl i2,λe' he=>?_,λk'=>?_⟩
  ·rcases List.mem_cons.mp he with z |z
   ·subst z;exact⟨k,his,h1⟩
   ·exact i3 e' z
  ·rw[e_];unfold valueAt;rw[qh];by_cases ek:k=k'
   ·subst ek;have b1:(k == k)=true:=by simp
    rw[b1];simp only[decide_true,sI];exact⟨(λz=>by cases z),λv' z=>⟨e.val,rfl,by cases z;exact h3⟩⟩
   ·have b1:(k' == k)=false:=beq_eq_false_iff_ne.mpr λz=>ek z.symm;rw[b1];simp only[ek,decide_false];exact i4 k'
 |[],_::_,h=>ab h
 |_::_,[],h=>ab h
variable{w:ajV}{kvs:Dc}
theorem sL{a:ajO}{es:Array DictEntry}{ep:Nat}(KX:K.In h)(hl:K.lookup a=bv ⟨.type "dict",gV,.dict es ep,#[]⟩)(he:yj K w kvs es.toList)(nd:(kvs.map (·.1)).Nodup):
  ∃vs:List (PySem.Str×ajU),h.DictOf (PySem.strKind P w) a vs/\∀k,(kvs.lookup k=gV->valueAt vs k=gV)/\∀v,kvs.lookup k=bv v->∃u,valueAt vs k=bv u/\qZ K v u:=by
 obtain⟨vs,i1,i2,i3,i4⟩:=zD (P:=P) he;exact⟨vs,⟨_,es,ep,KX a _ hl,⟨rfl,rfl,rfl⟩,rfl,λe hm=>i3 e (by simpa using hm),i2,by rw[i1];exact nd⟩,i4⟩
variable{i b:Expr}{Q:VK}{ty:TE}{neg:Bool}
section
variable {X:Cx}
def jJ(neg:Bool)(kvs:Dc)(ga:GE):GE:=λρ st=>(ga ρ st).bind λa st1=>match a with
 |.str k=> .ok (.bl ((kvs.lookup k).isSome != neg)) st1
 |_=> .bad
def pA(kvs:Dc)(ga:GE):GE:=λρ st=>(ga ρ st).bind λa st1=>match a with
 |.str k=>(match kvs.lookup k with |some w=> .ok w st1 |none=> .bad)
 |_=> .bad
def IQ(neg:Bool)(kvs:Dc)(ty:TE):TE:=λσ H Q=>ty σ H λy H1=>∃z,y= .str z/\Q (.bl ((kvs.lookup z).isSome != neg)) H1
theorem IS(hi:PE X i ty)(hg:Gl X x)(hd:(x == ("__debug__":Str))=kt)(D:nj X.K X.w X.mg x kvs):PC X .In i (.Name x p) (IQ kt kvs ty):=by
 intro pins s σ H Q I h;obtain⟨a,es,ep,g1,g2,g3,g4,g5⟩:=D;refine bR (hi pins s σ H _ I h) λiv s1 ⟨y,H1,I1,ry,z,ey,q1⟩=>bR (i5 (v:=.ref a) hg g1 rfl hd pins s1 σ H1 (λv H2=>v= .ref a/\H2=H1) I1 ⟨rfl,rfl⟩) λu s2 ⟨v,H2,I2,rv,ev,eH⟩=>?_;subst ey ev eH;obtain rfl:u=bJ a:=rv;obtain⟨t,rfl⟩:=(show ∃t,iv=kT z t from ry);obtain⟨vs,dd,look⟩:=sL (P:=X.prog) (w:=X.w) I2.qR g2 g4 g5;refine wpAny_in_of (strKind_is X.prog X.w z t) g3 dd.mapOf ⟨.bl (kvs.lookup z).isSome,_,I2.tok _,?_,by simpa using q1⟩;obtain⟨l1,l2⟩:=look z;cases e:kvs.lookup z with
 |none=>rw[l1 e];rfl
 |some w=>obtain⟨u,e1,_⟩:=l2 w e;rw[e1];rfl
theorem wL(hi:PE X i ty)(hg:Gl X x)(hd:(x == ("__debug__":Str))=kt)(D:nj X.K X.w X.mg x kvs):PC X .NotIn i (.Name x p) (IQ jp kvs ty):=by
 intro pins s σ H Q I h;obtain⟨a,es,ep,g1,g2,g3,g4,g5⟩:=D;refine bR (hi pins s σ H _ I h) λiv s1 ⟨y,H1,I1,ry,z,ey,q1⟩=>bR (i5 (v:=.ref a) hg g1 rfl hd pins s1 σ H1 (λv H2=>v= .ref a/\H2=H1) I1 ⟨rfl,rfl⟩) λu s2 ⟨v,H2,I2,rv,ev,eH⟩=>?_;subst ey ev eH;obtain rfl:u=bJ a:=rv;obtain⟨t,rfl⟩:=(show ∃t,iv=kT z t from ry);obtain⟨vs,dd,look⟩:=sL (P:=X.prog) (w:=X.w) I2.qR g2 g4 g5;refine wpAny_notIn_of (strKind_is X.prog X.w z t) g3 dd.mapOf ⟨.bl (!(kvs.lookup z).isSome),_,I2.tok _,?_,by simpa using q1⟩;obtain⟨l1,l2⟩:=look z;cases e:kvs.lookup z with
 |none=>rw[l1 e];rfl
 |some w=>obtain⟨u,e1,_⟩:=l2 w e;rw[e1];rfl
theorem mT(ha:JE X a ga)(S:cA X.K m st H)(R:a_ X.K m H ρ σ)(p:eh X σ m H (jJ neg kvs ga ρ st) Q):IQ neg kvs (SE X a) σ H Q:=by
 refine ha.go S R (aE.bind p) λw st1 v m1 H1 p1 e1 S1 r1=>?_;cases w with
 |str k=>unfold aj at r1;exact⟨k,r1.1,p1 _ m1 H1 e1 S1 (by unfold aj;rfl)⟩
 |_=>exact ab p1
theorem NC(ha:JE X a ga)(hg:Gl X x)(hd:(x == ("__debug__":Str))=kt)(D:nj X.K X.w X.mg x kvs):JE X (.Compare a [.In] [.Name x p] pos) (jJ kt kvs ga) :=
 JE.of (Gn (IS bq hg hd D) rfl) λρ st σ H m Q S R p=>mT ha S R p
theorem BF(ha:JE X a ga)(hg:Gl X x)(hd:(x == ("__debug__":Str))=kt)(D:nj X.K X.w X.mg x kvs):JE X (.Compare a [.NotIn] [.Name x p] pos) (jJ jp kvs ga) :=
 JE.of (Gn (wL bq hg hd D) rfl) λρ st σ H m Q S R p=>mT ha S R p
theorem ND(ha:JE X a ga)(hg:Gl X x)(hd:(x == ("__debug__":Str))=kt)(D:nj X.K X.w X.mg x kvs):JT X (.Compare a [.In] [.Name x p] pos) (aW (jJ kt kvs ga)) :=
 JT.of (Gq (IS bq hg hd D) rfl) λρ st σ H m Q S R p=>mT ha S R (o9 p)
theorem BG(ha:JE X a ga)(hg:Gl X x)(hd:(x == ("__debug__":Str))=kt)(D:nj X.K X.w X.mg x kvs):JT X (.Compare a [.NotIn] [.Name x p] pos) (aW (jJ jp kvs ga)) :=
 JT.of (Gq (wL bq hg hd D) rfl) λρ st σ H m Q S R p=>mT ha S R (o9 p)
def XT(K:lc)(kvs:Dc)(ty:TE):TE:=λσ H Q=>ty σ H λy H1=>∃z w,y= .str z/\kvs.lookup z=bv w/\∀u,qZ K w u->Q (XS w u) H1
theorem NF(hb:PE X b ty)(hs:RF b)(hg:Gl X x)(hd:(x == ("__debug__":Str))=kt)(D:nj X.K X.w X.mg x kvs):PE X (.Subscript (.Name x p) b pos) (XT X.K kvs ty):=by intro pins s σ H Q I h;obtain⟨a,es,ep,g1,g2,g3,g4,g5⟩:=D;refine MD PySem.F.slot_dict_getitem.lookup hs (bR (i5 (v:=.ref a) hg g1 rfl hd pins s σ H (λv H2=>v= .ref a/\H2=H) I ⟨rfl,rfl⟩) λu s1 ⟨v,H1,I1,rv,ev,eH⟩=>?_);subst ev eH;obtain rfl:u=bJ a:=rv;refine bR (hb pins s1 σ H1 _ I1 h) λiv s2 ⟨y,H2,I2,ry,z,w,ey,ew,q⟩=>?_;subst ey;obtain⟨t,rfl⟩:=(show ∃t,iv=kT z t from ry);obtain⟨vs,dd,look⟩:=sL (P:=X.prog) (w:=X.w) I2.qR g2 g4 g5;obtain⟨u,e1,e2⟩:=(look z).2 w ew;exact⟨dd.typeIs,wpAny_getItem_of (strKind_is X.prog X.w z t) dd.mapOf e1 ⟨XS w u,H2,I2.tok _,e2.v,q u e2⟩⟩
theorem NG{gb:GE}(hb:JE X b gb)(hs:RF b)(hg:Gl X x)(hd:(x == ("__debug__":Str))=kt)(D:nj X.K X.w X.mg x kvs):JE X (.Subscript (.Name x p) b pos) (pA kvs gb) :=
 JE.of (NF bq hs hg hd D) λρ st σ H m Q S R p=>by
  refine hb.go S R (aE.bind p) λw st1 v m1 H1 p1 e1 S1 r1=>?_;cases w with
  |str k=>
   dsimp only at p1;cases e:kvs.lookup k with
   |none=>rw[e]at p1;exact ab p1
   |some u=>rw[e]at p1;unfold aj at r1;exact⟨k,u,r1.1,e,λv h=>p1 _ m1 H1 e1 S1 h.w⟩
  |_=>exact ab p1
end
open PySem PySem.Spec PyProof.Rows PySem.W L2
section
variable {lt:Nat->Nat->Bool}{N:Nat}
abbrev at_(p:Array Nat)(i:Nat):Nat:=p.getD i 0
def Up(lt:Nat->Nat->Bool)(p:Array Nat)(k:Nat):Prop:=∀i j,i<=j->j < k->lt (at_ p j) (at_ p i)=kt
end
def keysOf:List Wv->Option (List L2.Key)
 |[]=>bv []
 |w::r=>(match keyOf w,keysOf r with |some k,bv l=>bv (k::l) |_,_=>gV)
def XU:Wv->Option (List L2.Key)
 |.tup ws=>keysOf ws
 |_=>gV
def XW:GE:=λ_ st=> .ok (.ref st.length) (st++[.Dd []])
def PM:GE:=λ_ st=> .ok (.ref st.length) (st++[.dct []])
section
variable {X:Cx}
theorem NH:JE X (.Dict [] [] pos) PM:=JE.of Hi λρ st σ H m Q S R p=>λq hq=>
 p (.ref q) (m++[q]) _ (Ext.more.trans (Ext.ka (.inl hq))) (S.xV hq ⟨[],cz,RelK.nil⟩) (S.newest q _)
end
def yk:List Wv->Hs->Re Wv:=λws st=>BB ws st
section
variable {X:Cx}
theorem IT(hc:X.calm=jp):et X (.type "list") yk:=Nn
end
open PySem L2 PyProof.Rows
variable {X:Cx}
def oLe:jc:=λx y st=>Xo x y st
theorem S6(hu:X.A.units+64 < cLine):lR X (aj1 .LtE) oLe:=Xs
def XX:jc:=λx y st=>Xn x y st
theorem S7(hu:X.A.units+64 < cLine):lR X (aj1 .Lt) XX:=Xr
structure q_(k:Nat)(A:ajP):Prop where
 d:A.depth+3 * k+5 < recursionLimit
 u:A.units+16 * k+200 < cLine
theorem q_.of(r:iJ k A):q_ k A:=⟨r.dp,r.un⟩
structure XY(P:ajS)(w:ajV)(K:lc)(mg:Str->Option ajU)(base:Heap)(k:Nat)(f:ajO)(fd:ajQ)(ps:List Str)(sp:Sp):Prop where
 n:∀vs H Q E,sp vs H Q E->vs.length=ps.length
 go:∀(A:ajP)(outer:List Env)(s:ajT)(H:Hp)(args:Args)(us:List ajU)(vs:List V)(Q:VK)(E:XK),q_ k A->E2 A H->y7 P w K mg base A outer s H->
  BindsTo s fd args (ps.zip us)->Vals vs us->sp vs H Q E->ajZ (model P w) A (.call (.ref f) args) (CR (CXJ P w) outer P w H s Q E) s
def NI(P:ajS)(w:ajV)(K:lc)(mg:Str->Option ajU)(base:Heap)(k:Nat)(x:Str)(n:Nat)(F:List Wv->Hs->Re Wv):Prop :=
 ∃f fd ps,XY P w K mg base k f fd ps (spW K n F)/\mg x=bv (.ref f)/\ww K (.ref f)=jp/\Binds K fd ps []
section
open PySem.SeqAt PySem.MeetsSeq PySem.MeetsSeq2 PySem.MeetsSeq3
theorem zE(p:ajO)(its:Array ajU)(n:Nat)(dd:Option ajO)(sl:Array (Option ajU))(x:ajU)(e:ajU->Bool)(j:Nat)(hj:j < its.size)(hit:e its[j]=jp)(hno:∀m (hm:m < its.size),m < j->e its[m]=kt):
  Meets (Builtin.«tuple.index» ⟨[.ref p,x],[]⟩)
   (λA R s=>s.heap.get? p=bv { cls:=.type "tuple",dict:=dd,data:=.seq its n,slots:=sl }/\(∀y,y∈its->EqAt A.in1 s y x (e y))/\R (.ok (.ret (.int j s.toks))) { s with toks:=s.toks+1 }) :=
 .of_wp λprog w A R s hh=>by
  obtain⟨hp,g,d,tk,os⟩:=s;obtain⟨gp,he,hr⟩:=hh;have sb:=XZ
  wp_walk using PySem.AutoSeq1.wpAny_loadPart' gp
  rw[Nat.min_self]
  show aj6 (model prog w) A.in1 (forIn [:its.size] (gV,()) (λ(i:Nat)(__s:Option PySem.Fin×Unit)=>match its[i]? with
      |some y=>do
       let __do_lift <-eqBool y x
       if __do_lift=jp then do
         let __do_lift <-retInt i
         pure (ForInStep.done (bv __do_lift,()))
        else pure (t_ (gV,()))
      |x=>pure (t_ (gV,())))) _ _ _
  rw[Std.Legacy.Range.forIn_eq_forIn_range'];simp only[Std.Legacy.Range.size,Nat.sub_zero,Nat.add_sub_cancel,Nat.div_one];refine wpAny_forIn_list _ (λrest b s'=>b.1=gV/\s'=⟨hp,g,d,tk,os⟩/\∃i,i<=j/\rest=List.range' i (its.size - i)) _ ?_ ?_ _ _ ⟨rfl,rfl,0,dz _,by simp⟩
  ·rintro y rest b s' ⟨e0,rfl,i,hi,er⟩;have hlt:i < its.size:=by omega
   obtain⟨rfl,er'⟩:y=i/\rest=List.range' (i+1) (its.size - (i+1)):=by
    have q:its.size - i=(its.size - (i+1))+1:=by omega
    rw[q,List.range'_succ]at er;injection er with h1 h2;exact⟨h1,h2⟩
   rw[Array.getElem?_eq_getElem hlt];dsimp only;refine aj7 (he _ (Array.getElem_mem hlt) prog w _ _ ?_);by_cases cj:y=j
   ·subst cj;rw[hit,Os rfl]
    wp_walk
    exact⟨_,rfl,hr⟩
   ·rw[hno y hlt (by omega),OK cS];exact akb ⟨rfl,rfl,y+1,by omega,er'⟩
  ·rintro b s' ⟨e0,rfl,i,hi,er⟩;exfalso;have:its.size - i=0:=by have:=congrArg jf er;simpa using this.symm
   omega
end
section
variable {X:Cx}
def BH(mt:Wv->Wv->Hs->Re Wv)(go ga:GE):GE:=λρ st=>(go ρ st).bind λo st1=>match o with
 |.tup us=>(ga ρ st1).bind λv st2=>(mt (.tup us) v st2).mP
 |_=> .bad
theorem IU{ob:Expr}{id:String}(hm:PH X id mt)(slot:Slot "tuple" name id)(hty:typeOf (.builtin id)=pure (.type "method_descriptor"))(hbase:attributeBase ob name X.env (eval ob X.env)=eval ob X.env)(ho:JE X ob go)(ha:JE X e ga)
  (hst:aj5 [e] X.env=[(kt,eval e X.env)])(hline:(apos.endLine == cpos.line)=jp):JE X (.Call (.Attribute ob name apos) [e] [] cpos) (BH mt go ga):=by
 obtain⟨r,h1,h2⟩:=hm;have hfew:((backTo cpos (aj5 [e] X.env)).all (λx=> !x.1)&&(backToKw cpos (keywordEach [] X.env)).all (λx=>x.1.isSome)&&decide ([e].length+([]:List Keyword).length+(if([]:List Keyword).isEmpty then 0 else 1) < 30))=true:=by rw[hst];rfl
 refine JE.of (G8 PySem.F.plainAttrs_tuple slot hty h1 bq lZ hbase hfew hline hst rfl) λρ st σ H m Q S R p=>?_;refine ho.go S R (aE.bind p) λo st1 v m1 H1 p1 e1 S1 ro=>?_;cases o with
 |tup us=>
   dsimp only at p1;have XH:=ro;unfold aj at XH;obtain⟨a,xs,rfl,hq,_⟩:=XH;refine⟨.inr (.inl ⟨rfl,.inr ⟨xs,hq⟩⟩),?_⟩;refine(xX ha xW hst).go S1 (R.mono e1) (ok:=λws st2=>aE X σ m H (match ws with |[w]=>(mt (.tup us) w st2).mP |_=> .bad) (RO X.K m H Q)) ?_ λws st2 vs m2 H2 p2 e2 S2 rs=>?_
   ·have p3:=(aE.bind p1).imp e1 (λ_ _ q=>q);show aE X σ m1 H1 ((ga ρ st1).bind λx st1=>(ag ρ st1).bind λxs st2=> .ok (x::xs) st2) _;cases eg:ga ρ st1 with
    |ok w st2=>rw[eg]at p3;exact p3
    |err c st2=>rw[eg]at p3;exact p3
    |bad=>rw[eg]at p3;exact p3
   ·match ws,rs,p2 with
    |[],rs,p2=>exact ab p2
    |[w],rs,p2=>obtain⟨v2,rfl,rw2⟩:=kh rs;exact h2 (.tup us) w (.ref a) v2 st2 H2 m2 Q S2 (aj.mono e2 _ _ ro) rw2 (eo.shift (aE.mP p2) (e1.trans e2))
    |_::_::_,rs,p2=>exact ab p2
 |_=>exact ab p1
theorem Fg:y9 X "tuple.index" (λx xs H Q=>∃(p:ajO)(ys:List V)(y:V)(j:Nat),x= .ref p/\xs=[y]/\hV X.K H p ys/\h_ y=jp/\ys.all h_=jp/\ys.findIdx? (λz=>y_ z y)=bv j/\Q (.int (j:Nat)) H):=by
 intro pins s σ H x xs v us Q I rx rv h;obtain⟨p,ys,y,j,rfl,rfl,hq,fy,fs,hj,q⟩:=h;cases rx;obtain⟨u,rfl,ru⟩:=vals1 rv;obtain⟨its,r,pl,hz⟩:=I.tuple hq;have hlen:=r.length;obtain⟨⟨cl,dd,dt,sl⟩,ho,hc,n,hd⟩:=pl;dsimp only at hc hd;subst hc;subst hd;rw[SY]at hj;obtain⟨hj1,hj2,hj3⟩:=hj;have at':∀(k:Nat)(h:k < ys.length)(h':k < its.length),Bf y its[k]=y_ ys[k] y:=by intro k h h';obtain⟨w,hw,rw'⟩:=r.get (fk h);rw[fk h']at hw;cases hw;exact tN rw' (List.all_eq_true.mp fs _ (ug h))
 refine call_meets PySem.F.slot_tuple_index ⟨_,ho,rfl⟩ PySem.F.entry_tuple_index (PySem.F.args_tuple_index_2 _ _) (zE p its.toArray n dd sl u (Bf y) j (by simp;omega) ?_ ?_) ⟨ho,λw hw=>j' ru fy r fs w (by simpa using hw),⟨.int _,H,I.tok _,⟨_,rfl⟩,q⟩⟩
 ·rw[BE,at' j hj1 (by omega)];exact hj2
 ·intro m hm hlt;rw[BE,at' m (by omega) (by omega)];simpa using hj3 m hlt
def sM(o v:Wv)(st:Hs):Re Wv:=match o with
 |.tup ws=>if cU v=jp/\ws.all cU=jp then(match ws.findIdx? (λz=>wz z v)with |some j=> .ok (.int (j:Nat)) st |none=> .bad)else .bad
 |_=> .bad
theorem Fh:PH X "tuple.index" sM:=⟨_,Fg,λo w x v st H m Q S ro rw' p=>by
 cases o with
 |tup ws=>
  unfold aj at ro;obtain⟨a,xs,rfl,q1,q2⟩:=ro;unfold sM at p;dsimp only at p;by_cases c:cU w=jp/\ws.all cU=jp
  ·rw[Os c]at p;cases ej:ws.findIdx? (λz=>wz z w)with
   |none=>rw[ej]at p;exact ab p
   |some j=>rw[ej]at p;exact⟨a,xs,v,j,rfl,rfl,hV.of q1,kg rw' c.1,k_ q2 c.2,by rw[ur rw' c.1 q2 c.2];exact ej,p _ m H Ext.refl S mkInt⟩
  ·rw[OK c]at p;exact ab p
 |_=>exact ab p⟩
end
variable{e1:Expr}
section
variable {X:Cx}
def AV(g:GE):GE:=λρ st=>(g ρ st).bind λw st1=>match w with
 |.str z=>if z.length<=lim then .ok (.str z) st1 else .bad
 |_=> .bad
theorem X0(h:JE X e g):JE X (.FormattedValue e (-1) gV p) (AV g):=by
 intro ρ st σ H m Q S R p pins s I;refine FormattedValue_plain (bR (h.go (T:=λv H1=>∃z st1 m1,v= .str z/\z.length<=lim/\eh X σ m H (.ok (.str z) st1) Q/\Ext X.K m H m1 H1/\cA X.K m1 st1 H1/\bc z=jp) S R (aE.bind p) (λw st1 v m1 H1 p1 e1 S1 rw'=>?_) pins s I) λv s1 ⟨x,H1,I1,r1,z,st1,m1,ez,hz,p1,e1,S1,ok⟩=>?_)
 ·cases w with
  |str z=>
   dsimp only at p1;by_cases c:z.length<=lim
   ·rw[Os c]at p1;obtain⟨rfl,ok⟩:=eS rw';exact⟨z,st1,m1,rfl,c,p1,e1,S1,ok⟩
   ·rw[OK c]at p1;exact ab p1
  |_=>exact ab p1
 ·subst ez;obtain⟨t,rfl⟩:=r1;exact formatField_str (λt' tk=>⟨.str z,H1,I1.tok tk,⟨t',rfl⟩,p1 _ m1 H1 e1 S1 (mkStr ok)⟩) (eR hz)
def pB(out:PySem.Str):List GE->b7->Hs->Re Wv
 |[],_,st=> .ok (.str out) st
 |g::r,ρ,st=>(g ρ st).bind λw st1=>match w with
  |.str z=>if out.length+z.length<=lim then pB (out++z) r ρ st1 else .bad
  |_=> .bad
inductive V'(X:Cx):List Expr->List GE->Prop
 |nil:V' X [] []
 |cons {e:Expr}{g:GE}{es:List Expr}{gs:List GE}:JE X e g->V' X es gs->V' X (e::es) (g::gs)
theorem Dt:∀{es:List Expr}{gs:List GE},V' X es gs->∀{out:PySem.Str}{ρ:b7}{st:Hs}{σ:St}{H:Hp}{m:Mp}{Q:VK}{pins:List (ajO×Obj)}{s:ajT},bc out=jp->out.length<=lim->cA X.K m st H->a_ X.K m H ρ σ->eh X σ m H (pB out gs ρ st) Q->Inv X pins σ H s->
  aj6 (model X.prog X.w) X.A (joinParts out (evalEach es X.env)) (EP X pins σ Q) X.xe s
 |_,_,.nil,out,ρ,st,σ,H,m,Q,pins,s,ok,hl,S,R,p,I=>joinParts_nil ⟨.str out,H,I.tok _,⟨_,rfl⟩,p _ m H Ext.refl S (mkStr ok)⟩ (eR hl)
 |_,_,.cons (e:=e) (g:=g) (es:=es) (gs:=gs) h t,out,ρ,st,σ,H,m,Q,pins,s,ok,hl,S,R,p,I=>by
  show aj6 (model X.prog X.w) X.A (joinParts out (eval e X.env::evalEach es X.env)) (EP X pins σ Q) X.xe s;refine joinParts_cons (bR (h.go (T:=λv H1=>∃z st1 m1,v= .str z/\out.length+z.length<=lim/\eh X σ m H (pB (out++z) gs ρ st1) Q/\Ext X.K m H m1 H1/\cA X.K m1 st1 H1/\bc z=jp) S R (aE.bind p) (λw st1 v m1 H1 p1 e1 S1 rw'=>?_) pins s I) λv s1 ⟨x,H1,I1,r1,z,st1,m1,ez,hz,p1,e1,S1,okz⟩=>?_)
  ·cases w with
   |str z=>
    dsimp only at p1;by_cases c:out.length+z.length<=lim
    ·rw[Os c]at p1;obtain⟨rfl,okz⟩:=eS rw';exact⟨z,st1,m1,rfl,c,p1,e1,S1,okz⟩
    ·rw[OK c]at p1;exact ab p1
   |_=>exact ab p1
  ·subst ez;obtain⟨t',rfl⟩:=r1;have hl2:(out++z).length<=lim:=by rw[PySem.Str.length_append];exact hz
   exact⟨eR hl2,Dt t (pd ok okz) hl2 S1 (R.mono e1) (eh.shift p1 e1) I1⟩
def Wa(gs:List GE):GE:=λρ st=>pB PySem.Str.empty gs ρ st
theorem X1{e2:Expr}{gs:List GE}(h:V' X (e1::e2::es) gs):JE X (.JoinedStr (e1::e2::es) p) (Wa gs) :=
 λρ st σ H m Q S R p pins s I=>JoinedStr_many (Dt h (by decide+kernel) (dz _) S R p I)
theorem S8(h:JE X e1 g):JE X (.JoinedStr [e1] p) g:=λρ st σ H m Q S R p pins s I=>JoinedStr_one (h ρ st σ H m Q S R p pins s I)
end
section
variable {X:Cx}
def qm(kvs:Dc)(gk gx:GE):GE:=λρ st=>(gk ρ st).bind λk st1=>(gx ρ st1).bind λx st2=>match k with
 |.str z=> .ok ((kvs.lookup z).getD x) st2
 |_=> .bad
theorem IV{f:Expr}{gk gx:GE}(he:JE X e gk)(hf:JE X f gx)(M:M2 X (.Name x p) "get" apos e f cpos)(hg:Gl X x)(hd:(x == ("__debug__":Str))=kt)(D:nj X.K X.w X.mg x kvs):JE X (.Call (.Attribute (.Name x p) "get" apos) [e,f] [] cpos) (qm kvs gk gx):=by
 intro ρ st σ H m Q S R pp pins s I;obtain⟨a,es,ep,g1,g2,g3,g4,g5⟩:=D;have k1:=he.go (T:=λy H2=>∃k st1 m1,eh X σ m H ((gx ρ st1).bind λx st2=>match k with |.str z=> .ok ((kvs.lookup z).getD x) st2 |_=> .bad) Q/\Ext X.K m H m1 H2/\cA X.K m1 st1 H2/\aj X.K m1 H2 k y) S R (aE.bind pp) λw st1 v m1 H1 p1 e1 S1 rw'=>⟨w,st1,m1,p1,e1,S1,rw'⟩
 refine wpAny_Call_method M.base M.few M.line PySem.F.plainAttrs_dict PySem.F.slot_dict_get PySem.F.type_dict_get (bR (i5 (v:=.ref a) hg g1 rfl hd pins s σ H (λv H2=>v= .ref a/\H2=H) I ⟨rfl,rfl⟩) λu s1 ⟨v,H1,I1,rv,ev,eH⟩=>?_);subst ev;cases eH;obtain rfl:u=bJ a:=rv;refine⟨⟨_,I1.qR _ _ g2,rfl⟩,λa' e=>by cases e;exact⟨_,I1.qR _ _ g2,rfl⟩,?_⟩;rw[M.trees];refine Bg rfl (G9 (xI (bR (k1 pins s1 I1) λiv s2 ⟨y,H2,I2,ry,k,st1,m1,p1,e1,S1,rk⟩=>?_)));have k2:=hf.go (T:=λz H3=>∃x' st2 m2,eh X σ m H (match k with |.str z=> .ok ((kvs.lookup z).getD x') st2 |_=> .bad) Q/\Ext X.K m H m2 H3/\cA X.K m2 st2 H3/\aj X.K m2 H3 x' z) S1 (R.mono e1) ((aE.bind p1).imp e1 λ_ _ q=>q) λw st2 v m2 H3 p2 e2 S2 rw'=>⟨w,st2,m2,p2,e1.trans e2,S2,rw'⟩
 refine xI (bR (k2 pins s2 I2) λfv s3 ⟨z,H3,I3,rz,x',st2,m2,p2,e2,S2,rx⟩=>GR ?_);cases k with
 |str zs=>
  obtain⟨rfl,_⟩:=eS rk;obtain⟨t,rfl⟩:=(show ∃t,iv=kT zs t from ry);obtain⟨vs,dd,look⟩:=sL (P:=X.prog) (w:=X.w) I3.qR g2 g4 g5;refine call_meetsIn PySem.F.slot_dict_get dd.typeIs PySem.F.entry_dict_get (PySem.F.args_dict_get_3 _ _ _) (meets_dict_get_default (PySem.strKind X.prog X.w) a (strKind_is X.prog X.w zs t) g3 fv) ⟨_,dd.mapOf,?_⟩;have p2':RO X.K m H Q ((kvs.lookup zs).getD x') st2:=p2;cases e:kvs.lookup zs with
  |none=>rw[e]at p2';have q:=(look zs).1 e;show EP X pins σ Q ((valueAt vs zs).getD fv) _;rw[q];exact⟨z,H3,I3.tok _,rz,p2' z m2 H3 e2 S2 rx⟩
  |some u=>rw[e]at p2';obtain⟨u',q1,q2⟩:=(look zs).2 u e;show EP X pins σ Q ((valueAt vs zs).getD fv) _;rw[q1];exact⟨XS u u',H3,I3.tok _,q2.v,p2' _ m2 H3 e2 S2 q2.w⟩
 |_=>exact ab p2
end
def sd:List Wv->Hs->Re Wv:=λ_ _=> .bad
theorem gX{st:Stmt}(KX:K.In h)(NS:h.Ns aj3 mg)(D:a6 K x st)
  (hb:∀(kV doc pm:ajU)(an:Option ajO)(cdv ct:ajU)(us:List ajU),us.length=ps.length->bindArgs (tz x x (defArgs st) (defBody st) (defScope st) .none kV doc pm an cdv ct) ⟨us,[]⟩=pure (ps.zip us)):
  dk P w K mg base k x ps.length sd:=by
 obtain⟨f,fd,a,F⟩:=D;exact⟨f,fd,ps,⟨λvs H Q E ⟨_,_,_,_,_,_,p⟩=>ab p,λA outer s H args us vs Q E hr e0 hb r ⟨_,_,_,_,_,_,p⟩=>ab p⟩,EQ KX NS a,F.kp,F.binds hb⟩
section
variable {X:Cx}
theorem IW:iI X (ajX .Mult) (λx y H Q=>∃z n,x= .str z/\y= .int n/\(n=0\/n=1)/\Q (.str (if n=0 then PySem.Str.empty else z)) H):=by
 intro pins s σ H x y v u Q I rx ry h;obtain⟨z,n,rfl,rfl,hn,q⟩:=h;obtain⟨t,rfl⟩:=rx;obtain⟨t',rfl⟩:=ry;rcases hn with rfl |rfl
 ·exact PySem.P.mul_str_none (by omega) (by omega) ⟨.str PySem.Str.empty,H,I.tok _,⟨_,rfl⟩,q⟩
 ·refine PySem.P.mul_str (by decide) (λ_ h=>by cases h) (λ_ h=>by cases h) ?_;rw[OK (by omega),Os (by rfl)];exact⟨.str z,H,I,⟨t,rfl⟩,q⟩
def PN:jc:=λx y st=>match x,y with
 |.str z,.int n=>if n=0\/n=1 then .ok (.str (if n=0 then PySem.Str.empty else z)) st else ud (.str z) (.int n) st
 |x,y=>ud x y st
theorem NJ:lR X (ajX .Mult) PN:=by
 obtain⟨r,h1,h2⟩:=Nm (X:=X);refine⟨_,iI.or IW h1,λx y a b st H m Q S rx ry p=>?_⟩;cases x with
 |str z=>
  cases y with
  |int n=>
   have p':eo X.K m H (if n=0\/n=1 then .ok (.str (if n=0 then PySem.Str.empty else z)) st else ud (.str z) (.int n) st) Q:=p;by_cases c:n=0\/n=1
   ·rw[Os c]at p';obtain⟨rfl,ok⟩:=eS rx;refine .inl ⟨z,n,rfl,bt ry,c,p' _ m H Ext.refl S (mkStr ?_)⟩;by_cases c0:n=0
    ·rw[Os c0];decide+kernel
    ·rw[OK c0];exact ok
   ·rw[OK c]at p';exact .inr (h2 _ _ _ _ st H m Q S rx ry p')
  |_=>exact .inr (h2 _ _ _ _ st H m Q S rx ry p)
 |_=>exact .inr (h2 _ _ _ _ st H m Q S rx ry p)
end
abbrev LF:=List Wv->List Wv->Hs->Re Wv
def spL(K:lc)(n:Nat)(p:Lm)(L:LF):Sp:=λvs H Q E=>∃m st ws caps,cA K m st H/\ai K m H ws vs/\ai K m H caps p.xs/\H p.c=bv (.ext (Hn p.c p.q))/\ws.length=n/\PD K m H (L caps ws st) Q E
def NK(P:ajS)(w:ajV)(K:lc)(mg:Str->Option ajU)(base:Heap)(k:Nat)(p:Lm)(n:Nat)(L:LF):Prop :=
 ∃fd ps ob,FnOk P w K mg base (CXJ P w) k p.a fd ps (spL K n p L)/\base.get? p.a=bv ob/\ob.data= .func fd/\Binds K fd ps []
structure PQ(X:Cx)(q:Str)(P:ajO):Prop where
 code:∃c,X.env.code= .ref c/\PySem.W.CodeHd X.base c P
 qual:X.env.qual=q++".<locals>."
 tab:kZ X.K q=bv P
 mem:q∈dh
 uniq:∀q',q'∈dh->kZ X.K q'=bv P->q'=q
 bm:∃bm ob,X.mg "__builtins__"=bv (.ref bm)/\bm≠builtinsNs/\bm≠aj3/\X.base.get? bm=bv ob/\ob.cls= .type "module"/\ob.dict=bv builtinsNs/\ob.data= .plain
abbrev FLt:=Lm->LF->List Wv->Hs->Re Wv
def acD(mg:Str->Option ajU)(base:Heap):Prop:=∃bm ob,mg "__builtins__"=bv (.ref bm)/\bm≠builtinsNs/\bm≠aj3/\base.get? bm=bv ob/\ob.cls= .type "module"/\ob.dict=bv builtinsNs/\ob.data= .plain
def BI(K:lc)(mg:Str->Option ajU)(base:Heap):Prop:=Mod K mg base/\acD mg base
def FnL(P:ajS)(w:ajV)(K:lc)(mg:Str->Option ajU)(k j:Nat)(x:Str)(FL:FLt):Prop :=
 (∃f,mg x=bv (.ref f)/\ww K (.ref f)=jp)/\∀(base:Heap)(p:Lm)(L:LF),BI K mg base->NK P w K mg base (j+1) p 3 L->dk P w K mg base k x 2 (FL p L)
def CRs(a b c:Int):Prop:=0<=a/\a < 2 ^ 30/\0<=b/\b < 2 ^ 30/\1<=c/\c < 2 ^ 30
instance {a b c}:Decidable (CRs a b c):=Ia _
def X2(a b c:Int):Nat:=(if a < b then(b - a - 1) / c+1 else 0).toNat
section
variable {X:Cx}{tg:Expr}
def acE(lo c:Int)(n:Nat):List Wv:=(oV n).map λk:Nat=>Wv.int (lo+k * c)
end
def AW(gt:GT)(gb:GS):Nat->b7->Hs->Rs
 | 0,_,_=> .bad
 |n+1,ρ,st=>(gt ρ st).bR ρ λb st1=>if b=jp then(match gb ρ st1 with
   |.nx ρ' st'=>AW gt gb n ρ' st'
   |.ct ρ' st'=>AW gt gb n ρ' st'
   |.bk ρ' st'=> .nx ρ' st'
   |.rt w st'=> .rt w st'
   |.err c ρ' st'=> .err c ρ' st'
   |.bad=> .bad)else .nx ρ st1
def fV(n:Nat)(gt:GT)(gb:GS):GS:=λρ st=>AW gt gb n ρ st
section
variable {X:Cx}
theorem IX(n:Nat)(hp:PassesOwn (model X.prog X.w) X.A X.env X.xe)(hc:JT X c gt)(hb:tY X body gb):JS X (.While c body [] pos) (fV n gt gb):=by
 refine JS.of (GB hp qW k7) λρ st σ H m D S R p=>?_;refine⟨λk σ' H'=>∃ρ' st' m',Ext X.K m H m' H'/\cA X.K m' st' H'/\a_ X.K m' H' ρ' σ'/\bE X m' H' (AW gt gb k ρ' st') D,⟨n,ρ,st,m,Ext.refl,S,R,p⟩,?_⟩;rintro k σ1 H1 ⟨ρ1,st1,m1,e1,S1,R1,p1⟩;cases k with
 |zero=>exact ab p1
 |succ k=>
  refine hc.go S1 R1 (bE.fU R1 p1) λb st2 m2 H2 p2 e2 S2=>?_;cases b with
  |false=>rw[OK cS]at p2 ⊢;exact p2 σ1 m2 H2 e2 S2 (R1.mono e2)
  |true=>
   rw[Os rfl]at p2 ⊢;refine⟨λσ' H'=>∃ρ' st' m',Ext X.K m H m' H'/\cA X.K m' st' H'/\a_ X.K m' H' ρ' σ'/\bE X m' H' (AW gt gb k ρ' st') D,λσ' H' q=>⟨k,C0 k,q⟩,?_⟩;refine hb ρ1 st2 σ1 H2 m2 _ S2 (R1.mono e2) ?_;have PR:=e1.trans e2;cases eg:gb ρ1 st2 with
   |nx ρ3 st3=>rw[eg]at p2;exact λσ3 m3 H3 e3 S3 R3=>⟨ρ3,st3,m3,PR.trans e3,S3,R3,bE.shift p2 (e2.trans e3)⟩
   |ct ρ3 st3=>rw[eg]at p2;exact λσ3 m3 H3 e3 S3 R3=>⟨ρ3,st3,m3,PR.trans e3,S3,R3,bE.shift p2 (e2.trans e3)⟩
   |bk ρ3 st3=>rw[eg]at p2;exact λσ3 m3 H3 e3 S3 R3=>p2 σ3 m3 H3 (e2.trans e3) S3 R3
   |rt w3 st3=>rw[eg]at p2;exact bE.shift (r:=.rt w3 st3) p2 e2
   |err c3 ρ3 st3=>rw[eg]at p2;exact λσ' m' H' x s' e'=>p2 σ' m' H' x s' (e2.trans e')
   |bad=>rw[eg]at p2;exact p2
def Fi:Operator->Option (Int->Int->Int)
 |.Add=>bv λi j=>i+j
 |.Sub=>bv λi j=>i - j
 |_=>gV
def zF(f:Int->Int->Int)(i:Nat)(x y:Wv)(ρ:b7)(st:Hs):Rs:=match x,y with
 |.int a,.int b=> .nx (ρ.set i (bv (.int (f a b)))) st
 |_,_=> .bad
def jH(f:Int->Int->Int)(i:Nat)(g:GE):GS:=λρ st=>match ρ[i]? with
 |some (bv x)=>(g ρ st).bR ρ λy st'=>zF f i x y ρ st'
 |_=> .bad
theorem S_{op:Operator}{f:Int->Int->Int}(i:Nat)(ho:Fi op=bv f)(hN:X.N.Nodup)(h:JE X e g)(hi:X.N[i]? =bv x)(hx:Loc X.env.scope x)
  (hf:X.fn x=jp\/X.env.scope.names.lookup x=bv .local):JS X (.AugAssign (.Name x pos') op e pos) (jH f i g):=by
 have hip:PIp X op (ipI f):=by cases op<;>first |(cases ho;exact Gy) |(cases ho;exact Gz) |cases ho
 refine JS.of (Q1 hN hi hx bq hip hf) λρ st σ H m D S R p=>?_;unfold jH at p;cases q:ρ[i]? with
 |none=>rw[q]at p;exact ab p
 |some o=>
  cases o with
  |none=>rw[q]at p;exact ab p
  |some w=>
   rw[q]at p;obtain⟨v,h1,h2⟩:=R.get _ _ q;refine⟨v,h1,?_⟩;refine h.go S R (bE.fU R p) λy st1 u m1 H1 p1 e1 S1 r1=>?_;have h2':=aj.mono e1 _ _ h2;cases w with
   |int a=>
    cases y with
    |int b=>cases bt h2';cases bt r1;exact⟨a,b,rfl,rfl,p1 _ m1 H1 e1 S1 ((R.mono e1).set i mkInt)⟩
    |_=>exact ab p1
   |_=>exact ab p1
def NM:List Wv->Hs->Re Wv
 |[.str x],st=>if x.length=1 then .ok (.int (x.cps.getD 0 0:Nat)) st else .bad
 |_,_=> .bad
theorem Fj:ajY "ord"=bv (.builtin "ord"):=by decide+kernel
theorem Tj:et X (.builtin "ord") NM:=⟨_,GL,λws vs st H m Q S r p=>by
 match ws,r,p with
 |[],r,p=>exact ab p
 |x::y::t,r,p=>cases x<;>exact ab p
 |[x],r,p=>
  obtain⟨v,rfl,rx⟩:=kh r;cases x with
  |str z=>
   have p':eo X.K m H (if z.length=1 then .ok (.int (z.cps.getD 0 0:Nat)) st else .bad) Q:=p;by_cases c:z.length=1
   ·rw[Os c]at p';obtain⟨rfl,_⟩:=eS rx;exact⟨z,rfl,c,p' _ m H Ext.refl S mkInt⟩
   ·rw[OK c]at p';exact ab p'
  |_=>exact ab p⟩
end
theorem NN(l:ajO)(items:Array ajU)(n:Nat)(b:ajO)(items2:Array ajU)(n2:Nat)(dd:Option ajO)(sl:Array (Option ajU))(hs0:¬(!items.isEmpty&&tR (items.size+items2.size))=jp)(hs1:items.size<=aj4)(hs2:items.size+items2.size<=aj4+1):
  Meets (Builtin.«list.extend» ⟨[.ref l,.ref b],[]⟩) (λ_ R s=>s.heap.get? l=bv { cls:=.type "list",dict:=gV,data:=.seq items n,slots:=#[] }/\s.heap.get? b=bv ⟨.type "tuple",dd,.seq items2 n2,sl⟩/\R (.ok (.ret fN)) { s with heap:=s.heap.update l (o7 λx=>x++items2),toks:=s.toks }) :=
 .of_wp λprog w A R s h=>by
  obtain⟨hp,g,d,tk,os⟩:=s;obtain⟨hl,hb,h⟩:=h;have f1:=AutoSeq1.idx_int;have f2:=XZ;have f3:=AutoSeq1.sub_list_list;have f4:=AutoSeq1.sub_tuple_list;have f5:=AutoSeq1.sub_list_tuple;have hz':(items++items2).size<=aj4+1:=by rw[Array.size_append];exact hs2
  wp_walk using (wpAny_updateSeq hl rfl (hz:=hs1) (_hz':=hz')),wpAny_loadPart' hl,wpAny_loadPart' hb;exact⟨_,rfl,h⟩
def zG(K:lc):V->List V->Hp->VK->Prop:=λx vs H Q=>∃l b xs zs,x= .ref l/\vs=[.ref b]/\H l=bv (.lst xs)/\hV K H b zs/\xs.length+zs.length<=aj4/\Q .cY (upd H l (.lst (xs++zs)))
section
variable {X:Cx}
theorem BJ:MtM X "list.extend" (zG X.K):=by
 intro pins s σ H x vs v us Q I rx rv h;obtain⟨l,b,xs,zs,rfl,rfl,hH,hB,hz,q⟩:=h;cases rx;obtain⟨u,rfl,ru⟩:=rv.one;cases ru;obtain⟨z,its,n,r,hl,e⟩:=I.EJ hH;obtain⟨its2,r2,⟨o,e2,oc,n2,od⟩,z2⟩:=I.tuple hB;obtain⟨oc',dd,od',sl⟩:=o;dsimp only at oc od;subst oc od;have l1:xs.length=its.length:=r.length;have l2:zs.length=its2.length:=r2.length;have hsz:its.toArray.size+its2.toArray.size<=aj4:=by rw[bj,bj];omega
 have za:¬(!its.toArray.isEmpty&&tR (its.toArray.size+its2.toArray.size))=true:=by rw[tQ hsz,Bool.and_false];exact cS
 refine call_meets F.slot_list_extend ⟨_,e,rfl⟩ F.entry_list_extend (F.args_list_extend_2 _ _)
  (NN l its.toArray n b its2.toArray n2 dd sl za (by rw[bj];omega) (by omega)) ⟨e,e2,?_⟩
 refine⟨.cY,_,I.Mw (its':=its++its2) hH e (by simp) (r.append r2) ?_,rfl,q⟩;rw[bh];omega
def uw(o v:Wv)(st:Hs):Re Wv:=match v with
 |.tup zs=>(match o with
  |.ref l=>(match st[l]? with
   |some (.lst ws)=>if ws.length+zs.length<=lim then .ok .cY (st.set l (.lst (ws++zs)))else .bad
   |_=> .bad)
  |_=> .bad)
 |v=>XG o v st
theorem NO:PH X "list.extend" uw:=by
 obtain⟨r0,m0,h0⟩:=Sr (X:=X);refine⟨λx vs H Q=>r0 x vs H Q\/zG X.K x vs H Q,?_,λo w x v st H m Q S ro rw' p=>?_⟩
 ·intro pins s σ H x vs v us Q I rx rv h;rcases h with h |h
  ·exact m0 pins s σ H x vs v us Q I rx rv h
  ·exact BJ pins s σ H x vs v us Q I rx rv h
 ·cases w with
  |tup zs=>
   refine .inr ?_;cases o with
   |ref l=>
    unfold aj at ro rw';obtain⟨a,rfl,ha⟩:=ro;obtain⟨b,ys,rfl,hb,g2⟩:=rw';have p':eo X.K m H (match st[l]? with |some (.lst ws)=>if ws.length+zs.length<=lim then .ok .cY (st.set l (.lst (ws++zs)))else .bad |_=> .bad) Q:=p
    cases e:st[l]? with
    |none=>rw[e]at p';exact ab p'
    |some ob=>
     cases ob with
     |dct kvs=>rw[e]at p';exact ab p'
     |Dd kvs=>rw[e]at p';exact ab p'
     |AQ kvs=>rw[e]at p';exact ab p'
     |ER kvs=>rw[e]at p';exact ab p'
     |ins _ _=>rw[e]at p';exact ab p'
     |vB ns=>rw[e]at p';exact ab p'
     |lst ws=>
      rw[e]at p';dsimp only at p';by_cases c:ws.length+zs.length<=lim
      ·rw[Os c]at p';obtain⟨xs,h1,h2⟩:=S.tV ha e;have e4:Ext X.K m H m (upd H a (.lst (xs++ys))):=Ext.upd (.inr ⟨xs,h1⟩);exact⟨a,b,xs,ys,rfl,rfl,h1,hV.of hb,by rw[<-h2.length,<-g2.length];exact eR c,p' _ m _ e4 (S.write ha e (h2.append g2)) Dg⟩
      ·rw[OK c]at p';exact ab p'
   |_=>exact ab p
  |_=>exact .inl (h0 o _ x v st H m Q S ro rw' p)
end
def vL(neg:Bool):jc:=λx y st=>match bO st 20 y,bO st 20 x with
 |some (.list ds),bv d=> .ok (.bl ((ds.any λz=>k8 z d) != neg)) st
 |some (.tuple ds),bv d=> .ok (.bl ((ds.any λz=>k8 z d) != neg)) st
 |_,_=> .bad
section
variable {X:Cx}
def Tn(K:lc)(neg:Bool):R2:=λa b H Q=>∃m st x y d ds c,cA K m st H/\aj K m H x a/\aj K m H y b/\bO st 20 y=bv c/\(c= .list ds\/c= .tuple ds)/\bO st 20 x=bv d/\Q (.bl ((ds.any λz=>k8 z d) != neg)) H
theorem Du{ds:List PyData}{c:PyData}(h:c= .list ds\/c= .tuple ds)(k:c.canLay0=jp):Dh ds=true:=by rcases h with rfl |rfl<;>exact k
theorem To(hu:X.A.units+64 < cLine):iI X (aj1 .In) (Tn X.K kt):=by
 intro pins s σ H a b v u Q I rx ry h;obtain⟨m,st,x,y,d,ds,c,S,h1,h2,e1,hc,e2,q⟩:=h;obtain⟨as,q1,q2,q3⟩:=iK I S 20 x a v d h1 rx e2;obtain⟨bs,p1,p2,p3⟩:=iK I S 20 y b u c h2 ry e1;have hd:X.A.units+1+min (pe ds) d.depth < cLine:=by have:=C3 (pe ds) d.depth;omega
 have e:∀t:Bool,(t != kt)=t:=by decide
 rw[e]at q;have ca:=Du hc p2;rcases hc with rfl |rfl
 ·exact SeqAt.in_list_reads p1 q1 ca q2 hd ⟨.bl _,H,I,rfl,q⟩
 ·exact SeqAt.in_tuple_reads p1 q1 ca q2 hd ⟨.bl _,H,I,rfl,q⟩
theorem Fl(hu:X.A.units+64 < cLine):iI X (aj1 .NotIn) (Tn X.K jp):=by
 intro pins s σ H a b v u Q I rx ry h;obtain⟨m,st,x,y,d,ds,c,S,h1,h2,e1,hc,e2,q⟩:=h;obtain⟨as,q1,q2,q3⟩:=iK I S 20 x a v d h1 rx e2;obtain⟨bs,p1,p2,p3⟩:=iK I S 20 y b u c h2 ry e1;have hd:X.A.units+1+min (pe ds) d.depth < cLine:=by have:=C3 (pe ds) d.depth;omega
 have e:∀t:Bool,(t != jp)= !t:=by decide
 rw[e]at q;have ca:=Du hc p2;rcases hc with rfl |rfl
 ·exact SeqAt.notIn_list_reads p1 q1 ca q2 hd ⟨.bl _,H,I,rfl,q⟩
 ·exact SeqAt.notIn_tuple_reads p1 q1 ca q2 hd ⟨.bl _,H,I,rfl,q⟩
theorem IY{x y:Wv}{a b:V}(S:cA X.K m st H)(rx:aj X.K m H x a)(ry:aj X.K m H y b)(p:eo X.K m H (vL neg x y st) Q):Tn X.K neg a b H Q:=by
 unfold vL at p;split at p
 ·rename_i ds d e1 e2;exact⟨m,st,x,y,d,ds,_,S,rx,ry,e1,.inl rfl,e2,p _ m H Ext.refl S oh⟩
 ·rename_i ds d e1 e2;exact⟨m,st,x,y,d,ds,_,S,rx,ry,e1,.inr rfl,e2,p _ m H Ext.refl S oh⟩
 ·exact ab p
theorem IZ(hu:X.A.units+64 < cLine):lR X (aj1 .In) (vL kt):=⟨_,To hu,λx y a b st H m Q S rx ry p=>IY S rx ry p⟩
theorem Fn(hu:X.A.units+64 < cLine):lR X (aj1 .NotIn) (vL jp):=⟨_,Fl hu,λx y a b st H m Q S rx ry p=>IY S rx ry p⟩
end
def getD(d k:Wv)(st:Hs):Option Wv:=match d with
 |.ref l=>(match st[l]? with
  |some (.dct kvs)=>(match keyOf k with |some kk=>oo kvs kk |none=>gV)
  |some (.Dd kvs)=>(match XU k with |some kk=>oo kvs kk |none=>gV)
  |some (.AQ kvs)=>(match XU k with |some kk=>oo kvs kk |none=>gV)
  |_=>gV)
 |_=>gV
structure M0(X:Cx)(o:Expr)(m:Str)(apos cpos:Pos):Prop where
 base:attributeBase o m X.env (eval o X.env)=eval o X.env
 line:(apos.endLine == cpos.line)=jp
section
variable {X:Cx}
def PU(ws:List Wv)(st:Hs):Re Wk:=match ws with
 |[.int a,.int b,.int c]=>if CRs a b c then .ok (gV,acE a c (X2 a b c)) st else .bad
 |_=> .bad
def acG(g:GA):GI:=λρ st=>(g ρ st).bind PU
end
abbrev Kw:=Int×(Int ⊕ Str)
def kd:Kw:=(0,.inl 0)
variable {X:Cx}
def oLt:jc:=λx y st=>XX x y st
theorem Tp(hu:X.A.units+64 < cLine):lR X (aj1 .Lt) oLt:=S7 hu
section
variable {X:Cx}
theorem NP:iI X (aj1 .IsNot) (λx y H Q=>∃a b,x= .bl a/\y= .bl b/\Q (.bl (a != b)) H):=by intro pins s σ H x y v u Q I rx ry h;obtain⟨a,b,rfl,rfl,q⟩:=h;cases rx;cases ry;exact isnot_bool ⟨.bl (a != b),H,I,rfl,q⟩
def PV:jc:=λx y st=>match x,y with
 |.bl a,.bl b=> .ok (.bl (a != b)) st
 |x,y=>HE x y st
theorem NQ:lR X (aj1 .IsNot) PV:=by
 obtain⟨r,h1,h2⟩:=HF (X:=X);refine⟨_,iI.or h1 NP,λx y a b st H m Q S rx ry p=>?_⟩;cases x with
 |bl c=>
  cases y with
  |bl d=>
   have e1:a= .bl c:=by unfold aj at rx;exact rx
   have e2:b= .bl d:=by unfold aj at ry;exact ry
   exact .inr ⟨c,d,e1,e2,p _ m H Ext.refl S oh⟩
  |_=>exact .inl (h2 _ _ _ _ st H m Q S rx ry p)
 |_=>exact .inl (h2 _ _ _ _ st H m Q S rx ry p)
end
section
variable {X:Cx}
def X3(to:TE):TE:=λσ H Q=>to σ H λx H1=>tyV X.K "list" x H1/\W' x [] H1 Q
theorem NR{to:TE}(ho:PE X o to)(m:M0 X o "pop" apos cpos):PE X (.Call (.Attribute o "pop" apos) [] [] cpos) (X3 (X:=X) to):=by intro pins s σ H Q I h;refine wpAny_Call_method0_late m.base m.line (bR (ho pins s σ H _ I h) λv s1 ⟨x,H1,I1,r1,ty,q1⟩=>?_);obtain⟨h1,h2⟩:=G7 I1 r1 ty;exact⟨"list","list.pop",F.plainAttrs_list,F.slot_list_pop,F.type_list_pop,h1,h2,Bg rfl (PySem.evalArgs_none (Ry pins s1 σ H1 x [] v [] Q I1 r1 .nil q1))⟩
def NT(w:Wv)(st:Hs):Re Wv:=match w with
 |.ref l=>(match st[l]? with
  |some (.lst ws)=>(match ws[ws.length - 1]? with |some v=> .ok v (st.set l (.lst ws.dropLast)) |none=> .bad)
  |_=> .bad)
 |_=> .bad
def wM(g:GE):GE:=λρ st=>(g ρ st).bind NT
theorem ai.at?{K:lc}{m:Mp}{H:Hp}:∀{ws:List Wv}{xs:List V}{i:Nat}{w:Wv},ai K m H ws xs->ws[i]? =bv w->∃x,xs[i]? =bv x/\aj K m H w x
 |[],xs,i,w,r,e=>by cases e
 |v::ws,xs,0,w,r,e=>by unfold ai at r;obtain⟨x,t,rfl,r1,r2⟩:=r;cases e;exact⟨x,rfl,r1⟩
 |v::ws,xs,i+1,w,r,e=>by unfold ai at r;obtain⟨x,t,rfl,r1,r2⟩:=r;exact ai.at? (ws:=ws) (xs:=t) (i:=i) r2 e
theorem ai.init{K:lc}{m:Mp}{H:Hp}:∀{ws:List Wv}{xs:List V},ai K m H ws xs->ai K m H ws.dropLast xs.dropLast
 |[],xs,r=>by unfold ai at r;subst r;exact ai.nil
 |[v],xs,r=>by unfold ai at r;obtain⟨x,t,rfl,r1,r2⟩:=r;unfold ai at r2;subst r2;exact ai.nil
 |v::u::ws,xs,r=>by unfold ai at r;obtain⟨x,t,rfl,r1,r2⟩:=r;have q:=ai.init r2;unfold ai at r2;obtain⟨y,t2,rfl,r3,r4⟩:=r2;exact ai.cons r1 q
theorem NU(h:JE X o g)(m:M0 X o "pop" apos cpos):JE X (.Call (.Attribute o "pop" apos) [] [] cpos) (wM g) :=
 JE.of (NR bq m) λρ st σ H m Q S R p=>by
  refine h.go S R (aE.bind p) λw st1 v m1 H1 p1 e1 S1 r1=>?_;cases w with
  |ref l=>
   unfold aj at r1;obtain⟨a,rfl,ha⟩:=r1;unfold NT at p1;dsimp only at p1;cases q2:st1[l]? with
   |none=>rw[q2]at p1;exact ab p1
   |some ob=>
    rw[q2]at p1;cases ob with
    |lst ws=>
     dsimp only at p1;obtain⟨xs,y1,y2⟩:=(show ∃ys,H1 a=bv (.lst ys)/\ai X.K m1 H1 ws ys from S1.obj _ _ _ ha q2);cases q3:ws[ws.length - 1]? with
     |none=>rw[q3]at p1;exact ab p1
     |some w=>rw[q3]at p1;obtain⟨x,z1,z2⟩:=ai.at? y2 q3;rw[y2.length]at z1;have ex:Ext X.K m1 H1 m1 (upd H1 a (.lst xs.dropLast)):=Ext.ka (.inr (.inl ⟨_,y1⟩));exact⟨.inl ⟨rfl,xs,.inl (.inl y1)⟩,a,xs,x,rfl,rfl,y1,z1,p1 x m1 _ (e1.trans ex) (S1.tW ha q2 rfl ⟨_,cz,(ai.init y2).mono ex⟩) (aj.mono ex _ _ z2)⟩
    |_=>exact ab p1
  |_=>exact ab p1
end
end J
namespace TB
open PySem PySem.SetTable
def Ma(h:Heap)(a:ajO)(l:List (Int×ajU)):Prop:=∃o es ep t,h.get? a=bv o/\o.ExactSet/\o.data= .set es ep t/\es.toList.Perm l/\t.place.size=es.size/\t.dummies=#[]/\(t.mask=7\/t.mask=31\/t.mask=127\/t.mask=511)/\es.size * 5 < t.mask * 3
end TB
namespace JT
open PySem PyProof.Rows
class Od where
 kd:SortKind
 ik:akd->Prop
 kn:akd->Int
abbrev Kd[Od]:SortKind:=Od.kd
abbrev Ik[Od](p:akd):Prop:=Od.ik p
def kn[Od](p:akd):Int:=Od.kn p
def K[Od](xs:Array akd)(i:Nat):Int:=match xs[i]? with
 |some p=>kn p
 |none=>0
class Oa [Od] (prog:ajS) (w:ajV) (A:ajP) (E:ajU->ajT->Prop) (s:ajT):Prop where
 lt:∀{st:ake}{x y:akd}{Q:Option Bool->ake->Prop},kindOf st=Kd->Ik x->Ik y->Q (bv (decide (kn x < kn y))) st->wpS (model prog w) A E s (lt' x y) Q st
section
variable [Od] {prog:ajS}{w:ajV}{A:ajP}{E:ajU->ajT->Prop}{s:ajT} [Oa prog w A E s]
def gp(left:Bool)(key:akd)(arr:Array akd)(base i:Nat):Bool:=if left then decide (K arr (base+i) < kn key)else !decide (kn key < K arr (base+i))
end
section
variable [Od]
def Up(l:List akd):Prop:=l.Pairwise (kn · <=kn ·)
inductive Rn:Nat->List (Nat×Nat×Nat)->List akd->Prop
 |nil {s:Nat}:Rn s [] []
 |cons {s n p:Nat}{P:List (Nat×Nat×Nat)}{A X:List akd}:A.length=n->1<=n->Up A->Rn (s+n) P X->Rn s ((s,n,p)::P) (A++X)
section
variable [Od] {prog:ajS}{w:ajV}{A₀:ajP}{E:ajU->ajT->Prop}{s:ajT} [Oa prog w A₀ E s]
def Wt(xs:Array akd)(lo:Nat)(Z:List akd)(st:ake):Prop:=∃ys P X g,st=SortSt.mk' Kd ys (List.toArray P) g gV/\ys.Perm xs/\ys.toList=X++Z/\X.length=lo/\Rn 0 P X
end
end
end JT
namespace J
open PySem PySem.Spec PyProof.Rows PySem.W L2
open PySem PySem.Spec PyProof.Rows L2
theorem qo:fillsNumberSlot (.type "tuple") "mul"=pure false :=
 PySem.fillsNumberSlot_seq (id:="tuple.__mul__") (r:=bv (.builtin "tuple.__rmul__")) F.slot_tuple_mul.lookup (by decide+kernel) F.slot_tuple_rmul.lookup (by decide+kernel)
theorem ym:seqRepeat? (.type "tuple")=pure (bv (.builtin "tuple.__mul__")):=by unfold seqRepeat?;rw[PySem.seqSlot_of (T:="tuple") (name:="__mul__") (id:="tuple.__mul__") F.slot_tuple_mul.lookup (by decide+kernel),PySem.seqSlot_of (T:="tuple") (name:="__rmul__") (id:="tuple.__rmul__") F.slot_tuple_rmul.lookup (by decide+kernel)];rfl
theorem yn(a:Int)(t:Tok)(l:ajO)(o:Obj)(its:Array ajU)(n:Nat):
  Meets (Builtin.«int.__rmul__» ⟨[.int a t,.ref l],[]⟩) (λ_ R s=>s.heap.get? l=bv o/\o.cls= .type "tuple"/\o.data= .seq its n/\R (.ok (.ret Value.notImplemented)) s) :=
 .of_wp λprog w A R s h=>by
  obtain⟨hp,g,d,tk,os⟩:=s;obtain⟨hl,hc,hd,h⟩:=h;have hT:(⟨hp,g,d,tk,os⟩:ajT).TypeIs (.ref l) "tuple":=⟨o,hl,hc⟩
  wp_walk
  rw[hd];refine akb ?_
  wp_walk
  exact⟨_,rfl,h⟩
theorem Fo(l:ajO)(o:Obj)(its:Array ajU)(n:Nat)(x:Int)(u:Tok)(h0:its.isEmpty=kt)(h1:2<=x)(h2:x < 2 ^ 63)(h3:its.size * x.toNat<=aj4):
  Meets (Builtin.«tuple.__mul__» ⟨[.ref l,.int x u],[]⟩) (λ_ R s=>s.heap.get? l=bv o/\o.cls= .type "tuple"/\o.data= .seq its n/\R (.ok (.ret (bJ s.heap.objs.size))) { s with heap:=s.heap.push { cls:=Value.type "tuple",data:=Data.seq (tP (λx1 x2=>x1++x2) #[] (aD x.toNat its)) } }) :=
 .of_wp λprog w A R s h=>by
  obtain⟨hl,hc,hd,h⟩:=h;show aj6 _ _ (asIndex (.int x u) >>= _) _ _ _;have hT:s.TypeIs (.ref l) "tuple":=⟨o,hl,hc⟩;have c1:(decide (x < -(2 ^ 63))||decide (x >= 2 ^ 63))=false:=by simp;omega
  have c2:(decide (x<=0)||its.isEmpty)=false:=by rw[h0];simp;omega
  have c3:(its.isEmpty||x == 1)=false:=by rw[h0];simp;omega
  have hm:(its.size:Int) * x<=aj4:=by
   have e:x=(x.toNat:Int):=by omega
   rw[e]
   exact_mod_cast h3
  have c4:¬(its.size:Int) * x > (2 ^ 63 - 1) / 8:=by
   have:(aj4:Int)<=(2 ^ 63 - 1) / 8:=by decide
   omega
  have c5:Builtin.Tuple.tupleTooMany ((its.size:Int) * x)=false:=decide_eq_false (by omega);refine aj7 (show aj6 _ _ (asIndex (.int x u)) _ _ _ from akb ?_);rw[c1];refine(show aj6 _ _ (GY (.ref l) >>= _) _ _ _ from aj7 (wpAny_tupleItemsOf hl hd ?_));rw[c3];simp only[Dk,if_false];rw[c2];simp only[Dk,if_false];rw[OK c4,c5];simp only[Dk,if_false];refine aj7 (show aj6 _ _ (newObj (.type "tuple") (.seq _)) _ _ _ from aka (akb ⟨_,rfl,h⟩) ?_);show(tP (λx1 x2=>x1++x2) #[] (aD x.toNat its)).size<=aj4;have f0:=foldl_rep its.toList x.toNat [];rw[iC]at f0;have f1:its.toList.toArray=its:=by simp
  rw[f1]at f0;rw[f0,bj,len_rep,hZ,C8];exact h3
section
variable {X:Cx}
def X4(K:lc):R2:=λx y H Q=>∃a k xs,x= .ref a/\y= .int k/\hV K H a xs/\xs≠[]/\2<=k/\k < 2 ^ 63/\xs.length * k.toNat<=aj4/\∀p,H p=gV->Q (.ref p) (upd H p (.tup (aD k.toNat xs).flatten))
theorem NV:iI X (ajX .Mult) (X4 X.K):=by
 intro pins s σ H x y v u Q I rx ry h;obtain⟨a,k,xs,rfl,rfl,hH,h0,h1,h2,hz,q⟩:=h;cases rx;obtain⟨t,rfl⟩:=ry;obtain⟨its,r,⟨o,g1,g2,n,g3⟩,_⟩:=I.tuple hH;have hl:=r.length;have hlen:its.toArray.size * k.toNat<=aj4:=by rw[bj,<-hl];exact hz
 have hne:its.toArray.isEmpty=false:=by
  cases r with
  |nil=>exact absurd rfl h0
  |cons _ _=>rfl
 have hnew:tP (λx1 x2=>x1++x2) #[] (aD k.toNat its.toArray)=(aD k.toNat its).flatten.toArray:=by have:=foldl_rep its k.toNat [];rw[iC]at this;exact this
 refine wpAny_binaryOp_repeat_ref (T:="tuple") (U:="int") (by decide) ⟨o,g1,g2⟩ (λs'=>typeIs_int s' k t) qo F.fills_int_mul Bi ym F.slot_int_index.lookup
  (call_meets Bi (typeIs_int s k t) F.entry_int_rmul (F.args_int_rmul_2 _ _) (yn k t a o its.toArray n)
   ⟨g1,g2,g3,rfl,⟨o,g1,g2⟩,call_meets F.slot_tuple_mul ⟨o,g1,g2⟩ F.entry_tuple_mul (F.args_tuple_mul_2 _ _) (Fo a o its.toArray n k t hne h1 h2 hlen) ⟨g1,g2,g3,?_⟩⟩)
 rw[hnew];refine⟨.ref s.heap.objs.size,_,I.laid (t':=s.toks) (o:=.tup (aD k.toNat xs).flatten) (λb ob q=>cI _ q) (av _) ?_,rfl,q _ (I.hok.fresh (av _))⟩;exact⟨by rw[len_rep,C8];exact hz,_,r.rep k.toNat,Bd _ _,y0.new _ _⟩
def fm:jc:=λx y st=>match x,y with
 |.tup ws,.int n=>if ws≠[]/\2<=n/\n < 2 ^ 62/\ws.length * n.toNat<=lim then .ok (.tup (aD n.toNat ws).flatten) st else .bad
 |x,y=>PN x y st
theorem I0:lR X (ajX .Mult) fm:=by
 obtain⟨r,h1,h2⟩:=NJ (X:=X);refine⟨_,iI.or NV h1,λx y a b st H m Q S rx ry p=>?_⟩;cases x with
 |tup ws=>
  cases y with
  |int n=>
   have p':eo X.K m H (if ws≠[]/\2<=n/\n < 2 ^ 62/\ws.length * n.toNat<=lim then .ok (.tup (aD n.toNat ws).flatten) st else .bad) Q:=p;by_cases c:ws≠[]/\2<=n/\n < 2 ^ 62/\ws.length * n.toNat<=lim
   ·rw[Os c]at p';cases bt ry;unfold aj at rx;obtain⟨d,xs,rfl,hd,rs⟩:=rx;refine .inl ⟨d,n,xs,rfl,rfl,hV.of hd,λe=>?_,c.2.1,by have:=c.2.2.1;omega,by rw[<-rs.length];exact eR c.2.2.2,λq hq=>?_⟩
    ·subst e;exact c.1 (xY rs.length)
    ·have eY:Ext X.K m H m (upd H q (.tup (aD n.toNat xs).flatten)):=Ext.ka (.inl hq);refine p' (.ref q) m _ eY (S.fresh hq) ?_;unfold aj;exact⟨q,_,rfl,cz,(qj rs n.toNat).mono eY⟩
   ·rw[OK c]at p';exact ab p'
  |_=>exact .inr (h2 _ _ _ _ st H m Q S rx ry p)
 |_=>exact .inr (h2 _ _ _ _ st H m Q S rx ry p)
end
def zH(f:PySem.Str)(v:Wv):List (PySem.Str×Wv)->List (PySem.Str×Wv)
 |[]=>[(f,v)]
 |(g,x)::r=>if g=f then(g,v)::r else(g,x)::zH f v r
variable{c:PySem.Str}
section
variable {K:lc}{m:Mp}{H:Hp}
theorem qp{f:PySem.Str}{w:Wv}:∀{fs:List (PySem.Str×Wv)}{xs:List (PySem.Str×V)},RelK K m H fs xs->fs.lookup f=bv w->∃v,xs.lookup f=bv v/\aj K m H w v
 |[],xs,r,e=>by cases e
 |(g,x)::t,xs,r,e=>by
  obtain⟨v,ys,rfl,r1,r2⟩:=r.cons_inv;rw[e_]at e ⊢;cases b:f == g with
  |true=>rw[b]at e;cases e;exact⟨v,rfl,r1⟩
  |false=>rw[b]at e;exact qp r2 e
theorem wN{f:PySem.Str}:∀{fs:List (PySem.Str×Wv)}{xs:List (PySem.Str×V)},RelK K m H fs xs->fs.lookup f=gV->xs.lookup f=gV
 |[],xs,r,e=>by rw[r.nil_inv];rfl
 |(g,x)::t,xs,r,e=>by
  obtain⟨v,ys,rfl,r1,r2⟩:=r.cons_inv;rw[e_]at e ⊢;cases b:f == g with
  |true=>rw[b]at e;cases e
  |false=>rw[b]at e;exact wN r2 e
theorem ux{f:PySem.Str}{w:Wv}{v:V}(h:aj K m H w v):∀{fs:List (PySem.Str×Wv)}{xs:List (PySem.Str×V)},RelK K m H fs xs->RelK K m H (zH f w fs) (jZ f v xs)
 |[],xs,r=>by rw[r.nil_inv];exact RelK.nil.snoc f h
 |(g,x)::t,xs,r=>by
  obtain⟨y,ys,rfl,r1,r2⟩:=r.cons_inv;unfold zH jZ;by_cases e:g=f
  ·rw[Os e,Os e];exact RelK.cons h r2
  ·rw[OK e,OK e];exact RelK.cons r1 (ux h r2)
theorem uy{C D:ajO}(h:ClsAt K c C)(k:ClsAt K c D):C=D:=by unfold ClsAt at h k;rw[h]at k;cases k;rfl
end
def Own(K:lc)(c f:PySem.Str):Prop:=∃C,ClsAt K c C/\ED K C/\lV K C f
def fb(st:Hs)(c:PySem.Str):Wv->Option (List (PySem.Str×Wv))
 |.ref l=>match st[l]? with
  |some (.ins c' fs)=>if c'=c then bv fs else gV
  |_=>gV
 |_=>gV
theorem kr{K:lc}{m:Mp}{H:Hp}{st:Hs}{o:Wv}{v:V}{fs:List (PySem.Str×Wv)}(S:cA K m st H)(r:aj K m H o v)(e:fb st c o=bv fs):
  ∃l a C dx xs,o= .ref l/\st[l]? =bv (.ins c fs)/\v= .ref a/\m[l]? =bv a/\H a=bv (.ins C dx xs)/\ClsAt K c C/\RelK K m H fs xs:=by
 cases o with
 |ref l=>
  unfold fb at e;cases e1:st[l]? with
  |none=>simp only[e1]at e;cases e
  |some ob=>
   simp only[e1]at e;cases ob with
   |ins c' gs=>
    dsimp only at e;by_cases ec:c'=c
    ·rw[Os ec]at e;cases e;subst ec;unfold aj at r;obtain⟨a,rfl,ha⟩:=r;obtain⟨C,dx,xs,h1,h2,h3⟩:=S.obj l a _ ha e1;exact⟨l,a,C,dx,xs,rfl,e1,rfl,ha,h1,h2,h3⟩
    ·rw[OK ec]at e;cases e
   |_=>cases e
 |_=>cases e
def vM(c f:PySem.Str)(g:GE):GE:=λρ st=>(g ρ st).bind λo st1=>match(fb st1 c o).bind (·.lookup f)with
 |some w=> .ok w st1
 |none=> .bad
def vN(c f:PySem.Str)(o v:Wv)(st:Hs):Option Hs:=match fb st c o,o with
 |some fs,.ref l=>if fs.length < 900 then bv (st.set l (.ins c (zH f v fs)))else gV
 |_,_=>gV
def ra(c f:PySem.Str)(gv go:GE):GS:=λρ st=>(gv ρ st).bR ρ λv st1=>(go ρ st1).bR ρ λo st2=>match vN c f o v st2 with
 |some st3=> .nx ρ st3
 |none=> .bad
def gM(c f:PySem.Str)(n:Nat)(F:List Wv->Hs->Re Wv)(go:GE)(ga:GA):GE:=λρ st=>(go ρ st).bind λo st1=>match(fb st1 c o).map (·.lookup f)with
 |some gV=>(ga ρ st1).bind λws st2=>if ws.length+1=n then F (o::ws) st2 else .bad
 |_=> .bad
def mkI(c:PySem.Str)(F:List Wv->Hs->Re Wv)(ws:List Wv)(st:Hs):Re Wv:=match F (.ref st.length::ws) (st++[.ins c []])with
 |.ok .cY st2=> .ok (.ref st.length) st2
 |_=> .bad
def zI(c:PySem.Str)(n:Nat)(F:List Wv->Hs->Re Wv)(ga:GA):GE:=λρ st=>(ga ρ st).bind λws st1=>if ws.length+1=n then mkI c F ws st1 else .bad
def sf(P:ajS)(w:ajV)(K:lc)(mg:Str->Option ajU)(base:Heap)(k:Nat)(c f:Str)(n:Nat)(F:List Wv->Hs->Re Wv):Prop :=
 ∃C a fd ps,FnOk P w K mg base (CXJ P w) k a fd ps (spW K n F)/\ClsAt K c C/\ED K C/\Meth K C f a/\Binds K fd ps []
def zJ(P:ajS)(w:ajV)(K:lc)(mg:Str->Option ajU)(base:Heap)(k:Nat)(c:Str)(n:Nat)(F:List Wv->Hs->Re Wv):Prop :=
 ∃C a fd ps j,j+1<=k/\FnOk P w K mg base (CXJ P w) j a fd ps (spW K n F)/\ClsAt K c C/\mg c=bv (.ref C)/\Mk K C a/\Binds K fd ps []
variable{c f:Str}{o e:Expr}{g:GA}{pos pos' apos:Pos}{go:GE}{A:ajP}{E:ajU->ajT->Prop}{s:ajT}{k n:Nat}{F:List Wv->Hs->Re Wv}{es:List Expr}
section
variable {X:Cx}
theorem Tq{g:GE}(ho:JE X o g)(hb:attributeBase o f X.env (eval o X.env)=eval o X.env)(hc:Own X.K c f):JE X (.Attribute o f pos) (vM c f g) :=
 JE.of (Rc bq hb) λρ st σ H m Q S R p=>ho.go S R (aE.bind p) λw st1 v m1 H1 p1 e1 S1 r1=>by
  cases e:fb st1 c w with
  |none=>rw[e]at p1;exact ab p1
  |some fs=>
   rw[e]at p1;dsimp only[Dv]at p1;obtain⟨l,a,C,dx,xs,rfl,h1,rfl,ha,h2,h3,h4⟩:=kr S1 r1 e;obtain⟨C',k1,k2,k3⟩:=hc;cases uy h3 k1;cases e2:fs.lookup f with
   |none=>rw[e2]at p1;exact ab p1
   |some u=>rw[e2]at p1;obtain⟨y,l1,l2⟩:=qp h4 e2;exact⟨a,C,dx,xs,y,rfl,h2,k2,k3,l1,p1 y m1 H1 e1 S1 l2⟩
theorem Tr{ge:GE}(ho:JE X o go)(he:JE X e ge)(hs:swapsWith e (bv (.Attribute o f pos')) pos.line X.env=pure kt)(hc:Own X.K c f):JS X (.Assign [.Attribute o f pos'] e pos) (ra c f ge go) :=
 JS.of (Rf bq bq hs) λρ st σ H m D S R p=>by
  refine he.go S R (bE.fU R p) λv st1 vv m1 H1 p1 e1 S1 rv=>?_;refine ho.go S1 (R.mono e1) ((bE.fU (m:=m) (H:=H) R p1).imp e1 λ_ _ q=>q) λd st2 vd m2 H2 p2 e2 S2 rd=>?_;cases e3:fb st2 c d with
  |none=>unfold vN at p2;rw[e3]at p2;exact ab p2
  |some fs=>
   obtain⟨l,a,C,dx,xs,rfl,h1,rfl,ha,h2,h3,h4⟩:=kr S2 rd e3;unfold vN at p2;rw[e3]at p2;dsimp only at p2;obtain⟨C',k1,k2,k3⟩:=hc;cases uy h3 k1;by_cases hl:fs.length < 900
   ·rw[Os hl]at p2;have wr:Wr (H2 a):=.inr (.inr (.inr (.inr ⟨_,_,_,h2⟩)));have ex:Ext X.K m2 H2 m2 (upd H2 a (.ins C dx (jZ f vv xs))):=Ext.ka wr;have PR:=e1.trans e2;refine⟨a,C,dx,xs,rfl,h2,k2,k3,(by have:=h4.length;omega),p2 σ m2 _ (PR.trans ex) ?_ (R.mono (PR.trans ex))⟩;exact S2.tW ha h1 rfl ⟨C,dx,_,cz,h3,(ux (aj.mono e2 _ _ rv) h4).mono ex⟩
   ·rw[OK hl]at p2;exact ab p2
theorem I_{prog:ajS}{w:ajV}{env:Env}{name:Str}{args:List Expr}{Q:ajU->ajT->Prop}(hbase:attributeBase o name env (eval o env)=eval o env)
  (hfew:((backTo pos (aj5 args env)).all (λx=> !x.1)&&(backToKw pos (keywordEach [] env)).all (λx=>x.1.isSome)&&decide (args.length+([]:List Keyword).length+(if([]:List Keyword).isEmpty then 0 else 1) < 30))=jp)(hline:(apos.endLine == pos.line)=jp)
  (h:aj6 (model prog w) A (eval o env) (λov s₁=>∀pl,aj6 (model prog w) A (getMethod ov name pl) (λfx s₂=>aj6 (model prog w) A (callWith pos fx.1 fx.2 (backTo pos (aj5 args env)) (backToKw pos (keywordEach [] env))) Q E s₂) E s₁) E s):
  aj6 (model prog w) A (eval (.Call (.Attribute o name apos) args [] pos) env) Q E s:=by
 rw[arm_eval_Call,hbase];refine aj7 (aj9 h (λov s₁ h₁=>?_) λ_ _ e=>e);refine aj7 (wpAny_standAt ?_);have X5:methodCallForm (args.length+([]:List Keyword).length) (backTo pos (aj5 args env)) (backToKw pos (keywordEach [] env))=true:=hfew;have hpos:methodCallPos jp o env apos pos=pure pos:=by unfold methodCallPos;simp[hline]
 unfold methodCall;rw[X5];refine aj7 (aj8 ?_);unfold calleeOf;rw[Os rfl];exact aj9 (h₁ _) (λfx s₂ h₂=>aj7 (wpAny_of_eq hpos h₂)) λ_ _ e=>e
theorem Dw
  (G:sf X.prog X.w X.K X.mg X.base k c f n F)(hr:iJ k X.A)(ho:JE X o go)(ha:JA X es g)
  (hcw:∀{fv:ajU}{first:List ajU}{s:ajT}{Q:ajU->ajT->Prop},X.K.In X.base->ww X.K fv=jp->aj6 (model X.prog X.w) X.A (spliced (backTo pos (aj5 es X.env))) (λvs s₁=>X.K.In s₁.heap/\aj6 (model X.prog X.w) X.A (call fv (first++vs)) Q X.xe s₁) X.xe s->aj6 (model X.prog X.w) X.A (callWith pos fv first (backTo pos (aj5 es X.env)) []) Q X.xe s)
  (hbase:attributeBase o f X.env (eval o X.env)=eval o X.env)
  (hfew:((backTo pos (aj5 es X.env)).all (λx=> !x.1)&&(backToKw pos (keywordEach [] X.env)).all (λx=>x.1.isSome)&&decide (es.length+([]:List Keyword).length+(if([]:List Keyword).isEmpty then 0 else 1) < 30))=jp)(hline:(apos.endLine == pos.line)=jp):
  JE X (.Call (.Attribute o f apos) es [] pos) (gM c f n F go g):=by
 obtain⟨C,fa,fd,ps,G,k1,k2,k3,hb⟩:=G;intro ρ st σ H m Q S R p pins s I;have ob:=ho.go (T:=λv H1=>∃w st1 m1,eh X σ m H (match(fb st1 c w).map (·.lookup f)with
   |some gV=>(g ρ st1).bind λws st2=>if ws.length+1=n then F (w::ws) st2 else .bad
   |_=> .bad) Q/\Ext X.K m H m1 H1/\cA X.K m1 st1 H1/\aj X.K m1 H1 w v) S R (aE.bind p)
  λw st1 v m1 H1 p1 e1 S1 r1=>⟨w,st1,m1,p1,e1,S1,r1⟩
 refine I_ hbase hfew hline (bR (ob pins s I) λu s1 ⟨x,H1,I1,rx,w,st1,m1,p1,e1,S1,r1⟩ pl=>?_);cases e3:fb st1 c w with
 |none=>rw[e3]at p1;exact ab p1
 |some fs=>
  obtain⟨l,a,C',dx,xs,rfl,h1,rfl,hla,h2,h3,h4⟩:=kr S1 r1 e3;rw[e3]at p1;dsimp only[Option.map]at p1;cases uy h3 k1;cases e4:fs.lookup f with
  |some z=>rw[e4]at p1;exact ab p1
  |none=>
   rw[e4]at p1;dsimp only at p1;obtain rfl:u=bJ a:=rx;refine A6 I1 h2 k2 k3 (wN h4 e4) ?_;have args:=ha.go (T:=λvs H2=>∃ws st2 m2,eh X σ m H (if ws.length+1=n then F (.ref l::ws) st2 else .bad) Q/\Ext X.K m H m2 H2/\Ext X.K m1 H1 m2 H2/\cA X.K m2 st2 H2/\ai X.K m2 H2 ws vs) S1 (R.mono e1) ((aE.bind p1).imp e1 λ_ _ q=>q)
    λws st2 vs m2 H2 p2 e2 S2 rs=>⟨ws,st2,m2,p2,e1.trans e2,e2,S2,rs⟩
   refine hcw (first:=[.ref a]) I.ok.mod.VM k3.kp (bR (args pos pins s1 I1) λus s2 ⟨vs,H2,I2,r,ws,st2,m2,p2,PR,e2,S2,rs⟩=>⟨I2.qR,?_⟩);by_cases cn:ws.length+1=n
   ·rw[Os cn]at p2
    let E:XK:=λcl _ H3=>∃c' st3 m3 C,cl= .ref C/\ClsAt X.K c' C/\F (.ref l::ws) st2= .err c' st3/\Ext X.K m2 H2 m3 H3/\cA X.K m3 st3 H3
    have sp:spW X.K n F (V.ref a::vs) H2 Q E:=by
     refine⟨m2,st2,.ref l::ws,S2,ai.cons (aj.mono e2 _ _ r1) rs,cn,?_⟩;cases er:F (.ref l::ws) st2 with
     |ok w st3=>rw[er]at p2;exact eh.shift (r:=.ok w st3) p2 PR
     |err c' st3=>exact λm3 H3 C e3 S3 hC=>⟨c',st3,m3,C,rfl,hC,er,e3,S3⟩
     |bad=>rw[er]at p2;exact ab p2
    have r':Vals (V.ref a::vs) (bJ a::us):=.cons rfl r;have hl:(bJ a::us).length=ps.length:=by rw[<-r'.length];exact G.len _ _ _ _ sp
    have bd:=hb s2 (bJ a::us) I2.qR (by rw[fT];exact hl);rw[fT]at bd;refine wpAny_call (codeAny_mono (G.run X.A X.stack s2 H2 ⟨bJ a::us,[]⟩ (bJ a::us) (V.ref a::vs) Q E hr I2.Rj bd r' sp) λrr s3 hq=>?_);cases rr with
    |error x=>obtain⟨H3,C,fl,c',st3,m3,C',ec,hC,er,e3,S3⟩:=hq;cases ec;rw[er]at p2;exact p2 m3 H3 x s3 (PR.trans e3) S3 ⟨C,pins,H2,s2,hC,I2,.inl fl.any⟩
    |ok fw=>
     cases fw with
     |ret u=>exact I2.after hq
     |next=>exact ab hq
     |brk=>exact ab hq
     |cont=>exact ab hq
   ·rw[OK cn]at p2;exact ab p2
theorem Ts
  (G:sf X.prog X.w X.K X.mg X.base k c f n F)(hr:iJ k X.A)(ho:JE X o go)(ha:JA X (e::es) g)
  (hst:aj5 (e::es) X.env=(kt,eval e X.env)::aj5 es X.env)(hpl:(backTo pos (aj5 es X.env)).any (·.1)=kt)
  (hbase:attributeBase o f X.env (eval o X.env)=eval o X.env)
  (hfew:((backTo pos (aj5 (e::es) X.env)).all (λx=> !x.1)&&(backToKw pos (keywordEach [] X.env)).all (λx=>x.1.isSome)&&decide ((e::es).length+([]:List Keyword).length+(if([]:List Keyword).isEmpty then 0 else 1) < 30))=jp)(hline:(apos.endLine == pos.line)=jp):
  JE X (.Call (.Attribute o f apos) (e::es) [] pos) (gM c f n F go g) :=
 Dw G hr ho ha (λki kp h=>NE (h₀:=X.base) ki kp h hst hpl) hbase hfew hline
theorem vO{M:Model}{f:ajU}{Q:Args->ajT->Prop}(h:aj6 M A (spliced []) (λvs s'=>Q ⟨vs,[]⟩ s') E s):aj6 M A (evalArgs f jp [] []) Q E s:=by unfold evalArgs;show aj6 M A (spliced [] >>= _) Q E s;refine aj7 (aj9 h (λvs s' h'=>?_) λ_ _ x=>x);refine aj7 (akb ?_);refine aj8 ?_;exact aj7 (akb (aj7 (akb (akb h'))))
theorem NW
  (G:sf X.prog X.w X.K X.mg X.base k c f n F)(hr:iJ k X.A)(ho:JE X o go)(hbase:attributeBase o f X.env (eval o X.env)=eval o X.env)(hline:(apos.endLine == pos.line)=jp):
  JE X (.Call (.Attribute o f apos) [] [] pos) (gM c f n F go ag) :=
 Dw G hr ho xW (λki kp h=>PySem.W.callWith_of rfl (PySem.W.keeps_K kp) (vO h)) hbase rfl hline
def wO(f:Int->Int->Int)(c fl:PySem.Str)(go ge:GE):GS:=λρ st=>(go ρ st).bR ρ λo st1=>match(fb st1 c o).bind (·.lookup fl)with
 |some (.int a)=>(ge ρ st1).bR ρ λy st2=>(match y with
  |.int b=>(match vN c fl o (.int (f a b)) st2 with |some st3=> .nx ρ st3 |none=> .bad)
  |_=> .bad)
 |_=> .bad
theorem NX{op:Operator}{f:Int->Int->Int}{fl:Str}{ge:GE}(hf:Fi op=bv f)(ho:JE X o go)(he:JE X e ge)(hc:Own X.K c fl):JS X (.AugAssign (.Attribute o fl pos') op e pos) (wO f c fl go ge):=by
 have hip:WY X op (ipI f):=by cases op<;>first |(cases hf;exact Gy) |(cases hf;exact Gz) |cases hf
 refine JS.of (EE bq bq hip) λρ st σ H m D S R p=>?_;refine ho.go S R (bE.fU R p) λd st1 vd m1 H1 p1 e1 S1 rd=>?_;cases e3:fb st1 c d with
 |none=>rw[e3]at p1;exact ab p1
 |some fs=>
  rw[e3]at p1;dsimp only[Dv]at p1;obtain⟨l,a,C,dx,xs,rfl,h1,rfl,ha,h2,h3,h4⟩:=kr S1 rd e3;obtain⟨C',k1,k2,k3⟩:=hc;cases uy h3 k1;cases e4:fs.lookup fl with
  |none=>rw[e4]at p1;exact ab p1
  |some w=>
   rw[e4]at p1;obtain⟨v,l1,l2⟩:=qp h4 e4;refine⟨a,C,dx,xs,v,rfl,h2,k2,k3,l1,?_⟩;cases w with
   |int n=>
    dsimp only at p1;refine he.go S1 (R.mono e1) ((bE.fU (m:=m) (H:=H) R p1).imp e1 λ_ _ q=>q) λy st2 vy m2 H2 p2 e2 S2 ry=>?_;cases y with
    |int b=>
     dsimp only at p2;cases bt l2;cases bt ry;refine⟨n,b,rfl,rfl,?_⟩;have rd2:=aj.mono e2 _ _ rd;cases e5:fb st2 c (.ref l)with
     |none=>unfold vN at p2;rw[e5]at p2;exact ab p2
     |some fs'=>
      obtain⟨l',a',C2,Rb,xs',q1,g1,q2,ha',g2,g3,g4⟩:=kr S2 rd2 e5;cases q1;cases q2;unfold vN at p2;rw[e5]at p2;dsimp only at p2;cases uy g3 k1;by_cases hl:fs'.length < 900
      ·rw[Os hl]at p2;have wr:Wr (H2 a):=.inr (.inr (.inr (.inr ⟨_,_,_,g2⟩)));have ex:Ext X.K m2 H2 m2 (upd H2 a (.ins C Rb (jZ fl (.int (f n b)) xs'))):=Ext.ka wr;refine⟨Rb,xs',g2,(by have:=g4.length;omega),p2 σ m2 _ ((e1.trans e2).trans ex) ?_ (R.mono ((e1.trans e2).trans ex))⟩;exact S2.tW ha' g1 rfl ⟨C,Rb,_,cz,g3,(ux mkInt g4).mono ex⟩
      ·rw[OK hl]at p2;exact ab p2
    |_=>exact ab p2
   |_=>exact ab p1
theorem NY{p:Pos}(G:zJ X.prog X.w X.K X.mg X.base k c n F)(hr:iJ k X.A)(hg:Gl X c)(ha:JA X (e::es) g)
  (hdb:(c == ("__debug__":Str))=false:=by decide)(he:aj5 (e::es) X.env=(kt,eval e X.env)::aj5 es X.env:=by rfl)(hpl:(backTo pos (aj5 es X.env)).any (·.1)=false:=by rfl):
  JE X (.Call (.Name c p) (e::es) [] pos) (zI c n F g):=by
 obtain⟨C,fa,fd,ps,j,hj,G,k1,k2,k3,hb⟩:=G;refine JE.of (Mm (E:=λ_ _ _=>False) k3 G (hr.mono hj) hg k2 hb .nil (λpins σ H s x s' I z=>let ⟨_,_,_,y⟩:=z;y.elim) lZ hdb he hpl) λρ st σ H m Q S R p=>?_;refine ha.go S R (aE.bind p) λws st1 vs m1 H1 p1 e1 S1 rs=>?_;intro x dx hx hdx ne;by_cases cn:ws.length+1=n
 ·rw[Os cn]at p1;unfold mkI at p1;have hx2:(upd H1 dx (.own x)) x=none:=by rw[b6 (dM ne)];exact hx
  have S2:=S1.fresh (o:=.own x) hdx;have S3:cA X.K (m1++[x]) (st1++[.ins c []]) (upd (upd H1 dx (.own x)) x (.ins C dx [])):=S2.xV hx2 ⟨C,dx,[],cz,k1,RelK.nil⟩;have ex:Ext X.K m1 H1 (m1++[x]) (upd (upd H1 dx (.own x)) x (.ins C dx [])):=(Ext.ka (.inl hdx)).trans (Ext.more.trans (Ext.ka (.inl hx2)));have new:(m1++[x])[st1.length]? =bv x:=by rw[<-S1.len,lW (av _),sF];rfl
  cases er:F (.ref st1.length::ws) (st1++[.ins c []])with
  |ok w st2=>
   rw[er]at p1;cases w with
   |cY=>dsimp only at p1;rw[fT];refine⟨m1++[x],st1++[.ins c []],.ref st1.length::ws,S3,ai.cons (by unfold aj;exact⟨x,rfl,new⟩) (ai.mono ex _ _ rs),cn,?_⟩;rw[er];intro v m2 H2 e2 T2 rv;unfold aj at rv;refine⟨rv,p1 (.ref x) m2 H2 ((e1.trans ex).trans e2) T2 ?_⟩;unfold aj;exact⟨x,rfl,e2.pre _ _ new⟩
   |_=>exact ab p1
  |err c' st2=>rw[er]at p1;exact ab p1
  |bad=>rw[er]at p1;exact ab p1
 ·rw[OK cn]at p1;exact ab p1
end
def ku(f:Expr->GE):List Expr->GA
 |[]=>ag
 |e::es=>aa (f e) (ku f es)
def acH(x:Str):Nat:=if x="reached_from" then 2 else 3
def acI(P:ajS)(w:ajV)(K:lc)(mg:Str->Option ajU)(k j n:Nat)(x:Str)(FL:FLt):Prop :=
 (∃f,mg x=bv (.ref f)/\ww K (.ref f)=jp)/\∀(base:Heap)(p:Lm)(L:LF),BI K mg base->NK P w K mg base (j+1) p 1 L->dk P w K mg base k x n (FL p L)
def FnQ(lp:Nat)(P:ajS)(w:ajV)(K:lc)(mg:Str->Option ajU)(k j:Nat)(x:Str)(FL:FLt):Prop:=match lp with
 | 1=>acI P w K mg k j (acH x) x FL
 |_=>FnL P w K mg k j x FL
--PARTB
end J
namespace TB
open PySem PySem.SetTable
def adv(m:Nat)(p:Probe):Probe:=advance { fresh 0 0 kt with mask:=m } p
def sta(m:Nat)(h:Int):Probe:=⟨bits h % (m+1),runEnd m (bits h % (m+1)) - bits h % (m+1),bits h % (m+1),bits h,gV⟩
def Way(m:Nat)(F:Nat->Prop):Nat->Probe->Nat->Prop
 | 0,p,j=>p.j=j
 |n+1,p,j=>F p.j/\Way m F n (adv m p) j
structure Tb(t:SetTable)(es:Array (Int×ajU))(L:List (Nat×Int×ajU)):Prop where
 pl:t.place.toList=L.map (·.1)
 en:es.toList=L.map (·.2)
 so:(L.map (·.1)).Pairwise (· < ·)
 du:t.dummies=#[]
 wy:∀q∈L,∃n,n < 10 * turns t.mask/\Way t.mask (· ∈L.map (·.1)) n (sta t.mask q.2.1) q.1
open PySem PySem.SetTable PyProof.Rows L2
end TB
namespace J
open PySem PySem.Spec PyProof.Rows L2 TB
section
variable {prog:ajS}{w:ajV}{A:ajP}{E:ajU->ajT->Prop}{s:ajT}
abbrev hsh(prog:ajS)(w:ajV)(k:List L2.Key):Int:=(tupleKind (df prog w)).hash k
end
open PySem PySem.Spec PyProof.Rows PySem.W L2 TB
def pk:List L2.Key->Int×Int
 |[.inl a,.inl b]=>(a,b)
 |_=>(0,0)
open PySem PySem.Spec PyProof.Rows L2
def Itt(K:lc)(l1 l2:ajO):It :=
 ⟨λi H=>∃xs ys x y,hV K H l1 xs/\hV K H l2 ys/\xs[i]? =bv x/\ys[i]? =bv y,
  λi H v H'=>∃p,v= .ref p/\H p=gV/\∀xs ys,hV K H l1 xs->hV K H l2 ys->∃x y,xs[i]? =bv x/\ys[i]? =bv y/\H'=upd H p (.tup [x,y]),
  λi H=>∃xs,hV K H l1 xs/\xs.length<=i⟩
def uz(z:PySem.Str):List Wv->Hs->Re Wv
 |[.str y,.int i],st=> .ok (.int (Txt.find3 z y i)) st
 |ws,st=>PK z ws st
section
variable {X:Cx}
theorem Ja:y9 X "str.find" (λx xs H Q=>∃z y i,x= .str z/\xs=[.str y,.int i]/\Q (.int (Txt.find3 z y i)) H):=by intro pins s σ H x xs v us Q I rx rv h;obtain⟨z,y,i,rfl,rfl,q⟩:=h;obtain⟨t,rfl⟩:=rx;obtain⟨u,u',rfl,⟨t',rfl⟩,⟨t'',rfl⟩⟩:=vals2 rv;exact SC.find3 ⟨.int _,H,I.tok _,⟨_,rfl⟩,q⟩
theorem Jb:V_ X "str.find" uz:=by
 obtain⟨r,h1,h2⟩:=Nw (X:=X);refine⟨_,y9.or Ja h1,λz ws vs st H m Q hz S rs p=>?_⟩;unfold uz at p;split at p
 ·obtain⟨v,v',rfl,r1,r2⟩:=MU rs;unfold aj at r1;obtain⟨rfl,_⟩:=r1;cases bt r2;exact .inl ⟨_,_,_,rfl,rfl,p _ m H Ext.refl S mkInt⟩
 ·exact .inr (h2 z ws vs st H m Q hz S rs p)
end
structure Itx where
 c:Str:=""
 yo:List (Str×Nat×(List Wv->Hs->Re Wv)):=[]
 ini:List (Str×Nat×(List Wv->Hs->Re Wv)):=[]
 own:List Str:=[]
structure BL(t:Itx)(k:Nat)(P:ajS)(w:ajV)(K:lc)(mg:Str->Option ajU)(base:Heap):Prop where
 yo:∀f n F,t.yo.lookup f=bv (n,F)->sf P w K mg base k t.c f n F
 ini:∀x n F,t.ini.lookup x=bv (n,F)->zJ P w K mg base k x n F
 own:∀f,t.own.contains f=jp->Own K t.c f
variable{k:Nat}{P:ajS}{w:ajV}{K:lc}{mg:Str->Option ajU}{base:Heap}
theorem BL.no:BL {} k P w K mg base:=⟨(λ_ _ _ e=>by cases e),(λ_ _ _ e=>by cases e),λ_ e=>by cases e⟩
structure Ct where
 N:List Str
 names:List (Str×ajR)
 consts:List (Str×Wv)
 bl:List Str
 fns:List (Str×Nat×(List Wv->Hs->Re Wv))
 tb:Tab:=[]
 tt:E1:=[]
 clss:List Str:=[]
 Dx:List Str:=[]
 tc:Tab:=[]
 wQ:List (Str×Dc):=[]
 dts:List Str:=[]
 dks:List Str:=[]
 X6:List Str:=[]
 Jc:List Str:=[]
 loop:Bool:=jp
 free:Bool:=jp
 top:Bool:=jp
 lam:Option (Lm×LF):=gV
 LO:List (Str×FLt):=[]
 lfn:List Str:=[]
 lj:Nat:=0
 lp:Nat:=3
 sk:Nat:=0
 kfn:List Str:=[]
 self:Str:=""
 it:Itx:={}
def qq(x:Str):List Str->Option Nat
 |[]=>gV
 |y::r=>if x=y then bv 0 else match qq x r with
  |some i=>bv (i+1)
  |none=>gV
theorem kx{x:Str}:∀{N:List Str}{i:Nat},qq x N=bv i->N[i]? =bv x
 |[],i,h=>by cases h
 |y::r,i,h=>by
  unfold qq at h;by_cases e:x=y
  ·rw[Os e]at h;cases h;subst e;rfl
  ·rw[OK e]at h;cases q:qq x r with
   |none=>rw[q]at h;cases h
   |some j=>rw[q]at h;cases h;simpa using kx q
def okN(x:Str):Bool:=!(x == ("__debug__":Str))&& !(x == ("__classdict__":Str))&& !(decide (x="__name__"))
variable{x:Str}
theorem jK(h:okN x=jp):(x == ("__debug__":Str))=false:=by unfold okN at h;revert h;cases (x == ("__debug__":Str))<;>simp
theorem Jd(h:okN x=jp):(x == ("__classdict__":Str))=false:=by unfold okN at h;revert h;cases (x == ("__classdict__":Str))<;>simp
theorem Je(h:okN x=jp):x≠"__name__":=by intro e;subst e;unfold okN at h;simp at h
def Dy(K:lc)(mg:Str->Option ajU)(x:Str):Wv->Prop
 |.int i=>∃t,mg x=bv (.int i t)
 |.str y=>(∃t,mg x=bv (.str y t))/\bc y=jp
 |.j5 ws=>∃(a:ajO)(vs:List V)(o:Obj)(its:Array ajU)(n:Nat),mg x=bv (.ref a)/\K.lookup a=bv o/\o.cls= .type "tuple"/\o.data= .seq its n/\its.size<=aj4/\Vals vs its.toList/\wK ws vs
 |_=>False
structure X7(c:Ct)(k:Nat)(X:Cx):Prop where
 lam:∀p L,c.lam=bv (p,L)->NK X.prog X.w X.K X.mg X.base k p c.lp L
 LO:∀x F,c.LO.lookup x=bv F->FnQ c.lp X.prog X.w X.K X.mg k c.lj x F
 Wb:∀x n F,c.fns.lookup x=bv (n,F)->c.lfn.contains x=jp->∀base,BI X.K X.mg base->dk X.prog X.w X.K X.mg base c.lj x n F
 at':c.top=jp->c.self∈dh->∃P,PQ X c.self P
 sk:c.sk<=k
 Wc:∀x n F,c.fns.lookup x=bv (n,F)->c.kfn.contains x=jp->dk X.prog X.w X.K X.mg X.base c.lj x n F
 ins:BL c.it k X.prog X.w X.K X.mg X.base
structure Good(c:Ct)(k:Nat)(X:Cx):Prop where
 N:X.N=c.N
 sc:X.env.scope.names=c.names
 nd:c.N.Nodup
 un:X.A.units+64 < cLine
 free:c.free=jp->iJ k X.A/\X.calm=jp
 loop:c.loop=jp->X.calm=jp/\PassesOwn (model X.prog X.w) X.A X.env X.xe
 cst:∀x w,c.consts.lookup x=bv w->Dy X.K X.mg x w
 bl:∀x,c.bl.contains x=jp->X.mg x=gV
 fns:∀x n F,c.fns.lookup x=bv (n,F)->dk X.prog X.w X.K X.mg X.base k x n F
 stk:c.top=jp->Nf X
 fn:c.top=jp->∀x,X.fn x=jp
 kind:X.env.scope.kind= .function
 tab:TabOk X.K c.tb c.tt c.tc
 cls:∀x,c.clss.contains x=jp->∃C,X.mg x=bv (.ref C)/\Nc X.K x C
 Dx:∀x,c.Dx.contains x=jp->∃C,X.mg x=bv (.ref C)/\ClsAt X.K x C
 wQ:∀x kvs,c.wQ.lookup x=bv kvs->nj X.K X.w X.mg x kvs
 rm:q_ k X.A
 Jc:∀x n F,c.Jc.contains x=jp->c.fns.lookup x=bv (n,F)->NI X.prog X.w X.K X.mg X.base k x n F
 x:X7 c k X
 fr:Ip X
 hd:So X
theorem sN{A:ajP}(hr:iJ k A):A.units+64 < cLine:=by have:=hr.un;omega
theorem Jf:ajY "ValueError"=bv (.type "ValueError"):=by decide+kernel
theorem Jg:ajY "dict"=bv (.type "dict"):=by decide+kernel
def NZ(x:Str):Option String :=
 if x="int" then bv "int" else if x="str" then bv "str" else if x="bool" then bv "bool" else if x="tuple" then bv "tuple" else if x="list" then bv "list" else if x="ValueError" then bv "ValueError" else if x="dict" then bv "dict" else gV
theorem N0{T:String}(h:NZ x=bv T):ajY x=bv (.type T):=by
 unfold NZ at h;by_cases e:x="int"
 ·rw[Os e]at h;cases h;subst e;exact zl
 rw[OK e]at h;by_cases e:x="str"
 ·rw[Os e]at h;cases h;subst e;exact zm
 rw[OK e]at h;by_cases e:x="bool"
 ·rw[Os e]at h;cases h;subst e;exact HX
 rw[OK e]at h;by_cases e:x="tuple"
 ·rw[Os e]at h;cases h;subst e;exact zp
 rw[OK e]at h;by_cases e:x="list"
 ·rw[Os e]at h;cases h;subst e;exact zq
 rw[OK e]at h;by_cases e:x="ValueError"
 ·rw[Os e]at h;cases h;subst e;exact Jf
 rw[OK e]at h;by_cases e:x="dict"
 ·rw[Os e]at h;cases h;subst e;exact Jg
 rw[OK e]at h;cases h
variable{f:Expr->GE}{e o a:Expr}{env:Env}{op:List Wv->Hs->Re Wv}{kvs:Dc}{γ:Type}{neg:Bool}{scope:Scope}{cs:i8}{i n:Nat}{d:GE}{t:Expr->GT}{p:Pos}
section
variable {X:Cx}
def N1:jc:=λ_ _ _=> .bad
theorem Jh{f:ajU->ajU->Sem ajU}:lR X f N1:=⟨λ_ _ _ _=>False,λ_ _ _ _ _ _ _ _ _ _ _ _ h=>h.elim,λ_ _ _ _ _ _ _ _ _ _ _ p=>p⟩
def X8:Operator->jc
 |.Add=>aX
 |.Sub=>l5
 |.Mult=>fm
 |.FloorDiv=>lF
 |.Mod=>oMod
 |.Pow=>Bo
 |_=>N1
theorem N2(o:Operator):lR X (ajX o) (X8 o):=by cases o<;>first |exact Sb |exact R9 |exact I0 |exact MN |exact R_ |exact Sa |exact Jh
def BM:CmpOp->jc
 |.Eq=>oEq
 |.NotEq=>lU
 |.Lt=>oLt
 |.LtE=>oLe
 |.Gt=>VT
 |.GtE=>Xp
 |.Is=>N1
 |.IsNot=>PV
 |.In=>eG
 |.NotIn=>N1
theorem mU(hu:X.A.units+64 < cLine)(o:CmpOp):lR X (aj1 o) (BM o):=by cases o<;>first |exact Xz hu |exact XA hu |exact Tp hu |exact S6 hu |exact Xt |exact Xu |exact NQ |exact SQ |exact Jh
def Ji(c:Ct)(x:Str):GE:=if okN x=jp then
  match c.names.lookup x with
  |some .local=>(match qq x c.N with |some i=>ae i |none=>bW)
  |some .cell=>(match qq x c.N with |some i=>ae i |none=>bW)
  |some .free=>(match qq x c.N with |some i=>ae i |none=>bW)
  |some .globalImplicit=>(match c.consts.lookup x with
   |some w=>gC w
   |none=>if c.clss.contains x=jp then gC (.cls x)else if c.Dx.contains x=jp then gC (.cls x)else if c.bl.contains x=jp then(match NZ x with |some T=>gC (.ty T) |none=>bW)else bW)
  |_=>bW
 else bW
theorem Jj{c:Ct}(G:Good c k X)(x:Str)(pos:Pos):JE X (.Name x pos) (Ji c x):=by
 unfold Ji;by_cases hx:okN x=jp
 ·rw[Os hx];cases e:c.names.lookup x with
  |none=>exact aM
  |some kd=>
   have el:X.env.scope.names.lookup x=bv kd:=by rw[G.sc];exact e
   cases kd with
   | «local»=>
    dsimp only;cases e2:qq x c.N with
    |none=>exact aM
    |some i=>exact Bn i (by rw[G.N];exact kx e2) (Or.inl el) (jK hx) (Jd hx)
   |cell=>
    dsimp only;cases e2:qq x c.N with
    |none=>exact aM
    |some i=>exact Bn i (by rw[G.N];exact kx e2) (mQ (Or.inl el)) (jK hx) (Jd hx)
   |free=>
    dsimp only;cases e2:qq x c.N with
    |none=>exact aM
    |some i=>exact Bn i (by rw[G.N];exact kx e2) (mQ (mQ el)) (jK hx) (Jd hx)
   |globalImplicit=>
    dsimp only;have hg:Gl X x:=el;cases e2:c.consts.lookup x with
    |some w=>
     have q:=G.cst x w e2;cases w with
     |int i=>obtain⟨t,q⟩:=q;exact Hu hg q (jK hx)
     |str y=>obtain⟨⟨t,q⟩,z⟩:=q;exact Hv hg q z (jK hx)
     |j5 ws=>obtain⟨a,vs,o,its,n,q1,q2,q3,q4,q5,q6,q7⟩:=q;exact JE.of (i5 (v:=.ref a) hg q1 rfl (jK hx)) λρ st σ H m Q S R p=>p (.ref a) m H Ext.refl S (by unfold aj;exact⟨a,vs,rfl,⟨o,its,n,q2,q3,q4,q5,q6⟩,q7.rel⟩)
     |_=>exact ab q
    |none=>
     dsimp only;by_cases e5:c.clss.contains x=jp
     ·rw[Os e5];obtain⟨C,q1,q2⟩:=G.cls x e5;exact JE.of (i5 (v:=.ref C) hg q1 rfl (jK hx)) λρ st σ H m Q S R p=>p (.ref C) m H Ext.refl S (by unfold aj;exact⟨C,rfl,q2.cls⟩)
     rw[OK e5];by_cases e6:c.Dx.contains x=jp
     ·rw[Os e6];obtain⟨C,q1,q2⟩:=G.Dx x e6;exact JE.of (i5 (v:=.ref C) hg q1 rfl (jK hx)) λρ st σ H m Q S R p=>p (.ref C) m H Ext.refl S (by unfold aj;exact⟨C,rfl,q2⟩)
     rw[OK e6];by_cases e3:c.bl.contains x=jp
     ·rw[Os e3];cases e4:NZ x with
      |none=>exact aM
      |some T=>exact Xj hg (G.bl x e3) (N0 e4) (Je hx) (jK hx)
     ·rw[OK e3];exact aM
   |_=>exact aM
 ·rw[OK hx];exact aM
def Jk:Const->GE
 |.none=>gC .cY
 |.bool b=>gC (.bl b)
 |.int i=>gC (.int i)
 |.str x=>if bc x=jp then gC (.str x)else bW
 |_=>bW
theorem Fp(k:Const)(j:Nat)(pos:Pos):JE X (.Constant k j pos) (Jk k):=by
 cases k with
 |none=>exact RS
 |bool b=>exact Xi
 |int i=>exact RQ
 |str x=>
  show JE X _ (if bc x=jp then gC (.str x)else bW);by_cases h:bc x=jp
  ·rw[Os h];exact RT h
  ·rw[OK h];exact aM
 |_=>exact aM
def plain:Expr->Bool
 |.Starred .. =>kt
 |_=>jp
theorem bg{es:List Expr}(h:plain e=jp):aj5 (e::es) env=(kt,eval e env)::aj5 es env:=by cases e<;>first |rfl |cases h
theorem eQ{pos:Pos}{env:Env}:∀{es:List Expr},es.all plain=jp->(backTo pos (aj5 es env)).any (·.1)=kt
 |[],_=>rfl
 |e::es,h=>by rw[fj,cZ]at h;rw[bg h.1];have q:=eQ (pos:=pos) (env:=env) h.2;unfold backTo at q ⊢;rw[bz,kY,q];rfl
theorem gw{f:Expr->GE}(h:∀e,JE X e (f e)):∀es:List Expr,es.all plain=jp->JA X es (ku f es)
 |[],_=>xW
 |e::es,g=>by rw[fj,cZ]at g;exact xX (h e) (gw h es g.2) (bg g.1)
def blO(c:Ct)(x:Str):Option (ajU×(List Wv->Hs->Re Wv)) :=
 if x="len" then bv (.builtin "len",dH)else if x="abs" then bv (.builtin "abs",MV)else if x="isinstance" then bv (.builtin "isinstance",jG c.tb c.tt)else if x="str" then bv (.type "str",l7)else if x="int" then bv (.type "int",uo)else if x="list"/\c.free=jp then bv (.type "list",yk)else if x="tuple" then bv (.type "tuple",nH)else if x="all"/\c.free=jp then bv (.builtin "all",ue)else if x="max"/\c.free=jp then bv (.builtin "max",uh)else if x="min"/\c.free=jp then bv (.builtin "min",Dr)else if x="ord" then bv (.builtin "ord",NM)else gV
theorem Fq:ajY "all"=bv (.builtin "all"):=by decide+kernel
theorem Fs:ajY "max"=bv (.builtin "max"):=by decide+kernel
theorem Fv:ajY "min"=bv (.builtin "min"):=by decide+kernel
theorem Tt{c:Ct}{v:ajU}(O:TabOk X.K c.tb c.tt c.tc)(hc:c.free=jp->X.calm=jp)(h:blO c x=bv (v,op)):ajY x=bv v/\et X v op/\((∃id,v= .builtin id)\/∃T,v= .type T):=by
 unfold blO at h;by_cases e:x="len"
 ·rw[Os e]at h;cases h;subst e;exact⟨EZ,Bq,.inl ⟨_,rfl⟩⟩
 rw[OK e]at h;by_cases e:x="abs"
 ·rw[Os e]at h;cases h;subst e;exact⟨EY,Sh,.inl ⟨_,rfl⟩⟩
 rw[OK e]at h;by_cases e:x="isinstance"
 ·rw[Os e]at h;cases h;subst e;exact⟨HW,Sn O,.inl ⟨_,rfl⟩⟩
 rw[OK e]at h;by_cases e:x="str"
 ·rw[Os e]at h;cases h;subst e;exact⟨zm,Nh,.inr ⟨_,rfl⟩⟩
 rw[OK e]at h;by_cases e:x="int"
 ·rw[Os e]at h;cases h;subst e;exact⟨zl,Nx,.inr ⟨_,rfl⟩⟩
 rw[OK e]at h;by_cases e:x="list"/\c.free=jp
 ·rw[Os e]at h;cases h;obtain⟨rfl,e2⟩:=e;exact⟨zq,IT (hc e2),.inr ⟨_,rfl⟩⟩
 rw[OK e]at h;by_cases e:x="tuple"
 ·rw[Os e]at h;cases h;subst e;exact⟨zp,SK,.inr ⟨_,rfl⟩⟩
 rw[OK e]at h;by_cases e:x="all"/\c.free=jp
 ·rw[Os e]at h;cases h;obtain⟨rfl,e2⟩:=e;exact⟨Fq,BA (hc e2),.inl ⟨_,rfl⟩⟩
 rw[OK e]at h;by_cases e:x="max"/\c.free=jp
 ·rw[Os e]at h;cases h;obtain⟨rfl,e2⟩:=e;exact⟨Fs,Nq (hc e2),.inl ⟨_,rfl⟩⟩
 rw[OK e]at h;by_cases e:x="min"/\c.free=jp
 ·rw[Os e]at h;cases h;obtain⟨rfl,e2⟩:=e;exact⟨Fv,Nr (hc e2),.inl ⟨_,rfl⟩⟩
 rw[OK e]at h;by_cases e:x="ord"
 ·rw[Os e]at h;cases h;subst e;exact⟨Fj,Tj,.inl ⟨_,rfl⟩⟩
 rw[OK e]at h;cases h
def BN(c:Ct)(fE:Expr->GE)(x:Str)(es:List Expr):GE:=if okN x=jp/\es.all plain=jp/\c.names.lookup x=bv .globalImplicit then
   (match c.fns.lookup x with
   |some (n,F)=>if c.free=jp then ao n F (ku fE es)else bW
   |none=>if c.bl.contains x=jp then(match blO c x with |some (_,op)=>aH op (ku fE es) |none=>bW)else bW)
  else bW
def Jl(fE:Expr->GE)(o:Expr)(name:Str)(e:Expr)(apos cpos:Pos):GE:=if plain e=jp/\(apos.endLine == cpos.line)=jp then
   (if name="append" then jh ni (fE o) (fE e)else if name="extend" then jh uw (fE o) (fE e)else bW)
  else bW
def BP(fE:Expr->GE)(o:Expr)(name:Str)(e:Expr)(apos cpos:Pos):GE:=if plain e=jp/\(apos.endLine == cpos.line)=jp then
   (if name="count" then jh yh (fE o) (fE e)else if name="index" then yf (jh sJ (fE o) (fE e)) (BH sM (fE o) (fE e))else bW)
  else bW
theorem Fw{fE:Expr->GE}(h:∀e,JE X e (fE e))(x name:Str)(e:Expr)(p apos cpos:Pos):JE X (.Call (.Attribute (.Name x p) name apos) [e] [] cpos) (BP fE (.Name x p) name e apos cpos):=by
 unfold BP;by_cases g:plain e=jp/\(apos.endLine == cpos.line)=jp
 ·rw[Os g];by_cases n1:name="count"
  ·rw[Os n1];subst n1;exact sG Fe PySem.F.slot_list_count PySem.F.type_list_count (h _) (h e) (bg g.1) g.2
  rw[OK n1];by_cases n2:name="index"
  ·rw[Os n2];subst n2;exact Iz (sG Ff PySem.F.slot_list_index PySem.F.type_list_index (h _) (h e) (bg g.1) g.2) (IU Fh PySem.F.slot_tuple_index PySem.F.type_tuple_index rfl (h _) (h e) (bg g.1) g.2)
  rw[OK n2];exact aM
 ·rw[OK g];exact aM
def BQ:Expr->Bool
 |.Name .. =>jp
 |.Constant (.str _) _ _=>jp
 |.Subscript .. =>jp
 |.Call _ (_::_) _ _=>jp
 |_=>kt
def lg(fE:Expr->GE)(o:Expr)(name:Str)(es:List Expr)(apos cpos:Pos):GE:=if BQ o=jp/\es.all plain=jp/\es.length < 20/\(apos.endLine == cpos.line)=jp then
   (if name="join" then iP qY (fE o) (ku fE es)else if name="find" then iP uz (fE o) (ku fE es)else if name="index" then iP om (fE o) (ku fE es)else if name="split" then iP qk (fE o) (ku fE es)else bW)
  else bW
theorem sO{name:Str}(h:BQ o=jp):attributeBase o name env (eval o env)=eval o env:=by
 cases o with
 |Constant k j p=>cases k<;>first |rfl |cases h
 |Call g as ks p=>
  cases as with
  |nil=>cases h
  |cons e es=>cases g<;>rfl
 |_=>first |rfl |cases h
theorem all_plain{pos:Pos}{env:Env}:∀{es:List Expr},es.all plain=jp->(backTo pos (aj5 es env)).all (λx=> !x.1)=jp
 |[],_=>rfl
 |e::es,h=>by rw[fj,cZ]at h;rw[bg h.1];have q:=all_plain (pos:=pos) (env:=env) h.2;unfold backTo at q ⊢;rw[bz,fj,q];rfl
theorem ig{fE:Expr->GE}(h:∀e,JE X e (fE e))(o:Expr)(name:Str)(e:Expr)(es:List Expr)(apos cpos:Pos):JE X (.Call (.Attribute o name apos) (e::es) [] cpos) (lg fE o name (e::es) apos cpos):=by
 unfold lg;by_cases g:BQ o=jp/\(e::es).all plain=jp/\(e::es).length < 20/\(apos.endLine == cpos.line)=jp
 ·rw[Os g];obtain⟨g1,g2,g3,g4⟩:=g;have gp:plain e=jp/\es.all plain=true:=by rw[fj,cZ]at g2;exact g2
  have hfew:((backTo cpos (aj5 (e::es) X.env)).all (λx=> !x.1)&&(backToKw cpos (keywordEach [] X.env)).all (λx=>x.1.isSome)&&decide ((e::es).length+([]:List Keyword).length+(if([]:List Keyword).isEmpty then 0 else 1) < 30))=true:=by
   rw[all_plain g2];have g5:(e::es).length+([]:List Keyword).length+(if([]:List Keyword).isEmpty then 0 else 1) < 30:=by show(e::es).length+0+0 < 30;omega
   rw[decide_eq_true g5];rfl
  by_cases n1:name="join"
  ·rw[Os n1];subst n1;exact pw Nu PySem.F.slot_str_join PySem.F.type_str_join (h o) (gw h (e::es) g2) (sO g1) hfew g4 (bg gp.1) (eQ gp.2)
  rw[OK n1];by_cases n1:name="find"
  ·rw[Os n1];subst n1;exact pw Jb PySem.F.slot_str_find PySem.F.type_str_find (h o) (gw h (e::es) g2) (sO g1) hfew g4 (bg gp.1) (eQ gp.2)
  rw[OK n1];by_cases n1:name="index"
  ·rw[Os n1];subst n1;exact pw IF PySem.F.slot_str_index PySem.F.type_str_index (h o) (gw h (e::es) g2) (sO g1) hfew g4 (bg gp.1) (eQ gp.2)
  rw[OK n1];by_cases n1:name="split"
  ·rw[Os n1];subst n1;exact pw II PySem.F.slot_str_split PySem.F.type_str_split (h o) (gw h (e::es) g2) (sO g1) hfew g4 (bg gp.1) (eQ gp.2)
  rw[OK n1];exact aM
 ·rw[OK g];exact aM
def Dz(fE:Expr->GE)(o:Expr)(e f:Expr)(apos cpos:Pos):GE:=if plain e=jp/\plain f=jp/\(apos.endLine == cpos.line)=jp then l9 (fE o) (fE e) (fE f)else bW
theorem zK{c:Ct}(G:Good c k X){fE:Expr->GE}(h:∀e,JE X e (fE e))(o:Expr)(ho:attributeBase o "get" X.env (eval o X.env)=eval o X.env)(e f:Expr)(apos cpos:Pos):JE X (.Call (.Attribute o "get" apos) [e,f] [] cpos) (Dz fE o e f apos cpos):=by
 unfold Dz;by_cases g:plain e=jp/\plain f=jp/\(apos.endLine == cpos.line)=jp
 ·rw[Os g];obtain⟨g1,g2,g3⟩:=g;refine IM (by have:=G.un;omega) (h _) (h e) (h f) ⟨ho,?_,g3,?_⟩
  ·rw[all_plain (es:=[e,f]) (by simp[g1,g2])];rfl
  ·rw[bg g1,bg g2];rfl
 ·rw[OK g];exact aM
def vP(c:Ct)(x:Str):Option Dc:=if okN x=jp/\c.names.lookup x=bv .globalImplicit then c.wQ.lookup x else gV
theorem sP{c:Ct}(G:Good c k X)(h:vP c x=bv kvs):Gl X x/\(x == ("__debug__":Str))=kt/\nj X.K X.w X.mg x kvs:=by
 unfold vP at h;by_cases g:okN x=jp/\c.names.lookup x=bv .globalImplicit
 ·rw[Os g]at h;refine⟨?_,jK g.1,G.wQ x kvs h⟩;show X.env.scope.names.lookup x=_;rw[G.sc];exact g.2
 ·rw[OK g]at h;cases h
def Jm(fE:Expr->GE)(x:Str)(p:Pos)(name:Str)(apos cpos:Pos):GE:=if name="pop"/\(apos.endLine == cpos.line)=jp then wM (fE (.Name x p))else bW
theorem Jn{fE:Expr->GE}(h:∀e,JE X e (fE e))(x:Str)(p:Pos)(name:Str)(apos cpos:Pos):JE X (.Call (.Attribute (.Name x p) name apos) [] [] cpos) (Jm fE x p name apos cpos):=by
 unfold Jm;by_cases g:name="pop"/\(apos.endLine == cpos.line)=jp
 ·rw[Os g];obtain⟨rfl,g2⟩:=g;exact NU (h _) ⟨rfl,g2⟩
 ·rw[OK g];exact aM
def N3(c:Ct)(fE:Expr->GE)(x:Str):List Expr->GE
 |[]=>bW
 |e::es=>BN c fE x (e::es)
def yp(c:Ct)(fE:Expr->GE)(cpos:Pos)(x:Str)(p:Pos)(name:Str)(apos:Pos)(e:Expr):GE:=if name="append"\/name="extend" then Jl fE (.Name x p) name e apos cpos else if name="count"\/name="index" then yf (lg fE (.Name x p) name [e] apos cpos) (BP fE (.Name x p) name e apos cpos)else lg fE (.Name x p) name [e] apos cpos
def yq(c:Ct)(fE:Expr->GE)(cpos:Pos)(x:Str)(p:Pos)(name:Str)(apos:Pos)(e f:Expr):GE:=if name="get" then(match vP c x with |some kvs=>(if plain e=jp/\plain f=jp/\(apos.endLine == cpos.line)=jp then qm kvs (fE e) (fE f)else bW) |none=>Dz fE (.Name x p) e f apos cpos)else lg fE (.Name x p) name [e,f] apos cpos
def yt(fE:Expr->GE)(cpos:Pos)(ks:List (Option Expr))(vs:List Expr)(dp:Pos)(name:Str)(apos:Pos)(e f:Expr):GE:=if name="get" then Dz fE (.Dict ks vs dp) e f apos cpos else bW
def Tu(c:Ct)(fE:Expr->GE)(cpos:Pos)(x:Str)(p:Pos)(name:Str)(apos:Pos)(as:List Expr):GE:=match as with
 |[]=>Jm fE x p name apos cpos
 |e::es=>(match es with
  |[]=>yp c fE cpos x p name apos e
  |f::r=>(match r with
   |[]=>yq c fE cpos x p name apos e f
   |g::t=>lg fE (.Name x p) name (e::f::g::t) apos cpos))
def Tv(fE:Expr->GE)(cpos:Pos)(ks:List (Option Expr))(vs:List Expr)(dp:Pos)(name:Str)(apos:Pos)(as:List Expr):GE:=match as with
 |[]=>bW
 |e::es=>(match es with
  |[]=>lg fE (.Dict ks vs dp) name [e] apos cpos
  |f::r=>(match r with
   |[]=>yt fE cpos ks vs dp name apos e f
   |g::t=>lg fE (.Dict ks vs dp) name (e::f::g::t) apos cpos))
def Tx(fE:Expr->GE)(cpos:Pos)(o:Expr)(name:Str)(apos:Pos)(as:List Expr):GE:=match as with
 |[]=>bW
 |e::es=>lg fE o name (e::es) apos cpos
def DA(c:Ct)(fE:Expr->GE)(cpos:Pos)(name:Str)(apos:Pos)(as:List Expr):Expr->GE
 |.Name x p=>Tu c fE cpos x p name apos as
 |.Dict ks vs dp=>Tv fE cpos ks vs dp name apos as
 |o=>Tx fE cpos o name apos as
def Tz(c:Ct)(fE:Expr->GE)(cpos:Pos)(as:List Expr):Expr->GE
 |.Name x _=>N3 c fE x as
 |.Attribute o name apos=>DA c fE cpos name apos as o
 |_=>bW
def PX(c:Ct)(fE:Expr->GE)(cpos:Pos)(f:Expr)(as:List Expr)(ks:List Keyword):GE:=match ks with
 |[]=>Tz c fE cpos as f
 |_=>bW
theorem Fx{c:Ct}(G:Good c k X){fE:Expr->GE}(h:∀e,JE X e (fE e))(x:Str)(e:Expr)(es:List Expr)(p pos:Pos):JE X (.Call (.Name x p) (e::es) [] pos) (BN c fE x (e::es)):=by
 unfold BN;by_cases g:okN x=jp/\(e::es).all plain=jp/\c.names.lookup x=bv .globalImplicit
 ·rw[Os g];obtain⟨g1,g2,g3⟩:=g;have hg:Gl X x:=by show X.env.scope.names.lookup x=_;rw[G.sc];exact g3
  have gp:plain e=jp/\es.all plain=true:=by rw[fj,cZ]at g2;exact g2
  have ha:=gw h (e::es) g2;cases e1:c.fns.lookup x with
  |some nF=>
   obtain⟨n,F⟩:=nF;dsimp only;by_cases cf:c.free=jp
   ·rw[Os cf];obtain⟨a,fd,ps,G1,G2,G3,G4⟩:=G.fns x n F e1;exact M9 G1 (G.free cf).1 G2 G3 G4 ha hg (jK g1) (bg gp.1) (eQ gp.2)
   ·rw[OK cf];exact aM
  |none=>
   dsimp only;by_cases e3:c.bl.contains x=jp
   ·rw[Os e3];cases e4:blO c x with
    |none=>exact aM
    |some io=>
     obtain⟨v,op⟩:=io;obtain⟨b1,b2,b3⟩:=Tt (X:=X) G.tab (λz=>(G.free z).2) e4;rcases b3 with ⟨id,rfl⟩ |⟨T,rfl⟩
     ·exact HG b2 hg (G.bl x e3) b1 ha (Je g1) (jK g1) (bg gp.1) (eQ gp.2)
     ·exact ET b2 hg (G.bl x e3) b1 ha (Je g1) (jK g1) (bg gp.1) (eQ gp.2)
   ·rw[OK e3];exact aM
 ·rw[OK g];exact aM
theorem Jo{fE:Expr->GE}(h:∀e,JE X e (fE e))(x name:Str)(e:Expr)(p apos cpos:Pos):JE X (.Call (.Attribute (.Name x p) name apos) [e] [] cpos) (Jl fE (.Name x p) name e apos cpos):=by
 unfold Jl;by_cases g:plain e=jp/\(apos.endLine == cpos.line)=jp
 ·rw[Os g];by_cases n1:name="append"
  ·rw[Os n1];subst n1;exact sG Ig PySem.F.slot_list_append PySem.F.type_list_append (h _) (h e) (bg g.1) g.2
  rw[OK n1];by_cases n2:name="extend"
  ·rw[Os n2];subst n2;exact sG NO PySem.F.slot_list_extend PySem.F.type_list_extend (h _) (h e) (bg g.1) g.2
  rw[OK n2];exact aM
 ·rw[OK g];exact aM
theorem BR{c:Ct}(G:Good c k X){fE:Expr->GE}(h:∀e,JE X e (fE e))(x:Str)(p:Pos)(name:Str)(apos:Pos)(e:Expr)(pos:Pos):JE X (.Call (.Attribute (.Name x p) name apos) [e] [] pos) (yp c fE pos x p name apos e):=by
 unfold yp;by_cases g:name="append"\/name="extend"
 ·rw[Os g];exact Jo h _ _ _ _ _ _
 ·rw[OK g];by_cases g2:name="count"\/name="index"
  ·rw[Os g2];exact Iz (ig h _ _ _ _ _ _) (Fw h _ _ _ _ _ _)
  ·rw[OK g2];exact ig h _ _ _ _ _ _
theorem BS{c:Ct}(G:Good c k X){fE:Expr->GE}(h:∀e,JE X e (fE e))(x:Str)(p:Pos)(name:Str)(apos:Pos)(e f:Expr)(pos:Pos):JE X (.Call (.Attribute (.Name x p) name apos) [e,f] [] pos) (yq c fE pos x p name apos e f):=by
 unfold yq;by_cases g:name="get"
 ·rw[Os g];subst g;cases ed:vP c x with
  |none=>exact zK G h _ rfl _ _ _ _
  |some kvs=>
   dsimp only;by_cases g:plain e=jp/\plain f=jp/\(apos.endLine == pos.line)=jp
   ·rw[Os g];obtain⟨g1,g2,g3⟩:=g;obtain⟨q1,q2,q3⟩:=sP G ed;refine IV (h e) (h f) ⟨rfl,?_,g3,?_⟩ q1 q2 q3
    ·rw[all_plain (es:=[e,f]) (by simp[g1,g2])];rfl
    ·rw[bg g1,bg g2];rfl
   ·rw[OK g];exact aM
 ·rw[OK g];exact ig h _ _ _ _ _ _
theorem BU{c:Ct}(G:Good c k X){fE:Expr->GE}(h:∀e,JE X e (fE e))(ks:List (Option Expr))(vs:List Expr)(dp:Pos)(name:Str)(apos:Pos)(e f:Expr)(pos:Pos):JE X (.Call (.Attribute (.Dict ks vs dp) name apos) [e,f] [] pos) (yt fE pos ks vs dp name apos e f):=by
 unfold yt;by_cases g:name="get"
 ·rw[Os g];subst g;exact zK G h _ rfl _ _ _ _
 ·rw[OK g];exact aM
theorem BV{c:Ct}(G:Good c k X){fE:Expr->GE}(h:∀e,JE X e (fE e))(name:Str)(apos:Pos)(as:List Expr)(o:Expr)(pos:Pos):JE X (.Call (.Attribute o name apos) as [] pos) (DA c fE pos name apos as o):=by
 cases o with
 |Name x p=>
  cases as with
  |nil=>exact Jn h _ _ _ _ _
  |cons e es=>
   cases es with
   |nil=>exact BR G h _ _ _ _ _ _
   |cons f r=>
    cases r with
    |nil=>exact BS G h _ _ _ _ _ _ _
    |cons g t=>exact ig h _ _ _ _ _ _
 |Dict ks vs dp=>
  cases as with
  |nil=>exact aM
  |cons e es=>
   cases es with
   |nil=>exact ig h _ _ _ _ _ _
   |cons f r=>
    cases r with
    |nil=>exact BU G h _ _ _ _ _ _ _ _
    |cons g t=>exact ig h _ _ _ _ _ _
 |_=>
  cases as with
  |nil=>exact aM
  |cons e es=>exact ig h _ _ _ _ _ _
theorem Jp{c:Ct}(G:Good c k X){fE:Expr->GE}(h:∀e,JE X e (fE e))(f:Expr)(as:List Expr)(ks:List Keyword)(pos:Pos):JE X (.Call f as ks pos) (PX c fE pos f as ks):=by
 cases ks with
 |cons a r=>exact aM
 |nil=>
  cases f with
  |Name x p=>
   cases as with
   |nil=>exact aM
   |cons e es=>exact Fx G h _ _ _ _ _
  |Attribute o name apos=>exact BV G h _ _ _ _ _
  |_=>exact aM
def N4:Expr->Bool
 |.Slice .. =>jp
 |_=>kt
def Jq(f:Expr->GE):Option Expr->GO
 |none=>bP
 |some e=>cJ (f e)
theorem sQ(h:∀e,JE X e (f e))(o:Option Expr):JO X o (Jq f o):=by
 cases o with
 |none=>exact MS
 |some e=>exact MT (h e)
def N5(f:Expr->GE)(a:Expr):Expr->GE
 |.Slice lo hi gV _=>bA (f a) (Jq f lo) (Jq f hi)
 |.Slice .. =>bW
 |b=>af aV (f a) (f b)
theorem Jr(h:∀e,JE X e (f e))(a b:Expr)(pos:Pos):JE X (.Subscript a b pos) (N5 f a b):=by
 unfold N5;split
 ·exact E9 (h a) (sQ h _) (sQ h _)
 ·exact aM
 ·rename_i n1 n2;refine XC (h a) (h b) ?_;intro o i;cases b<;>first |rfl |(rename_i lo hi st p;exact(n2 _ _ _ _ rfl).elim)
def TC(f:Expr->GE)(a:Expr):List CmpOp->List Expr->GE
 |[o],[b]=>if ajW o b=kt then af (BM o) (f a) (f b)else bW
 |[o,o'],[b,b']=>if lastMarks [o,o'] [b,b']=kt then j6 (BM o) (BM o') (f a) (f b) (f b')else bW
 |_,_=>bW
theorem TF(hu:X.A.units+64 < cLine)(h:∀e,JE X e (f e))(a:Expr)(os:List CmpOp)(bs:List Expr)(pos:Pos):JE X (.Compare a os bs pos) (TC f a os bs):=by
 unfold TC;split
 ·rename_i o b;by_cases g:ajW o b=kt
  ·rw[Os g];exact Hw (mU hu o) (h a) (h b) g
  ·rw[OK g];exact aM
 ·rename_i o o' b b';by_cases g:lastMarks [o,o'] [b,b']=kt
  ·rw[Os g];exact Hy (mU hu o) (mU hu o') (h a) (h b) (h b') g
  ·rw[OK g];exact aM
 ·exact aM
def TH(f:Expr->GE)(a:Expr):List CmpOp->List Expr->GT
 |[o],[b]=>if ajW o b=kt then aW (af (BM o) (f a) (f b))else nG
 |[o,o'],[b,b']=>if lastMarks [o,o'] [b,b']=kt then aW (j6 (BM o) (BM o') (f a) (f b) (f b'))else nG
 |_,_=>nG
theorem N6(hu:X.A.units+64 < cLine)(h:∀e,JE X e (f e))(a:Expr)(os:List CmpOp)(bs:List Expr)(pos:Pos):JT X (.Compare a os bs pos) (TH f a os bs):=by
 unfold TH;split
 ·rename_i o b;by_cases g:ajW o b=kt
  ·rw[Os g];exact Hx (mU hu o) (h a) (h b) g
  ·rw[OK g];exact oi
 ·rename_i o o' b b';by_cases g:lastMarks [o,o'] [b,b']=kt
  ·rw[Os g];exact Hz (mU hu o) (mU hu o') (h a) (h b) (h b') g
  ·rw[OK g];exact oi
 ·exact oi
def dcX(w:GE->γ)(bad:γ)(g:List CmpOp->List Expr->γ)(c:Ct)(f:Expr->GE)(a:Expr)(neg:Bool)(o:CmpOp)(x:Str)(p:Pos):γ:=match vP c x with
 |some kvs=>w (jJ neg kvs (f a))
 |none=>if c.X6.contains x=jp then(if ajW o (.Name x p)=kt then w (af (vL neg) (f a) (f (.Name x p)))else bad)else g [o] [.Name x p]
def dcN(w:GE->γ)(bad:γ)(g:List CmpOp->List Expr->γ)(c:Ct)(f:Expr->GE)(a:Expr)(x:Str)(p:Pos):CmpOp->γ
 |.In=>dcX w bad g c f a kt .In x p
 |.NotIn=>dcX w bad g c f a jp .NotIn x p
 |o=>g [o] [.Name x p]
def dcC(w:GE->γ)(g:List CmpOp->List Expr->γ)(c:Ct)(f:Expr->GE)(a:Expr)(x:Str)(b:Expr):CmpOp->γ
 |.In=>if c.X6.contains (x++"()")=jp/\ajW .In b=kt then w (af (vL kt) (f a) (f b))else g [.In] [b]
 |o=>g [o] [b]
def AQ(w:GE->γ)(g:List CmpOp->List Expr->γ)(c:Ct)(f:Expr->GE)(a:Expr)(o:CmpOp)(b:Expr):Expr->γ
 |.Name x _=>dcC w g c f a x b o
 |_=>g [o] [b]
def dcB(w:GE->γ)(bad:γ)(g:List CmpOp->List Expr->γ)(c:Ct)(f:Expr->GE)(a:Expr)(o:CmpOp):Expr->γ
 |.Name x p=>dcN w bad g c f a x p o
 |.Call e as ks p=>AQ w g c f a o (.Call e as ks p) e
 |b=>g [o] [b]
def dcL(w:GE->γ)(bad:γ)(g:List CmpOp->List Expr->γ)(c:Ct)(f:Expr->GE)(a:Expr)(os:List CmpOp)(bs:List Expr):γ:=match os with
 |[]=>g [] bs
 |o::os'=>(match os' with
  |o2::r=>g (o::o2::r) bs
  |[]=>(match bs with
   |[]=>g [o] []
   |b::bs'=>(match bs' with
    |[]=>dcB w bad g c f a o b
    |b2::r=>g [o] (b::b2::r))))
theorem Js{w:GE->γ}{bad:γ}{g:List CmpOp->List Expr->γ}{P:List CmpOp->List Expr->γ->Prop}{c:Ct}{o:CmpOp}(h0:∀os bs,P os bs (g os bs))(hb:∀os bs,P os bs bad)
  (hw:lR X (aj1 o) (vL neg))(hc:∀o b op,lR X (aj1 o) op->ajW o b=kt->P [o] [b] (w (af op (f a) (f b))))(hd:∀x p kvs,vP c x=bv kvs->P [o] [.Name x p] (w (jJ neg kvs (f a))))(x:Str)(p:Pos):P [o] [.Name x p] (dcX w bad g c f a neg o x p):=by
 unfold dcX;cases e:vP c x with
 |none=>
  dsimp only;by_cases gd:c.X6.contains x=jp
  ·rw[Os gd];by_cases gm:ajW o (.Name x p)=kt
   ·rw[Os gm];exact hc _ _ _ hw gm
   ·rw[OK gm];exact hb _ _
  ·rw[OK gd];exact h0 _ _
 |some kvs=>exact hd x p kvs e
theorem Jt{w:GE->γ}{bad:γ}{g:List CmpOp->List Expr->γ}{P:List CmpOp->List Expr->γ->Prop}{c:Ct}(hu:X.A.units+64 < cLine)(h0:∀os bs,P os bs (g os bs))(hb:∀os bs,P os bs bad)
  (hc:∀o b op,lR X (aj1 o) op->ajW o b=kt->P [o] [b] (w (af op (f a) (f b))))(hd:∀x p kvs,vP c x=bv kvs->P [.In] [.Name x p] (w (jJ kt kvs (f a)))/\P [.NotIn] [.Name x p] (w (jJ jp kvs (f a))))(os:List CmpOp)(bs:List Expr):P os bs (dcL w bad g c f a os bs):=by
 cases os with
 |nil=>exact h0 _ _
 |cons o os=>
  cases os with
  |cons _ _=>exact h0 _ _
  |nil=>
   cases bs with
   |nil=>exact h0 _ _
   |cons b bs=>
    cases bs with
    |cons _ _=>exact h0 _ _
    |nil=>
     cases b with
     |Name x p=>
      cases o with
      |In=>exact Js h0 hb (IZ hu) hc (λx p kvs e=>(hd x p kvs e).1) x p
      |NotIn=>exact Js h0 hb (Fn hu) hc (λx p kvs e=>(hd x p kvs e).2) x p
      |_=>exact h0 _ _
     |Call e as ks p=>
      cases e with
      |Name x q=>
       cases o with
       |In=>
        show P _ _ (if _ then _ else _);by_cases gd:c.X6.contains (x++"()")=jp/\ajW .In (.Call (.Name x q) as ks p)=kt
        ·rw[Os gd];exact hc _ _ _ (IZ hu) gd.2
        ·rw[OK gd];exact h0 _ _
       |_=>exact h0 _ _
      |_=>exact h0 _ _
     |_=>exact h0 _ _
def X9(c:Ct)(f:Expr->GE)(a:Expr)(os:List CmpOp)(bs:List Expr):GE:=dcL (λx=>x) bW (TC f a) c f a os bs
theorem N7{c:Ct}(G:Good c k X)(h:∀e,JE X e (f e))(a:Expr)(os:List CmpOp)(bs:List Expr)(pos:Pos):JE X (.Compare a os bs pos) (X9 c f a os bs) :=
 Jt (P:=λos bs g=>JE X (.Compare a os bs pos) g) (w:=λx=>x) G.un (λ_ _=>TF G.un h a _ _ pos) (λ_ _=>aM) (λo b op ho hm=>Hw ho (h a) (h b) hm) (λx p kvs e=>by obtain⟨g1,g2,g3⟩:=sP G e;exact⟨NC (h a) g1 g2 g3,BF (h a) g1 g2 g3⟩) os bs
def PY(c:Ct)(f:Expr->GE)(a:Expr)(os:List CmpOp)(bs:List Expr):GT:=dcL aW nG (TH f a) c f a os bs
theorem Ju{c:Ct}(G:Good c k X)(h:∀e,JE X e (f e))(a:Expr)(os:List CmpOp)(bs:List Expr)(pos:Pos):JT X (.Compare a os bs pos) (PY c f a os bs) :=
 Jt (P:=λos bs g=>JT X (.Compare a os bs pos) g) (w:=aW) G.un (λ_ _=>N6 G.un h a _ _ pos) (λ_ _=>oi) (λo b op ho hm=>Hx ho (h a) (h b) hm) (λx p kvs e=>by obtain⟨g1,g2,g3⟩:=sP G e;exact⟨ND (h a) g1 g2 g3,BG (h a) g1 g2 g3⟩) os bs
def fD(f:Expr->GE):Expr->GE
 |.Dict [] [] _=>XW
 |e=>f e
def vQ(c:Ct):Expr->Bool
 |.Name x _=>c.dts.contains x||c.dks.contains x
 |_=>kt
def TJ(c:Ct)(f:Expr->GE):Expr->Expr->GE
 |.Name x p,b=>(match vP c x with |some kvs=>if N4 b=kt then pA kvs (f b)else bW |none=>N5 f (.Name x p) b)
 |a,b=>N5 f a b
theorem N8{c:Ct}(G:Good c k X)(h:∀e,JE X e (f e))(a b:Expr)(pos:Pos):JE X (.Subscript a b pos) (TJ c f a b):=by
 unfold TJ;split
 ·rename_i x p;cases e:vP c x with
  |none=>dsimp only;exact Jr h _ b pos
  |some kvs=>
   dsimp only;by_cases g:N4 b=kt
   ·rw[Os g];obtain⟨g1,g2,g3⟩:=sP G e;refine NG (h b) ?_ g1 g2 g3;intro o i;cases b<;>first |rfl |cases g
   ·rw[OK g];exact aM
 ·exact Jr h _ b pos
def pairsOf(f:Expr->GE):List (Option Expr)->List Expr->Option (List (GE×GE))
 |[],[]=>bv []
 |some k::ks,v::vs=>(match pairsOf f ks vs with |some r=>bv ((f k,f v)::r) |none=>gV)
 |_,_=>gV
theorem uA{f:Expr->GE}(h:∀e,JE X e (f e)){pos:Pos}:∀{ks:List (Option Expr)}{vs:List Expr}{gs:List (GE×GE)},pairsOf f ks vs=bv gs->PL X pos ks vs gs
 |[],[],gs,e=>by cases e;exact .nil
 |some k::ks,v::vs,gs,e=>by
  unfold pairsOf at e;cases q:pairsOf f ks vs with
  |none=>rw[q]at e;cases e
  |some r=>rw[q]at e;cases e;exact .cons (h k) (h v) (uA h q)
 |[],_::_,gs,e=>by cases e
 |none::_,_,gs,e=>by unfold pairsOf at e;cases e
 |some _::_,[],gs,e=>by cases e
def X_:List (Option Expr)->Bool
 |some (.Tuple ..)::_=>jp
 |_=>kt
def X'(c:Ct):List (Option Expr)->Bool
 |some (.Name x _)::_=>c.dts.contains x
 |_=>kt
def Jv(b:Bool)(f:Expr->GE)(ks:List (Option Expr))(vs:List Expr):GE:=if(!ks.isEmpty&&decide (ks.length<=15))=jp then(match pairsOf f ks vs with |some gs=>if b=jp then bW else pz gs |none=>bW)else bW
theorem DB(hu:X.A.units+1 < cLine)(b:Bool)(h:∀e,JE X e (f e))(ks:List (Option Expr))(vs:List Expr)(pos:Pos):JE X (.Dict ks vs pos) (Jv b f ks vs):=by
 unfold Jv;by_cases g:(!ks.isEmpty&&decide (ks.length<=15))=jp
 ·rw[Os g];simp only[cZ,decide_eq_true_eq]at g;cases e:pairsOf f ks vs with
  |none=>exact aM
  |some gs=>
   dsimp only;by_cases t:b=jp
   ·rw[Os t];exact aM
   ·rw[OK t];exact NB (uA h e) (by intro z;subst z;simp at g) g.2
 ·rw[OK g];exact aM
def TK(f:Expr->GE):List Expr->GE
 |[]=>bW
 |[a]=>f a
 |a::b::r=>cT (f a) (TK f (b::r))
def orV(f:Expr->GE):List Expr->GE
 |[]=>bW
 |[a]=>f a
 |a::b::r=>HB (f a) (orV f (b::r))
theorem DC{f:Expr->GE}(h:∀e,JE X e (f e))(pos:Pos):∀es,JE X (.BoolOp .And es pos) (TK f es)
 |[]=>aM
 |[a]=>HC (h a)
 |a::b::r=>R0 (h a) (DC h pos (b::r))
theorem Jw{f:Expr->GE}(h:∀e,JE X e (f e))(pos:Pos):∀es,JE X (.BoolOp .Or es pos) (orV f es)
 |[]=>aM
 |[a]=>HC (h a)
 |a::b::r=>Xl (h a) (Jw h pos (b::r))
def TL(f:Expr->GT):List Expr->GT
 |[]=>nG
 |[a]=>f a
 |a::b::r=>og (f a) (TL f (b::r))
def orT(f:Expr->GT):List Expr->GT
 |[]=>nG
 |[a]=>f a
 |a::b::r=>HA (f a) (orT f (b::r))
theorem Jx:JW X e nG:=λρ st σ H m Q S R p=>ab p
theorem DD{f:Expr->GT}(h:∀e,JT X e (f e))(pos:Pos):∀es,JW X (.BoolOp .And es pos) (TL f es)
 |[]=>Jx
 |[a]=>MK (h a)
 |a::b::r=>RY (h a) (DD h pos (b::r))
theorem Jy{f:Expr->GT}(h:∀e,JT X e (f e))(pos:Pos):∀es,JW X (.BoolOp .Or es pos) (orT f es)
 |[]=>Jx
 |[a]=>RX (h a)
 |a::b::r=>Xk (h a) (Jy h pos (b::r))
def unG(f:Expr->GE):UnaryOp->Expr->GE
 |.USub,a=>MJ o_ (f a)
 |.Not,a=>zg (f a)
 |_,_=>bW
def Fy(f:Expr->GE)(g:GA->GE)(es:List Expr):GE:=if es.all plain=jp then g (ku f es)else bW
def isSet:Expr->Bool
 |.Set .. =>jp
 |_=>kt
theorem sR(h:isSet e=kt)(x:ajU):aj2 e env x=pure x:=by cases e<;>first |rfl |cases h
def mV(c:Ct)(x:Str):Bool:=decide (x="range")&&decide (c.names.lookup x=bv .globalImplicit)&&c.bl.contains x&&(match c.fns.lookup x with |some _=>kt |none=>jp)
theorem zL{c:Ct}(G:Good c k X)(y:Str)(hy:mV c y=jp):y="range"/\Gl X y/\X.mg y=none:=by unfold mV at hy;simp only[cZ,decide_eq_true_eq]at hy;refine⟨hy.1.1.1,?_,G.bl y hy.1.2⟩;show X.env.scope.names.lookup y=_;rw[G.sc];exact hy.1.1.2
def Jz(c:Ct)(f:Expr->GE):Expr->GI
 |.Call (.Name x p) [a] [] q=>if mV c x=jp then(if plain a=jp then By (ku f [a])else Iv)else jl (f (.Call (.Name x p) [a] [] q))
 |e=>if isSet e=kt then jl (f e)else Iv
theorem DE{c:Ct}(G:Good c k X)(h:∀e,JE X e (f e))(tg e:Expr):JI X tg e (Jz c f e):=by
 unfold Jz;split
 ·rename_i y p a q;by_cases g:mV c y=jp
  ·rw[Os g];obtain⟨rfl,g2,g3⟩:=zL G y g;by_cases ga:plain a=jp
   ·rw[Os ga];exact XM g2 g3 (gw h [a] (by simp[ga])) (bg ga)
   ·rw[OK ga];exact Iy
  ·rw[OK g];exact Ds (h _)
 ·by_cases g:isSet e=kt
  ·rw[Os g];exact Ds (h _)
  ·rw[OK g];exact Iy
def N9(c:Ct)(x:Str):Bool:=decide (x="enumerate")&&decide (c.names.lookup x=bv .globalImplicit)&&c.bl.contains x&&(match c.fns.lookup x with |some _=>kt |none=>jp)
def rb(c:Ct):List (Str×ajR)->Option i8
 |[]=>bv []
 |(n,.free)::r=>if c.names.lookup n=bv .cell\/c.names.lookup n=bv .free then(match qq n c.N,rb c r with |some i,bv l=>bv ((n,i)::l) |_,_=>gV)else gV
 |_::r=>rb c r
theorem uB{c:Ct}:∀{ns:List (Str×ajR)}{cs:i8},rb c ns=bv cs->(∀y∈ns,y.2= .free->c.names.lookup y.1=bv .cell\/c.names.lookup y.1=bv .free)/\∀p∈cs,(p.1,gn)∈ns/\c.N[p.2]? =bv p.1
 |[],cs,h=>by cases h;exact⟨(λ_ z=>by cases z),(λ_ z=>by cases z)⟩
 |(n,k)::r,cs,h=>by
  unfold rb at h;split at h
  ·cases ‹_::_=[]›
  ·rename_i n' r' he;cases he;by_cases g:c.names.lookup n=bv .cell\/c.names.lookup n=bv .free
   ·rw[Os g]at h;cases e1:qq n c.N with
    |none=>rw[e1]at h;cases h
    |some i=>
     cases e2:rb c r with
     |none=>rw[e1,e2]at h;cases h
     |some l=>
      rw[e1,e2]at h;cases h;obtain⟨q1,q2⟩:=uB e2;refine⟨λy hy e=>?_,λp hp=>?_⟩
      ·rcases List.mem_cons.mp hy with z |z
       ·subst z;exact g
       ·exact q1 y z e
      ·rcases List.mem_cons.mp hp with z |z
       ·subst z;exact⟨aY,kx e1⟩
       ·exact⟨bw _ (q2 p z).1,(q2 p z).2⟩
   ·rw[OK g]at h;cases h
  ·rename_i kk r' hk he;cases he;obtain⟨q1,q2⟩:=uB h;refine⟨λy hy e=>?_,λp hp=>⟨bw _ (q2 p hp).1,(q2 p hp).2⟩⟩;rcases List.mem_cons.mp hy with z |z
   ·subst z;have e':k= .free:=e;subst e';exact(hk n rfl).elim
   ·exact q1 y z e
def BW(c:Ct)(ns:List (Str×ajR)):List (Str×ajR):=ns.map λ(n,k)=>if(k == .free&&c.names.lookup n == bv .cell)then(n,.cell)else(n,k)
def JB:ScopeKind->Bool
 |.function=>jp
 |_=>kt
def mW(scope:Scope)(x:Str):Bool:=JB scope.kind&&scope.names.all (λy=>decide (scope.names.lookup y.1=bv y.2))&&scope.names.all (λy=>decide (y.2≠.cell))&&decide (scope.names.lookup x=bv .local)
def Ct.block(c:Ct)(scope:Scope)(x:Str)(cs:i8):Ct:={ c with N:=x::cs.map (·.1),names:=BW c scope.names,loop:=kt,top:=kt }
def DF(c:Ct)(sub:Ct->(Expr->GE)×(Expr->GT))(f:Expr->GE)(elt:Expr)(x:Str)(iter:Expr)(TM:Ct->GT)(scope:Scope):GE :=
 if mW scope x=jp/\c.free=jp/\isSet iter=kt then(match rb c scope.names with
  |some cs=>if(x::cs.map (·.1)).Nodup then jk cs (Jz c f iter) (TM (c.block scope x cs)) ((sub (c.block scope x cs)).1 elt)else bW
  |none=>bW)else bW
def acP(c:Ct)(sub:Ct->(Expr->GE)×(Expr->GT))(f:Expr->GE)(elt:Expr)(scope:Scope)(iter:Expr)(ifs:List Expr):Expr->GE
 |.Name x _=>(match ifs with
  |[]=>DF c sub f elt x iter (λ_=>λ_ st=> .ok jp st) scope
  |_=>bW)
 |_=>bW
def coG(c:Ct)(sub:Ct->(Expr->GE)×(Expr->GT))(f:Expr->GE)(elt:Expr)(scope:Scope)(gs:List Comprehension):GE:=match gs with
 |[]=>bW
 |g::r=>(match r with
  |[]=>if g.is_async=0 then acP c sub f elt scope g.iter g.ifs g.target else bW
  |_=>bW)
theorem uC{c:Ct}(G:Good c k X)(hs:mW scope x=jp)(nd:(x::cs.map (·.1)).Nodup)(C:ajO)(s0:ajT)(H0:Hp)(fp:List ajO)(pn:List (ajO×Obj))(E:ajU->ajT->Prop)(hA:E2 X.A H0):
  Good (c.block scope x cs) k (iW X scope x cs C s0 H0 fp pn E):=by
 have hk:scope.kind= .function:=by
  have:JB scope.kind=true:=by unfold mW at hs;simp only[cZ]at hs;exact hs.1.1.1
  revert this;cases scope.kind<;>intro z<;>first |rfl |cases z
 refine⟨rfl,?_,nd,G.un,G.free,(λz=>by cases z),G.cst,G.bl,G.fns,(λz=>by cases z),(λz=>by cases z),hk,G.tab,G.cls,G.Dx,G.wQ,⟨G.rm.d,G.rm.u⟩,G.Jc,⟨G.x.lam,G.x.LO,G.x.Wb,(λz=>by cases z),G.x.sk,G.x.Wc,G.x.ins⟩,G.fr,hA⟩;show(relabel scope X.env).names=BW c scope.names;unfold relabel BW Env.kindOf;rw[G.kind,G.sc];simp
theorem JC{c:Ct}(G:Good c k X)(hs:mW scope x=jp)(hcs:rb c scope.names=bv cs)(nd:(x::cs.map (·.1)).Nodup):eT X scope x cs:=by
 have hs:(JB scope.kind=jp/\∀y∈scope.names,scope.names.lookup y.1=bv y.2)/\((scope.names.filter λy=>y.2 == .cell)=[]\/(scope.names.filter λy=>y.2 == .cell)=[(x,.cell)])/\(scope.names.lookup x=bv .local\/scope.names.lookup x=bv .cell):=by unfold mW at hs;simp only[cZ,decide_eq_true_eq,oq]at hs;exact⟨hs.1.1,.inl (List.filter_eq_nil_iff.mpr λy hy=>by simpa using hs.1.2 y hy),.inl hs.2⟩
 obtain⟨⟨h1,h2⟩,h3,h4⟩:=hs;have hk:scope.kind= .function:=by revert h1;cases scope.kind<;>intro z<;>first |rfl |cases z
 obtain⟨q1,q2⟩:=uB hcs;refine⟨hk,h2,h3,h4,λy hy e=>?_,λp hp=>⟨by rw[G.N];exact(q2 p hp).2,h2 _ (q2 p hp).1⟩,nd⟩;show X.env.scope.names.lookup y.1=_\/X.env.scope.names.lookup y.1=_;rw[G.sc];exact q1 y hy e
def TN(X:Cx)(e:Expr)(g:GE):Prop:=∀(i:Nat)(y:Str)(py spos:Pos),X.N.Nodup->X.N[i]? =bv y->Loc X.env.scope y->(X.fn y=jp\/X.env.scope.names.lookup y=bv .local)->JS X (.Assign [.Name y py] e spos) (aO i g)
theorem Fz{s:Stmt}:JS X s (aO i bW):=λρ st σ H m D S R p=>ab p
theorem gy:TN X e bW:=λi y py spos _ _ _ _=>Fz
theorem DG{c:Ct}(G:Good c k X){sub:Ct->(Expr->GE)×(Expr->GT)}(hb:∀c X,Good c k X->(∀e,JE X e ((sub c).1 e))/\∀e,JT X e ((sub c).2 e))(h:∀e,JE X e (f e))(elt:Expr)(scope:Scope)(gens:List Comprehension)(pos:Pos):
  JE X (.ListComp elt gens scope pos) (coG c sub f elt scope gens)/\TN X (.ListComp elt gens scope pos) (coG c sub f elt scope gens):=by
 have core:∀(x:Str)(px:Pos)(iter:Expr)(ifs:List Expr)(TM:Ct->GT),(∀c X,Good c k X->Sz X ifs (TM c))->
   JE X (.ListComp elt [⟨.Name x px,iter,ifs,0⟩] scope pos) (DF c sub f elt x iter TM scope)/\TN X (.ListComp elt [⟨.Name x px,iter,ifs,0⟩] scope pos) (DF c sub f elt x iter TM scope):=by
  intro x px iter ifs TM hg;unfold DF;by_cases g:mW scope x=jp/\c.free=jp/\isSet iter=kt
  ·rw[Os g];obtain⟨g1,g2,g3⟩:=g;cases ec:rb c scope.names with
   |none=>exact⟨aM,gy⟩
   |some cs=>
    dsimp only;by_cases nd:(x::cs.map (·.1)).Nodup
    ·rw[Os nd];have CS:=JC G g1 ec nd;have hE:∀C s0 H0 fp pn E,E2 X.A H0->JE (iW X scope x cs C s0 H0 fp pn E) elt ((sub (c.block scope x cs)).1 elt):=λC s0 H0 fp pn E z=>(hb _ _ (uC G g1 nd C s0 H0 fp pn E z)).1 elt;have hT:∀C s0 H0 fp pn E,E2 X.A H0->Sz (iW X scope x cs C s0 H0 fp pn E) ifs (TM (c.block scope x cs)):=λC s0 H0 fp pn E z=>hg _ _ (uC G g1 nd C s0 H0 fp pn E z);exact⟨Dp G.fr CS (zx (G.free g2).2) G.hd (DE G h _ iter).y hE hT (sR g3),λi y py spos hN hi hl hf=>Nl i hN G.fr CS (zx (G.free g2).2) G.hd (DE G h _ iter).y hE hT (sR g3) hi hl hf⟩
    ·rw[OK nd];exact⟨aM,gy⟩
  ·rw[OK g];exact⟨aM,gy⟩
 cases gens with
 |nil=>exact⟨aM,gy⟩
 |cons g r=>
  cases r with
  |cons _ _=>exact⟨aM,gy⟩
  |nil=>
   obtain⟨tg,iter,ifs,as⟩:=g;unfold coG;dsimp only;by_cases e:as=0
   ·rw[Os e];subst e;cases tg with
    |Name x px=>
     cases ifs with
     |nil=>exact core _ _ _ _ _ λ_ _ _=>Nk
     |cons _ _=>exact⟨aM,gy⟩
    |_=>exact⟨aM,gy⟩
   ·rw[OK e];exact⟨aM,gy⟩
def Ya(f:Expr->GE):Expr->GE
 |.FormattedValue e k gV _=>if k= -1 then AV (f e)else bW
 |e=>f e
theorem JD(h:∀e,JE X e (f e))(e:Expr):JE X e (Ya f e):=by
 unfold Ya;split
 ·rename_i e k p;by_cases g:k= -1
  ·rw[Os g,g];exact X0 (h e)
  ·rw[OK g];exact aM
 ·exact h _
def fsG(f:Expr->GE):List Expr->GE
 |[]=>bW
 |[e]=>Ya f e
 |e1::e2::es=>Wa ((e1::e2::es).map (Ya f))
theorem DH{f:Expr->GE}(h:∀e,JE X e (f e)):∀es:List Expr,V' X es (es.map (Ya f))
 |[]=> .nil
 |e::es=> .cons (JD h e) (DH h es)
theorem TQ(h:∀e,JE X e (f e))(es:List Expr)(p:Pos):JE X (.JoinedStr es p) (fsG f es):=by
 match es with
 |[]=>exact aM
 |[e]=>exact S8 (JD h e)
 |e1::e2::es=>exact X1 (DH h _)
def cI3(c:Ct)(fE:Expr->GE)(d:GE)(x:Str)(e:Expr)(es:List Expr):GE:=match c.it.ini.lookup x with
 |some nF=>if okN x=jp/\(e::es).all plain=jp/\c.names.lookup x=bv .globalImplicit/\c.free=jp then zI x nF.1 nF.2 (ku fE (e::es))else bW
 |none=>d
def cI2(c:Ct)(fE:Expr->GE)(d:GE)(pos:Pos)(o:Expr)(name:Str)(apos:Pos)(e:Expr)(es:List Expr):GE:=match o with
 |.Name x p=>(match c.it.yo.lookup name with
  |some nF=>if(e::es).all plain=jp/\c.free=jp/\(e::es).length < 20/\(apos.endLine == pos.line)=jp then gM c.it.c name nF.1 nF.2 (fE (.Name x p)) (ku fE (e::es))else bW
  |none=>d)
 |_=>d
def cI0(c:Ct)(fE:Expr->GE)(d:GE)(pos:Pos)(o:Expr)(name:Str)(apos:Pos):GE:=match o with
 |.Name x p=>(match c.it.yo.lookup name with
  |some nF=>if c.free=jp/\(apos.endLine == pos.line)=jp then gM c.it.c name nF.1 nF.2 (fE (.Name x p)) ag else bW
  |none=>d)
 |_=>d
def cI1(c:Ct)(fE:Expr->GE)(d:GE)(pos:Pos)(f:Expr)(as:List Expr)(ks:List Keyword):GE:=match ks with
 |[]=>(match as with
  |e::es=>(match f with
   |.Attribute o name apos=>cI2 c fE d pos o name apos e es
   |.Name x _=>cI3 c fE d x e es
   |_=>d)
  |[]=>(match f with
   |.Attribute o name apos=>cI0 c fE d pos o name apos
   |_=>d))
 |_=>d
theorem TR{c:Ct}(G:Good c k X){fE:Expr->GE}(h:∀e,JE X e (fE e))(x:Str)(p:Pos)(e:Expr)(es:List Expr)(pos:Pos)(hd:JE X (.Call (.Name x p) (e::es) [] pos) d):JE X (.Call (.Name x p) (e::es) [] pos) (cI3 c fE d x e es):=by
 unfold cI3;cases q:c.it.ini.lookup x with
 |some nF=>
  obtain⟨n,F⟩:=nF;dsimp only;by_cases g:okN x=jp/\(e::es).all plain=jp/\c.names.lookup x=bv .globalImplicit/\c.free=jp
  ·rw[Os g];obtain⟨g1,g2,g3,g4⟩:=g;have gp:plain e=jp/\es.all plain=true:=by rw[fj,cZ]at g2;exact g2
   exact NY (G.x.ins.ini x n F q) (G.free g4).1 (by show X.env.scope.names.lookup x=_;rw[G.sc];exact g3) (gw h (e::es) g2) (jK g1) (bg gp.1) (eQ gp.2)
  ·rw[OK g];exact aM
 |none=>dsimp only;exact hd
theorem TU{c:Ct}(G:Good c k X){fE:Expr->GE}(h:∀e,JE X e (fE e))(o:Expr)(name:Str)(apos:Pos)(e:Expr)(es:List Expr)(pos:Pos)(hd:JE X (.Call (.Attribute o name apos) (e::es) [] pos) d):JE X (.Call (.Attribute o name apos) (e::es) [] pos) (cI2 c fE d pos o name apos e es):=by
 unfold cI2;cases o with
 |Name x p=>
  dsimp only;cases q:c.it.yo.lookup name with
  |some nF=>
   obtain⟨n,F⟩:=nF;dsimp only;by_cases g:(e::es).all plain=jp/\c.free=jp/\(e::es).length < 20/\(apos.endLine == pos.line)=jp
   ·rw[Os g];obtain⟨g2,g4,g5,g6⟩:=g;have gp:plain e=jp/\es.all plain=true:=by rw[fj,cZ]at g2;exact g2
    refine Ts (G.x.ins.yo name n F q) (G.free g4).1 (h _) (gw h (e::es) g2) (bg gp.1) (eQ gp.2) rfl ?_ g6;rw[all_plain g2];show(jp&&jp&&decide ((e::es).length+0+0 < 30))=jp;rw[decide_eq_true (by omega)];rfl
   ·rw[OK g];exact aM
  |none=>exact hd
 |_=>exact hd
theorem TV{c:Ct}(G:Good c k X){fE:Expr->GE}(h:∀e,JE X e (fE e))(o:Expr)(name:Str)(apos pos:Pos)(hd:JE X (.Call (.Attribute o name apos) [] [] pos) d):JE X (.Call (.Attribute o name apos) [] [] pos) (cI0 c fE d pos o name apos):=by
 unfold cI0;cases o with
 |Name x p=>
  dsimp only;cases q:c.it.yo.lookup name with
  |some nF=>
   dsimp only;by_cases g:c.free=jp/\(apos.endLine == pos.line)=jp
   ·rw[Os g];exact NW (G.x.ins.yo name _ _ q) (G.free g.1).1 (h _) rfl g.2
   ·rw[OK g];exact aM
  |none=>exact hd
 |_=>exact hd
theorem TX{c:Ct}(G:Good c k X){fE:Expr->GE}(h:∀e,JE X e (fE e))(f:Expr)(as:List Expr)(ks:List Keyword)(pos:Pos)(hd:JE X (.Call f as ks pos) d):JE X (.Call f as ks pos) (cI1 c fE d pos f as ks):=by
 unfold cI1;cases ks with
 |cons _ _=>exact hd
 |nil=>
  cases as with
  |nil=>
   cases f with
   |Attribute o name apos=>exact TV G h o name apos pos hd
   |_=>exact hd
  |cons e es=>
   cases f with
   |Attribute o name apos=>exact TU G h o name apos e es pos hd
   |Name x p=>exact TR G h x p e es pos hd
   |_=>exact hd
def TY(c:Ct)(f:Expr->GE)(o:Expr)(fl:Str):GE:=match o with
 |.Name x p=>if c.it.own.contains fl=jp then vM c.it.c fl (f (.Name x p))else bW
 |_=>bW
theorem N_{c:Ct}(G:Good c k X)(h:∀e,JE X e (f e))(o:Expr)(fl:Str)(p:Pos):JE X (.Attribute o fl p) (TY c f o fl):=by
 unfold TY;cases o with
 |Name x q=>
  dsimp only;by_cases g:c.it.own.contains fl=jp
  ·rw[Os g];exact Tq (h _) rfl (G.x.ins.own fl g)
  ·rw[OK g];exact aM
 |_=>exact aM
def JF(c:Ct)(sub:Ct->(Expr->GE)×(Expr->GT))(f:Expr->GE)(t:Expr->GT):Expr->GE
 |.Name x _=>Ji c x
 |.Constant k _ _=>Jk k
 |.BinOp a o b _=>af (X8 o) (f a) (f b)
 |.UnaryOp o a _=>unG f o a
 |.BoolOp .And es _=>TK f es
 |.BoolOp .Or es _=>orV f es
 |.Compare a os bs _=>X9 c f a os bs
 |.IfExp q a b _=>vI (t q) (f a) (f b)
 |.Tuple es _ _=>Fy f dA es
 |.List es _=>Fy f b8 es
 |.Subscript a b _=>TJ c f a b
 |.Dict [] [] _=>PM
 |.Dict ks vs _=>Jv (X_ ks||X' c ks) f ks vs
 |.Call g as ks p=>cI1 c f (PX c f p g as ks) p g as ks
 |.Attribute o fl _=>TY c f o fl
 |.ListComp elt gens scope _=>coG c sub f elt scope gens
 |.JoinedStr es _=>fsG f es
 |_=>bW
def stepT(c:Ct)(f:Expr->GE)(t:Expr->GT):Expr->GT
 |.UnaryOp .Not a _=>pb (t a)
 |.BoolOp .And es _=>TL t es
 |.BoolOp .Or es _=>orT t es
 |.Compare a os bs _=>PY c f a os bs
 |.Name x p=>gK (f (.Name x p))
 |.Call g as ks p=>gK (f (.Call g as ks p))
 |.Subscript a b p=>gK (f (.Subscript a b p))
 |.Constant k j p=>gK (f (.Constant k j p))
 |.BinOp a o b p=>gK (f (.BinOp a o b p))
 |_=>nG
theorem zM{c:Ct}(G:Good c k X){sub:Ct->(Expr->GE)×(Expr->GT)}(hb:∀k c X,Good c k X->(∀e,JE X e ((sub c).1 e))/\∀e,JT X e ((sub c).2 e))(h:∀e,JE X e (f e))(ht:∀e,JT X e (t e))(e:Expr):JE X e (JF c sub f t e):=by
 have hu:X.A.units+64 < cLine:=G.un;cases e with
 |Name x p=>exact Jj G x p
 |Constant v j p=>exact Fp v j p
 |BinOp a o b p=>exact RU (N2 o) (h a) (h b)
 |UnaryOp o a p=>
  cases o with
  |USub=>exact RV (h a)
  |Not=>exact R4 (h a)
  |_=>exact aM
 |BoolOp o es p=>
  cases o with
  |And=>exact DC h p es
  |Or=>exact Jw h p es
 |Compare a os bs p=>exact N7 G h a os bs p
 |IfExp q a b p=>exact Xm (ht q) (h a) (h b)
 |Tuple es j p=>
  show JE X _ (Fy f dA es);unfold Fy;by_cases g:es.all plain=jp
  ·rw[Os g];exact R6 (gw h es g)
  ·rw[OK g];exact aM
 |List es p=>
  show JE X _ (Fy f b8 es);unfold Fy;by_cases g:es.all plain=jp
  ·rw[Os g];exact R7 (gw h es g)
  ·rw[OK g];exact aM
 |Subscript a b p=>exact N8 G h a b p
 |Dict ks vs p=>
  cases ks with
  |cons k ks=>exact DB (by have:=G.un;omega) _ h (k::ks) vs p
  |nil=>
   cases vs with
   |nil=>exact NH
   |cons v vs=>exact DB (by have:=G.un;omega) (X_ []||X' c []) h [] (v::vs) p
 |Call g as ks p=>exact TX G h g as ks p (Jp G h g as ks p)
 |Attribute o fl p=>exact N_ G h o fl p
 |ListComp elt gens scope p=>exact(DG G (hb k) h elt scope gens p).1
 |JoinedStr es p=>exact TQ h es p
 |_=>exact aM
def JG:Expr->Bool
 |.ListComp .. =>jp
 |.SetComp .. =>jp
 |.DictComp .. =>jp
 |.Set .. =>jp
 |_=>kt
theorem DI{t:Option Expr}(h:JG e=kt):swapsWith e t n env=pure false:=by cases e<;>first |rfl |cases h
theorem JH{i:Expr}:swapsWith e (bv (.Subscript o i p)) n env=pure false:=by cases e<;>rfl
theorem JJ{c:Ct}(G:Good c k X){sub:Ct->(Expr->GE)×(Expr->GT)}(hb:∀k c X,Good c k X->(∀e,JE X e ((sub c).1 e))/\∀e,JT X e ((sub c).2 e))(h:∀e,JE X e (f e))(ht:∀e,JT X e (t e))(e:Expr):TN X e (JF c sub f t e):=by
 by_cases g:JG e=kt
 ·exact λi y py spos hN hi hl hf=>HM i hN (zM G hb h ht e) hi hl (DI g) hf
 ·cases e with
  |ListComp elt gens scope p=>exact(DG G (hb k) h elt scope gens p).2
  |SetComp=>exact gy
  |DictComp=>exact gy
  |Set=>exact gy
  |_=>exact absurd rfl g
theorem JK{c:Ct}(G:Good c k X)(h:∀e,JE X e (f e))(ht:∀e,JT X e (t e))(e:Expr):JT X e (stepT c f t e):=by
 have hu:X.A.units+64 < cLine:=G.un;cases e with
 |UnaryOp o a p=>
  cases o with
  |Not=>exact RZ (ht a)
  |_=>exact oi
 |BoolOp o es p=>
  cases o with
  |And=>exact(DD ht p es).jt
  |Or=>exact(Jy ht p es).jt
 |Compare a os bs p=>exact Ju G h a os bs p
 |Name x p=>exact t6 (h _) (λ_=>rfl)
 |Call g as ks p=>exact t6 (h _) (λ_=>rfl)
 |Subscript a b p=>exact t6 (h _) (λ_=>rfl)
 |Constant v j p=>exact t6 (h _) (λ_=>rfl)
 |BinOp a o b p=>exact t6 (h _) (λ_=>rfl)
 |_=>exact oi
end
def nI:Nat->Ct->(Expr->GE)×(Expr->GT)
 | 0,_=>(λ_=>bW,λ_=>nG)
 |n+1,c=>(JF c (nI n) (nI n c).1 (nI n c).2,stepT c (nI n c).1 (nI n c).2)
variable{c:Ct}{gb:GS}
section
variable {X:Cx}
theorem f9:∀(n:Nat)(k:Nat)(c:Ct)(X:Cx),Good c k X->(∀e,JE X e ((nI n c).1 e))/\∀e,JT X e ((nI n c).2 e)
 | 0,_,_,_,_=>⟨λ_=>aM,λ_=>oi⟩
 |n+1,k,c,X,G=>⟨λe=>zM G (λk c X G=>f9 n k c X G) (f9 n k c X G).1 (f9 n k c X G).2 e,λe=>JK G (f9 n k c X G).1 (f9 n k c X G).2 e⟩
theorem JL:∀(n:Nat)(c:Ct)(X:Cx),Good c k X->∀e,TN X e ((nI n c).1 e)
 | 0,_,_,_,_=>gy
 |n+1,c,X,G,e=>JJ G (λk c X G=>f9 n k c X G) (f9 n k c X G).1 (f9 n k c X G).2 e
def slot(c:Ct)(x:Str):Option Nat:=if c.names.lookup x=bv .local\/(c.names.lookup x=bv .cell/\c.top=jp)then qq x c.N else gV
theorem yu(G:Good c k X)(h:slot c x=bv i):X.N[i]? =bv x/\(Loc X.env.scope x/\(X.fn x=jp\/X.env.scope.names.lookup x=bv .local)):=by
 unfold slot at h;by_cases e:c.names.lookup x=bv .local\/(c.names.lookup x=bv .cell/\c.top=jp)
 ·rw[Os e]at h;refine⟨by rw[G.N];exact kx h,?_⟩;rcases e with e |⟨e,e2⟩
  ·have q:X.env.scope.names.lookup x=bv .local:=by rw[G.sc];exact e
   exact⟨.inl q,.inr q⟩
  ·have q:X.env.scope.names.lookup x=bv .cell:=by rw[G.sc];exact e
   exact⟨.inr q,.inl (G.fn e2 x)⟩
 ·rw[OK e]at h;cases h
def slots(c:Ct):List Expr->Option (List Nat)
 |[]=>bv []
 |.Name x _::es=>(match slot c x,slots c es with |some i,bv is=>bv (i::is) |_,_=>gV)
 |_=>gV
theorem N'{f:Str}:swapsWith e (bv (.Attribute o f p)) n env=pure false:=by cases e<;>rfl
def TZ(c:Ct)(f:Expr->GE)(v o:Expr)(fl:Str):GS:=if c.it.own.contains fl=jp then ra c.it.c fl (f v) (f o)else bH
theorem Oc(G:Good c k X)(h:∀e,JE X e (f e))(v o:Expr)(fl:Str)(p pos:Pos):JS X (.Assign [.Attribute o fl p] v pos) (TZ c f v o fl):=by
 unfold TZ;by_cases g:c.it.own.contains fl=jp
 ·rw[Os g];exact Tr (h o) (h v) N' (G.x.ins.own fl g)
 ·rw[OK g];exact b9
def T1(c:Ct)(f:Expr->GE)(v:Expr):List Expr->GS
 |[.Name x _]=>(match slot c x with |some i=>aO i (f v) |none=>bH)
 |[.Attribute o fl _]=>TZ c f v o fl
 |[.Subscript o i _]=>if N4 i=kt then nE (f v) (f o) (f i)else bH
 |_=>bH
theorem T3(G:Good c k X)(h:∀e,JE X e (f e))(ha:∀e,TN X e (f e))(v:Expr)(ts:List Expr)(pos:Pos):JS X (.Assign ts v pos) (T1 c f v ts):=by
 unfold T1;split
 ·rename_i x p;cases e:slot c x with
  |none=>exact b9
  |some i=>obtain⟨e1,e2⟩:=yu G e;dsimp only;exact ha v i x _ _ (by rw[G.N];exact G.nd) e1 e2.1 e2.2
 ·exact Oc G h v _ _ _ _
 ·rename_i o i p;by_cases g2:N4 i=kt
  ·rw[Os g2];refine M7 (h v) (h o) (h i) (by unfold swapsWithSole;exact JH) ?_ rfl ?_
   ·cases v<;>rfl
   ·intro _;cases i<;>first |rfl |cases g2
  ·rw[OK g2];exact b9
 ·exact b9
def Oe(c:Ct)(f:Expr->GE)(i:Nat)(gb:GS):Expr->GS
 |.Call (.Name x p) [a] [] q=>if mV c x=jp then(if plain a=jp then l6 i (ku f [a]) gb else bH)else vJ i (f (.Call (.Name x p) [a] [] q)) gb
 |e=>if isSet e=kt then vJ i (f e) gb else bH
theorem T4(G:Good c k X)(hl:c.loop=jp)(h:∀e,JE X e (f e))(hx:slot c x=bv i){body:List Stmt}(hb:tY X body gb)(e:Expr)(pos pos':Pos):JS X (.For (.Name x pos') e body [] pos) (Oe c f i gb e):=by
 have nd:X.N.Nodup:=by rw[G.N];exact G.nd
 obtain⟨e1,e2⟩:=yu G hx;have rg:=zL G;unfold Oe;split
 ·rename_i y p a q;by_cases g:mV c y=jp
  ·rw[Os g];obtain⟨rfl,g2,g3⟩:=rg y g;by_cases ga:plain a=jp
   ·rw[Os ga];exact Ib i nd (G.loop hl).2 (G.loop hl).1 g2 g3 (gw h [a] (by simp[ga])) hb e1 e2.1 e2.2 (bg ga)
   ·rw[OK ga];exact b9
  ·rw[OK g];exact H_ i nd (G.loop hl).2 (G.loop hl).1 (h _) hb e1 e2.1 e2.2 (sR rfl)
 ·by_cases g:isSet e=kt
  ·rw[Os g];exact H_ i nd (G.loop hl).2 (G.loop hl).1 (h _) hb e1 e2.1 e2.2 (sR g)
  ·rw[OK g];exact b9
def T5(c:Ct)(f:Expr->GE)(o:Expr)(fl:Str)(op:Operator)(e:Expr):GS:=if c.it.own.contains fl=jp then(match Fi op with |some q=>wO q c.it.c fl (f o) (f e) |none=>bH)else bH
theorem Of(G:Good c k X)(h:∀e,JE X e (f e))(o:Expr)(fl:Str)(op:Operator)(e:Expr)(p pos:Pos):JS X (.AugAssign (.Attribute o fl p) op e pos) (T5 c f o fl op e):=by
 unfold T5;by_cases g:c.it.own.contains fl=jp
 ·rw[Os g];cases e2:Fi op with
  |none=>exact b9
  |some q=>exact NX e2 (h o) (h e) (G.x.ins.own fl g)
 ·rw[OK g];exact b9
def T6(c:Ct)(f:Expr->GE)(x:Str)(op:Operator)(e:Expr):GS:=match slot c x,Fi op with
 |some i,bv o=>jH o i (f e)
 |_,_=>bH
theorem T7(G:Good c k X)(h:∀e,JE X e (f e))(x:Str)(op:Operator)(e:Expr)(p pos:Pos):JS X (.AugAssign (.Name x p) op e pos) (T6 c f x op e):=by
 unfold T6;cases e1:slot c x with
 |none=>exact b9
 |some i=>
  cases e2:Fi op with
  |none=>exact b9
  |some o=>obtain⟨q1,q2⟩:=yu G e1;exact S_ i e2 (by rw[G.N];exact G.nd) (h e) q1 q2.1 q2.2
def cC:Nat:=100000
def PZ(c:Ct)(f:Expr->GE)(t:Expr->GT)(b:Ct->List Stmt->GS):Stmt->GS
 |.Return (bv e) _=>aQ (f e)
 |.Return gV _=>aQ (gC .cY)
 |.Expr e _=>if JG e=kt then gP (f e)else bH
 |.If q x y _=>cR (t q) (b c x) (b c y)
 |.Assign ts v _=>T1 c f v ts
 |.For (.Name x _) e body [] _=>if c.loop=jp then(match slot c x with |some i=>Oe c f i (b c body) e |none=>bH)else bH
 |.While q body [] _=>if c.loop=jp then fV cC (t q) (b c body)else bH
 |.AugAssign (.Name x _) op e _=>T6 c f x op e
 |.AugAssign (.Attribute o fl _) op e _=>T5 c f o fl op e
 |.Pass _=>aN
 |_=>bH
theorem JM(G:Good c k X){b:Ct->List Stmt->GS}(h:∀e,JE X e (f e))(ha:∀e,TN X e (f e))(ht:∀e,JT X e (t e))(hb:∀c X,Good c k X->∀s,tY X s (b c s))(s:Stmt):JS X s (PZ c f t b s):=by
 cases s with
 |Return o p=>
  cases o with
  |none=>exact Nb
  |some e=>exact Sj (h _)
 |Expr e p=>
  show JS X _ (if JG e=kt then gP (f e)else bH);by_cases g:JG e=kt
  ·rw[Os g];exact M5 (h _) (DI g)
  ·rw[OK g];exact b9
 |If q x y p=>exact XE (ht _) (hb c X G _) (hb c X G _)
 |Assign ts v p=>exact T3 G h ha _ _ _
 |Pass p=>exact M4
 |AugAssign tg op e q=>
  cases tg with
  |Name x p=>exact T7 G h _ _ _ _ _
  |Attribute o fl p=>exact Of G h _ _ _ _ _ _
  |_=>exact b9
 |For tg e body oe q=>
  cases tg with
  |Name x p=>
   cases oe with
   |cons _ _=>exact b9
   |nil=>
    show JS X _ (if c.loop=jp then(match slot c x with |some i=>Oe c f i (b c body) e |none=>bH)else bH)
    by_cases g:c.loop=jp
    ·rw[Os g];cases e1:slot c x with
     |none=>exact b9
     |some i=>exact T4 G g h e1 (hb c X G body) e _ _
    ·rw[OK g];exact b9
  |_=>exact b9
 |While q body oe p=>
  cases oe with
  |cons _ _=>exact b9
  |nil=>
   show JS X _ (if c.loop=jp then fV cC (t q) (b c body)else bH);by_cases g:c.loop=jp
   ·rw[Os g];exact IX cC (G.loop g).2 (ht _) (hb c X G body)
   ·rw[OK g];exact b9
 |_=>exact b9
end
def BX(f:Stmt->GS):List Stmt->GS
 |[]=>aN
 |[s]=>f s
 |s::s'::r=>aq (f s) (BX f (s'::r))
theorem zN{X:Cx}{f:Stmt->GS}(h:∀s,JS X s (f s)):∀ss,tY X ss (BX f ss)
 |[]=>M1
 |[s]=>M3 (h s)
 |s::s'::r=>HL (h s) (zN h (s'::r))
def lG:Nat->Ct->List Stmt->GS
 | 0,_=>λ_=>bH
 |n+1,c=>BX (PZ c (nI 40 c).1 (nI 40 c).2 (lG n))
theorem l_{k:Nat}:∀(n:Nat)(c:Ct)(X:Cx),Good c k X->∀ss:List Stmt,tY X ss (lG n c ss)
 | 0,_,_,_,_=>EU
 |n+1,c,X,G,ss=>zN (λs=>JM G (f9 40 k c X G).1 (JL 40 c X G) (f9 40 k c X G).2 (l_ n) s) ss
structure Og(K:lc)(mg:Str->Option ajU)(q:Str)(P:ajO):Prop where
 tab:kZ K q=bv P
 code:∃c o vs file tf flags tg inF text tt,Ix K q=bv (c,P)/\K.lookup c=bv o/\o.cls= .type "code"/\o.data= .fields vs/\vs[11]? =bv (.ref P)/\vs.getD 11 .none= .ref P/\vs.getD 18 .none= .str file tf/\
  vs.getD 7 .none= .int flags tg/\vs.getD 9 .none= .bool inF/\vs.getD 10 .none= .int text tt/\c≠P
 mem:q∈dh
 uniq:∀q',q'∈dh->kZ K q'=bv P->q'=q
variable{f:ajO}{cdv:ajU}
theorem Og.at'{X:Cx}{q:Str}{P:ajO}(h:Og X.K X.mg q P)(M:BI X.K X.mg X.base)(hn:nw X.K aj3 q=bv (bv (.ref f)))(hc:HU X.K f cdv)(e1:X.env.code=cdv)(e2:X.env.qual=q++".<locals>."):PQ X q P:=by
 obtain⟨c,o,vs,file,tf,flags,tg,inF,text,tt,t,l,r⟩:=h.code;refine⟨⟨c,?_,o,vs,file,tf,flags,tg,inF,text,tt,M.1.VM _ _ l,r⟩,e2,h.tab,h.mem,h.uniq,M.2⟩
 ·obtain⟨of,lf,fd,d,cd⟩:=hc;rw[e1,<-cd];unfold Ix at t;rw[hn]at t;dsimp only at t;rw[lf]at t;obtain⟨oc,od,da,sl⟩:=of;dsimp only at d;subst d;dsimp only at t;cases q1:fd.code with
  |ref c2=>
   rw[q1]at t;dsimp only at t;split at t
   ·split at t
    ·cases t;rfl
    ·cases t
   ·cases t
  |_=>rw[q1]at t;cases t
structure md(c:Ct)(k:Nat)(P:ajS)(w:ajV)(K:lc)(mg:Str->Option ajU)(base:Heap):Prop where
 lam:∀p L,c.lam=bv (p,L)->NK P w K mg base k p c.lp L
 LO:∀x F,c.LO.lookup x=bv F->FnQ c.lp P w K mg k c.lj x F
 Wb:∀x n F,c.fns.lookup x=bv (n,F)->c.lfn.contains x=jp->∀base,BI K mg base->dk P w K mg base c.lj x n F
 at':c.self∈dh->∃P,Og K mg c.self P
 sk:c.sk<=k
 Wc:∀x n F,c.fns.lookup x=bv (n,F)->c.kfn.contains x=jp->dk P w K mg base c.lj x n F
 ins:BL c.it k P w K mg base
theorem md.no(h1:c.lam=gV)(h2:c.LO=[])(h3:c.lfn=[])(h4:c.self="")(h5:c.sk=0:=by rfl)(h6:c.kfn=[]:=by rfl)(h7:BL c.it k P w K mg base:=by exact BL.no):md c k P w K mg base :=
 ⟨(λp L e=>by rw[h1]at e;cases e),(λx F e=>by rw[h2]at e;cases e),(λx n F _ e=>by rw[h3]at e;cases e),(λe=>by rw[h4]at e;exact absurd e (by decide)),by rw[h5];exact dz _,(λx n F _ e=>by rw[h6]at e;cases e),h7⟩
structure uD(c:Ct)(k:Nat)(P:ajS)(w:ajV)(K:lc)(mg:Str->Option ajU)(base:Heap):Prop where
 cst:∀x w,c.consts.lookup x=bv w->Dy K mg x w
 bl:∀x,c.bl.contains x=jp->mg x=gV
 fns:∀x n F,c.fns.lookup x=bv (n,F)->dk P w K mg base k x n F
 tab:TabOk K c.tb c.tt c.tc
 cls:∀x,c.clss.contains x=jp->∃C,mg x=bv (.ref C)/\Nc K x C
 Dx:∀x,c.Dx.contains x=jp->∃C,mg x=bv (.ref C)/\ClsAt K x C
 wQ:∀x kvs,c.wQ.lookup x=bv kvs->nj K w mg x kvs
 Jc:∀x n F,c.Jc.contains x=jp->c.fns.lookup x=bv (n,F)->NI P w K mg base k x n F
 x:md c k P w K mg base
variable{h:Heap}{st:Stmt}{ps:List Str}{g:GS}
theorem Oh(KX:K.In h)(NS:h.Ns aj3 mg)(D:a6 K x st)(T:uD c k P w K mg base)
  (S:FnScope c.N ps (defScope st))(hn:(defScope st).names=c.names)(hg:lG 30 c (defBody st)=g)
  (hb:∀(kV doc pm:ajU)(an:Option ajO)(cdv ct:ajU)(us:List ajU),us.length=ps.length->bindArgs (tz x x (defArgs st) (defBody st) (defScope st) .none kV doc pm an cdv ct) ⟨us,[]⟩=pure (ps.zip us))(hM:c.self∈dh->BI K mg base/\c.self=x:=by exact λz=>absurd (show("":Str)∈dh from z) (by decide)):
  dk P w K mg base (k+1) x ps.length (bf c.N.length g):=by
 obtain⟨f,fd,a,F⟩:=D;refine⟨f,fd,ps,?_,EQ KX NS a,F.kp,F.binds hb⟩;subst hg;refine Dj F S λcdv acV A outer s H E hr=>?_;refine l_ (k:=k) 30 c _ ⟨rfl,hn,S.nd,sN hr,λ_=>⟨hr,rfl⟩,λ_=>⟨rfl,yv⟩,T.cst,T.bl,T.fns,λ_=>⟨rfl,rfl,rfl⟩,λ_ _=>rfl,S.kind,T.tab,T.cls,T.Dx,T.wQ,q_.of hr,T.Jc,⟨T.x.lam,T.x.LO,T.x.Wb,λ_ z=>?_,T.x.sk,T.x.Wc,T.x.ins⟩,⟨_,_,_,rfl,rfl,rfl⟩,.inl hr.hd⟩ _;obtain⟨P',L⟩:=T.x.at' z;obtain⟨M,e⟩:=hM z;exact⟨P',Og.at' L M (by rw[e];exact a) acV rfl (by rw[e];rfl)⟩
variable{F:List Wv->Hs->Re Wv}
theorem Oi{fa:ajO}(KX:K.In h)(NS:h.Ns aj3 mg)(hmg:mg "law"=bv (.ref fa))(D:a6 K "law" st)
  (hp:∀(kV doc pm:ajU)(an:Option ajO)(cdv ct:ajU)(s:ajT)(u:ajU),BindsTo s (tz "law" "law" (defArgs st) (defBody st) (defScope st) .none kV doc pm an cdv ct) ⟨[u],[]⟩ [("script",u)])
  (FN:∀(f:ajO)(fd:ajQ),MB K "law" "law" st f fd->∀base:Heap,K.In base->base.Ns aj3 mg->FnOk P w K mg base (CXJ P w) k f fd ["script"] (spW K 1 F)):
  ∃fd:ajQ,(∀(s:ajT)(u:ajU),BindsTo s fd ⟨[u],[]⟩ [("script",u)])/\∀base:Heap,K.In base->base.Ns aj3 mg->FnOk P w K mg base (CXJ P w) k fa fd ["script"] (spW K 1 F):=by
 obtain⟨f,fd,a,Fu⟩:=D;have e:=hmg.symm.trans (EQ KX NS a);cases e;refine⟨fd,λs u=>?_,FN fa fd Fu⟩;obtain⟨oc,od,kV,doc,pm,an,cdv,ct,osl,rfl,lk,hcd⟩:=Fu.ex;exact hp kV doc pm an cdv ct s u
theorem T8{fd:ajQ}(F:MB K x x st f fd)(T:uD c k P w K mg base)
  (S:FnScope c.N ps (defScope st))(hn:(defScope st).names=c.names)(hg:lG 30 c (defBody st)=g)(hs:c.self∉dh:=by exact(show("":Str)∉dh by decide)):FnOk P w K mg base (CXJ P w) (k+1) f fd ps (spW K ps.length (bf c.N.length g)):=by
 subst hg;refine Dj F S λcdv _ A outer s H E hr=>?_;exact l_ (k:=k) 30 c _ ⟨rfl,hn,S.nd,sN hr,λ_=>⟨hr,rfl⟩,λ_=>⟨rfl,yv⟩,T.cst,T.bl,T.fns,λ_=>⟨rfl,rfl,rfl⟩,λ_ _=>rfl,S.kind,T.tab,T.cls,T.Dx,T.wQ,q_.of hr,T.Jc,⟨T.x.lam,T.x.LO,T.x.Wb,λ_ z=>absurd z hs,T.x.sk,T.x.Wc,T.x.ins⟩,⟨_,_,_,rfl,rfl,rfl⟩,.inl hr.hd⟩ _
def zO(K:lc)(cl x qual:Str)(st:Stmt):Prop:=∃C f fd,ClsAt K cl C/\ED K C/\Meth K C x f/\MB K x qual st f fd
def JN(K:lc)(cl qual:Str)(st:Stmt):Prop:=∃C f fd,ClsAt K cl C/\Mk K C f/\MB K "__init__" qual st f fd
variable{cl qual:Str}{C:ajO}{oc:ajU}{osl:Array (Option ajU)}
theorem T9{od an:Option ajO}{kV doc pm ct:ajU}(a:nw K aj3 cl=bv (bv (.ref C)))(b:ED K C)(i:sK K (.ref C) x=bv (bv (.ref f)))
  (l:K.lookup f=bv ⟨oc,od,.func (tz x qual (defArgs st) (defBody st) (defScope st) .none kV doc pm an cdv ct),osl⟩)(c:zn K cdv qual=jp)(k:ww K (.ref f)=jp)(n:Do K (.ref f)=jp):zO K cl x qual st:=⟨C,f,_,a,b,⟨i,n,k⟩,Bj l c k⟩
theorem T_{od an:Option ajO}{kV doc pm ct:ajU}(a:nw K aj3 cl=bv (bv (.ref C)))(b:KM K C=jp)(kc:ww K (.ref C)=jp)(i:sK K (.ref C) "__init__"=bv (bv (.ref f)))
  (l:K.lookup f=bv ⟨oc,od,.func (tz "__init__" qual (defArgs st) (defBody st) (defScope st) .none kV doc pm an cdv ct),osl⟩)(c:zn K cdv qual=jp)(k:ww K (.ref f)=jp)(n:Do K (.ref f)=jp):JN K cl qual st:=⟨C,f,_,a,⟨b,i,n,kc⟩,Bj l c k⟩
theorem T'{f:Str}(a:nw K aj3 cl=bv (bv (.ref C)))(b:ED K C)(n:sK K (.ref C) f=bv gV):Own K cl f:=⟨C,a,b,n⟩
theorem yw(D:zO K cl x qual st)(T:uD c k P w K mg base)
  (S:FnScope c.N ps (defScope st))(hn:(defScope st).names=c.names)(hg:lG 30 c (defBody st)=g)
  (hb:∀(kV doc pm:ajU)(an:Option ajO)(cdv ct:ajU)(us:List ajU),us.length=ps.length->bindArgs (tz x qual (defArgs st) (defBody st) (defScope st) .none kV doc pm an cdv ct) ⟨us,[]⟩=pure (ps.zip us))(hs:c.self∉dh:=by exact(show("":Str)∉dh by decide)):
  sf P w K mg base (k+1) cl x ps.length (bf c.N.length g):=by
 obtain⟨C,f,fd,a,b,d,F⟩:=D;refine⟨C,f,fd,ps,?_,a,b,d,F.binds hb⟩;subst hg;refine Dj F S λcdv _ A outer s H E hr=>?_;exact l_ (k:=k) 30 c _ ⟨rfl,hn,S.nd,sN hr,λ_=>⟨hr,rfl⟩,λ_=>⟨rfl,yv⟩,T.cst,T.bl,T.fns,λ_=>⟨rfl,rfl,rfl⟩,λ_ _=>rfl,S.kind,T.tab,T.cls,T.Dx,T.wQ,q_.of hr,T.Jc,⟨T.x.lam,T.x.LO,T.x.Wb,λ_ z=>absurd z hs,T.x.sk,T.x.Wc,T.x.ins⟩,⟨_,_,_,rfl,rfl,rfl⟩,.inl hr.hd⟩ _
theorem Oj(KX:K.In h)(NS:h.Ns aj3 mg)(D:JN K cl qual st)(T:uD c k P w K mg base)
  (S:FnScope c.N ps (defScope st))(hn:(defScope st).names=c.names)(hg:lG 30 c (defBody st)=g)
  (hb:∀(kV doc pm:ajU)(an:Option ajO)(cdv ct:ajU)(us:List ajU),us.length=ps.length->bindArgs (tz "__init__" qual (defArgs st) (defBody st) (defScope st) .none kV doc pm an cdv ct) ⟨us,[]⟩=pure (ps.zip us))(hs:c.self∉dh:=by exact(show("":Str)∉dh by decide)):
  zJ P w K mg base (k+2) cl ps.length (bf c.N.length g):=by
 obtain⟨C,f,fd,a,b,F⟩:=D;refine⟨C,f,fd,ps,k+1,av _,?_,a,EQ KX NS a,b,F.binds hb⟩;subst hg;refine Dj F S λcdv _ A outer s H E hr=>?_;exact l_ (k:=k) 30 c _ ⟨rfl,hn,S.nd,sN hr,λ_=>⟨hr,rfl⟩,λ_=>⟨rfl,yv⟩,T.cst,T.bl,T.fns,λ_=>⟨rfl,rfl,rfl⟩,λ_ _=>rfl,S.kind,T.tab,T.cls,T.Dx,T.wQ,q_.of hr,T.Jc,⟨T.x.lam,T.x.LO,T.x.Wb,λ_ z=>absurd z hs,T.x.sk,T.x.Wc,T.x.ins⟩,⟨_,_,_,rfl,rfl,rfl⟩,.inl hr.hd⟩ _
theorem sf.mono{j:Nat}{c:Str}(h:sf P w K mg base j c x n F)(l:j<=k):sf P w K mg base k c x n F:=by obtain⟨C,f,fd,ps,G,r⟩:=h;exact⟨C,f,fd,ps,G.mono l,r⟩
theorem zJ.mono{j:Nat}{c:Str}(h:zJ P w K mg base j c n F)(l:j<=k):zJ P w K mg base k c n F:=by obtain⟨C,f,fd,ps,i,hi,r⟩:=h;exact⟨C,f,fd,ps,i,aA hi l,r⟩
def AllP{α:Type}(P:α->Prop):List α->Prop
 |[]=>True
 |a::l=>P a/\AllP P l
theorem AllP.look{κ β:Type}[BEq κ][LawfulBEq κ]{P:κ×β->Prop}:∀{l:List (κ×β)}{x:κ}{b:β},AllP P l->l.lookup x=bv b->P (x,b)
 |[],_,_,_,h=>by cases h
 |(y,c)::l,x,b,a,h=>by
  rw[e_]at h;cases e:x == y with
  |true=>rw[e]at h;cases h;have e':=eq_of_beq e;subst e';exact a.1
  |false=>rw[e]at h;exact AllP.look a.2 h
theorem AllP.mem{P:Str->Prop}:∀{l:List Str}{x:Str},AllP P l->l.contains x=jp->P x
 |[],_,_,h=>by cases h
 |y::l,x,a,h=>by
  rw[List.contains_cons,ya]at h;rcases h with e |h
  ·have e':=eq_of_beq e;subst e';exact a.1
  ·exact AllP.mem a.2 h
theorem pC{c:PySem.Str}{D:ajO}(h:ClsAt K c C)(k:ClsAt K c D):C=D:=by unfold ClsAt at h k;rw[h]at k;cases k;rfl
theorem Ua{tb:Tab}{tt:E1}{tc:Tab}(h:AllP (λp=>∃C D,ClsAt K p.1.1 C/\ClsAt K p.1.2 D/\Nd K C/\wP K (.ref C) (.ref D)=bv p.2) tb)
  (g:AllP (λp=>∃C,ClsAt K p.1.1 C/\Nd K C/\wP K (.ref C) (.type p.1.2)=bv p.2) tt)
  (f:AllP (λp=>∃C D,ClsAt K p.1.1 C/\ClsAt K p.1.2 D/\AT K C VU VW=jp/\AT K D VU VW=jp/\PySem.W.mroIn K C (.ref D)=bv p.2) tc):TabOk K tb tt tc :=
 ⟨λc d b C D e hC hD=>by
  obtain⟨C',D',q1,q2,r⟩:=AllP.look h e;cases pC hC q1;cases pC hD q2;exact r,λc d b C D e hC hD=>by
  obtain⟨C',D',q1,q2,r⟩:=AllP.look f e;cases pC hC q1;cases pC hD q2;exact r,λc T b C e hC=>by
  obtain⟨C',q1,r⟩:=AllP.look g e;cases pC hC q1;exact r⟩
theorem ky(hc:AllP (λp=>Dy K mg p.1 p.2) c.consts)(hb:AllP (λx=>mg x=gV) c.bl)(hf:AllP (λp=>dk P w K mg base k p.1 p.2.1 p.2.2) c.fns)
  (ht:TabOk K c.tb c.tt c.tc)(hk:AllP (λx=>∃C,mg x=bv (.ref C)/\Nc K x C) c.clss)(hn:AllP (λx=>∃C,mg x=bv (.ref C)/\ClsAt K x C) c.Dx)(hd:AllP (λp=>nj K w mg p.1 p.2) c.wQ)
  (hu:AllP (λx=>∀n F,c.fns.lookup x=bv (n,F)->NI P w K mg base k x n F) c.Jc:=by exact trivial)(hx:md c k P w K mg base:=by exact md.no rfl rfl rfl rfl):uD c k P w K mg base :=
 ⟨λ_ _ h=>hc.look h,λ_ h=>hb.mem h,λx n F h=>hf.look (b:=(n,F)) h,ht,λ_ h=>hk.mem h,λ_ h=>hn.mem h,λx kvs h=>hd.look (b:=kvs) h,λx n F h k=>hu.mem h n F k,hx⟩
theorem j7{t:Itx}(h1:AllP (λp=>sf P w K mg base k t.c p.1 p.2.1 p.2.2) t.yo)(h2:AllP (λp=>zJ P w K mg base k p.1 p.2.1 p.2.2) t.ini)(h3:AllP (λf=>Own K t.c f) t.own):BL t k P w K mg base :=
 ⟨λx n F h=>h1.look (b:=(n,F)) h,λx n F h=>h2.look (b:=(n,F)) h,λ_ h=>h3.mem h⟩
def Rs.sq(r:Rs)(h:GS):Rs:=match r with
 |.nx ρ st=>h ρ st
 |r=>r
variable{x v:Wv}{b:Bool}{j:Int}{gr:GA}{ws:List Wv}{l:Nat}
section
variable {α β:Type}{ρ ρ':b7}{st:Hs}{h g ga' gb':GS}{ga gb gc:GE}{gt gu:GT}{w:Wv}{c:PySem.Str}{f:α->Hs->Re β}{k:α->Hs->Rs}{a:α}{i:Nat}
@[simp] theorem jL:(Rs.nx ρ st).sq h=h ρ st:=rfl
@[simp] theorem JP:(Rs.rt w st).sq h= .rt w st:=rfl
@[simp] theorem afP:(Rs.bk ρ st).sq h= .bk ρ st:=rfl
@[simp] theorem afQ:(Rs.ct ρ st).sq h= .ct ρ st:=rfl
@[simp] theorem acW:(Rs.err c ρ st).sq h= .err c ρ st:=rfl
@[simp] theorem acX:Rs.bad.sq h= .bad:=rfl
@[simp] theorem i9:(Re.ok a st).bind f=f a st:=rfl
@[simp] theorem Yb:(Re.err c st).bind f= .err c st:=rfl
@[simp] theorem Yc:(Re.bad:Re α).bind f= .bad:=rfl
@[simp] theorem eV:(Re.ok a st).bR ρ k=k a st:=rfl
@[simp] theorem aaY:(Re.err c st:Re α).bR ρ k= .err c ρ st:=rfl
@[simp] theorem me:(Re.ok a st).mP= .ok a st:=rfl
@[simp] theorem aaZ:(Re.bad:Re α).mP= .bad:=rfl
@[simp] theorem aa0:(Re.bad:Re α).bR ρ k= .bad:=rfl
@[simp] theorem jM:aq g h ρ st=(g ρ st).sq h:=by unfold aq Rs.sq;cases g ρ st<;>rfl
@[simp] theorem e_next:aN ρ st= .nx ρ st:=rfl
@[simp] theorem zP:aQ ga ρ st=(ga ρ st).bR ρ λw st'=> .rt w st':=rfl
@[simp] theorem e_expr:gP ga ρ st=(ga ρ st).bR ρ λ_ st'=> .nx ρ st':=rfl
@[simp] theorem DJ:aO i ga ρ st=(ga ρ st).bR ρ λw st'=> .nx (ρ.set i (bv w)) st':=rfl
def We(ga gb:GS)(ρ:b7):Bool->Hs->Rs:=λb st'=>if b=jp then ga ρ st' else gb ρ st'
@[simp] theorem uE:We g h ρ jp st=g ρ st:=rfl
@[simp] theorem nJ:We g h ρ kt st=h ρ st:=rfl
@[simp] theorem nk:cR gt g h ρ st=(gt ρ st).bR ρ (We g h ρ):=rfl
def Wf(o:Option (Option Wv))(st:Hs):Re Wv:=match o with
 |some (bv w)=> .ok w st
 |_=> .bad
@[simp] theorem rf:Wf (bv (bv w)) st= .ok w st:=rfl
@[simp] theorem rh:ae i ρ st=Wf ρ[i]? st:=rfl
@[simp] theorem e_c:gC w ρ st= .ok w st:=rfl
def kB(op:jc)(gb:GE)(ρ:b7):Wv->Hs->Re Wv:=λx st1=>(gb ρ st1).bind λy st2=>(op x y st2).mP
@[simp] theorem zQ{op:jc}:kB op gb ρ x st=(gb ρ st).bind λy st2=>(op x y st2).mP:=rfl
@[simp] theorem rj{op:jc}:af op ga gb ρ st=(ga ρ st).bind (kB op gb ρ):=rfl
@[simp] theorem uF:aW ga ρ st=(ga ρ st).bind VS:=rfl
@[simp] theorem wR:VS (.bl b) st= .ok b st:=rfl
@[simp] theorem Yd:gK ga ρ st=(ga ρ st).bind HV:=rfl
@[simp] theorem acY:HV (.bl b) st= .ok b st:=rfl
@[simp] theorem P0:pb gt ρ st=(gt ρ st).bind λb st1=> .ok (!b) st1:=rfl
def Ub(gb:GT)(ρ:b7):Bool->Hs->Re Bool:=λb st1=>if b=jp then gb ρ st1 else .ok kt st1
@[simp] theorem acZ:Ub gu ρ jp st=gu ρ st:=rfl
@[simp] theorem ac0:Ub gu ρ kt st= .ok kt st:=rfl
@[simp] theorem P1:og gt gu ρ st=(gt ρ st).bind (Ub gu ρ):=rfl
def kOr(gb:GT)(ρ:b7):Bool->Hs->Re Bool:=λb st1=>if b=jp then .ok jp st1 else gb ρ st1
@[simp] theorem afR:kOr gu ρ jp st= .ok jp st:=rfl
@[simp] theorem afS:kOr gu ρ kt st=gu ρ st:=rfl
@[simp] theorem ahE:HA gt gu ρ st=(gt ρ st).bind (kOr gu ρ):=rfl
def JQ(gb:GE)(ρ:b7):Wv->Hs->Re Wv:=λw st1=>match w with
 |.bl jp=>gb ρ st1
 |.bl kt=> .ok (.bl kt) st1
 |_=> .bad
@[simp] theorem aa1:JQ gb ρ (.bl jp) st=gb ρ st:=rfl
@[simp] theorem aa2:JQ gb ρ (.bl kt) st= .ok (.bl kt) st:=rfl
@[simp] theorem ac2:cT ga gb ρ st=(ga ρ st).bind (JQ gb ρ):=rfl
def Uc(gb:GE)(ρ:b7):Wv->Hs->Re Wv:=λw st1=>match w with
 |.bl jp=> .ok (.bl jp) st1
 |.bl kt=>gb ρ st1
 |_=> .bad
@[simp] theorem ac3:Uc gb ρ (.bl jp) st= .ok (.bl jp) st:=rfl
@[simp] theorem ac4:Uc gb ρ (.bl kt) st=gb ρ st:=rfl
@[simp] theorem afT:HB ga gb ρ st=(ga ρ st).bind (Uc gb ρ):=rfl
def P2:Wv->Hs->Re Wv:=λw st1=>match w with
 |.bl b=> .ok (.bl (!b)) st1
 |_=> .bad
@[simp] theorem aa3:P2 (.bl b) st= .ok (.bl (!b)) st:=rfl
@[simp] theorem ac5:zg ga ρ st=(ga ρ st).bind P2:=rfl
def Ud(ga gb:GE)(ρ:b7):Bool->Hs->Re Wv:=λb st1=>if b=jp then ga ρ st1 else gb ρ st1
@[simp] theorem ac6:Ud ga gb ρ jp st=ga ρ st:=rfl
@[simp] theorem ac7:Ud ga gb ρ kt st=gb ρ st:=rfl
@[simp] theorem Ye:vI gt ga gb ρ st=(gt ρ st).bind (Ud ga gb ρ):=rfl
@[simp] theorem rn:ag ρ st= .ok [] st:=rfl
def P4(gr:GA)(ρ:b7):Wv->Hs->Re (List Wv):=λx st1=>(gr ρ st1).bind λxs st2=> .ok (x::xs) st2
@[simp] theorem jN:P4 gr ρ x st=(gr ρ st).bind λxs st2=> .ok (x::xs) st2:=rfl
@[simp] theorem lq:aa ga gr ρ st=(ga ρ st).bind (P4 gr ρ):=rfl
def FA:List Wv->Hs->Re Wv:=λws st1=>if ws.length<=lim then .ok (.tup ws) st1 else .bad
theorem yx(hl:ws.length<=lim):FA ws st= .ok (.tup ws) st:=Os hl
@[simp] theorem Yf:dA gr ρ st=(gr ρ st).bind FA:=rfl
def vR:List Wv->Hs->Re Wv:=λws st1=>if ws.length<=lim then .ok (.ref st1.length) (st1++[.lst ws])else .bad
theorem mf(hl:ws.length<=lim):vR ws st= .ok (.ref st.length) (st++[.lst ws]):=Os hl
@[simp] theorem wU:b8 gr ρ st=(gr ρ st).bind vR:=rfl
section
variable {x x0 x1 x2 x3 x4 x5 x6 x7:Wv}
@[simp] theorem Ue:FA [x0] st= .ok (.tup [x0]) st:=yx (by simp[lim])
@[simp] theorem ac8:FA [x0,x1] st= .ok (.tup [x0,x1]) st:=yx (by simp[lim])
@[simp] theorem ac9:FA [x0,x1,x2] st= .ok (.tup [x0,x1,x2]) st:=yx (by simp[lim])
@[simp] theorem ada:FA [x0,x1,x2,x3] st= .ok (.tup [x0,x1,x2,x3]) st:=yx (by simp[lim])
@[simp] theorem adb:vR [] st= .ok (.ref st.length) (st++[.lst []]):=mf (by simp[lim])
@[simp] theorem ade:vR [x0] st= .ok (.ref st.length) (st++[.lst [x0]]):=mf (by simp[lim])
@[simp] theorem Ug:vR [x0,x1] st= .ok (.ref st.length) (st++[.lst [x0,x1]]):=mf (by simp[lim])
@[simp] theorem adf:vR [x0,x1,x2] st= .ok (.ref st.length) (st++[.lst [x0,x1,x2]]):=mf (by simp[lim])
@[simp] theorem JR:vR [x0,x1,x2,x3] st= .ok (.ref st.length) (st++[.lst [x0,x1,x2,x3]]):=mf (by simp[lim])
@[simp] theorem Uh:vR [x0,x1,x2,x3,x4,x5,x6,x7] st= .ok (.ref st.length) (st++[.lst [x0,x1,x2,x3,x4,x5,x6,x7]]):=mf (by simp[lim])
end
def wV(n:Nat)(F:List Wv->Hs->Re Wv):List Wv->Hs->Re Wv:=λws st1=>if ws.length=n then F ws st1 else .bad
section
variable {F:List Wv->Hs->Re Wv}{x0 x1 x2 x3:Wv}{gr:GA}
@[simp] theorem DK:wV 1 F [x0] st=F [x0] st:=rfl
@[simp] theorem aa4:wV 2 F [x0,x1] st=F [x0,x1] st:=rfl
@[simp] theorem aa5:wV 3 F [x0,x1,x2] st=F [x0,x1,x2] st:=rfl
@[simp] theorem aa6:wV 4 F [x0,x1,x2,x3] st=F [x0,x1,x2,x3] st:=rfl
@[simp] theorem JU:ao n F gr ρ st=(gr ρ st).bind (wV n F):=rfl
@[simp] theorem yy:aH op gr ρ st=(gr ρ st).bind λws st1=>(op ws st1).mP:=rfl
end
@[simp] theorem ahF{op:Wv->Hs->Re Wv}:MJ op ga ρ st=(ga ρ st).bind op:=rfl
@[simp] theorem afU{i:Int}:o_ (.int i) st= .ok (.int (-i)) st:=rfl
@[simp] theorem Yg{i:Int}:aX (.int i) (.int j) st= .ok (.int (i+j)) st:=rfl
@[simp] theorem Yh{i:Int}:l5 (.int i) (.int j) st= .ok (.int (i - j)) st:=rfl
@[simp] theorem adg{i:Int}:oLt (.int i) (.int j) st= .ok (.bl (decide (i < j))) st:=rfl
@[simp] theorem ahG{i:Int}:oLe (.int i) (.int j) st= .ok (.bl (decide (i<=j))) st:=rfl
@[simp] theorem ahH{i:Int}:VT (.int i) (.int j) st= .ok (.bl (decide (j < i))) st:=rfl
@[simp] theorem ahI{i:Int}:Xp (.int i) (.int j) st= .ok (.bl (decide (j<=i))) st:=rfl
@[simp] theorem adh{i:Int}:oEq (.int i) (.int j) st= .ok (.bl (i == j)) st:=rfl
@[simp] theorem Ui{i:Int}:lU (.int i) (.int j) st= .ok (.bl (!(i == j))) st:=rfl
@[simp] theorem vS{i j:PySem.Str}:oEq (.str i) (.str j) st= .ok (.bl (i == j)) st:=rfl
@[simp] theorem Ol{i j:PySem.Str}:lU (.str i) (.str j) st= .ok (.bl (!(i == j))) st:=rfl
@[simp] theorem ahJ{i j:Bool}:oEq (.bl i) (.bl j) st= .ok (.bl (i == j)) st:=by cases i<;>cases j<;>rfl
@[simp] theorem ahK{i j:Bool}:lU (.bl i) (.bl j) st= .ok (.bl (!(i == j))) st:=by cases i<;>cases j<;>rfl
theorem yz{i:Int}(h:j≠0/\j.natAbs.log2 < 9000):lF (.int i) (.int j) st= .ok (.int (i.fdiv j)) st:=by show(if _ then _ else _)=_;rw[Os h]
theorem wW{i:Int}(h:j≠0):oMod (.int i) (.int j) st= .ok (.int (i.fmod j)) st:=by show(if _ then _ else _)=_;rw[Os h]
theorem P5{i:Int}(h:IntMulOk i j):fm (.int i) (.int j) st= .ok (.int (i * j)) st:=by show(if _ then _ else _)=_;rw[Os h]
theorem JV{i:Int}(h1:-(2 ^ 64) < i)(h2:i < 2 ^ 64):fm (.int i) (.int j) st= .ok (.int (i * j)) st:=P5 (IntMulOk.of_left (intBits_le_64 h1 h2))
theorem mul_r{i:Int}(h1:-(2 ^ 64) < j)(h2:j < 2 ^ 64):fm (.int i) (.int j) st= .ok (.int (i * j)) st:=P5 (IntMulOk.of_right (intBits_le_64 h1 h2))
theorem Yi{i:Int}(h:0<=j/\j<=1000000/\i.natAbs < 2 ^ 64):Bo (.int i) (.int j) st= .ok (.int (i ^ j.toNat)) st:=by show(if _ then _ else _)=_;rw[Os h]
theorem pD{i:Int}(h:ax st l=bv ws)(h2:kX ws i=bv v):aV (.ref l) (.int i) st= .ok v st:=by
 show(match ax st l with |some ws=>(match kX ws i with |some w=>Re.ok w st |none=> .bad) |none=> .bad)=_
 rw[h];dsimp only;rw[h2]
theorem add_l{k:Nat}{xs ys:List Wv}(h1:ax st l=bv xs)(h2:ax st k=bv ys)(hl:xs.length+ys.length<=lim):aX (.ref l) (.ref k) st= .ok (.ref st.length) (st++[.lst (xs++ys)]):=by
 show(match ax st l,ax st k with |some i,bv j=>if i.length+j.length<=lim then Re.ok (Wv.ref st.length) (st++[Ob.lst (i++j)])else .bad |_,_=> .bad)=_
 rw[h1,h2];exact Os hl
theorem cw{i:Int}(h2:kX ws i=bv v):aV (.tup ws) (.int i) st= .ok v st:=by
 show(match kX ws i with |some w=>Re.ok w st |none=> .bad)=_
 rw[h2]
end
variable{w:Wv}{st st':Hs}
theorem P6(h:g (ws.map bv++aD (n - ws.length) gV) st= .rt w st'):bf n g ws st= .ok w st':=by unfold bf;rw[h]
variable{op':jc}{y:Wv}{gd:GE}{gs:GS}
section
variable {ρ:b7}{st:Hs}{ga gb gc:GE}{gl gh:GO}
def kSl(gl gh:GO)(ρ:b7):Wv->Hs->Re Wv:=λx st1=>(gl ρ st1).bind λlo st2=>(gh ρ st2).bind λhi st3=>kq x lo hi st3
@[simp] theorem Om:bA ga gl gh ρ st=(ga ρ st).bind (kSl gl gh ρ):=rfl
@[simp] theorem Yj:kSl gl gh ρ x st=(gl ρ st).bind λlo st2=>(gh ρ st2).bind λhi st3=>kq x lo hi st3:=rfl
@[simp] theorem JX:bP ρ st= .ok gV st:=rfl
def P7:Wv->Hs->Re (Option Int):=λw st1=>match w with
 |.int i=> .ok (bv i) st1
 |_=> .bad
@[simp] theorem Uj:cJ ga ρ st=(ga ρ st).bind P7:=rfl
@[simp] theorem Oo{i:Int}:P7 (.int i) st= .ok (bv i) st:=rfl
theorem adi{lo hi:Option Int}(h:ax st l=bv ws):kq (.ref l) lo hi st= .ok (.ref st.length) (st++[.lst (i7 ws lo hi)]):=by
 show(match ax st l with |some ws=>Re.ok (Wv.ref st.length) (st++[Ob.lst (i7 ws lo hi)]) |none=> .bad)=_
 rw[h]
theorem DL(h:ax st l=bv ws):dH [.ref l] st= .ok (.int ws.length) st:=by
 show(match ax st l with |some ws=>Re.ok (Wv.int ws.length) st |none=> .bad)=_
 rw[h]
def JY(op':jc)(gc:GE)(y:Wv)(ρ:b7):Wv->Hs->Re Wv:=λz st3=>match z with
 |.bl jp=>(gc ρ st3).bind λu AR=>(op' y u AR).mP
 |.bl kt=> .ok (.bl kt) st3
 |_=> .bad
@[simp] theorem adj:JY op' gc y ρ (.bl jp) st=(gc ρ st).bind λu AR=>(op' y u AR).mP:=rfl
@[simp] theorem adk:JY op' gc y ρ (.bl kt) st= .ok (.bl kt) st:=rfl
@[simp] theorem aa7{op:jc}:j6 op op' ga gb gc ρ st=(ga ρ st).bind λx st1=>(gb ρ st1).bind λy st2=>(op x y st2).mP.bind (JY op' gc y ρ):=rfl
def Yk(op' FC:jc)(gc gd:GE)(y:Wv)(ρ:b7):Wv->Hs->Re Wv:=λz st3=>match z with
 |.bl jp=>(gc ρ st3).bind λu AR=>(op' y u AR).mP.bind (JY FC gd u ρ)
 |.bl kt=> .ok (.bl kt) st3
 |_=> .bad
@[simp] theorem adl{FC:jc}:Yk op' FC gc gd y ρ (.bl jp) st=(gc ρ st).bind λu AR=>(op' y u AR).mP.bind (JY FC gd u ρ):=rfl
@[simp] theorem adm{FC:jc}:Yk op' FC gc gd y ρ (.bl kt) st= .ok (.bl kt) st:=rfl
def P8(cat:PySem.Str->Option Bool)(gs:GS)(r:Rs):Rs:=match r with
 |.err c ρ' st'=>(match cat c with
  |some jp=>(match gs ρ' st' with
   |.nx ρ2 st2=> .nx ρ2 st2
   |.rt w st2=> .rt w st2
   |_=> .bad)
  |_=> .bad)
 |r=>r
@[simp] theorem Yl{cat:PySem.Str->Option Bool}:P8 cat gs (.nx ρ st)= .nx ρ st:=rfl
@[simp] theorem Ym{cat:PySem.Str->Option Bool}:P8 cat gs (.rt w st)= .rt w st:=rfl
end
theorem dq:ax (st++[.lst ws]) st.length=bv ws:=by unfold ax;simp
theorem zR(h:ax st l=bv ws):l < st.length:=by
 unfold ax at h;cases e:st[l]? with
 |none=>rw[e]at h;cases h
 |some o=>exact(np.mp e).1
def a9(l:Nat)(st st':Hs):Prop:=st.length<=st'.length/\∀k,k < st.length->k≠l->st'[k]? =st[k]?
theorem a9.refl:a9 l st st:=⟨av _,λ_ _ _=>rfl⟩
theorem a9.trans{a b c:Hs}(h:a9 l a b)(k:a9 l b c):a9 l a c:=⟨aA h.1 k.1,λj h1 h2=>(k.2 j (bZ h1 h.1) h2).trans (h.2 j h1 h2)⟩
variable{o:Ob}
theorem a9.push:a9 l st (st++[o]):=⟨by simp,λk h _=>gU h⟩
theorem a9.set:a9 l st (st.set l o):=⟨by simp,λk _ h=>bM (λz=>h z.symm)⟩
theorem a9.lst(k:a9 l st st'){j:Nat}(h:ax st j=bv ws)(hj:j≠l):ax st' j=bv ws:=by unfold ax at h ⊢;rw[k.2 j (zR (st:=st) (ws:=ws) (by unfold ax;exact h)) hj];exact h
variable{ρ:b7}
@[simp] theorem Oq{ga:GA}:l6 i ga gb ρ st=(ga ρ st).bR ρ λws st1=>match ws with
 |[.int j]=>if lS j then jF i gb (eL 0 j.toNat) ρ st1 else .bad
 |_=> .bad:=rfl
def uG(mt:Wv->Wv->Hs->Re Wv)(ga:GE)(ρ:b7):Wv->Hs->Re Wv:=λo st1=>match o with
 |.ref l=>(match ax st1 l with
  |some _=>(ga ρ st1).bind λv st2=>(mt o v st2).mP
  |none=> .bad)
 |_=> .bad
variable{ga go:GE}{mt:Wv->Wv->Hs->Re Wv}
@[simp] theorem adn:jh mt go ga ρ st=(go ρ st).bind (uG mt ga ρ):=rfl
theorem DM(h:ax st l=bv ws):uG mt ga ρ (.ref l) st=(ga ρ st).bind λv st2=>(mt (.ref l) v st2).mP:=by
 show(match ax st l with |some _=>(ga ρ st).bind λv st2=>(mt (.ref l) v st2).mP |none=> .bad)=_
 rw[h]
theorem nK(h:st[l]? =bv (.lst ws))(hl:ws.length < lim):ni (.ref l) v st= .ok .cY (st.set l (.lst (ws++[v]))):=by
 show(match st[l]? with |some (.lst ws)=>if ws.length < lim then Re.ok Wv.cY (st.set l (.lst (ws++[v])))else .bad |_=> .bad)=_
 rw[h];exact Os hl
def kFor(i:Nat)(gb:GS)(ρ:b7):Wv->Hs->Rs:=λw st1=>match w with
 |.ref l=>(match ax st1 l with |some ws=>forL i gb l ws ws ρ st1 |none=> .bad)
 |.tup ws=>jF i gb ws ρ st1
 |.j5 ws=>jF i gb ws ρ st1
 |_=> .bad
@[simp] theorem afW:vJ i ga gb ρ st=(ga ρ st).bR ρ (kFor i gb ρ):=rfl
theorem uH(h:ax st l=bv ws):kFor i gb ρ (.ref l) st=forL i gb l ws ws ρ st:=by
 show(match ax st l with |some ws=>forL i gb l ws ws ρ st |none=> .bad)=_
 rw[h]
@[simp] theorem ado:kFor i gb ρ (.tup ws) st=jF i gb ws ρ st:=rfl
theorem zS{i:Nat}{gb:GS}{l:Nat}{all:List Wv}(P:b7->Hs->Prop):∀(ws:List Wv)(ρ:b7)(st:Hs),P ρ st->ax st l=bv all->
  (∀w∈ws,∀ρ st,P ρ st->ax st l=bv all->∃ρ' st',gb (ρ.set i (bv w)) st= .nx ρ' st'/\ax st' l=bv all/\P ρ' st')->
  ∃ρ' st',forL i gb l all ws ρ st= .nx ρ' st'/\P ρ' st'/\ax st' l=bv all
 |[],ρ,st,h,hl,_=>⟨ρ,st,rfl,h,hl⟩
 |w::r,ρ,st,h,hl,step=>by obtain⟨ρ1,st1,e1,l1,p1⟩:=step w aY ρ st h hl;obtain⟨ρ2,st2,e2,p2,l2⟩:=zS P r ρ1 st1 p1 l1 λw hw=>step w (bw _ hw);refine⟨ρ2,st2,?_,p2,l2⟩;unfold forL;rw[e1];simp only[Os l1];exact e2
theorem uI{i:Nat}{gb:GS}(P:b7->Hs->Prop):∀(ws:List Wv)(ρ:b7)(st:Hs),P ρ st->
  (∀w∈ws,∀ρ st,P ρ st->∃ρ' st',gb (ρ.set i (bv w)) st= .nx ρ' st'/\P ρ' st')->∃ρ' st',jF i gb ws ρ st= .nx ρ' st'/\P ρ' st'
 |[],ρ,st,h,_=>⟨ρ,st,rfl,h⟩
 |w::r,ρ,st,h,step=>by obtain⟨ρ1,st1,e1,p1⟩:=step w aY ρ st h;obtain⟨ρ2,st2,e2,p2⟩:=uI P r ρ1 st1 p1 λw hw=>step w (bw _ hw);refine⟨ρ2,st2,?_,p2⟩;unfold jF;rw[e1];exact e2
variable{i:Int}
@[simp] theorem yA:l7 [.int i] st=Ng [.int i] st:=rfl
variable{gt:GT}{ge:GE}
@[simp] theorem adp{gi:GI}:jk cs gi gt ge ρ st=(gi ρ st).bind (dj cs gt ge ρ):=rfl
@[simp] theorem aa8{g:GE}:jl g ρ st=(g ρ st).bind um:=rfl
variable{g:GA}
@[simp] theorem adq:By g ρ st=(g ρ st).bind Dm:=rfl
@[simp] theorem ads:acz g ρ st=(g ρ st).bind PJ:=rfl
@[simp] theorem adt:acG g ρ st=(g ρ st).bind PU:=rfl
theorem BY(h:lS j):Dm [.int j] st= .ok (gV,eL 0 j.toNat) st:=Os h
theorem Uk(h:ax st l=bv ws):um (.ref l) st= .ok (bv l,ws) st:=by
 show(match ax st l with |some ws=>Re.ok (bv l,ws) st |none=> .bad)=_
 rw[h]
variable{z:PySem.Str}
@[simp] theorem adu:um (.str z) st= .ok (gV,cK z) st:=rfl
@[simp] theorem adw:um (.tup ws) st= .ok (gV,ws) st:=rfl
theorem Ot{acc:List Wv}(h:acc.length < lim):ni (.ref st.length) v (st++[.lst acc])= .ok .cY (st++[.lst (acc++[v])]):=by
 rw[nK (ws:=acc) (by simp) h]
 congr 1
 simp
theorem ou{w:Wk}{gt:Wv->Hs->Re Bool}{ge:Wv->Hs->Re Wv}{st:Hs}{t:Wv->Bool}{f:Wv->Wv}(ck:k9 w st):∀(ws acc:List Wv),(∀v∈ws,∀acc,gt v (st++[.lst acc])= .ok (t v) (st++[.lst acc]))->
  (∀v∈ws,t v=jp->∀acc,ge v (st++[.lst acc])= .ok (f v) (st++[.lst acc]))->acc.length+ws.length < lim->ji (k9 w) gt ge st.length ws (st++[.lst acc])=bv (st++[.lst (acc++(ws.filter t).map f)])
 |[],acc,_,_,_=>by simp[ji]
 |v::r,acc,h1,h2,hl=>by
  have hl':acc.length+(r.length+1) < lim:=hl;unfold ji;rw[h1 v aY acc];cases e:t v with
  |false=>dsimp only;rw[Os (uc ck),ou ck r acc (λv hv=>h1 v (bw _ hv)) (λv hv=>h2 v (bw _ hv)) (by omega),Ii (by simp[e])]
  |true=>dsimp only;rw[h2 v aY e acc];dsimp only;rw[Ot (by omega)];dsimp only;rw[Os (uc ck),ou ck r (acc++[f v]) (λv hv=>h1 v (bw _ hv)) (λv hv=>h2 v (bw _ hv)) (by simp;omega),Ih e];simp
theorem wX{w:Wk}{t:Wv->Bool}{f:Wv->Wv}(ck:k9 w st)(h1:∀v∈w.2,∀acc,gt (bv v::gT cs ρ) (st++[.lst acc])= .ok (t v) (st++[.lst acc]))
  (h2:∀v∈w.2,t v=jp->∀acc,ge (bv v::gT cs ρ) (st++[.lst acc])= .ok (f v) (st++[.lst acc]))(hl:w.2.length < lim):dj cs gt ge ρ w st= .ok (.ref st.length) (st++[.lst ((w.2.filter t).map f)]):=by
 unfold dj;rw[ou ck w.2 [] h1 h2 (by simpa using hl)];simp
variable{α:Type}
theorem zT{ws:List α}{d:Int}(h0:0<=d)(h1:d < ws.length):∃v,L2.kX ws d=bv v/\v∈ws:=by
 have hk:d.toNat < ws.length:=by omega
 have ek:d=((d.toNat:Nat):Int):=by omega
 refine⟨ws[d.toNat],?_,ug hk⟩;have q:=L2.eZ (fk hk);rw[<-ek]at q;exact q
variable{o':Ob}
theorem cx(h:st[l]? =bv o):(st.set l o')[l]? =bv o':=tD (np.mp h).1
theorem aP(h:st[l]? =bv o):(st++[o'])[l]? =bv o:=by rw[gU (np.mp h).1];exact h
theorem bo(h:st[l]? =bv (.lst ws)):ax st l=bv ws:=by unfold ax;rw[h]
theorem b_(h:st[l]? =bv o):l < st.length:=(np.mp h).1
theorem aR:(st++[o])[st.length]? =bv o:=by simp
theorem eM{x y:PySem.Str}(h:x.length+y.length<=lim):aX (.str x) (.str y) st= .ok (.str (x++y)) st:=by show(if x.length+y.length<=lim then Re.ok (Wv.str (x++y)) st else .bad)=_;rw[Os h]
theorem Ou(h:i.natAbs.log2 < 1920):Ng [.int i] st= .ok (.str (toString i:String)) st:=by show(if _ then _ else _)=_;rw[Os h]
theorem BZ{b:Int}(h1:-b<=i)(h2:i<=b)(hb:b.natAbs < 2 ^ k)(hk:0 < k):i.natAbs.log2 < k:=by
 by_cases e:i.natAbs=0
 ·rw[e];exact hk
 ·exact(Nat.log2_lt e).mpr (by omega)
theorem JZ(h:z.length<=lim):dH [.str z] st= .ok (.int z.length) st:=by show(if z.length<=lim then Re.ok (Wv.int z.length) st else .bad)=_;rw[Os h]
def J0(mt:PySem.Str->List Wv->Hs->Re Wv)(ga:GA)(ρ:b7):Wv->Hs->Re Wv:=λo st1=>match o with
 |.str z=>(ga ρ st1).bind λws st2=>(mt z ws st2).mP
 |_=> .bad
variable{mt:PySem.Str->List Wv->Hs->Re Wv}
@[simp] theorem aa9{ga:GA}:iP mt go ga ρ st=(go ρ st).bind (J0 mt ga ρ):=rfl
@[simp] theorem Yn{ga:GA}:J0 mt ga ρ (.str z) st=(ga ρ st).bind λws st2=>(mt z ws st2).mP:=rfl
@[simp] theorem afX:MV [.int i] st= .ok (.int (if i < 0 then -i else i)) st:=rfl
theorem B0{ys:List PySem.Str}(h:ax st l=bv (ys.map Wv.str))(hz:(ys.map (·.length)).sum+ys.length * z.length<=16777216):qY z [.ref l] st= .ok (.str (gW z ys)) st:=by unfold qY;simp only[h,ui];rw[Os hz]
theorem DN{lo:Int}(h:w∈eL lo n):∃k:Int,w= .int k/\lo<=k/\k < lo+n:=by unfold eL at h;obtain⟨k,hk,rfl⟩:=u8.mp h;have:=List.mem_range.mp hk;exact⟨lo+k,rfl,by omega,by omega⟩
theorem B1(h1:-1000000<=i)(h2:i<=1000000):lS i:=⟨by omega,by omega⟩
@[simp] theorem aba:wV 0 F [] st=F [] st:=rfl
theorem Ul{gb:GE}(h:ga ρ st= .ok w st'):yf ga gb ρ st= .ok w st':=by unfold yf;rw[h]
theorem mX{w:Wk}{gt:Wv->Hs->Re Bool}{ge:Wv->Hs->Re Wv}{rr:Nat}(P:Hs->Prop)(E:Wv->Prop)(hP:∀st acc,P st->P (st.set rr (.lst acc)))(hck:∀st,P st->k9 w st):
  ∀(ws:List Wv),(∀v∈ws,∀st acc,P st->st[rr]? =bv (.lst acc)->∃st1,gt v st= .ok jp st1/\P st1/\st1[rr]? =bv (.lst acc)/\∃u st2,ge v st1= .ok u st2/\E u/\P st2/\st2[rr]? =bv (.lst acc))->
   ∀(acc:List Wv)(st:Hs),P st->st[rr]? =bv (.lst acc)->acc.length+ws.length < lim->(∀a∈acc,E a)->∃st' acc',ji (k9 w) gt ge rr ws st=bv st'/\P st'/\st'[rr]? =bv (.lst acc')/\(∀a∈acc',E a)/\acc'.length=acc.length+ws.length
 |[],_,acc,st,hp,hg,_,ha=>⟨st,acc,rfl,hp,hg,ha,rfl⟩
 |v::r,step,acc,st,hp,hg,hl,ha=>by
  obtain⟨st1,e1,p1,g1,u,st2,e2,hu,p2,g2⟩:=step v aY st acc hp hg;have hl':acc.length+(r.length+1) < lim:=hl;obtain⟨st3,adx,f1,f2,f3,f4,f5⟩:=mX P E hP hck r (λv hv=>step v (bw _ hv)) (acc++[u]) (st2.set rr (.lst (acc++[u]))) (hP _ _ p2) (cx g2) (by simp;omega) (by
   intro a h;rcases wS.mp h with z |z
   ·exact ha a z
   ·simp at z;rw[z];exact hu)
  refine⟨st3,adx,?_,f2,f3,f4,?_⟩
  ·unfold ji;rw[e1];dsimp only;rw[e2];dsimp only;rw[nK g2 (by omega)];dsimp only;rw[Os (hck _ (hP _ _ p2)),f1]
  ·rw[f5];simp;omega
def Gr(st st':Hs):Prop:=st.length<=st'.length/\∀k,k < st.length->st'[k]? =st[k]?
theorem Gr.refl:Gr st st:=⟨av _,λ_ _=>rfl⟩
theorem Gr.trans{a b c:Hs}(h:Gr a b)(k:Gr b c):Gr a c:=⟨aA h.1 k.1,λj h1=>(k.2 j (bZ h1 h.1)).trans (h.2 j h1)⟩
theorem Gr.push:Gr st (st++[o]):=⟨by simp,λk h=>gU h⟩
variable{j:Nat}
theorem Gr.lst(k:Gr st st')(h:ax st j=bv ws):ax st' j=bv ws:=by unfold ax at h ⊢;rw[k.2 j (zR (st:=st) (ws:=ws) (by unfold ax;exact h))];exact h
theorem Gr.get(k:Gr st st')(h:st[j]? =bv o):st'[j]? =bv o:=by rw[k.2 j (b_ h)];exact h
theorem Gr.keep(k:Gr st st'):a9 l st st':=⟨k.1,λj h _=>k.2 j h⟩
theorem Gr.uJ{s1 s2:Hs}(h:st.length<=l)(g:Gr st s1)(k:a9 l s1 s2):Gr st s2:=⟨aA g.1 k.1,λj h1=>(k.2 j (bZ h1 g.1) (by omega)).trans (g.2 j h1)⟩
theorem zU{α:Type}(f:α->Wv){i:Nat}{gb:GS}{l:Nat}{all:List Wv}(full:List α)(P:List α->b7->Hs->Prop)
  (step:∀a pre post ρ st,full=pre++a::post->P pre ρ st->ax st l=bv all->∃ρ' st',gb (ρ.set i (bv (f a))) st= .nx ρ' st'/\ax st' l=bv all/\P (pre++[a]) ρ' st'):
  ∀(post pre:List α)(ρ:b7)(st:Hs),full=pre++post->P pre ρ st->ax st l=bv all->∃ρ' st',forL i gb l all (post.map f) ρ st= .nx ρ' st'/\P full ρ' st'/\ax st' l=bv all
 |[],pre,ρ,st,hf,h,hl=>⟨ρ,st,rfl,by rw[hf];simpa using h,hl⟩
 |a::r,pre,ρ,st,hf,h,hl=>by obtain⟨ρ1,st1,e1,l1,p1⟩:=step a pre r ρ st hf h hl;obtain⟨ρ2,st2,e2,p2,l2⟩:=zU f full P step r (pre++[a]) ρ1 st1 (by rw[hf];simp) p1 l1;refine⟨ρ2,st2,?_,p2,l2⟩;rw[bz];unfold forL;rw[e1];simp only[Os l1];exact e2
theorem wY{α:Type}{w:Wk}{gt:Wv->Hs->Re Bool}{ge:Wv->Hs->Re Wv}{rr:Nat}(f:α->Wv)(P:Hs->Prop)(E:α->Wv->Prop)(hP:∀st acc,P st->P (st.set rr (.lst acc)))(hck:∀st,P st->k9 w st):
  ∀(ws:List α),(∀v∈ws,∀st acc,P st->st[rr]? =bv (.lst acc)->∃st1,gt (f v) st= .ok jp st1/\P st1/\st1[rr]? =bv (.lst acc)/\∃u st2,ge (f v) st1= .ok u st2/\E v u/\P st2/\st2[rr]? =bv (.lst acc))->
   ∀(acc:List Wv)(st:Hs),P st->st[rr]? =bv (.lst acc)->acc.length+ws.length < lim->∃st' us,ji (k9 w) gt ge rr (ws.map f) st=bv st'/\P st'/\st'[rr]? =bv (.lst (acc++us))/\us.length=ws.length/\∀k (h:k < ws.length) (h':k < us.length),E ws[k] us[k]
 |[],_,acc,st,hp,hg,_=>⟨st,[],rfl,hp,by simpa using hg,rfl,λk h=>by cases h⟩
 |v::r,step,acc,st,hp,hg,hl=>by
  obtain⟨st1,e1,p1,g1,u,st2,e2,hu,p2,g2⟩:=step v aY st acc hp hg;have hl':acc.length+(r.length+1) < lim:=hl;obtain⟨st3,us,f1,f2,f3,f4,f5⟩:=wY f P E hP hck r (λv hv=>step v (bw _ hv)) (acc++[u]) (st2.set rr (.lst (acc++[u]))) (hP _ _ p2) (cx g2) (by simp;omega);refine⟨st3,u::us,?_,f2,by simpa using f3,by simp[f4],λk h h'=>?_⟩
  ·rw[bz];unfold ji;rw[e1];dsimp only;rw[e2];dsimp only;rw[nK g2 (by omega)];dsimp only;rw[Os (hck _ (hP _ _ p2)),f1]
  ·cases k with
   |zero=>exact hu
   |succ k=>exact f5 k (by simpa using h) (by simpa using h')
theorem Yo:k8 (.int i) (.int i)=true:=by simp[k8]
theorem Um{d:PyData}(h1:bO st 20 x=bv d)(h2:bO st 20 y=bv d)(h:k8 d d=jp):lU x y st= .ok (.bl kt) st:=by unfold lU;rw[h1,h2];show Re.ok (Wv.bl (!PyData.eqv d d)) st=_;rw[h];rfl
theorem P9(h:ax st l=bv ws):bO st (n+1) (.ref l)=(nh (bO st n) ws).map xZ:=by
 show(match ax st l with |some ws=>(nh (bO st n) ws).map xZ |none=>gV)=_
 rw[h]
theorem Yp:lU (.int i) (.int i) st= .ok (.bl kt) st:=Um rfl rfl Yo
@[simp] theorem afY{j:Int}:uh [.int i,.int j] st= .ok (.int (if j > i then j else i)) st:=rfl
@[simp] theorem afZ{j:Int}:Dr [.int i,.int j] st= .ok (.int (if j < i then j else i)) st:=rfl
theorem Yq{a:α}{r:List α}:L2.kX (a::r) 0=bv a:=L2.eZ (j:=0) rfl
def DO(neg:Bool)(kvs:Dc):Wv->Hs->Re Wv:=λa st1=>match a with
 |.str k=> .ok (.bl ((kvs.lookup k).isSome != neg)) st1
 |_=> .bad
@[simp] theorem J1:jJ neg kvs ga ρ st=(ga ρ st).bind (DO neg kvs):=rfl
variable{k:PySem.Str}
@[simp] theorem DP:DO neg kvs (.str k) st= .ok (.bl ((kvs.lookup k).isSome != neg)) st:=rfl
def P_(kvs:Dc):Wv->Hs->Re Wv:=λa st1=>match a with
 |.str k=>(match kvs.lookup k with |some w=> .ok w st1 |none=> .bad)
 |_=> .bad
@[simp] theorem ady:pA kvs ga ρ st=(ga ρ st).bind (P_ kvs):=rfl
theorem pE(h:kvs.lookup k=bv w):P_ kvs (.str k) st= .ok w st:=by
 show(match kvs.lookup k with |some w=>Re.ok w st |none=> .bad)=_
 rw[h]
variable{kvs:List (L2.Key×Wv)}{st2:Hs}
theorem J2{gs:List (GE×GE)}(h:uu gs ρ (st++[.dct []])= .ok kvs st2)(h2:st2[st.length]? =bv (.dct [])):pz gs ρ st= .ok (.ref st.length) (st2.set st.length (.dct (eI [] kvs))):=by
 unfold pz;rw[h];show(match st2[st.length]? with |some (.dct [])=>Re.ok (Wv.ref st.length) (st2.set st.length (.dct (eI [] kvs))) |_=> .bad)=_
 rw[h2]
theorem sS:(st++[o]).set st.length o'=st++[o']:=by simp
theorem DQ{gk gx:GE}{st1 st3:Hs}{k:Wv}{kk:L2.Key}{kvs':List (L2.Key×Wv)}(h1:gd ρ st= .ok (.ref l) st1)(h2:st1[l]? =bv (.dct kvs'))(h3:gk ρ st1= .ok k st2)(h4:gx ρ st2= .ok x st3)(hk:keyOf k=bv kk)(h5:st3[l]? =bv (.dct kvs)):
  l9 gd gk gx ρ st= .ok ((oo kvs kk).getD x) st3:=by
 have hd:uv st1 l=true:=by unfold uv;rw[h2]
 unfold l9;rw[h1];show(if uv st1 l=jp then(gk ρ st1).bind λk st2=>(gx ρ st2).bind λx st3=>(match keyOf k,st3[l]? with
  |some kk,bv (.dct kvs)=>Re.ok ((oo kvs kk).getD x) st3
  |_,_=> .bad)else .bad)=_
 rw[Os hd,h3];show((gx ρ st2).bind λx st3=>(match keyOf k,st3[l]? with
  |some kk,bv (.dct kvs)=>Re.ok ((oo kvs kk).getD x) st3
  |_,_=> .bad))=_
 rw[h4];show(match keyOf k,st3[l]? with
  |some kk,bv (.dct kvs)=>Re.ok ((oo kvs kk).getD x) st3
  |_,_=> .bad)=_
 rw[hk,h5]
open PySem L2
theorem tb_none{H:Hp}(h1:nw K aj3 "form_of"=bv gV)(h2:nw K aj3 "formula_by"=bv gV)(h3:nw K aj3 "turned"=bv gV)(h4:nw K aj3 "readied_content"=bv gV)(h5:nw K aj3 "ordered"=bv gV)(h6:nw K aj3 "fresh_book"=bv gV)(h7:nw K aj3 "support_of"=bv gV)(h8:nw K aj3 "behind"=bv gV)(h9:nw K aj3 "book_behind"=bv gV):xU K H:=λq P hq e=>by
 have no:∀q,nw K aj3 q=bv gV->kZ K q=none:=λq h=>by unfold kZ Ix;rw[h]
 simp only[dh,i_,jO,or_false]at hq;rcases hq with rfl |rfl |rfl |rfl |rfl |rfl |rfl |rfl |rfl
 ·rw[no _ h1]at e;cases e
 ·rw[no _ h2]at e;cases e
 ·rw[no _ h3]at e;cases e
 ·rw[no _ h4]at e;cases e
 ·rw[no _ h5]at e;cases e
 ·rw[no _ h6]at e;cases e
 ·rw[no _ h7]at e;cases e
 ·rw[no _ h8]at e;cases e
 ·rw[no _ h9]at e;cases e
theorem Ov{fd:ajQ}(us:List ajU)(hl:us.length=1)(h:∀a0:ajU,bindArgs fd { pos:=[a0] }=pure (ps.zip [a0])):bindArgs fd { pos:=us }=pure (ps.zip us):=match us,hl with |[a0],_=>h a0
theorem ln2{fd:ajQ}(us:List ajU)(hl:us.length=2)(h:∀a0 a1:ajU,bindArgs fd { pos:=[a0,a1] }=pure (ps.zip [a0,a1])):bindArgs fd { pos:=us }=pure (ps.zip us):=match us,hl with |[a0,a1],_=>h a0 a1
theorem ln3{fd:ajQ}(us:List ajU)(hl:us.length=3)(h:∀a0 a1 a2:ajU,bindArgs fd { pos:=[a0,a1,a2] }=pure (ps.zip [a0,a1,a2])):bindArgs fd { pos:=us }=pure (ps.zip us):=match us,hl with |[a0,a1,a2],_=>h a0 a1 a2
variable{k:Nat}{w:ajV}{x:Str}
theorem dk.mo(h:dk P w K mg base j x n F)(l:j<=k:=by first |decide |omega):dk P w K mg base k x n F:=h.mono l
theorem hdg{st:Stmt}{g:GS}(KX:K.In h)(NS:h.Ns aj3 mg)(D:a6 K x st)(T:uD c k P w K mg base)
  (hl:(c.N.take n).length=n:=by exact rfl)(S:((defScope st).kind= .function/\(defScope st).isCoroutine=kt/\(defScope st).isGenerator=kt/\c.N.take (c.N.take n).length=c.N.take n)/\c.N.Nodup/\(∀x∈c.N.take n,(defScope st).names.lookup x=bv .local\/(defScope st).names.lookup x=bv .cell)/\∀y∈(defScope st).names,y.2≠.free:=by exact⟨⟨rfl,rfl,rfl,rfl⟩,of_decide_eq_true (by kernel_rfl)⟩)(hg:lG 30 c (defBody st)=g:=by kernel_rfl)(hM:c.self∈dh->BI K mg base/\c.self=x:=by exact λz=>absurd (show("":Str)∈dh from z) (by decide))(hn:(defScope st).names=c.names:=by exact rfl)
  (hb:∀(kV doc pm:ajU)(an:Option ajO)(cdv ct:ajU)(us:List ajU),us.length=(c.N.take n).length->bindArgs (tz x x (defArgs st) (defBody st) (defScope st) .none kV doc pm an cdv ct) ⟨us,[]⟩=pure ((c.N.take n).zip us):=by intro _ _ _ _ _ _ us hl;first |exact J.Ov us hl λ_=>rfl |exact J.ln2 us hl λ_ _=>rfl |exact J.ln3 us hl λ_ _ _=>rfl |exact J.ln4 us hl λ_ _ _ _=>rfl |exact J.ln5 us hl λ_ _ _ _ _=>rfl |exact J.ln6 us hl λ_ _ _ _ _ _=>rfl |exact J.ln7 us hl λ_ _ _ _ _ _ _=>rfl):
  dk P w K mg base (k+1) x n (bf c.N.length g):=by
 have q:=Oh KX NS D T ⟨S.1.1,S.1.2.1,S.1.2.2.1,S.2.1,S.1.2.2.2,S.2.2.1,S.2.2.2⟩ hn hg hb hM
 rwa [hl]at q
theorem tk(ht:TabOk K c.tb c.tt c.tc)(hf:AllP (λp=>dk P w K mg base k p.1 p.2.1 p.2.2) c.fns:=by exact trivial)(hc:AllP (λp=>Dy K mg p.1 p.2) c.consts:=by exact trivial)(hb:AllP (λx=>mg x=gV) c.bl:=by exact trivial)
  (hk:AllP (λx=>∃C,mg x=bv (.ref C)/\Nc K x C) c.clss:=by exact trivial)(hn:AllP (λx=>∃C,mg x=bv (.ref C)/\ClsAt K x C) c.Dx:=by exact trivial)(hd:AllP (λp=>nj K w mg p.1 p.2) c.wQ:=by exact trivial)
  (hu:AllP (λx=>∀n F,c.fns.lookup x=bv (n,F)->NI P w K mg base k x n F) c.Jc:=by exact trivial)(hx:md c k P w K mg base:=by exact md.no rfl rfl rfl rfl):uD c k P w K mg base:=ky hc hb hf ht hk hn hd hu hx
end J
namespace K11
open PySem J
open L2 (defScope defBody defArgs FnScope CX0 FnOk XK Hp)
def top (i:Nat):Stmt:=PySem.Challenge.pw_onelook_k11_whole_formulas_read_back.main.body.getD i (.Pass ⟨0,0,0,0⟩)
def jD:Tab:=[]
def fW:E1:=[]
def aB:Dc:=[("num",.int 0),("text",.int 0),("lost",.int 0),("at",.int 0),("minus",.int 1),("not",.int 1),("+",.int 2),("-",.int 2),("*",.int 2),("/",.int 2),("&",.int 2),("<",.int 2),("=",.int 2),("rest",.int 2),("if",.int 3),("else",.int 2),("sum",.int 0),("count",.int 0),("least",.int 0),("greatest",.int 0),("find",.int 1)]
def aT:Dc:=[("<",.int 1),("=",.int 1),("&",.int 2),("+",.int 3),("-",.int 3),("*",.int 4),("/",.int 4)]
def qr:Tab:=[]
def cB(s:Stmt)(n b:List Str)(f:List (Str×Nat×(List Wv->Hs->Re Wv))):Ct:={ N:=n,names:=(defScope s).names,consts:=[],bl:=b,fns:=f,tb:=jD,tt:=fW,tc:=qr }
theorem Yr{N P:List Str}{sc:Scope}(h:sc.kind= .function/\sc.isCoroutine=kt/\sc.isGenerator=kt/\N.take P.length=P)(k:N.Nodup/\(∀x∈P,sc.names.lookup x=bv .local\/sc.names.lookup x=bv .cell)/\∀y∈sc.names,y.2≠.free):FnScope N P sc:=⟨h.1,h.2.1,h.2.2.1,k.1,h.2.2.2,k.2.1,k.2.2⟩
abbrev pF:Stmt:=top 78
def pG:GS:=(aq (aO 2 (af oMod (af aV (ae 0) (gC (.int 0))) (ae 1))) (aq (nE (af lF (af aV (ae 0) (gC (.int 0))) (ae 1)) (ae 0) (gC (.int 0))) (aQ (ae 2))))
def az:List Wv->Hs->Re Wv:=bf 3 pG
def yB:Ct:=cB pF ["own","many","digit"] [] []
abbrev rA:Stmt:=top 80
def rB:GS:=(aq (aO 1 (ao 2 az (aa (ae 0) (aa (gC (.int 99)) ag)))) (aq (aO 2 (ao 2 az (aa (ae 0) (aa (gC (.int 26)) ag)))) (aq (aO 3 (af aX (gC (.int 1)) (ao 2 az (aa (ae 0) (aa (af l5 (gC (.int 99)) (ae 1)) ag))))) (aq (aO 4 (af aX (gC (.int 1)) (ao 2 az (aa (ae 0) (aa (aH Dr (aa (af l5 (gC (.int 26)) (ae 2)) (aa (af lF (gC (.int 300)) (ae 3)) ag))) ag))))) (aQ (dA (aa (ae 1) (aa (ae 2) (aa (af l5 (af aX (ae 1) (ae 3)) (gC (.int 1))) (aa (af l5 (af aX (ae 2) (ae 4)) (gC (.int 1))) ag))))))))))
def eu:List Wv->Hs->Re Wv:=bf 5 rB
def zV:Ct:=cB rA ["own","top","left","high","wide"] ["min"] [("_law_digit",2,az)]
abbrev rC:Stmt:=top 81
def iQ:GT:=(λ_ st=> .ok jp st)
def gz:GE:=(ao 2 az (aa (ae 1) (aa (gC (.int 2)) ag)))
def rD:GS:=(aQ (aH nH (aa (jk [("own",0)] (By (aa (ae 1) ag)) iQ gz) ag)))
def cL:List Wv->Hs->Re Wv:=bf 2 rD
def zW:Ct:=cB rC ["own","many"] ["tuple","range"] [("_law_digit",2,az)]
abbrev rE:Stmt:=top 82
def iR:GT:=(λ_ st=> .ok jp st)
def gE:GE:=(af aV (ae 1) (ao 2 az (aa (ae 2) (aa (aH dH (aa (ae 1) ag)) ag))))
def rF:GS:=(aq (cR (aW (af oEq (ae 1) (gC (.int 0)))) (aQ (dA (aa (gC (.str "num")) (aa (ao 2 az (aa (ae 0) (aa (af aV (b8 (aa (gC (.int 10)) (aa (gC (.int 1000)) (aa (af aX (af Bo (gC (.int 10)) (gC (.int 60))) (gC (.int 1))) ag)))) (ao 2 az (aa (ae 0) (aa (gC (.int 3)) ag)))) ag))) ag)))) aN) (aq (cR (aW (af oEq (ae 1) (gC (.int 1)))) (aq (aO 2 (gC (.str "ab zCZ019(),+-*/&<=:$'!~_{}@#"))) (aq (aO 3 (ao 2 az (aa (ae 0) (aa (af aV (b8 (aa (gC (.int 4)) (aa (gC (.int 41)) ag))) (ao 2 az (aa (ae 0) (aa (gC (.int 2)) ag)))) ag)))) (aQ (dA (aa (gC (.str "text")) (aa (iP qY (gC (.str "")) (aa (jk [("signs",2),("own",0)] (By (aa (ae 3) ag)) iR gE) ag)) ag)))))) aN) (aq (cR (aW (af oEq (ae 1) (gC (.int 2)))) (aq (aO 4 (dA (aa (ao 2 az (aa (ae 0) (aa (gC (.int 99)) ag))) (aa (ao 2 az (aa (ae 0) (aa (gC (.int 26)) ag))) ag)))) (aQ (dA (aa (gC (.str "at")) (aa (ae 4) (aa (ao 2 cL (aa (ae 0) (aa (gC (.int 2)) ag))) ag)))))) aN) (aq (cR (aW (af oEq (ae 1) (gC (.int 3)))) (aQ (dA (aa (gC (.str "lost")) ag))) aN) (aq (aO 5 (af aV (b8 (aa (gC (.str "sum")) (aa (gC (.str "count")) (aa (gC (.str "least")) (aa (gC (.str "greatest")) ag))))) (ao 2 az (aa (ae 0) (aa (gC (.int 4)) ag))))) (aq (aO 6 (ao 1 eu (aa (ae 0) ag))) (aQ (dA (aa (ae 5) (aa (ae 6) (aa (ao 2 cL (aa (ae 0) (aa (gC (.int 4)) ag))) ag)))))))))))
def gQ:List Wv->Hs->Re Wv:=bf 7 rF
def zX:Ct:=cB rE ["own","kind","signs","many","place","word","area"] ["range","len"] [("_law_area",1,eu),("_law_digit",2,az),("_law_pins",2,cL)]
abbrev mh:Stmt:=top 83
def c9(ay:List Wv->Hs->Re Wv):GT:=(λ_ st=> .ok jp st)
def cD(ay:List Wv->Hs->Re Wv):GE:=(ao 3 ay (aa (ae 1) (aa (af l5 (ae 2) (gC (.int 1))) (aa (ae 3) ag))))
def dR(ay:List Wv->Hs->Re Wv):GS:=(aq (aO 3 (ao 2 az (aa (ae 0) (aa (gC (.int 18)) ag)))) (aq (aO 4 (af aV (b8 (aa (gC (.int 0)) (aa (gC (.int 0)) (aa (gC (.int 0)) (aa (gC (.int 0)) (aa (gC (.int 0)) (aa (gC (.int 1)) (aa (gC (.int 1)) (aa (gC (.int 1)) (aa (gC (.int 2)) (aa (gC (.int 2)) (aa (gC (.int 2)) (aa (gC (.int 2)) (aa (gC (.int 2)) (aa (gC (.int 2)) (aa (gC (.int 2)) (aa (gC (.int 2)) (aa (gC (.int 2)) (aa (gC (.int 3)) ag))))))))))))))))))) (ae 3))) (aq (cR (HA (aW (af oEq (ae 1) (gC (.int 1)))) (aW (af oLt (af aV (ae 2) (gC (.int 0))) (ae 4)))) (aq (aO 3 (af oMod (ae 3) (gC (.int 5)))) (aO 4 (gC (.int 0)))) aN) (aq (nE (af l5 (af aV (ae 2) (gC (.int 0))) (ae 4)) (ae 2) (gC (.int 0))) (aq (aO 5 (jk [("own",0),("deep",1),("room",2)] (By (aa (ae 4) ag)) (c9 ay) (cD ay))) (aq (cR (aW (af oLt (ae 3) (gC (.int 5)))) (aQ (ao 2 gQ (aa (ae 0) (aa (ae 3) ag)))) aN) (aq (cR (aW (af oEq (ae 3) (gC (.int 7)))) (aq (aO 6 (ao 1 eu (aa (ae 0) ag))) (aQ (dA (aa (gC (.str "find")) (aa (af aV (ae 5) (gC (.int 0))) (aa (ae 6) (aa (ao 2 cL (aa (ae 0) (aa (gC (.int 4)) ag))) ag))))))) aN) (aq (aO 7 (b8 (aa (gC (.str "minus")) (aa (gC (.str "not")) (aa (gC (.str "find")) (aa (gC (.str "+")) (aa (gC (.str "-")) (aa (gC (.str "*")) (aa (gC (.str "/")) (aa (gC (.str "&")) (aa (gC (.str "<")) (aa (gC (.str "=")) (aa (gC (.str "rest")) (aa (gC (.str "else")) (aa (gC (.str "if")) ag))))))))))))))) (aQ (af aX (dA (aa (af aV (ae 7) (af l5 (ae 3) (gC (.int 5)))) ag)) (aH nH (aa (ae 5) ag))))))))))))
def uK(ay:List Wv->Hs->Re Wv):Ct where
  N:=["own","deep","room","kind","need","parts","area","words"]
  names:=(defScope mh).names
  consts:=[]
  bl:=["tuple","range"]
  fns:=[("_law_digit",2,az),("_law_formula",3,ay),("_law_leaf",2,gQ),("_law_area",1,eu),("_law_pins",2,cL)]
  tb:=jD
  tt:=fW
  tc:=qr
def lH:Nat->(List Wv->Hs->Re Wv)
  | 0=>sd
  |n+1=>bf 8 (dR ((lH n)))
def aI(n:Nat):List Wv->Hs->Re Wv:=(lH n)
theorem nq(n:Nat):aI (n+1)=bf 8 (dR (aI n)):=rfl
def ay:List Wv->Hs->Re Wv:=aI 14
abbrev uL:Stmt:=top 79
def iE:GS:=(aq (aO 2 (af oMod (af aX (af aX (af fm (ae 2) (ae 2)) (af fm (gC (.int 977)) (ae 3))) (gC (.int 1))) (gC (.int 2147483647)))) (aO 1 (af aX (af fm (ae 1) (gC (.int 268435399))) (af lF (af oMod (af fm (ae 2) (gC (.int 69621))) (gC (.int 2147483647))) (gC (.int 8))))))
def uM:GS:=(aq (aO 0 (aH MV (aa (ae 0) ag))) (aq (cR (aW (af oEq (af oMod (ae 0) (gC (.int 2))) (gC (.int 1)))) (aQ (b8 (aa (af lF (ae 0) (gC (.int 2))) ag))) aN) (aq (aO 1 (gC (.int 0))) (aq (aO 2 (af aX (af oMod (af lF (ae 0) (gC (.int 2))) (gC (.int 2147483629))) (gC (.int 1)))) (aq (l6 3 (aa (gC (.int 60)) ag) iE) (aQ (b8 (aa (ae 1) ag))))))))
def ij:List Wv->Hs->Re Wv:=bf 4 uM
def B2:Ct:=cB uL ["cell","great","stir","k"] ["abs","range"] []
abbrev pH:Stmt:=top 91
def eN:GS:=(aO 2 (af aX (af aX (ae 2) (l9 (pz [((gC (.str "[")),(gC (.str "("))),((gC (.str "]")),(gC (.str ")")))]) (ae 3) (ae 3))) (af fm (gC (.str " ")) (ao 2 az (aa (ae 1) (aa (gC (.int 3)) ag))))))
def pI:GS:=(aq (aO 2 (af fm (gC (.str " ")) (ao 2 az (aa (ae 1) (aa (gC (.int 3)) ag))))) (aq (vJ 3 (ae 0) eN) (aQ (ae 2))))
def gY:List Wv->Hs->Re Wv:=bf 4 pI
def yC:Ct:=cB pH ["words","own","text","word"] [] [("_law_digit",2,az)]
abbrev pJ:Stmt:=top 85
def pK:GS:=(aq (aO 1 (pz [((gC (.str "<")),(gC (.int 1))),((gC (.str "=")),(gC (.int 1))),((gC (.str "&")),(gC (.int 2))),((gC (.str "+")),(gC (.int 3))),((gC (.str "-")),(gC (.int 3))),((gC (.str "*")),(gC (.int 4))),((gC (.str "/")),(gC (.int 4))),((gC (.str "minus")),(gC (.int 5)))])) (aQ (l9 (ae 1) (af aV (ae 0) (gC (.int 0))) (gC (.int 6)))))
def eJ:List Wv->Hs->Re Wv:=bf 2 pK
def yD:Ct:=cB pJ ["formula","levels"] [] []
abbrev kz:Stmt:=top 86
def kA:GS:=(aQ (af aX (af aX (af aX (af aV (b8 (aa (gC (.str "")) (aa (gC (.str "$")) ag))) (af aV (ae 1) (gC (.int 1)))) (af aV (gC (.str "abcdefghijklmnopqrstuvwxyz")) (af aV (ae 0) (gC (.int 1))))) (af aV (b8 (aa (gC (.str "")) (aa (gC (.str "$")) ag))) (af aV (ae 1) (gC (.int 0))))) (aH l7 (aa (af aX (af aV (ae 0) (gC (.int 0))) (gC (.int 1))) ag))))
def bX:List Wv->Hs->Re Wv:=bf 2 kA
def qt:Ct:=cB kz ["place","pins"] ["str"] []
abbrev kC:Stmt:=top 87
def kD:GS:=(aQ (af aX (af aX (ao 2 bX (aa (bA (ae 0) bP (cJ (gC (.int 2)))) (aa (bA (ae 1) bP (cJ (gC (.int 2)))) ag))) (gC (.str ":"))) (ao 2 bX (aa (bA (ae 0) (cJ (gC (.int 2))) bP) (aa (bA (ae 1) (cJ (gC (.int 2))) bP) ag)))))
def bx:List Wv->Hs->Re Wv:=bf 2 kD
def qu:Ct:=cB kC ["area","pins"] [] [("_law_cell_name",2,bX)]
abbrev kE:Stmt:=top 88
def dS:GS:=(aq (cR (aW (af oEq (af aV (ae 0) (gC (.int 0))) (gC (.str "num")))) (aQ (aH l7 (aa (af aV (ae 0) (gC (.int 1))) ag))) aN) (aq (cR (aW (af oEq (af aV (ae 0) (gC (.int 0))) (gC (.str "text")))) (aQ (af aX (af aX (gC (.str "\"")) (af aV (ae 0) (gC (.int 1)))) (gC (.str "\"")))) aN) (aq (cR (aW (af oEq (af aV (ae 0) (gC (.int 0))) (gC (.str "at")))) (aQ (ao 2 bX (aa (af aV (ae 0) (gC (.int 1))) (aa (af aV (ae 0) (gC (.int 2))) ag)))) aN) (aQ (gC (.str "lost"))))))
def bC:List Wv->Hs->Re Wv:=bf 1 dS
def qv:Ct:=cB kE ["formula"] ["str"] [("_law_cell_name",2,bX)]
abbrev rG:Stmt:=top 84
def mi:GS:=(aq (cR (aW (af oEq (af aV (ae 0) (gC (.int 0))) (gC (.str "find")))) (aQ (b8 (aa (af aV (ae 0) (gC (.int 1))) ag))) aN) (aq (cR (aW (af eG (af aV (ae 0) (gC (.int 0))) (b8 (aa (gC (.str "num")) (aa (gC (.str "text")) (aa (gC (.str "lost")) (aa (gC (.str "at")) (aa (gC (.str "sum")) (aa (gC (.str "count")) (aa (gC (.str "least")) (aa (gC (.str "greatest")) ag))))))))))) (aQ (b8 ag)) aN) (aQ (aH yk (aa (bA (ae 0) (cJ (gC (.int 1))) bP) ag)))))
def cV:List Wv->Hs->Re Wv:=bf 1 mi
def zY:Ct:=cB rG ["formula"] ["list"] []
abbrev pL:Stmt:=top 89
def dv(ak:List Wv->Hs->Re Wv):GS:=(aO 5 (af aX (af aX (ae 5) (ao 3 ak (aa (ae 6) (aa (gC (.int 1)) (aa (ae 2) ag))))) (b8 (aa (gC (.str ",")) ag))))
def lr(ak:List Wv->Hs->Re Wv):GS:=(aq (aO 3 (ao 1 eJ (aa (ae 0) ag))) (aq (aO 4 (af aV (ae 0) (gC (.int 0)))) (aq (cR (aW (af eG (ae 4) (b8 (aa (gC (.str "sum")) (aa (gC (.str "count")) (aa (gC (.str "least")) (aa (gC (.str "greatest")) ag))))))) (aO 5 (b8 (aa (ae 4) (aa (gC (.str "(")) (aa (ao 2 bx (aa (af aV (ae 0) (gC (.int 1))) (aa (af aV (ae 0) (gC (.int 2))) ag))) (aa (gC (.str ")")) ag)))))) (cR (aW (af eG (ae 4) (b8 (aa (gC (.str "num")) (aa (gC (.str "text")) (aa (gC (.str "at")) (aa (gC (.str "lost")) ag))))))) (aO 5 (b8 (aa (ao 1 bC (aa (ae 0) ag)) ag))) (cR (aW (af oEq (ae 3) (gC (.int 5)))) (aO 5 (af aX (b8 (aa (gC (.str "-")) ag)) (ao 3 ak (aa (af aV (ae 0) (gC (.int 1))) (aa (gC (.int 5)) (aa (ae 2) ag)))))) (cR (aW (af oLt (ae 3) (gC (.int 5)))) (aO 5 (af aX (af aX (ao 3 ak (aa (af aV (ae 0) (gC (.int 1))) (aa (ae 3) (aa (ae 2) ag)))) (b8 (aa (ae 4) ag))) (ao 3 ak (aa (af aV (ae 0) (gC (.int 2))) (aa (af aX (ae 3) (gC (.int 1))) (aa (ae 2) ag)))))) (aq (aO 5 (b8 (aa (ae 4) (aa (gC (.str "(")) ag)))) (aq (vJ 6 (ao 1 cV (aa (ae 0) ag)) (dv ak)) (aq (nE (gC (.str ")")) (ae 5) (af l5 (aH dH (aa (ae 5) ag)) (gC (.int 1)))) (cR (aW (af oEq (ae 4) (gC (.str "find")))) (aO 5 (af aX (bA (ae 5) bP (cJ (MJ o_ (gC (.int 1))))) (b8 (aa (gC (.str ",")) (aa (ao 2 bx (aa (af aV (ae 0) (gC (.int 2))) (aa (af aV (ae 0) (gC (.int 3))) ag))) (aa (gC (.str ")")) ag)))))) aN)))))))) (aq (cR (aW (af oLt (ae 3) (ae 1))) (aO 5 (af aX (af aX (b8 (aa (gC (.str "[")) ag)) (ae 5)) (b8 (aa (gC (.str "]")) ag)))) aN) (aq (cR (og (aW (af lU (ae 2) (b8 ag))) (aW (af oEq (ao 2 az (aa (ae 2) (aa (gC (.int 3)) ag))) (gC (.int 1))))) (aO 5 (af aX (af aX (b8 (aa (gC (.str "[")) ag)) (ae 5)) (b8 (aa (gC (.str "]")) ag)))) aN) (aQ (ae 5)))))))
def yE(ak:List Wv->Hs->Re Wv):Ct where
  N:=["formula","least","loose","level","word","words","part"]
  names:=(defScope pL).names
  consts:=[]
  bl:=["len"]
  fns:=[("_law_level",1,eJ),("_law_area_name",2,bx),("_law_digit",2,az),("_law_leaf_text",1,bC),("_law_words",3,ak),("_law_kids",1,cV)]
  tb:=jD
  tt:=fW
  tc:=qr
def nL:Nat->(List Wv->Hs->Re Wv)
  | 0=>sd
  |n+1=>bf 7 (lr ((nL n)))
def au(n:Nat):List Wv->Hs->Re Wv:=(nL n)
theorem pM(n:Nat):au (n+1)=bf 7 (lr (au n)):=rfl
def ak:List Wv->Hs->Re Wv:=au 20
abbrev rH:Stmt:=top 77
def gZ(cM:List Wv->Hs->Re Wv):GS:=(cR (pb (gK (ao 2 cM (aa (af aV (ae 0) (ae 2)) (aa (af aV (ae 1) (ae 2)) ag))))) (aQ (gC (.bl kt))) aN)
def iL(cM:List Wv->Hs->Re Wv):GS:=(aq (cR (gK (aH (jG jD fW) (aa (ae 1) (aa (gC (.ty "tuple")) ag)))) (aq (cR (HA (pb (gK (aH (jG jD fW) (aa (ae 0) (aa (gC (.ty "tuple")) ag))))) (aW (af lU (aH dH (aa (ae 0) ag)) (aH dH (aa (ae 1) ag))))) (aQ (gC (.bl kt))) aN) (aq (l6 2 (aa (aH dH (aa (ae 1) ag)) ag) (gZ cM)) (aQ (gC (.bl jp))))) aN) (aq (cR (gK (aH (jG jD fW) (aa (ae 1) (aa (gC (.ty "str")) ag)))) (aQ (cT (aH (jG jD fW) (aa (ae 0) (aa (gC (.ty "str")) ag))) (af oEq (ae 0) (ae 1)))) aN) (aQ (cT (aH (jG jD fW) (aa (ae 0) (aa (gC (.ty "int")) ag))) (cT (zg (aH (jG jD fW) (aa (ae 0) (aa (gC (.ty "bool")) ag)))) (af oEq (ae 0) (ae 1)))))))
def zZ(cM:List Wv->Hs->Re Wv):Ct where
  N:=["found","due","k"]
  names:=(defScope rH).names
  consts:=[]
  bl:=["isinstance","tuple","str","range","int","len","bool"]
  fns:=[("_law_same",2,cM)]
  tb:=jD
  tt:=fW
  tc:=qr
def pN:Nat->(List Wv->Hs->Re Wv)
  | 0=>sd
  |n+1=>bf 3 (iL ((pN n)))
def eE(n:Nat):List Wv->Hs->Re Wv:=(pN n)
theorem qw(n:Nat):eE (n+1)=bf 3 (iL (eE n)):=rfl
def cM:List Wv->Hs->Re Wv:=eE 16
abbrev rJ:Stmt:=top 29
def mj:GS:=(aQ (pA aB (ae 0)))
def bY:List Wv->Hs->Re Wv:=bf 1 mj
def z_:Ct:={ cB rJ ["word"] [] []with wQ:=[("PART_COUNTS",aB)] }
abbrev uN:Stmt:=top 31
def oy:GS:=(aQ (bA (ae 0) (cJ (gC (.int 1))) (cJ (af aX (gC (.int 1)) (ao 1 bY (aa (af aV (ae 0) (gC (.int 0))) ag))))))
def bT:List Wv->Hs->Re Wv:=bf 1 oy
def B3:Ct:=cB uN ["formula"] [] [("part_many",1,bY)]
abbrev nM:Stmt:=top 42
def dU:GS:=(gP (jh uw (ae 1) (ao 1 bT (aa (ae 2) ag))))
def nN:GS:=(aq (aO 1 (b8 ag)) (aq (vJ 2 (ae 0) dU) (aQ (ae 1))))
def f_:List Wv->Hs->Re Wv:=bf 3 nN
def vT:Ct:=cB nM ["level","parts","piece"] [] [("parts_of",1,bT)]
abbrev uO:Stmt:=top 30
def lA:GS:=(aQ (af eG (ae 0) (gC (.j5 [.str "sum",.str "count",.str "least",.str "greatest",.str "find"]))))
def bU:List Wv->Hs->Re Wv:=bf 1 lA
def B4:Ct:={ cB uO ["word"] [] []with consts:=[("AREA_WORDS",(.j5 [.str "sum",.str "count",.str "least",.str "greatest",.str "find"]))] }
abbrev uP:Stmt:=top 33
def uQ:GS:=(aQ (cT (aH (jG jD fW) (aa (ae 0) (aa (gC (.ty "int")) ag))) (zg (aH (jG jD fW) (aa (ae 0) (aa (gC (.ty "bool")) ag))))))
def gN:List Wv->Hs->Re Wv:=bf 1 uQ
def B5:Ct:=cB uP ["thing"] ["isinstance","int","bool"] []
abbrev mn:Stmt:=top 36
def mq:GS:=(aQ (cT (j6 oLe oLe (gC (.int 32)) (ae 0) (gC (.int 126))) (cT (af lU (ae 0) (gC (.int 34))) (af lU (ae 0) (gC (.int 37))))))
def fq:List Wv->Hs->Re Wv:=bf 1 mq
def uR:Ct:=cB mn ["number"] [] []
abbrev kF:Stmt:=top 35
def iM:GT:=(λ_ st=> .ok jp st)
def fu:GE:=(ao 1 fq (aa (aH NM (aa (ae 0) ag)) ag))
def kG:GS:=(aQ (aH ue (aa (jk [] (jl (ae 0)) iM fu) ag)))
def cE:List Wv->Hs->Re Wv:=bf 1 kG
def qx:Ct:=cB kF ["text"] ["all","ord"] [("is_text_sign",1,fq)]
abbrev wZ:Stmt:=top 34
def w5:GS:=(aQ (cT (aH (jG jD fW) (aa (ae 0) (aa (gC (.ty "str")) ag))) (cT (af oLe (aH dH (aa (ae 0) ag)) (gC (.int 40))) (ao 1 cE (aa (ae 0) ag)))))
def kH:List Wv->Hs->Re Wv:=bf 1 w5
def FD:Ct:={ cB wZ ["thing"] ["isinstance","str","len"] [("has_text_signs",1,cE)]with consts:=[("MOST_SIGNS",(.int 40))] }
abbrev lI:Stmt:=top 37
def iX:GT:=(λ_ st=> .ok jp st)
def fX:GE:=(ao 1 gN (aa (ae 0) ag))
def lJ:GS:=(aQ (cT (aH (jG jD fW) (aa (ae 0) (aa (gC (.ty "tuple")) ag))) (cT (af oEq (aH dH (aa (ae 0) ag)) (ae 1)) (aH ue (aa (jk [] (jl (ae 0)) iX fX) ag)))))
def bG:List Wv->Hs->Re Wv:=bf 2 lJ
def sh:Ct:=cB lI ["thing","many"] ["isinstance","tuple","all","len"] [("is_whole",1,gN)]
abbrev uS:Stmt:=top 11
def oz:GS:=(aQ (cT (j6 oLe oLt (gC (.int 0)) (af aV (ae 0) (gC (.int 0))) (gC (.int 99))) (j6 oLe oLt (gC (.int 0)) (af aV (ae 0) (gC (.int 1))) (gC (.int 26)))))
def cP:List Wv->Hs->Re Wv:=bf 1 oz
def B6:Ct:={ cB uS ["place"] [] []with consts:=[("ROWS",(.int 99)),("COLUMNS",(.int 26))] }
abbrev uT:Stmt:=top 38
def mv:GT:=(λ_ st=> .ok jp st)
def jm:GE:=(af eG (ae 0) (dA (aa (gC (.int 0)) (aa (gC (.int 1)) ag))))
def uU:GS:=(aQ (cT (ao 2 bG (aa (ae 0) (aa (ae 1) ag))) (aH ue (aa (jk [] (jl (ae 0)) mv jm) ag))))
def fF:List Wv->Hs->Re Wv:=bf 2 uU
def B7:Ct:=cB uT ["thing","many"] ["all"] [("is_number_row",2,bG)]
abbrev nO:Stmt:=top 20
def nP:GS:=(aq (aO 1 (cT (af oLe (af aV (ae 0) (gC (.int 0))) (af aV (ae 0) (gC (.int 2)))) (af oLe (af aV (ae 0) (gC (.int 1))) (af aV (ae 0) (gC (.int 3)))))) (aQ (cT (ae 1) (cT (ao 1 cP (aa (bA (ae 0) bP (cJ (gC (.int 2)))) ag)) (ao 1 cP (aa (bA (ae 0) (cJ (gC (.int 2))) bP) ag))))))
def dF:List Wv->Hs->Re Wv:=bf 2 nP
def vU:Ct:=cB nO ["area","in_order"] [] [("is_place",1,cP)]
abbrev rK:Stmt:=top 21
def rL:GS:=(aQ (af fm (af aX (af l5 (af aV (ae 0) (gC (.int 2))) (af aV (ae 0) (gC (.int 0)))) (gC (.int 1))) (af aX (af l5 (af aV (ae 0) (gC (.int 3))) (af aV (ae 0) (gC (.int 1)))) (gC (.int 1)))))
def iN:List Wv->Hs->Re Wv:=bf 1 rL
def Aa:Ct:=cB rK ["area"] [] []
abbrev w6:Stmt:=top 19
def w8:GS:=(aQ (cT (ao 1 dF (aa (ae 0) ag)) (af oLe (ao 1 iN (aa (ae 0) ag)) (gC (.int 300)))))
def kI:List Wv->Hs->Re Wv:=bf 1 w8
def FE:Ct:={ cB w6 ["area"] [] [("has_corners",1,dF),("area_many",1,iN)]with consts:=[("MOST_PLACES",(.int 300))] }
abbrev w_:Stmt:=top 39
def jd:GS:=(aq (cR (aW (af oEq (ae 0) (gC (.str "num")))) (aQ (cT (af oEq (aH dH (aa (ae 1) ag)) (gC (.int 1))) (cT (ao 1 gN (aa (af aV (ae 1) (gC (.int 0))) ag)) (j6 oLe oLe (gC (.int 0)) (af aV (ae 1) (gC (.int 0))) (af Bo (gC (.int 10)) (gC (.int 60))))))) aN) (aq (cR (aW (af oEq (ae 0) (gC (.str "text")))) (aQ (cT (af oEq (aH dH (aa (ae 1) ag)) (gC (.int 1))) (ao 1 kH (aa (af aV (ae 1) (gC (.int 0))) ag)))) aN) (aq (cR (aW (af oEq (ae 0) (gC (.str "at")))) (aQ (cT (af oEq (aH dH (aa (ae 1) ag)) (gC (.int 2))) (cT (ao 2 bG (aa (af aV (ae 1) (gC (.int 0))) (aa (gC (.int 2)) ag))) (cT (ao 1 cP (aa (af aV (ae 1) (gC (.int 0))) ag)) (ao 2 fF (aa (af aV (ae 1) (gC (.int 1))) (aa (gC (.int 2)) ag))))))) aN) (aq (cR (gK (ao 1 bU (aa (ae 0) ag))) (aQ (cT (af oEq (aH dH (aa (ae 1) ag)) (gC (.int 2))) (cT (ao 2 bG (aa (af aV (ae 1) (gC (.int 0))) (aa (gC (.int 4)) ag))) (cT (ao 1 kI (aa (af aV (ae 1) (gC (.int 0))) ag)) (ao 2 fF (aa (af aV (ae 1) (gC (.int 1))) (aa (gC (.int 4)) ag))))))) aN) (aQ (af oEq (aH dH (aa (ae 1) ag)) (gC (.int 0))))))))
def cO:List Wv->Hs->Re Wv:=bf 2 jd
def FF:Ct:=cB w_ ["word","tail"] ["len"] [("has_area",1,bU),("is_whole",1,gN),("is_text",1,kH),("is_number_row",2,bG),("is_place",1,cP),("are_pins",2,fF),("is_area",1,kI)]
abbrev xf:Stmt:=top 32
def qy:GS:=(aQ (bA (ae 0) (cJ (af aX (gC (.int 1)) (ao 1 bY (aa (af aV (ae 0) (gC (.int 0))) ag)))) bP))
def dw:List Wv->Hs->Re Wv:=bf 1 qy
def FG:Ct:=cB xf ["formula"] [] [("part_many",1,bY)]
abbrev uV:Stmt:=top 40
def uW:GS:=(aq (cR (HA (pb (gK (aH (jG jD fW) (aa (ae 0) (aa (gC (.ty "tuple")) ag))))) (aW (af oEq (aH dH (aa (ae 0) ag)) (gC (.int 0))))) (aQ (gC (.bl kt))) aN) (aq (aO 1 (af aV (ae 0) (gC (.int 0)))) (aq (cR (HA (pb (gK (aH (jG jD fW) (aa (ae 1) (aa (gC (.ty "str")) ag))))) (aW (jJ jp aB (ae 1)))) (aQ (gC (.bl kt))) aN) (aQ (cT (af oEq (aH dH (aa (ao 1 bT (aa (ae 0) ag)) ag)) (ao 1 bY (aa (ae 1) ag))) (ao 2 cO (aa (ae 1) (aa (ao 1 dw (aa (ae 0) ag)) ag))))))))
def jo:List Wv->Hs->Re Wv:=bf 2 uW
def B8:Ct:={ cB uV ["thing","word"] ["isinstance","tuple","len","str"] [("is_tail",2,cO),("part_many",1,bY),("tail_of",1,dw),("parts_of",1,bT)]with wQ:=[("PART_COUNTS",aB)] }
abbrev mw:Stmt:=top 41
def jq:GT:=(λ_ st=> .ok jp st)
def gO:GE:=(ao 1 jo (aa (ae 0) ag))
def dB:GS:=(aq (jH (λi j=>i+j) 2 (aH dH (aa (ae 1) ag))) (aq (jH (λi j=>i+j) 3 (gC (.int 1))) (aq (cR (HA (aW (af VT (ae 2) (gC (.int 60)))) (HA (aW (af VT (ae 3) (gC (.int 12)))) (pb (gK (aH ue (aa (jk [] (jl (ae 1)) jq gO) ag)))))) bH aN) (aO 1 (ao 1 f_ (aa (ae 1) ag))))))
def my:GS:=(aq (aO 1 (b8 (aa (ae 0) ag))) (aq (aO 2 (gC (.int 0))) (aq (aO 3 (gC (.int 0))) (aq (fV cC (gK (ae 1)) dB) (aQ (ae 0))))))
def fG:List Wv->Hs->Re Wv:=bf 4 my
def uX:Ct:={ cB mw ["formula","level","pieces","deep"] ["len","all"] [("level_below",1,f_),("is_piece",1,jo)]with consts:=[("MOST_PIECES",(.int 60)),("MOST_DEEP",(.int 12))] }
abbrev mz:Stmt:=top 62
def mB:GS:=(aQ (HB (af eG (ae 0) (gC (.str "abcdefghijklmnopqrstuvwxyz"))) (HB (af eG (ae 0) (gC (.str "0123456789"))) (af eG (ae 0) (dA (aa (gC (.str "$")) (aa (gC (.str ":")) ag)))))))
def dW:List Wv->Hs->Re Wv:=bf 1 mB
def uY:Ct:={ cB mz ["sign"] [] []with consts:=[("LETTERS",(.str "abcdefghijklmnopqrstuvwxyz")),("FIGURES",(.str "0123456789"))] }
abbrev mC:Stmt:=top 61
def mD:GS:=(aq (aO 2 (iP uz (ae 0) (aa (gC (.str "\"")) (aa (af aX (ae 1) (gC (.int 1))) ag)))) (aq (cR (aW (af oLt (ae 2) (gC (.int 0)))) bH aN) (aQ (ae 2))))
def fH:List Wv->Hs->Re Wv:=bf 3 mD
def uZ:Ct:=cB mC ["text","start","found"] [] []
abbrev u0:Stmt:=top 60
def nQ:GS:=(jH (λi j=>i+j) 2 (gC (.int 1)))
def nR:GS:=(jH (λi j=>i+j) 2 (gC (.int 1)))
def lB:GS:=(aq (cR (aW (af oEq (af aV (ae 0) (ae 1)) (gC (.str "\"")))) (aQ (af aX (ao 2 fH (aa (ae 0) (aa (ae 1) ag))) (gC (.int 1)))) aN) (aq (cR (aW (af eG (af aV (ae 0) (ae 1)) (gC (.str "0123456789")))) (aq (aO 2 (ae 1)) (aq (fV cC (og (aW (af oLt (ae 2) (aH dH (aa (ae 0) ag)))) (aW (af eG (af aV (ae 0) (ae 2)) (gC (.str "0123456789"))))) nR) (aQ (ae 2)))) aN) (aq (aO 2 (ae 1)) (aq (fV cC (og (aW (af oLt (ae 2) (aH dH (aa (ae 0) ag)))) (gK (ao 1 dW (aa (af aV (ae 0) (ae 2)) ag)))) nQ) (aQ (aH uh (aa (ae 2) (aa (af aX (ae 1) (gC (.int 1))) ag))))))))
def fI:List Wv->Hs->Re Wv:=bf 3 lB
def B9:Ct:={ cB u0 ["text","start","end"] ["max","len"] [("is_name_sign",1,dW),("closing_mark",2,fH)]with consts:=[("FIGURES",(.str "0123456789"))] }
abbrev lK:Stmt:=top 16
def iY:GT:=(λ_ st=> .ok jp st)
def fY:GE:=(af eG (ae 0) (gC (.str "0123456789")))
def lL:GS:=(aQ (cT (af lU (af aV (ae 0) (gC (.int 0))) (gC (.str "0"))) (aH ue (aa (jk [] (jl (ae 0)) iY fY) ag))))
def eO:List Wv->Hs->Re Wv:=bf 1 lL
def si:Ct:={ cB lK ["figures"] ["all"] []with consts:=[("FIGURES",(.str "0123456789"))] }
abbrev xg:Stmt:=top 15
def xh:GS:=(aQ (cT (af eG (aH dH (aa (ae 0) ag)) (dA (aa (gC (.int 2)) (aa (gC (.int 3)) ag)))) (cT (af eG (af aV (ae 0) (gC (.int 0))) (gC (.str "abcdefghijklmnopqrstuvwxyz"))) (ao 1 eO (aa (bA (ae 0) (cJ (gC (.int 1))) bP) ag)))))
def kJ:List Wv->Hs->Re Wv:=bf 1 xh
def FH:Ct:={ cB xg ["text"] ["len"] [("is_row_number",1,eO)]with consts:=[("LETTERS",(.str "abcdefghijklmnopqrstuvwxyz"))] }
abbrev pO:Stmt:=top 14
def pP:GS:=(aq (cR (pb (gK (ao 1 kJ (aa (ae 0) ag)))) bH aN) (aQ (dA (aa (af l5 (aH uo (aa (bA (ae 0) (cJ (gC (.int 1))) bP) ag)) (gC (.int 1))) (aa (yf (iP om (gC (.str "abcdefghijklmnopqrstuvwxyz")) (aa (af aV (ae 0) (gC (.int 0))) ag)) (yf (jh sJ (gC (.str "abcdefghijklmnopqrstuvwxyz")) (af aV (ae 0) (gC (.int 0)))) (BH sM (gC (.str "abcdefghijklmnopqrstuvwxyz")) (af aV (ae 0) (gC (.int 0)))))) ag)))))
def fO:List Wv->Hs->Re Wv:=bf 1 pP
def yF:Ct:={ cB pO ["text"] ["int"] [("is_name",1,kJ)]with consts:=[("LETTERS",(.str "abcdefghijklmnopqrstuvwxyz"))] }
abbrev nT:Stmt:=top 66
def nU:GS:=(aq (aO 1 (vI (aW (af oEq (af aV (ae 0) (gC (.int 0))) (gC (.str "$")))) (gC (.int 1)) (gC (.int 0)))) (aq (aO 2 (bA (ae 0) (cJ (ae 1)) bP)) (aq (aO 3 (vI (aW (af oEq (bA (ae 2) (cJ (gC (.int 1))) (cJ (gC (.int 2)))) (gC (.str "$")))) (gC (.int 1)) (gC (.int 0)))) (aQ (dA (aa (gC (.str "at")) (aa (ao 1 fO (aa (af aX (bA (ae 2) bP (cJ (gC (.int 1)))) (bA (ae 2) (cJ (af aX (gC (.int 1)) (ae 3))) bP)) ag)) (aa (dA (aa (ae 3) (aa (ae 1) ag))) ag))))))))
def cW:List Wv->Hs->Re Wv:=bf 4 nU
def vV:Ct:=cB nT ["name","column_pin","bare","row_pin"] [] [("read_place",1,fO)]
abbrev nV:Stmt:=top 64
def nW:GS:=(aq (aO 1 (bA (ae 0) (cJ (gC (.int 1))) (cJ (MJ o_ (gC (.int 1)))))) (aq (cR (pb (gK (ao 1 cE (aa (ae 1) ag)))) bH aN) (aQ (dA (aa (gC (.str "text")) (aa (ae 1) ag))))))
def f':List Wv->Hs->Re Wv:=bf 2 nW
def vW:Ct:=cB nV ["word","text"] [] [("has_text_signs",1,cE)]
abbrev nX:Stmt:=top 65
def nY:GS:=(aq (cR (og (aW (af oEq (af aV (ae 0) (gC (.int 0))) (gC (.str "0")))) (aW (af lU (ae 0) (gC (.str "0"))))) bH aN) (aQ (dA (aa (gC (.str "num")) (aa (aH uo (aa (bA (ae 0) bP (cJ (gC (.int 62)))) ag)) ag)))))
def gf:List Wv->Hs->Re Wv:=bf 1 nY
def vX:Ct:=cB nX ["figures"] ["int"] []
abbrev kK:Stmt:=top 22
def kL:GS:=(aq (aO 2 (af aX (ae 0) (ae 1))) (aq (cR (pb (gK (ao 1 dF (aa (ae 2) ag)))) bH aN) (aQ (ae 2))))
def dX:List Wv->Hs->Re Wv:=bf 3 kL
def qz:Ct:=cB kK ["first","last","area"] [] [("has_corners",1,dF)]
abbrev jr:Stmt:=top 67
def ju:GS:=(aq (aO 1 (iP qk (ae 0) (aa (gC (.str ":")) ag))) (aq (cR (HA (aW (af lU (aH dH (aa (ae 1) ag)) (gC (.int 2)))) (aW (af (vL kt) (gC (.str "")) (ae 1)))) bH aN) (aq (aO 2 (ao 1 cW (aa (af aV (ae 1) (gC (.int 0))) ag))) (aq (aO 3 (ao 1 cW (aa (af aV (ae 1) (gC (.int 1))) ag))) (aQ (dA (aa (ao 2 dX (aa (af aV (ae 2) (gC (.int 1))) (aa (af aV (ae 3) (gC (.int 1))) ag))) (aa (af aX (af aV (ae 2) (gC (.int 2))) (af aV (ae 3) (gC (.int 2)))) ag))))))))
def c_:List Wv->Hs->Re Wv:=bf 4 ju
def oA:Ct:={ cB jr ["word","names","first","last"] ["len"] [("read_pinned",1,cW),("joined_corners",2,dX)]with X6:=["names"] }
abbrev rM:Stmt:=top 63
def eF:GS:=(aq (cR (aW (af oEq (af aV (ae 0) (gC (.int 0))) (gC (.str "\"")))) (aQ (dA (aa (gC (.str "whole")) (aa (ao 1 f' (aa (ae 0) ag)) ag)))) aN) (aq (cR (aW (af eG (af aV (ae 0) (gC (.int 0))) (gC (.str "0123456789")))) (aQ (dA (aa (gC (.str "whole")) (aa (ao 1 gf (aa (ae 0) ag)) ag)))) aN) (aq (cR (aW (af oEq (ae 0) (gC (.str "lost")))) (aQ (dA (aa (gC (.str "whole")) (aa (dA (aa (gC (.str "lost")) ag)) ag)))) aN) (aq (cR (aW (af eG (ae 0) (gC (.j5 [.str "not",.str "rest",.str "if",.str "else",.str "sum",.str "count",.str "least",.str "greatest",.str "find"])))) (aQ (dA (aa (gC (.str "call")) (aa (ae 0) ag)))) aN) (aq (cR (aW (af eG (ae 0) (gC (.j5 [.str "+",.str "-",.str "*",.str "/",.str "&",.str "<",.str "=",.str "(",.str ")",.str ","])))) (aQ (dA (aa (gC (.str "sign")) (aa (ae 0) ag)))) aN) (aq (cR (aW (af eG (gC (.str ":")) (ae 0))) (aQ (dA (aa (gC (.str "area")) (aa (ao 1 c_ (aa (ae 0) ag)) ag)))) aN) (aQ (dA (aa (gC (.str "whole")) (aa (ao 1 cW (aa (ae 0) ag)) ag))))))))))
def cg:List Wv->Hs->Re Wv:=bf 1 eF
def Ab:Ct:={ cB rM ["word"] [] [("read_pinned",1,cW),("read_quoted",1,f'),("read_number",1,gf),("read_pinned_area",1,c_)]with consts:=[("FIGURES",(.str "0123456789")),("CALL_WORDS",(.j5 [.str "not",.str "rest",.str "if",.str "else",.str "sum",.str "count",.str "least",.str "greatest",.str "find"])),("SIGNS",(.j5 [.str "+",.str "-",.str "*",.str "/",.str "&",.str "<",.str "=",.str "(",.str ")",.str ","]))] }
abbrev u3:Stmt:=top 59
def dG:GS:=(aq (aO 3 (ao 2 fI (aa (ae 0) (aa (ae 2) ag)))) (aq (cR (aW (af lU (af aV (ae 0) (ae 2)) (gC (.str " ")))) (gP (jh ni (ae 1) (ao 1 cg (aa (bA (ae 0) (cJ (ae 2)) (cJ (ae 3))) ag)))) aN) (aO 2 (ae 3))))
def u4:GS:=(aq (aO 1 (b8 ag)) (aq (aO 2 (gC (.int 0))) (aq (fV cC (aW (af oLt (ae 2) (aH dH (aa (ae 0) ag)))) dG) (aQ (ae 1)))))
def jv:List Wv->Hs->Re Wv:=bf 4 u4
def B_:Ct:=cB u3 ["text","words","start","end"] ["len"] [("word_end",2,fI),("read_word",1,cg)]
abbrev kM:Stmt:=top 68
def cQ:GS:=(aq (cR (aW (af oEq (ae 2) (dA (aa (gC (.str "sign")) (aa (gC (.str "(")) ag))))) (jH (λi j=>i+j) 1 (gC (.int 1))) aN) (aq (cR (aW (af oEq (ae 2) (dA (aa (gC (.str "sign")) (aa (gC (.str ")")) ag))))) (jH (λi j=>i - j) 1 (gC (.int 1))) aN) (cR (aW (af VT (ae 1) (gC (.int 40)))) bH aN)))
def kN:GS:=(aq (aO 1 (gC (.int 0))) (vJ 2 (ae 0) cQ))
def dY:List Wv->Hs->Re Wv:=bf 3 kN
def qA:Ct:={ cB kM ["words","deep","word"] [] []with consts:=[("MOST_BRACKETS",(.int 40))] }
abbrev dO:Stmt:=L2.inClass (top 69) 0
def fZ:GS:=(aq (ra "WordRow" "words" (ae 1) (ae 0)) (ra "WordRow" "spot" (gC (.int 0)) (ae 0)))
def bI:List Wv->Hs->Re Wv:=bf 2 fZ
def f6:Ct:={ cB dO ["self","words"] [] []with it:={ c:="WordRow",yo:=[],ini:=[],own:=["words","spot"] } }
theorem nr:lG 30 (f6) (defBody dO)=fZ:=by kernel_rfl
theorem mE:FnScope (f6).N ["self","words"] (defScope dO):=Yr ⟨rfl,rfl,rfl,rfl⟩ (by decide+kernel)
abbrev rN:Stmt:=top 71
def fJ:GS:=(aq (aO 3 (wM (ae 0))) (aq (aO 4 (wM (ae 0))) (gP (jh ni (ae 0) (dA (aa (wM (ae 1)) (aa (ae 4) (aa (ae 3) ag))))))))
def rO:GS:=(fV cC (og (gK (ae 1)) (aW (af Xp (pA aT (af aV (ae 1) (MJ o_ (gC (.int 1))))) (ae 2)))) fJ)
def gR:List Wv->Hs->Re Wv:=bf 5 rO
def Ac:Ct:={ cB rN ["parts","ops","binding","right","left"] [] []with wQ:=[("BINDING",aT)] }
abbrev fP:Stmt:=L2.inClass (top 69) 1
def ip:GS:=(aQ (vI (aW (af oLt (vM "WordRow" "spot" (ae 0)) (aH dH (aa (vM "WordRow" "words" (ae 0)) ag)))) (af aV (vM "WordRow" "words" (ae 0)) (vM "WordRow" "spot" (ae 0))) (gC (.j5 [.str "end",.str ""]))))
def aC:List Wv->Hs->Re Wv:=bf 1 ip
def iq:Ct:={ cB fP ["self"] ["len"] []with consts:=[("END",(.j5 [.str "end",.str ""]))],it:={ c:="WordRow",yo:=[],ini:=[],own:=["words","spot"] } }
theorem qB:lG 30 (iq) (defBody fP)=ip:=by kernel_rfl
theorem pQ:FnScope (iq).N ["self"] (defScope fP):=Yr ⟨rfl,rfl,rfl,rfl⟩ (by decide+kernel)
abbrev fQ:Stmt:=L2.inClass (top 69) 2
def ir:GS:=(aq (aO 1 (gM "WordRow" "ahead" 1 aC (ae 0) ag)) (aq (wO (λi j=>i+j) "WordRow" "spot" (ae 0) (gC (.int 1))) (aQ (ae 1))))
def aU:List Wv->Hs->Re Wv:=bf 2 ir
def iu:Ct:={ cB fQ ["self","word"] [] []with it:={ c:="WordRow",yo:=[("ahead",1,aC)],ini:=[],own:=["spot"] } }
theorem qC:lG 30 (iu) (defBody fQ)=ir:=by kernel_rfl
theorem pR:FnScope (iu).N ["self"] (defScope fQ):=Yr ⟨rfl,rfl,rfl,rfl⟩ (by decide+kernel)
abbrev dC:Stmt:=L2.inClass (top 69) 3
def fK:GS:=(cR (aW (af lU (gM "WordRow" "taken" 1 aU (ae 0) ag) (dA (aa (gC (.str "sign")) (aa (ae 1) ag))))) bH aN)
def bb:List Wv->Hs->Re Wv:=bf 2 fK
def fL:Ct:={ cB dC ["self","sign"] [] []with it:={ c:="WordRow",yo:=[("taken",1,aU)],ini:=[],own:=[] } }
theorem mF:lG 30 (fL) (defBody dC)=fK:=by kernel_rfl
theorem lT:FnScope (fL).N ["self","sign"] (defScope dC):=Yr ⟨rfl,rfl,rfl,rfl⟩ (by decide+kernel)
abbrev kO:Stmt:=top 75
def kP:GS:=(aq (aO 1 (gM "WordRow" "taken" 1 aU (ae 0) ag)) (aq (cR (aW (af lU (af aV (ae 1) (gC (.int 0))) (gC (.str "area")))) bH aN) (aQ (af aV (ae 1) (gC (.int 1))))))
def dZ:List Wv->Hs->Re Wv:=bf 2 kP
def qD:Ct:={ cB kO ["row","word"] [] []with it:={ c:="WordRow",yo:=[("taken",1,aU)],ini:=[],own:=[] } }
abbrev rP:Stmt:=top 74
def g0(bp ba aJ aS:List Wv->Hs->Re Wv):GS:=(aq (gP (gM "WordRow" "pass_sign" 2 bb (ae 0) (aa (ae 3) ag))) (aq (gP (jh ni (ae 2) (ao 1 aS (aa (ae 0) ag)))) (aO 3 (gC (.str ",")))))
def iO(bp ba aJ aS:List Wv->Hs->Re Wv):GS:=(aq (aO 2 (b8 (aa (ae 1) ag))) (aq (aO 3 (gC (.str "("))) (aq (l6 4 (aa (ao 1 bY (aa (ae 1) ag)) ag) (g0 bp ba aJ aS)) (aq (cR (gK (ao 1 bU (aa (ae 1) ag))) (aq (gP (gM "WordRow" "pass_sign" 2 bb (ae 0) (aa (ae 3) ag))) (gP (jh uw (ae 2) (ao 1 dZ (aa (ae 0) ag))))) aN) (aq (gP (gM "WordRow" "pass_sign" 2 bb (ae 0) (aa (gC (.str ")")) ag))) (aQ (aH nH (aa (ae 2) ag))))))))
def Ad(bp ba aJ aS:List Wv->Hs->Re Wv):Ct where
  N:=["row","word","entries","opening","done"]
  names:=(defScope rP).names
  consts:=[]
  bl:=["range","tuple"]
  fns:=[("has_area",1,bU),("part_many",1,bY),("read_part",1,aS),("read_area_word",1,dZ)]
  tb:=jD
  tt:=fW
  tc:=qr
  it:={ c:="WordRow",yo:=[("pass_sign",2,bb)],ini:=[],own:=[] }
abbrev pS:Stmt:=top 73
def cH(bp ba aJ aS:List Wv->Hs->Re Wv):GS:=(aq (aO 1 (gM "WordRow" "taken" 1 aU (ae 0) ag)) (aq (cR (aW (af oEq (af aV (ae 1) (gC (.int 0))) (gC (.str "whole")))) (aQ (af aV (ae 1) (gC (.int 1)))) aN) (aq (cR (aW (af oEq (af aV (ae 1) (gC (.int 0))) (gC (.str "call")))) (aQ (ao 2 bp (aa (ae 0) (aa (af aV (ae 1) (gC (.int 1))) ag)))) aN) (aq (cR (aW (af lU (ae 1) (dA (aa (gC (.str "sign")) (aa (gC (.str "(")) ag))))) bH aN) (aq (aO 2 (ao 1 aS (aa (ae 0) ag))) (aq (gP (gM "WordRow" "pass_sign" 2 bb (ae 0) (aa (gC (.str ")")) ag))) (aQ (ae 2))))))))
def yG(bp ba aJ aS:List Wv->Hs->Re Wv):Ct where
  N:=["row","word","formula"]
  names:=(defScope pS).names
  consts:=[]
  bl:=[]
  fns:=[("read_part",1,aS),("read_call",2,bp)]
  tb:=jD
  tt:=fW
  tc:=qr
  it:={ c:="WordRow",yo:=[("taken",1,aU),("pass_sign",2,bb)],ini:=[],own:=[] }
abbrev mG:Stmt:=top 72
def fc(bp ba aJ aS:List Wv->Hs->Re Wv):GS:=(aO 2 (dA (aa (gC (.str "minus")) (aa (ae 2) ag))))
def dD(bp ba aJ aS:List Wv->Hs->Re Wv):GS:=(aq (gP (gM "WordRow" "taken" 1 aU (ae 0) ag)) (jH (λi j=>i+j) 1 (gC (.int 1))))
def g_(bp ba aJ aS:List Wv->Hs->Re Wv):GS:=(aq (aO 1 (gC (.int 0))) (aq (fV cC (aW (af oEq (gM "WordRow" "ahead" 1 aC (ae 0) ag) (dA (aa (gC (.str "sign")) (aa (gC (.str "-")) ag))))) (dD bp ba aJ aS)) (aq (aO 2 (ao 1 ba (aa (ae 0) ag))) (aq (l6 3 (aa (ae 1) ag) (fc bp ba aJ aS)) (aQ (ae 2))))))
def u5(bp ba aJ aS:List Wv->Hs->Re Wv):Ct where
  N:=["row","minuses","formula","done"]
  names:=(defScope mG).names
  consts:=[]
  bl:=["range"]
  fns:=[("read_whole",1,ba)]
  tb:=jD
  tt:=fW
  tc:=qr
  it:={ c:="WordRow",yo:=[("ahead",1,aC),("taken",1,aU)],ini:=[],own:=[] }
abbrev rQ:Stmt:=top 70
def fM(bp ba aJ aS:List Wv->Hs->Re Wv):GS:=(aq (aO 3 (af aV (gM "WordRow" "taken" 1 aU (ae 0) ag) (gC (.int 1)))) (aq (gP (ao 3 gR (aa (ae 1) (aa (ae 2) (aa (pA aT (ae 3)) ag))))) (aq (gP (jh ni (ae 2) (ae 3))) (gP (jh ni (ae 1) (ao 1 aJ (aa (ae 0) ag)))))))
def gS(bp ba aJ aS:List Wv->Hs->Re Wv):GS:=(aq (aO 1 (b8 (aa (ao 1 aJ (aa (ae 0) ag)) ag))) (aq (aO 2 (b8 ag)) (aq (fV cC (og (aW (af oEq (af aV (gM "WordRow" "ahead" 1 aC (ae 0) ag) (gC (.int 0))) (gC (.str "sign")))) (aW (jJ kt aT (af aV (gM "WordRow" "ahead" 1 aC (ae 0) ag) (gC (.int 1)))))) (fM bp ba aJ aS)) (aq (gP (ao 3 gR (aa (ae 1) (aa (ae 2) (aa (gC (.int 0)) ag))))) (aQ (af aV (ae 1) (gC (.int 0))))))))
def Ae(bp ba aJ aS:List Wv->Hs->Re Wv):Ct where
  N:=["row","parts","ops","op"]
  names:=(defScope rQ).names
  consts:=[]
  bl:=[]
  fns:=[("join_down",3,gR),("read_operand",1,aJ)]
  tb:=jD
  tt:=fW
  tc:=qr
  wQ:=[("BINDING",aT)]
  it:={ c:="WordRow",yo:=[("taken",1,aU),("ahead",1,aC)],ini:=[],own:=[] }
def a7:Nat->(List Wv->Hs->Re Wv)×(List Wv->Hs->Re Wv)×(List Wv->Hs->Re Wv)×(List Wv->Hs->Re Wv)
  | 0=>(sd,sd,sd,sd)
  |n+1=>(bf 5 (iO ((a7 n).1) ((a7 n).2.1) ((a7 n).2.2.1) ((a7 n).2.2.2)),bf 3 (cH ((a7 n).1) ((a7 n).2.1) ((a7 n).2.2.1) ((a7 n).2.2.2)),bf 4 (g_ ((a7 n).1) ((a7 n).2.1) ((a7 n).2.2.1) ((a7 n).2.2.2)),bf 4 (gS ((a7 n).1) ((a7 n).2.1) ((a7 n).2.2.1) ((a7 n).2.2.2)))
def cq(n:Nat):List Wv->Hs->Re Wv:=(a7 n).1
def bQ(n:Nat):List Wv->Hs->Re Wv:=(a7 n).2.1
def bB(n:Nat):List Wv->Hs->Re Wv:=(a7 n).2.2.1
def cu(n:Nat):List Wv->Hs->Re Wv:=(a7 n).2.2.2
theorem qE(n:Nat):cq (n+1)=bf 5 (iO (cq n) (bQ n) (bB n) (cu n)):=rfl
def bp:List Wv->Hs->Re Wv:=cq 160
theorem pT(n:Nat):bQ (n+1)=bf 3 (cH (cq n) (bQ n) (bB n) (cu n)):=rfl
def ba:List Wv->Hs->Re Wv:=bQ 160
theorem nu(n:Nat):bB (n+1)=bf 4 (g_ (cq n) (bQ n) (bB n) (cu n)):=rfl
def aJ:List Wv->Hs->Re Wv:=bB 160
theorem qF(n:Nat):cu (n+1)=bf 4 (gS (cq n) (bQ n) (bB n) (cu n)):=rfl
def aS:List Wv->Hs->Re Wv:=cu 160
abbrev lM:Stmt:=top 58
def lN:GS:=(aq (aO 1 (ao 1 jv (aa (ae 0) ag))) (aq (gP (ao 1 dY (aa (ae 1) ag))) (aq (aO 2 (zI "WordRow" 2 bI (aa (ae 1) ag))) (aq (aO 3 (ao 1 aS (aa (ae 2) ag))) (aq (cR (aW (af lU (gM "WordRow" "ahead" 1 aC (ae 2) ag) (gC (.j5 [.str "end",.str ""])))) bH aN) (aQ (ae 3)))))))
def dy:List Wv->Hs->Re Wv:=bf 4 lN
def sj:Ct:={ cB lM ["text","words","row","formula"] [] [("words_of",1,jv),("check_brackets",1,dY),("read_part",1,aS)]with consts:=[("END",(.j5 [.str "end",.str ""]))],it:={ c:="WordRow",yo:=[("ahead",1,aC)],ini:=[("WordRow",2,bI)],own:=[] } }
abbrev mH:Stmt:=top 57
def mI:GS:=(aQ (ao 1 fG (aa (ao 1 dy (aa (ae 0) ag)) ag)))
def cN:List Wv->Hs->Re Wv:=bf 1 mI
def u6:Ct:=cB mH ["text"] [] [("made_formula",1,fG),("read_unlooked",1,dy)]
abbrev pU:Stmt:=top 12
def pV:GS:=(aq (cR (pb (gK (ao 1 cP (aa (dA (aa (ae 0) (aa (ae 1) ag))) ag)))) bH aN) (aQ (dA (aa (ae 0) (aa (ae 1) ag)))))
def hG:List Wv->Hs->Re Wv:=bf 2 pV
def yH:Ct:=cB pU ["row","column"] [] [("is_place",1,cP)]
abbrev pW:Stmt:=top 13
def pX:GS:=(aq (aO 1 (ao 2 hG (aa (af aV (ae 0) (gC (.int 0))) (aa (af aV (ae 0) (gC (.int 1))) ag)))) (aQ (af aX (af aV (gC (.str "abcdefghijklmnopqrstuvwxyz")) (af aV (ae 1) (gC (.int 1)))) (aH l7 (aa (af aX (af aV (ae 1) (gC (.int 0))) (gC (.int 1))) ag)))))
def hI:List Wv->Hs->Re Wv:=bf 2 pX
def yI:Ct:={ cB pW ["place","made"] ["str"] [("made_place",2,hG)]with consts:=[("LETTERS",(.str "abcdefghijklmnopqrstuvwxyz"))] }
abbrev nZ:Stmt:=top 55
def n0:GS:=(aq (aO 2 (ao 1 hI (aa (ae 0) ag))) (aQ (af aX (af aX (af aX (af fm (gC (.str "$")) (af aV (ae 1) (gC (.int 1)))) (af aV (ae 2) (gC (.int 0)))) (af fm (gC (.str "$")) (af aV (ae 1) (gC (.int 0))))) (bA (ae 2) (cJ (gC (.int 1))) bP))))
def cX:List Wv->Hs->Re Wv:=bf 3 n0
def vY:Ct:=cB nZ ["place","pins","name"] [] [("place_name",1,hI)]
abbrev jw:Stmt:=top 56
def jx:GS:=(aQ (af aX (af aX (ao 2 cX (aa (bA (ae 0) bP (cJ (gC (.int 2)))) (aa (bA (ae 1) bP (cJ (gC (.int 2)))) ag))) (gC (.str ":"))) (ao 2 cX (aa (bA (ae 0) (cJ (gC (.int 2))) bP) (aa (bA (ae 1) (cJ (gC (.int 2))) bP) ag)))))
def bV:List Wv->Hs->Re Wv:=bf 2 jx
def oB:Ct:=cB jw ["area","pins"] [] [("pinned_name",2,cX)]
abbrev pY:Stmt:=top 53
def pZ:GS:=(aQ (qm aT (af aV (ae 0) (gC (.int 0))) (gC (.int 5))))
def fR:List Wv->Hs->Re Wv:=bf 1 pZ
def yJ:Ct:={ cB pY ["formula"] [] []with consts:=[("MINUS_BINDING",(.int 5))],wQ:=[("BINDING",aT)] }
abbrev rR:Stmt:=top 54
def iS(bF bu cF aK:List Wv->Hs->Re Wv):GT:=(λ_ st=> .ok jp st)
def gF(bF bu cF aK:List Wv->Hs->Re Wv):GE:=(ao 1 aK (aa (ae 0) ag))
def jP(bF bu cF aK:List Wv->Hs->Re Wv):GS:=(aq (aO 1 (jk [] (jl (ao 1 bT (aa (ae 0) ag))) (iS bF bu cF aK) (gF bF bu cF aK))) (aq (cR (gK (ao 1 bU (aa (af aV (ae 0) (gC (.int 0))) ag))) (aq (aO 2 (ao 1 dw (aa (ae 0) ag))) (gP (jh ni (ae 1) (ao 2 bV (aa (af aV (ae 2) (gC (.int 0))) (aa (af aV (ae 2) (gC (.int 1))) ag)))))) aN) (aq (aO 3 (iP qY (gC (.str ", ")) (aa (ae 1) ag))) (aQ (af aX (af aX (af aX (af aV (ae 0) (gC (.int 0))) (gC (.str "("))) (ae 3)) (gC (.str ")")))))))
def Af(bF bu cF aK:List Wv->Hs->Re Wv):Ct where
  N:=["formula","texts","tail","inner"]
  names:=(defScope rR).names
  consts:=[]
  bl:=[]
  fns:=[("has_area",1,bU),("formula_text",1,aK),("tail_of",1,dw),("parts_of",1,bT),("pinned_area_name",2,bV)]
  tb:=jD
  tt:=fW
  tc:=qr
abbrev rS:Stmt:=top 52
def mJ(bF bu cF aK:List Wv->Hs->Re Wv):GS:=(aq (aO 2 (ao 1 aK (aa (ae 0) ag))) (aQ (vI (aW (af oLt (ao 1 fR (aa (ae 0) ag)) (ae 1))) (Wa [(gC (.str "(")),(AV (ae 2)),(gC (.str ")"))]) (ae 2))))
def Ag(bF bu cF aK:List Wv->Hs->Re Wv):Ct where
  N:=["formula","least_binding","text"]
  names:=(defScope rS).names
  consts:=[]
  bl:=[]
  fns:=[("formula_text",1,aK),("binding_of",1,fR)]
  tb:=jD
  tt:=fW
  tc:=qr
abbrev xi:Stmt:=top 51
def qG(bF bu cF aK:List Wv->Hs->Re Wv):GS:=(aq (aO 1 (af aV (ae 0) (gC (.int 0)))) (aq (aO 2 (ao 2 bu (aa (af aV (ae 0) (gC (.int 1))) (aa (pA aT (ae 1)) ag)))) (aq (aO 3 (ao 2 bu (aa (af aV (ae 0) (gC (.int 2))) (aa (af aX (pA aT (ae 1)) (gC (.int 1))) ag)))) (aQ (Wa [(AV (ae 2)),(gC (.str " ")),(AV (ae 1)),(gC (.str " ")),(AV (ae 3))])))))
def FI(bF bu cF aK:List Wv->Hs->Re Wv):Ct where
  N:=["formula","op","left","right"]
  names:=(defScope xi).names
  consts:=[]
  bl:=[]
  fns:=[("part_text",2,bu)]
  tb:=jD
  tt:=fW
  tc:=qr
  wQ:=[("BINDING",aT)]
abbrev mK:Stmt:=top 50
def d_(bF bu cF aK:List Wv->Hs->Re Wv):GS:=(aq (aO 1 (af aV (ae 0) (gC (.int 0)))) (aq (cR (aW (af oEq (ae 1) (gC (.str "num")))) (aQ (aH l7 (aa (af aV (ae 0) (gC (.int 1))) ag))) aN) (aq (cR (aW (af oEq (ae 1) (gC (.str "text")))) (aQ (af aX (af aX (gC (.str "\"")) (af aV (ae 0) (gC (.int 1)))) (gC (.str "\"")))) aN) (aq (cR (aW (af oEq (ae 1) (gC (.str "lost")))) (aQ (ae 1)) aN) (aq (cR (aW (af oEq (ae 1) (gC (.str "at")))) (aQ (ao 2 cX (aa (af aV (ae 0) (gC (.int 1))) (aa (af aV (ae 0) (gC (.int 2))) ag)))) aN) (aq (cR (aW (af oEq (ae 1) (gC (.str "minus")))) (aQ (af aX (gC (.str "-")) (ao 2 bu (aa (af aV (ae 0) (gC (.int 1))) (aa (gC (.int 5)) ag))))) aN) (aq (cR (aW (jJ kt aT (ae 1))) (aQ (ao 1 cF (aa (ae 0) ag))) aN) (aQ (ao 1 bF (aa (ae 0) ag))))))))))
def u7(bF bu cF aK:List Wv->Hs->Re Wv):Ct where
  N:=["formula","word"]
  names:=(defScope mK).names
  consts:=[("MINUS_BINDING",(.int 5))]
  bl:=["str"]
  fns:=[("call_text",1,bF),("pinned_name",2,cX),("op_text",1,cF),("part_text",2,bu)]
  tb:=jD
  tt:=fW
  tc:=qr
  wQ:=[("BINDING",aT)]
def a8:Nat->(List Wv->Hs->Re Wv)×(List Wv->Hs->Re Wv)×(List Wv->Hs->Re Wv)×(List Wv->Hs->Re Wv)
  | 0=>(sd,sd,sd,sd)
  |n+1=>(bf 4 (jP ((a8 n).1) ((a8 n).2.1) ((a8 n).2.2.1) ((a8 n).2.2.2)),bf 3 (mJ ((a8 n).1) ((a8 n).2.1) ((a8 n).2.2.1) ((a8 n).2.2.2)),bf 4 (qG ((a8 n).1) ((a8 n).2.1) ((a8 n).2.2.1) ((a8 n).2.2.2)),bf 2 (d_ ((a8 n).1) ((a8 n).2.1) ((a8 n).2.2.1) ((a8 n).2.2.2)))
def bD(n:Nat):List Wv->Hs->Re Wv:=(a8 n).1
def bK(n:Nat):List Wv->Hs->Re Wv:=(a8 n).2.1
def cG(n:Nat):List Wv->Hs->Re Wv:=(a8 n).2.2.1
def aF(n:Nat):List Wv->Hs->Re Wv:=(a8 n).2.2.2
theorem kQ(n:Nat):bD (n+1)=bf 4 (jP (bD n) (bK n) (cG n) (aF n)):=rfl
def bF:List Wv->Hs->Re Wv:=bD 40
theorem qH(n:Nat):bK (n+1)=bf 3 (mJ (bD n) (bK n) (cG n) (aF n)):=rfl
def bu:List Wv->Hs->Re Wv:=bK 40
theorem u9(n:Nat):cG (n+1)=bf 4 (qG (bD n) (bK n) (cG n) (aF n)):=rfl
def cF:List Wv->Hs->Re Wv:=cG 40
theorem dP(n:Nat):aF (n+1)=bf 2 (d_ (bD n) (bK n) (cG n) (aF n)):=rfl
def aK:List Wv->Hs->Re Wv:=aF 40
abbrev DR:Stmt:=top 92
def p6:GS:=(aq (aO 2 (ao 3 ay (aa (ao 1 ij (aa (ae 1) ag)) (aa (gC (.int 12)) (aa (b8 (aa (gC (.int 59)) ag)) ag))))) (aq (aO 3 (ao 1 ij (aa (af aX (af fm (ae 1) (gC (.int 69621))) (gC (.int 5))) ag))) (aq (aO 4 (ao 2 gY (aa (ao 3 ak (aa (ae 2) (aa (gC (.int 1)) (aa (ae 3) ag)))) (aa (ae 3) ag)))) (aq (cR (pb (gK (ao 2 cM (aa (ao 1 cN (aa (ao 1 aK (aa (ae 2) ag)) ag)) (aa (ae 2) ag))))) (aQ (gC (.bl kt))) aN) (cR (pb (gK (ao 2 cM (aa (ao 1 cN (aa (ae 4) ag)) (aa (ae 2) ag))))) (aQ (gC (.bl kt))) aN)))))
def J3:GS:=(aq (vJ 1 (af aX (b8 (aa (gC (.int 0)) ag)) (ae 0)) p6) (aQ (gC (.bl jp))))
def F_law:List Wv->Hs->Re Wv:=bf 5 J3
def J4:Ct:=cB DR ["script","cell","formula","own","text"] [] [("_law_formula",3,ay),("_law_own",1,ij),("_law_loose",2,gY),("_law_words",3,ak),("_law_same",2,cM),("read_formula",1,cN),("formula_text",1,aK)]
theorem Ys:lG 30 (J4) (defBody DR)=J3:=by kernel_rfl
theorem Uo:FnScope (J4).N ["script"] (defScope DR):=Yr ⟨rfl,rfl,rfl,rfl⟩ (by decide+kernel)
abbrev S:=PySem.Str
def tI(l:List Int):Wv:=.tup (l.map Wv.int)
def AX:Int:=10 ^ (60:Int).toNat
def Sg(c:Nat):Prop:=32<=c/\c<=126/\c≠34/\c≠37
def FJ(s:S):Prop:=s.length<=40/\∀c∈s.cps.toList,Sg c
def oQ(q:Int):Prop:=q=0\/q=1
def oC(a b:Int):Prop:=0<=a/\a < 99/\0<=b/\b < 26
def nv(a b c d:Int):Prop:=0<=a/\a<=c/\c < 99/\0<=b/\b<=d/\d < 26/\(c - a+1) * (d - b+1)<=300
def W1:List S:=["minus","not"]
variable{st:Hs}
theorem p60:Bo (.int 10) (.int 60) st= .ok (.int AX) st:=Yi (by decide)
variable{z:S}{d:Int}
theorem Uq(hz:z.length<=lim)(h0:0<=d)(h1:d < z.length):∃ch:Nat,ch∈z.cps.toList/\∀st:Hs,aV (.str z) (.int d) st= .ok (.str ⟨#[ch]⟩) st:=by
 obtain⟨c,e,hm⟩:=zT (ws:=z.cps.toList) (d:=d) h0 (by simpa [PySem.Str.length]using h1);refine⟨c,hm,λst=>?_⟩;show(if z.length<=lim then(match L2.kX z.cps.toList d with |some c=>Re.ok (Wv.str ⟨#[c]⟩) st |none=> .bad)else .bad)=_
 rw[Os hz,e]
instance {c:Nat}:Decidable (Sg c):=by unfold Sg;infer_instance
variable{x:S}{ys:List S}
theorem Ow:eG (.str x) (.tup (ys.map Wv.str)) st= .ok (.bl (decide (x∈ys))) st:=by
 have e1:(ys.map Wv.str).all cU=true:=by rw[oq];intro w hw;obtain⟨y,_,rfl⟩:=u8.mp hw;rfl
 have e2:((ys.map Wv.str).any λz=>wz z (.str x))=decide (x∈ys):=by
  rw[List.any_map]
  induction ys with
  |nil=>rfl
  |cons y r ih=>
   rw[kY,ih (by rw[oq];intro w hw;obtain⟨y,_,rfl⟩:=u8.mp hw;rfl)];show((y == x)||decide (x∈r))=_;by_cases c:y=x
   ·subst c;simp
   ·have:(y == x)=false:=beq_false_of_ne c;rw[this];simp[dM c]
 show(if cU (.str x)=jp/\(ys.map Wv.str).all cU=jp then Re.ok (Wv.bl ((ys.map Wv.str).any λz=>wz z (.str x))) st else .bad)=_;rw[Os ⟨rfl,e1⟩,e2]
def AF:List S:=["sum","count","least","greatest","find"]
theorem u_:bU [.str x] st= .ok (.bl (decide (x∈AF))) st:=by have e:eG (.str x) (.j5 [.str "sum",.str "count",.str "least",.str "greatest",.str "find"]) st= .ok (.bl (decide (x∈AF))) st:=Ow (ys:=AF);unfold bU bf lA;simp[e]
variable{ws:List Wv}
theorem n6{x:Wv}:aV (.tup (x::ws)) (.int 0) st= .ok x st:=cw (L2.eZ (j:=0) rfl)
variable{y:Wv}
theorem LP{x:Wv}:aV (.tup (x::y::ws)) (.int 1) st= .ok y st:=cw (L2.eZ (j:=1) rfl)
variable{us:List Wv}
theorem Ox{lo hi:Option Int}(h:¬f7 ws.length lo hi)(h2:i7 ws lo hi=us):kq (.tup ws) lo hi st= .ok (.tup us) st:=by show(if f7 ws.length lo hi then Re.ok (Wv.tup ws) st else Sf (.tup ws) lo hi st)=_;rw[OK h];show(if f7 ws.length lo hi then Re.bad else Re.ok (Wv.tup (i7 ws lo hi)) st)=_;rw[OK h,h2]
theorem mY{k:Int}(h:aB.lookup x=bv (.int k)):bY [.str x] st= .ok (.int k) st:=by unfold bY bf mj;simp[pE h]
theorem J5{k:Int}(h:aB.lookup x=bv (.int k))(n1:¬f7 (ws.length+1) (bv 1) (bv (1+k)))(hc:i7 (.str x::ws) (bv 1) (bv (1+k))=us)(st:Hs):bT [.tup (.str x::ws)] st= .ok (.tup us) st:=by unfold bT bf oy;have s:=Ox (ws:=.str x::ws) (us:=us) (lo:=bv 1) (hi:=bv (1+k)) (st:=st) n1 hc;simp[n6,mY h,s]
theorem Oy{k:Int}(h:aB.lookup x=bv (.int k))(n1:¬f7 (ws.length+1) (bv (1+k)) gV)(hc:i7 (.str x::ws) (bv (1+k)) gV=us)(st:Hs):dw [.tup (.str x::ws)] st= .ok (.tup us) st:=by unfold dw bf qy;have s:=Ox (ws:=.str x::ws) (us:=us) (lo:=bv (1+k)) (hi:=gV) (st:=st) n1 hc;simp[n6,mY h,s]
variable{base:Hs}{rr:Nat}{o:Ob}
theorem Gr.J6(h:base.length<=rr)(g:Gr base st):Gr base (st.set rr o):=⟨by simpa using g.1,λj hj=>by rw[bM (by omega)];exact g.2 j hj⟩
variable{l:Nat}
theorem Yt(h:st[l]? =bv (.lst ws)):nH [.ref l] st= .ok (.tup ws) st:=by
 show(match ax st l with |some ws=>Re.ok (Wv.tup ws) st |none=> .bad)=_
 rw[bo h]
theorem DS:∀n:Nat,l8 (aD n (.bl jp))=bv (aD n jp)
 | 0=>rfl
 |n+1=>by rw[i6];unfold l8;rw[DS n];rfl
variable{n:Nat}
theorem sT(h:ax st l=bv (aD n (.bl jp))):ue [.ref l] st= .ok (.bl jp) st:=by
 show(match ax st l with |some ws=>(match l8 ws with |some bs=>Re.ok (Wv.bl (bs.all id)) st |none=> .bad) |none=> .bad)=_
 rw[h];dsimp only;rw[DS];dsimp only
 congr 2
 rw[oq];intro x hx;exact(List.mem_replicate.mp hx).2
variable{gt:GT}{ge:GE}{ρ:b7}
theorem qI{cs:i8}(h1:∀v∈ws,∀s,gt (bv v::gT cs ρ) s= .ok jp s)(h2:∀v∈ws,∀s,ge (bv v::gT cs ρ) s= .ok (.bl jp) s)(hl:ws.length < lim):
  dj cs gt ge ρ (gV,ws) st= .ok (.ref st.length) (st++[.lst (aD ws.length (.bl jp))]):=by
 rw[wX (w:=(gV,ws)) (t:=λ_=>jp) (f:=λ_=> .bl jp) trivial (λv hv acc=>h1 v hv _) (λv hv _ acc=>h2 v hv _) hl];have e:((ws.filter λ_=>jp).map λ_=>Wv.bl jp)=aD ws.length (Wv.bl jp):=by rw[List.filter_eq_self.mpr (λ_ _=>rfl),List.map_const']
 show Re.ok _ (st++[.lst ((ws.filter λ_=>jp).map λ_=>Wv.bl jp)])=_;rw[e]
theorem tup_is:jG jD fW [.tup ws,.ty "tuple"] st= .ok (.bl jp) st:=rfl
theorem str_is:jG jD fW [.str x,.ty "str"] st= .ok (.bl jp) st:=rfl
variable{i:Int}
theorem int_is:jG jD fW [.int i,.ty "int"] st= .ok (.bl jp) st:=rfl
theorem J7:jG jD fW [.int i,.ty "bool"] st= .ok (.bl kt) st:=rfl
theorem p7:dH [.tup ws] st= .ok (.int ws.length) st:=rfl
theorem Ah:gN [.int i] st= .ok (.bl jp) st:=by unfold gN bf uQ;simp[int_is,J7]
variable{l:List Int}
theorem oE(hn:l.length=n)(hl:n<=10)(st:Hs):bG [tI l,.int (n:Nat)] st= .ok (.bl jp) (st++[.lst (aD n (.bl jp))]):=by subst hn;have c:=qI (cs:=[]) (gt:=iX) (ge:=fX) (ρ:=[bv (tI l),bv (.int (l.length:Nat))]) (ws:=l.map Wv.int) (st:=st) (λ_ _ _=>rfl) (λv hv s=>by obtain⟨i,_,rfl⟩:=u8.mp hv;unfold fX;simp[Ah]) (by rw[bN];unfold lim;omega);rw[bN]at c;have q:=sT (st:=st++[.lst (aD l.length (.bl jp))]) (l:=st.length) dq;unfold bG bf lJ;unfold tI at c ⊢;simp[tup_is,p7,c,q]
theorem Ai(hn:l.length=n)(hl:n<=10)(h:∀q∈l,oQ q)(st:Hs):∃st',fF [tI l,.int (n:Nat)] st= .ok (.bl jp) st'/\Gr st st':=by
 have r:=oE hn hl st;subst hn;have g1:Gr st (st++[.lst (aD l.length (.bl jp))]):=Gr.push;generalize st++[.lst (aD l.length (.bl jp))]=s1 at r g1;have c:=qI (cs:=[]) (gt:=mv) (ge:=jm) (ρ:=[bv (tI l),bv (.int (l.length:Nat))]) (ws:=l.map Wv.int) (st:=s1) (λ_ _ _=>rfl) (λv hv s=>by
  obtain⟨i,hi,rfl⟩:=u8.mp hv;have e:eG (.int i) (.tup [.int 0,.int 1]) s= .ok (.bl jp) s:=by rcases h i hi with rfl |rfl<;>rfl
  unfold jm;simp[e]) (by rw[bN];unfold lim;omega)
 rw[bN]at c;have q:=sT (st:=s1++[.lst (aD l.length (.bl jp))]) (l:=s1.length) dq;refine⟨_,?_,g1.trans (Gr.push (o:=.lst (aD l.length (.bl jp))))⟩;unfold fF bf uU;unfold tI at r c ⊢;simp[r,c,q]
theorem va{a b:Int}(h:oC a b):cP [.tup [.int a,.int b]] st= .ok (.bl jp) st:=by obtain⟨h1,h2,h3,h4⟩:=h;have a0:aV (.tup [.int a,.int b]) (.int 0) st= .ok (.int a) st:=cw rfl;have a1:aV (.tup [.int a,.int b]) (.int 1) st= .ok (.int b) st:=cw rfl;unfold cP bf oz;simp[a0,a1,h1,h2,h3,h4]
theorem Yu{a b c:Int}(h:(a<=c/\b<=d)/\oC a b/\oC c d):dF [.tup [.int a,.int b,.int c,.int d]] st= .ok (.bl jp) st:=by have x0:aV (.tup [.int a,.int b,.int c,.int d]) (.int 0) st= .ok (.int a) st:=cw rfl;have x1:aV (.tup [.int a,.int b,.int c,.int d]) (.int 1) st= .ok (.int b) st:=cw rfl;have x2:aV (.tup [.int a,.int b,.int c,.int d]) (.int 2) st= .ok (.int c) st:=cw rfl;have x3:aV (.tup [.int a,.int b,.int c,.int d]) (.int 3) st= .ok (.int d) st:=cw rfl;have s1:kq (.tup [.int a,.int b,.int c,.int d]) gV (bv 2) st= .ok (.tup [.int a,.int b]) st:=Ox (by show ¬f7 4 gV (bv 2);decide+kernel) rfl;have s2:kq (.tup [.int a,.int b,.int c,.int d]) (bv 2) gV st= .ok (.tup [.int c,.int d]) st:=Ox (by show ¬f7 4 (bv 2) gV;decide+kernel) rfl;have p1:=va (st:=st) h.2.1;have p2:=va (st:=st) h.2.2;unfold dF bf nP;simp[x0,x1,x2,x3,h.1.1,h.1.2,s1,s2,p1,p2]
theorem Oz{a b c:Int}(h:nv a b c d):kI [.tup [.int a,.int b,.int c,.int d]] st= .ok (.bl jp) st:=by
 obtain⟨h1,h2,h3,h4,h5,h6,h7⟩:=h;have x0:aV (.tup [.int a,.int b,.int c,.int d]) (.int 0) st= .ok (.int a) st:=cw rfl;have x1:aV (.tup [.int a,.int b,.int c,.int d]) (.int 1) st= .ok (.int b) st:=cw rfl;have x2:aV (.tup [.int a,.int b,.int c,.int d]) (.int 2) st= .ok (.int c) st:=cw rfl;have x3:aV (.tup [.int a,.int b,.int c,.int d]) (.int 3) st= .ok (.int d) st:=cw rfl;have hc:=Yu (a:=a) (b:=b) (c:=c) (d:=d) (st:=st) ⟨⟨h2,h5⟩,⟨h1,by omega,h4,by omega⟩,⟨by omega,h3,by omega,h6⟩⟩;have m:fm (.int (c - a+1)) (.int (d - b+1)) st= .ok (.int ((c - a+1) * (d - b+1))) st:=JV (by omega) (by omega);have hm:iN [.tup [.int a,.int b,.int c,.int d]] st= .ok (.int ((c - a+1) * (d - b+1))) st:=by unfold iN bf rL;simp[x0,x1,x2,x3,m]
 unfold kI bf w8;simp[hc,hm,h7]
variable{c:Nat}
theorem FK(h:Sg c):fq [.int (c:Nat)] st= .ok (.bl jp) st:=by
 obtain⟨h1,h2,h3,h4⟩:=h;have n1:lU (.int (c:Nat)) (.int 34) st= .ok (.bl jp) st:=by rw[Ui];congr 2;simp;omega
 have n2:lU (.int (c:Nat)) (.int 37) st= .ok (.bl jp) st:=by rw[Ui];congr 2;simp;omega
 have l1:(32:Int)<=(c:Nat):=by omega
 have l2:((c:Nat):Int)<=126:=by omega
 unfold fq bf mq;simp[-Ui,l1,l2,n1,n2]
theorem Aj(h:∀c∈x.cps.toList,Sg c)(hx:x.length<=1000)(st:Hs):∃st',cE [.str x] st= .ok (.bl jp) st'/\Gr st st':=by have c:=qI (cs:=[]) (gt:=iM) (ge:=fu) (ρ:=[bv (.str x)]) (ws:=cK x) (st:=st) (λ_ _ _=>rfl) (λv hv s=>by unfold cK at hv;obtain⟨i,hi,rfl⟩:=u8.mp hv;have o:NM [.str ⟨#[i]⟩] s= .ok (.int (i:Nat)) s:=rfl;unfold fu;simp[o,FK (h i hi)]) (by unfold cK lim;rw[bN];show x.cps.toList.length < _;rw[hZ];exact Nat.lt_of_le_of_lt (hx:x.cps.size<=1000) (by decide));have q:=sT (st:=st++[.lst (aD (cK x).length (.bl jp))]) (l:=st.length) dq;refine⟨_,?_,Gr.push (o:=.lst (aD (cK x).length (.bl jp)))⟩;generalize st++[.lst (aD (cK x).length (.bl jp))]=s1 at c q ⊢;have sq:um (.str x) st= .ok (gV,cK x) st:=rfl;unfold cE bf kG;simp[c,sq,q]
theorem OA(h:FJ x)(st:Hs):∃st',kH [.str x] st= .ok (.bl jp) st'/\Gr st st':=by
 obtain⟨s1,ht,g1⟩:=Aj h.2 (aA h.1 (by decide)) st;have ln:dH [.str x] st= .ok (.int x.length) st:=JZ (aA h.1 (by decide));have l40:(x.length:Int)<=40:=by have:=h.1;omega
 refine⟨s1,?_,g1⟩;unfold kH bf w5;simp[str_is,ln,l40,ht]
variable{l:Nat}
theorem Qa(h:ax st l=bv ws):HV (.ref l) st= .ok (!ws.isEmpty) st:=by unfold HV;simp only[h]
theorem J8{zs:List Wv}(h:st[l]? =bv (.lst ws))(hl:ws.length+zs.length<=lim):uw (.ref l) (.tup zs) st= .ok .cY (st.set l (.lst (ws++zs))):=by unfold uw;simp only[h];rw[Os hl]
def pl:Nat->Wv->Prop
 | 0,_=>False
 |n+1,w=>match w with
  |.int _=>True
  |.str x=>x.length<=1000
  |.tup ws=>ws.length<=300/\∀v∈ws,pl n v
  |_=>False
def sgB(c:Nat):Bool:=decide (Sg c)
instance {a b:Int}:Decidable (oC a b):=by unfold oC;infer_instance
instance {a b c d:Int}:Decidable (nv a b c d):=by unfold nv;infer_instance
theorem xj{α:Type}:∀{l:List (S×α)}{x:S}{a:α},l.lookup x=bv a->(x,a)∈l
 |[],_,_,h=>by cases h
 |(y,b)::r,x,a,h=>by
  rw[e_]at h;cases e:x == y with
  |true=>rw[e]at h;cases h;rw[eq_of_beq e];exact aY
  |false=>rw[e]at h;exact bw _ (xj h)
theorem counts{w:Wv}(h:aB.lookup x=bv w):∃k:Nat,w= .int (k:Nat)/\k<=3:=by
 have m:=xj h;have q:∀p∈aB,∃k:Nat,p.2=Wv.int (k:Nat)/\k<=3:=by intro p hp;simp only[aB,i_,jO,or_false]at hp;rcases hp with rfl |rfl |rfl |rfl |rfl |rfl |rfl |rfl |rfl |rfl |rfl |rfl |rfl |rfl |rfl |rfl |rfl |rfl |rfl |rfl |rfl<;>first |exact⟨0,rfl,by decide⟩ |exact⟨1,rfl,by decide⟩ |exact⟨2,rfl,by decide⟩ |exact⟨3,rfl,by decide⟩
 exact q _ m
theorem J9{k:Nat}{hi:Option Int}:¬f7 (n+1) (bv (1+(k:Nat))) hi:=by
 intro h;have h1:HT.ff (n+1) 0 (bv (1+(k:Nat)))=0:=h.1;have e:(1+(k:Nat):Int)=((k+1:Nat):Int):=by omega
 rw[e,HT.mO]at h1;omega
theorem Ur{k:Nat}:i7 (y::ws) (bv 1) (bv (1+(k:Nat)))=ws.take k:=by
 have e:(1+(k:Nat):Int)=((k+1:Nat):Int):=by omega
 have e1:(1:Int)=((1:Nat):Int):=rfl;unfold i7;rw[e,e1,HT.mO,HT.mO,aZ];have m1:min 1 (ws.length+1)=1:=by omega
 rw[m1];show ws.take (min (k+1) (ws.length+1) - 1)=_;have m2:min (k+1) (ws.length+1) - 1=min k ws.length:=by omega
 rw[m2];by_cases c:k<=ws.length
 ·rw[Nat.min_eq_left c]
 ·rw[Nat.min_eq_right (by omega),DT (av _),DT (by omega)]
theorem Us{k:Nat}:i7 (y::ws) (bv (1+(k:Nat))) gV=ws.drop k:=by
 have e:(1+(k:Nat):Int)=((k+1:Nat):Int):=by omega
 unfold i7;rw[e,HT.mO,HT.tH,aZ];by_cases c:k<=ws.length
 ·have m1:min (k+1) (ws.length+1)=k+1:=by omega
  rw[m1,List.drop_succ_cons,DT (by rw[ia];omega)]
 ·have m1:min (k+1) (ws.length+1)=ws.length+1:=by omega
  rw[m1,List.drop_succ_cons,J_ (av _),J_ (by omega),List.take_nil]
theorem Ut{k:Nat}(h:aB.lookup x=bv (.int (k:Nat)))(st:Hs):bT [.tup (.str x::ws)] st= .ok (.tup (ws.take k)) st:=by have n1:¬f7 (ws.length+1) (bv 1) (bv (1+(k:Nat))):=J9 (k:=0);exact J5 h n1 Ur st
theorem Uu{k:Nat}(h:aB.lookup x=bv (.int (k:Nat)))(st:Hs):dw [.tup (.str x::ws)] st= .ok (.tup (ws.drop k)) st:=Oy h J9 Us st
def DU:PySem.Str:="abcdefghijklmnopqrstuvwxyz"
def FO(c:Nat):Bool:=!(gJ DU ⟨#[c]⟩ 0 DU.length 1).isEmpty
def p8(c:Nat):Bool:=!(gJ ("0123456789":PySem.Str) ⟨#[c]⟩ 0 ("0123456789":PySem.Str).length 1).isEmpty
theorem jQ(c:Nat):p8 c=jp↔48<=c/\c<=57:=by
 unfold p8;rw[DV];have e:("0123456789":PySem.Str).cps.toList=[48,49,50,51,52,53,54,55,56,57]:=by decide+kernel
 constructor
 ·rintro⟨i,h⟩;have q:=(sU _ c i).mp h;rw[e]at q;have m:=sC q;simp at m;omega
 ·intro h;refine⟨c - 48,(sU _ c _).mpr ?_⟩;rw[e];obtain⟨d,rfl⟩:∃d,c=48+d:=⟨c - 48,by omega⟩;have hd:d < 10:=by omega
  have e2:48+d - 48=d:=by omega
  rw[e2];revert h;clear e2;revert d;decide
def Ka(k:Nat):PySem.Str:=PySem.Str.ofString (toString ((k:Int)+1))
theorem Kb:∀k,k < 99->((Ka k).length=1\/(Ka k).length=2):=by decide+kernel
theorem OB:∀k,k < 99->((Ka k).cps.toList.all (λc=>decide (48<=c)&&decide (c<=57))=jp/\(Ka k).cps.toList.headD 0≠48):=by decide+kernel
variable{a:Nat}
theorem ixS{r:List Nat}(h:r.length < 1000):aV (.str ⟨(a::r).toArray⟩) (.int 0) st= .ok (.str ⟨#[a]⟩) st:=by
 have hz:(⟨(a::r).toArray⟩:PySem.Str).length<=lim:=by show(a::r).toArray.size<=lim;simp;unfold lim;omega
 show(if(⟨(a::r).toArray⟩:PySem.Str).length<=lim then(match L2.kX (a::r).toArray.toList 0 with |some c=>Re.ok (Wv.str ⟨#[c]⟩) st |none=> .bad)else .bad)=_
 rw[Os hz];have e:L2.kX (a::r).toArray.toList 0=bv a:=by simpa using Yq (a:=a) (r:=r)
 rw[e]
def Kc(fs:List Nat):Bool:=decide (fs.headD 0≠48)&&fs.all p8
theorem B'{b:Nat}{r:List Nat}(h:r.length < 100):∃st',eO [.str ⟨(b::r).toArray⟩] st= .ok (.bl (Kc (b::r))) st'/\Gr st st':=by
 have i0:=ixS (a:=b) (r:=r) (st:=st) (by omega);have en:lU (.str ⟨#[b]⟩) (.str "0") st= .ok (.bl (decide (b≠48))) st:=by
  have e0:("0":PySem.Str)=⟨#[48]⟩:=by decide+kernel
  rw[e0,Ol];by_cases c:b=48
  ·subst c;rfl
  ·have:((⟨#[b]⟩:PySem.Str) == ⟨#[48]⟩)=false:=by apply beq_false_of_ne;intro z;have:=congrArg (λs:PySem.Str=>s.cps.toList) z;simp at this;exact c this
   rw[this];simp[c]
 have cr:∀ρ,dj [] iY fY ρ (gV,cK ⟨(b::r).toArray⟩) st= .ok (.ref st.length) (st++[.lst ((b::r).map λc=>Wv.bl (p8 c))]):=by
  intro ρ;rw[wX (w:=(gV,cK ⟨(b::r).toArray⟩)) (t:=λ_=>jp) (f:=λv=>match v with |.str z=> .bl (p8 (z.cps.toList.headD 0)) |v=>v) trivial]
  ·have ef:((cK ⟨(b::r).toArray⟩).filter λ_=>jp)=cK ⟨(b::r).toArray⟩:=List.filter_eq_self.mpr λ_ _=>rfl;show Re.ok _ (st++[Ob.lst (List.map _ ((cK ⟨(b::r).toArray⟩).filter λ_=>jp))])=_;rw[ef];unfold cK;rw[DW];rfl
  ·intro v hv acc;rfl
  ·intro v hv _ acc;unfold cK at hv;obtain⟨c,_,rfl⟩:=u8.mp hv;unfold fY;simp;rfl
  ·unfold cK;simp;unfold lim;omega
 unfold eO bf lL Kc;by_cases c:b=48
 ·refine⟨st,?_,Gr.refl⟩;subst c;have en':lU (.str ⟨#[48]⟩) (.str "0") st= .ok (.bl kt) st:=by rw[en];simp
  simp[i0,en']
 ·refine⟨st++[.lst ((b::r).map λc=>Wv.bl (p8 c))],?_,Gr.push⟩;have en':lU (.str ⟨#[b]⟩) (.str "0") st= .ok (.bl jp) st:=by rw[en];simp[c]
  have bls:∀l:List Nat,l8 (l.map λc=>Wv.bl (p8 c))=bv (l.map p8):=by
   intro l
   induction l with
   |nil=>rfl
   |cons a t ih=>rw[bz];unfold l8;rw[ih];rfl
  have al:ue [.ref st.length] (st++[.lst ((b::r).map λc=>Wv.bl (p8 c))])= .ok (.bl ((b::r).all p8)) (st++[.lst ((b::r).map λc=>Wv.bl (p8 c))]):=by
   unfold ue;simp only[dq,bls]
   congr 2
   simp[List.all_map]
  have sq:um (.str ⟨(b::r).toArray⟩) st= .ok (gV,cK ⟨(b::r).toArray⟩) st:=rfl;simp only[bz]at al cr;simp[i0,en',sq,cr,al,c]
def nm(cs:List Nat):Bool:=decide (cs.length=2\/cs.length=3)&&FO (cs.headD 0)&&Kc cs.tail
theorem Ca{r:List Nat}:aL ⟨(a::r).toArray⟩ (bv 1) gV=⟨r.toArray⟩:=by
 have q:=PyProof.Rows.slice_closes_fromL (x:=⟨(a::r).toArray⟩) (i:=1) (b:=(⟨(a::r).toArray⟩:PySem.Str).length) (by decide) (by show(1:Int)<=(((a::r).toArray.size:Nat):Int);simp;omega) rfl;rw[eq_of_beq q];have e:((((⟨(a::r).toArray⟩:PySem.Str).length:Nat):Int) - 1).toNat=r.length:=by show((((a::r).toArray.size:Nat):Int) - 1).toNat=_;simp
 rw[e];simp
variable{cs:List Nat}
theorem Uv(h:cs.length < 1000):dH [.str ⟨cs.toArray⟩] st= .ok (.int cs.length) st:=by
 have e:(⟨cs.toArray⟩:PySem.Str).length=cs.length:=by show cs.toArray.size=_;simp
 have:=JZ (z:=⟨cs.toArray⟩) (st:=st) (by rw[e];unfold lim;omega)
 rwa [e]at this
theorem iF{z:PySem.Str}{lo hi:Option Int}(h:z.length<=lim):kq (.str z) lo hi st= .ok (.str (aL z lo hi)) st:=by show(if z.length<=lim then Re.ok (Wv.str (aL z lo hi)) st else .bad)=_;rw[Os h]
theorem Ke(h:cs.length < 1000):(⟨cs.toArray⟩:PySem.Str).length<=lim:=by show cs.toArray.size<=lim;simp;unfold lim;omega
theorem OC(h:cs.length < 100):∃st',kJ [.str ⟨cs.toArray⟩] st= .ok (.bl (nm cs)) st'/\Gr st st':=by
 have ln:=Uv (cs:=cs) (st:=st) (by omega);have LQ:eG (.int cs.length) (.tup [.int 2,.int 3]) st= .ok (.bl (decide (cs.length=2\/cs.length=3))) st:=by
  show Re.ok (Wv.bl ([Wv.int 2,.int 3].any λz=>wz z (.int cs.length))) st=_
  congr 2
  show(((2:Int) == cs.length)||(((3:Int) == cs.length)||false))=_;rw[Bool.or_false,vb];simp;omega
 generalize hcl:(cs.length:Int)=cl at ln LQ;unfold kJ bf xh nm;by_cases c:cs.length=2\/cs.length=3
 ·match cs,c with
  |[],c=>simp at c
  |a::r,c=>
   have i0:=ixS (a:=a) (r:=r) (st:=st) (by have:=h;simp at this;omega);have il:eG (.str ⟨#[a]⟩) (.str DU) st= .ok (.bl (FO a)) st:=rfl;have sl:=iF (z:=⟨(a::r).toArray⟩) (lo:=bv 1) (hi:=gV) (st:=st) (Ke (by omega));rw[Ca]at sl;have il':eG (.str ⟨#[a]⟩) (.str "abcdefghijklmnopqrstuvwxyz") st= .ok (.bl (FO a)) st:=il;cases r with
   |nil=>simp at c
   |cons b r'=>
    obtain⟨st',er,g⟩:=B' (b:=b) (r:=r') (st:=st) (by simp at h;omega);rw[decide_eq_true c]at LQ ⊢;cases hl:FO a with
    |false=>rw[hl]at il';refine⟨st,?_,Gr.refl⟩;simp[ln,LQ,i0,il',hl]
    |true=>rw[hl]at il';refine⟨st',?_,g⟩;simp[ln,LQ,i0,il',sl,er,hl]
 ·rw[decide_eq_false c]at LQ ⊢;exact⟨st,by simp[ln,LQ],Gr.refl⟩
def tx(L:List Nat):S:=⟨L.toArray⟩
theorem dc(L:List Nat):(tx L).length=L.length:=by show L.toArray.size=_;simp
theorem Kf(z:S):tx z.cps.toList=z:=rfl
theorem dE(L:List Nat):(tx L).cps.toList=L:=rfl
inductive Rr(α:Type)
 |ok (a:α)
 |un
def Ak{α:Type}(r:Rr α)(t:α->Wv)(x:Re Wv)(st:Hs):Prop:=match r with
 |.ok a=>∃st',x= .ok (t a) st'/\Gr st st'
 |.un=>True
variable{i:Nat}{L:List Nat}
theorem vc(h:L[i]? =bv c)(hl:L.length<=90000):aV (.str (tx L)) (.int (i:Nat)) st= .ok (.str (tx [c])) st:=by
 show(if(tx L).length<=lim then(match L2.kX (tx L).cps.toList (i:Nat)with |some c=>Re.ok (Wv.str ⟨#[c]⟩) st |none=> .bad)else .bad)=_
 rw[Os (by rw[dc];unfold lim;omega),dE,L2.eZ h];rfl
variable{j:Nat}
theorem Yv(h:i<=j)(hj:j<=L.length)(hl:L.length<=90000):kq (.str (tx L)) (bv (i:Nat)) (bv (j:Nat)) st= .ok (.str (tx ((L.drop i).take (j - i)))) st:=by
 rw[iF (by rw[dc];unfold lim;omega),eq_of_beq (OD (x:=tx L) (i:=(i:Nat)) (j:=(j:Nat)) ⟨by omega,by omega,by rw[dE];omega⟩)];have e:(((j:Nat):Int) - (i:Nat)).toNat=j - i:=by omega
 rw[e,oa,dE];rfl
theorem Kg(hl:L.length<=90000):dH [.str (tx L)] st= .ok (.int (L.length:Nat)) st:=by
 have:=JZ (z:=tx L) (st:=st) (by rw[dc];unfold lim;omega)
 rwa [dc]at this
theorem yK:eG (.str (tx [c])) (.str "0123456789") st= .ok (.bl (p8 c)) st:=rfl
def mL(c:Nat):Bool:=FO c||(p8 c||decide (tx [c]∈(["$",":"]:List S)))
theorem FP:dW [.str (tx [c])] st= .ok (.bl (mL c)) st:=by have e1:eG (.str (tx [c])) (.str "abcdefghijklmnopqrstuvwxyz") st= .ok (.bl (FO c)) st:=rfl;have e2:=yK (c:=c) (st:=st);have e3:eG (.str (tx [c])) (.tup [.str "$",.str ":"]) st= .ok (.bl (decide (tx [c]∈(["$",":"]:List S)))) st:=Ow (ys:=["$",":"]);unfold dW bf mB mL;generalize FO c=a at e1 ⊢;generalize p8 c=b at e2 ⊢;generalize decide (tx [c]∈(["$",":"]:List S))=d at e3 ⊢;cases a<;>cases b<;>simp[e1,e2,e3]
variable{gb:GS}{st1:Hs}
theorem ve{ρ':b7}{st':Hs}(h:gt ρ st= .ok jp st1)(k:gb ρ st1= .nx ρ' st'):AW gt gb (n+1) ρ st=AW gt gb n ρ' st':=by rw[AW,h];simp[k]
theorem p9(h:gt ρ st= .ok kt st1):AW gt gb (n+1) ρ st= .nx ρ st1:=by rw[AW,h];simp
theorem scan{L:List Nat}{p:Nat->Bool}{gt:GT}{b:Option Wv}(h1:∀j c,L[j]? =bv c->∀st,gt [bv (.str (tx L)),b,bv (.int (j:Nat))] st= .ok (p c) st)(h2:∀st,gt [bv (.str (tx L)),b,bv (.int (L.length:Nat))] st= .ok kt st){st:Hs}:
  ∀(r:List Nat)(M j:Nat),L.drop j=r->j<=L.length->r.length < M->AW gt (jH (λi j=>i+j) 2 (gC (.int 1))) M [bv (.str (tx L)),b,bv (.int (j:Nat))] st= .nx [bv (.str (tx L)),b,bv (.int ((j+(r.takeWhile p).length:Nat):Int))] st
 |[],M,j,hr,hj,hM=>by
  have e:j=L.length:=by have:=congrArg jf hr;rw[ia]at this;simp at this;omega
  subst e;obtain⟨m,rfl⟩:∃m,M=m+1:=⟨M - 1,by have:=hM;simp at this;omega⟩;exact p9 (h2 st)
 |c::r,M,j,hr,hj,hM=>by
  have hc:L[j]? =bv c:=by rw[<-List.head?_drop,hr];rfl
  obtain⟨m,rfl⟩:∃m,M=m+1:=⟨M - 1,by have:=hM;simp at this;omega⟩;have hd:L.drop (j+1)=r:=by rw[<-yL,hr];rfl
  have hlt:j < L.length:=(np.mp hc).1;rw[jR];cases q:p c with
  |false=>refine p9 ?_;rw[h1 j c hc st,q]
  |true=>
   have e1:jH (λi j=>i+j) 2 (gC (.int 1)) [bv (.str (tx L)),b,bv (.int (j:Nat))] st= .nx [bv (.str (tx L)),b,bv (.int ((j+1:Nat):Int))] st:=by unfold jH;simp[zF]
   have t1:=h1 j c hc st;rw[q]at t1;rw[ve t1 e1,scan h1 h2 r m (j+1) hd (by omega) (by simp at hM;omega)];rw[Os rfl,aZ,show j+1+(r.takeWhile p).length=j+((r.takeWhile p).length+1) by omega]
def iZ(L:List Nat)(i:Nat):Int:=Txt.find3 (tx L) ⟨#[34]⟩ (i+1:Nat)
def jS(p:Nat->Bool)(L:List Nat)(i:Nat):Nat:=((L.drop i).takeWhile p).length
def qJ(L:List Nat)(i:Nat):Rr Nat:=match L[i]? with
 |none=> .un
 |some c=>if c=34 then(if iZ L i < 0 then .un else .ok ((iZ L i).toNat+1))else if p8 c=jp then .ok (i+jS p8 L i)else .ok (max (i+jS mL L i) (i+1))
variable{p:Nat->Bool}
theorem DX(hi:i<=L.length):i+jS p L i<=L.length:=by have h:=(OE p (l:=L.drop i)).length_le;rw[ia]at h;unfold jS;omega
theorem Kh(h:L[i]? =bv c)(hp:p c=jp):0 < jS p L i:=by have hlt:=(np.mp h).1;unfold jS;rw[yb hlt,jR];have e:L[i]=c:=(np.mp h).2;rw[e,hp];simp
theorem Uw(h:i < L.length)(hn:¬iZ L i < 0):i < (iZ L i).toNat/\(iZ L i).toNat < L.length:=by
 unfold iZ at hn ⊢;rcases OF (tx L) 34 ((i+1:Nat):Int)with ⟨e,_⟩ |⟨k,e,k1,k2,_⟩
 ·rw[e]at hn;exact absurd (by decide) hn
 ·rw[e,oa];rw[dc]at k1 k2;refine⟨?_,k2⟩;have q:fromIndex L.length ((i+1:Nat):Int)=i+1:=by unfold fromIndex;split<;>omega
  omega
theorem Ux(h:qJ L i= .ok j):i < j/\j<=L.length:=by
 unfold qJ at h;cases hc:L[i]? with
 |none=>rw[hc]at h;cases h
 |some c=>
  rw[hc]at h;have hlt:=(np.mp hc).1;dsimp only at h;by_cases a:c=34
  ·rw[Os a]at h;by_cases b:iZ L i < 0
   ·rw[Os b]at h;cases h
   ·rw[OK b]at h;cases h;have:=Uw hlt b;omega
  ·rw[OK a]at h;by_cases b:p8 c=jp
   ·rw[Os b]at h;cases h;have:=Kh hc b;have:=DX (p:=p8) (L:=L) (i:=i) (by omega);omega
   ·rw[OK b]at h;cases h;have:=DX (p:=mL) (L:=L) (i:=i) (by omega);omega
theorem yM(st:Hs)(c:¬iZ L i < 0):fH [.str (tx L),.int (i:Nat)] st= .ok (.int (iZ L i)) st:=by have e:uz (tx L) [.str "\"",.int ((i:Int)+1)] st= .ok (.int (iZ L i)) st:=rfl;unfold fH bf mD;simp[e,c]
theorem Uy{b:Nat}:uh [.int (a:Nat),.int (b:Nat)] st= .ok (.int ((max a b:Nat):Int)) st:=by
 show Re.ok (Wv.int (if((a:Nat):Int) < (b:Nat)then((b:Nat):Int)else(a:Nat))) st=_;by_cases c:a < b
 ·rw[Os (by omega),DY (by omega)]
 ·rw[OK (by omega),Nat.max_eq_left (by omega)]
theorem Ki(hl:L.length<=90000)(st:Hs):Ak (qJ L i) (λj=> .int (j:Nat)) (fI [.str (tx L),.int (i:Nat)] st) st:=by
 unfold qJ;cases hc:L[i]? with
 |none=>exact trivial
 |some c=>
  have hlt:=(np.mp hc).1;have a1:=vc (st:=st) hc hl;have Yw:oEq (.str (tx [c])) (.str "\"") st= .ok (.bl (decide (c=34))) st:=by
   have e0:("\"":S)=tx [34]:=by decide+kernel
   rw[e0,vS];by_cases q:c=34
   ·subst q;rfl
   ·have:(tx [c] == tx [34])=false:=by apply beq_false_of_ne;intro z;have:=congrArg (λs:S=>s.cps.toList) z;simp[tx]at this;exact q this
    rw[this];simp[q]
  have f1:=yK (c:=c) (st:=st);have ml:∀(gt:GT)(b:Option Wv)(p:Nat->Bool),(∀j c,L[j]? =bv c->∀st,gt [bv (.str (tx L)),b,bv (.int (j:Nat))] st= .ok (p c) st)->(∀st,gt [bv (.str (tx L)),b,bv (.int (L.length:Nat))] st= .ok kt st)->fV cC gt (jH (λi j=>i+j) 2 (gC (.int 1))) [bv (.str (tx L)),b,bv (.int (i:Nat))] st= .nx [bv (.str (tx L)),b,bv (.int ((i+jS p L i:Nat):Int))] st:=λgt b p h1 h2=>by refine scan h1 h2 (L.drop i) cC i rfl (by omega) ?_;rw[ia];unfold cC;omega
  have ln:=λst=>Kg (L:=L) (st:=st) hl;have w1:=ml (og (aW (af oLt (ae 2) (aH dH (aa (ae 0) ag)))) (aW (af eG (af aV (ae 0) (ae 2)) (gC (.str "0123456789"))))) (bv (.int (i:Nat))) p8 (λj c h st=>by have lt:=(np.mp h).1;simp[ln,vc h hl,yK,lt]) (λst=>by simp[ln]);have w2:=ml (og (aW (af oLt (ae 2) (aH dH (aa (ae 0) ag)))) (gK (ao 1 dW (aa (af aV (ae 0) (ae 2)) ag)))) (bv (.int (i:Nat))) mL (λj c h st=>by have lt:=(np.mp h).1;simp[ln,vc h hl,FP,lt]) (λst=>by simp[ln]);dsimp only;by_cases a:c=34
  ·rw[Os a];rw[decide_eq_true a]at Yw;by_cases b:iZ L i < 0
   ·rw[Os b];exact trivial
   ·have cm:=yM st b;rw[OK b];refine⟨st,?_,Gr.refl⟩;have t0:((((iZ L i).toNat+1:Nat):Nat):Int)=iZ L i+1:=by omega
    show fI _ st=Re.ok (Wv.int (((iZ L i).toNat+1:Nat):Int)) st;rw[t0];unfold fI bf lB;simp[a1,Yw,cm]
  ·rw[OK a];rw[decide_eq_false a]at Yw;by_cases b:p8 c=jp
   ·rw[Os b];rw[b]at f1;refine⟨st,?_,Gr.refl⟩;unfold fI bf lB nR;simp[a1,Yw,f1,w1]
   ·rw[OK b];rw[Kj]at b;rw[b]at f1;refine⟨st,?_,Gr.refl⟩;have mx:=Uy (a:=i+jS mL L i) (b:=i+1) (st:=st);unfold fI bf lB nQ;simp[a1,Yw,f1,w2];simpa using mx
inductive Wd
 |num (n:Int)
 |txt (s:S)
 |iw
 |pt (r c p q:Int)
 |cl (x:S)
 |sg (x:S)
 |ar (a b c d p q r s:Int)
 |en
def Wd.w:Wd->Wv
 |.num n=> .tup [.str "whole",.tup [.str "num",.int n]]
 |.txt s=> .tup [.str "whole",.tup [.str "text",.str s]]
 |.iw=> .tup [.str "whole",.tup [.str "lost"]]
 |.pt r c p q=> .tup [.str "whole",.tup [.str "at",.tup [.int r,.int c],.tup [.int p,.int q]]]
 |.cl x=> .tup [.str "call",.str x]
 |.sg x=> .tup [.str "sign",.str x]
 |.ar a b c d p q r s=> .tup [.str "area",.tup [.tup [.int a,.int b,.int c,.int d],.tup [.int p,.int q,.int r,.int s]]]
 |.en=> .j5 [.str "end",.str ""]
def numOf(z:S):Rr Int:=match xL z with
 |some n=>if z.length<=640 then .ok n else .un
 |none=> .un
theorem Kk{n:Int}(h:numOf z= .ok n)(st:Hs):uo [.str z] st= .ok (.int n) st:=by
 unfold numOf at h;show(match xL z with |some n=>if z.length<=640 then .ok (.int n) st else .bad |none=> .bad)=Re.ok (Wv.int n) st
 cases e:xL z with
 |none=>rw[e]at h;cases h
 |some k=>
  rw[e]at h;dsimp only at h ⊢;by_cases c:z.length<=640
  ·rw[Os c]at h ⊢;cases h;rfl
  ·rw[OK c]at h;cases h
def xk(c:Nat):Rr Nat:=match gJ DU (tx [c]) 0 DU.length 1 with
 |i::_=> .ok i
 |[]=> .un
theorem Uz(h:xk c= .ok i)(st:Hs):om "abcdefghijklmnopqrstuvwxyz" [.str (tx [c])] st= .ok (.int (i:Nat)) st:=by
 unfold xk at h;show(match gJ DU (tx [c]) 0 DU.length 1 with |i::_=> .ok (.int (i:Nat)) st |[]=> .bad)=Re.ok (Wv.int (i:Nat)) st
 cases e:gJ DU (tx [c]) 0 DU.length 1 with
 |nil=>rw[e]at h;cases h
 |cons j r=>rw[e]at h;cases h;rfl
def oF(L:List Nat):Rr (Int×Nat):=if 100<=L.length then .un else if nm L=kt then .un else match L with
 |[]=> .un
 |a::r=>(match numOf (tx r),xk a with
  |.ok n,.ok i=> .ok (n - 1,i)
  |_,_=> .un)
def plW(x:Int×Nat):Wv:=.tup [.int x.1,.int (x.2:Nat)]
theorem Cb(L:List Nat)(st:Hs):Ak (oF L) plW (fO [.str (tx L)] st) st:=by
 unfold oF;by_cases c:100<=L.length
 ·rw[Os c];exact trivial
 rw[OK c];by_cases b:nm L=kt
 ·rw[Os b];exact trivial
 rw[OK b];cases L with
 |nil=>exact trivial
 |cons a r=>
  dsimp only;cases e1:numOf (tx r)with
  |un=>exact trivial
  |ok n=>
   cases e2:xk a with
   |un=>exact trivial
   |ok i=>obtain⟨st',en,g⟩:=OC (cs:=a::r) (st:=st) (by omega);rw[Bool.not_eq_false]at b;rw[b]at en;refine⟨st',?_,g⟩;have sl:=iF (z:=⟨(a::r).toArray⟩) (lo:=bv 1) (hi:=gV) (st:=st') (Ke (by omega));rw[Ca]at sl;have i0:=ixS (a:=a) (r:=r) (st:=st') (by simp at c;omega);have it:uo [.str ⟨r.toArray⟩] st'= .ok (.int n) st':=Kk e1 st';have hi:om "abcdefghijklmnopqrstuvwxyz" [.str ⟨#[a]⟩] st'= .ok (.int (i:Nat)) st':=Uz e2 st';have al:∀g2:GE,yf (iP om (gC (.str "abcdefghijklmnopqrstuvwxyz")) (aa (af aV (ae 0) (gC (.int 0))) ag)) g2 [bv (.str ⟨(a::r).toArray⟩)] st'= .ok (.int i) st':=λg2=>Ul (by simp[i0,hi]);show fO [.str ⟨(a::r).toArray⟩] st=_;unfold fO bf pP;simp[en,sl,it,al];rfl
def eW(b:Bool):Int:=if b=jp then 1 else 0
def oG(z:S):Rr (Int×Int×Int×Int):=if 1000<=z.length then .un else match z.cps.toList with
 |[]=> .un
 |a::_=>
  let cp:=eW (tx [a] == "$")
  let bare:=aL z (bv cp) gV
  let rp:=eW (aL bare (bv 1) (bv 2) == "$")
  let x:=aL bare gV (bv 1)
  let y:=aL bare (bv (1+rp)) gV
  if 1000<=bare.length\/1000 < x.length+y.length then .un else match oF (x++y).cps.toList with
  |.ok (r,c)=> .ok (r,(c:Nat),rp,cp)
  |.un=> .un
def UA(x:Int×Int×Int×Int):Wv:=.tup [.str "at",.tup [.int x.1,.int x.2.1],.tup [.int x.2.2.1,.int x.2.2.2]]
theorem DZ{g:GT}{b:Bool}(h:g ρ st= .ok b st):vI g (gC (.int 1)) (gC (.int 0)) ρ st= .ok (.int (eW b)) st:=by cases b<;>simp[h,eW]
theorem mM(z:S)(st:Hs):Ak (oG z) UA (cW [.str z] st) st:=by
 unfold oG;by_cases c:1000<=z.length
 ·rw[Os c];exact trivial
 rw[OK c];cases hz:z.cps.toList with
 |nil=>exact trivial
 |cons a t=>
  dsimp only;have a1:aV (.str z) (.int 0) st= .ok (.str (tx [a])) st:=by have:=vc (L:=z.cps.toList) (i:=0) (c:=a) (st:=st) (by rw[hz];rfl) (by rw[hZ];have:z.cps.size=z.length:=rfl;omega);exact this
  have t1:vI (aW (af oEq (af aV (ae 0) (gC (.int 0))) (gC (.str "$")))) (gC (.int 1)) (gC (.int 0)) [bv (.str z),gV,gV,gV] st= .ok (.int (eW (tx [a] == "$"))) st:=DZ (by simp[a1,vS]);generalize eW (tx [a] == "$")=cp at t1 ⊢;have s1:kq (.str z) (bv cp) gV st= .ok (.str (aL z (bv cp) gV)) st:=iF (by unfold lim;omega);generalize aL z (bv cp) gV=bare at s1 ⊢;by_cases cb:1000<=bare.length\/1000 < (aL bare gV (bv 1)).length+(aL bare (bv (1+eW (aL bare (bv 1) (bv 2) == "$"))) gV).length
  ·rw[Os cb];exact trivial
  rw[OK cb];have cb1:bare.length<=lim:=by unfold lim;omega
  have s2:kq (.str bare) (bv 1) (bv 2) st= .ok (.str (aL bare (bv 1) (bv 2))) st:=iF cb1;have t2:vI (aW (af oEq (bA (ae 2) (cJ (gC (.int 1))) (cJ (gC (.int 2)))) (gC (.str "$")))) (gC (.int 1)) (gC (.int 0)) [bv (.str z),bv (.int cp),bv (.str bare),gV] st= .ok (.int (eW (aL bare (bv 1) (bv 2) == "$"))) st:=DZ (by simp[s2,vS]);generalize eW (aL bare (bv 1) (bv 2) == "$")=rp at t2 cb ⊢;have s3:kq (.str bare) gV (bv 1) st= .ok (.str (aL bare gV (bv 1))) st:=iF cb1;have s4:kq (.str bare) (bv (1+rp)) gV st= .ok (.str (aL bare (bv (1+rp)) gV)) st:=iF cb1;generalize aL bare gV (bv 1)=x at s3 cb ⊢;generalize aL bare (bv (1+rp)) gV=y at s4 cb ⊢;have ad:aX (.str x) (.str y) st= .ok (.str (x++y)) st:=eM (by unfold lim;omega);have rp':=Cb (x++y).cps.toList st;rw[Kf]at rp';cases e:oF (x++y).cps.toList with
  |un=>exact trivial
  |ok v=>obtain⟨r,cc⟩:=v;rw[e]at rp';obtain⟨st',e1,g⟩:=rp';refine⟨st',?_,g⟩;unfold cW bf nU;simp[-Ye,t1,s1,t2,s3,s4,ad,e1];rfl
theorem joined{a b c:Int}(h:(a<=c/\b<=d)/\oC a b/\oC c d):dX [.tup [.int a,.int b],.tup [.int c,.int d]] st= .ok (.tup [.int a,.int b,.int c,.int d]) st:=by have ad:aX (.tup [.int a,.int b]) (.tup [.int c,.int d]) st= .ok (.tup [.int a,.int b,.int c,.int d]) st:=rfl;have hc:=Yu (st:=st) h;unfold dX bf kL;simp[ad,hc]
def joinR(u v:Int×Int×Int×Int):Rr Wd:=if(u.1<=v.1/\u.2.1<=v.2.1)/\oC u.1 u.2.1/\oC v.1 v.2.1 then .ok (.ar u.1 u.2.1 v.1 v.2.1 u.2.2.1 u.2.2.2 v.2.2.1 v.2.2.2)else .un
def rT(z:S):Rr Wd:=if 100<=z.length then .un else match dN z ":" with
 |[x,y]=>if x=""\/y="" then .un else(match oG x with
  |.un=> .un
  |.ok u=>(match oG y with
   |.un=> .un
   |.ok v=>joinR u v))
 |_=> .un
def arW:Wd->Wv
 |.ar a b c d p q r s=> .tup [.tup [.int a,.int b,.int c,.int d],.tup [.int p,.int q,.int r,.int s]]
 |_=> .cY
theorem jT(x y:S):(x == y)=decide (x=y):=by
 by_cases c:x=y
 ·subst c;simp
 ·rw[beq_false_of_ne c,decide_eq_false c]
theorem at2{x a b:Wv}:aV (.tup [x,a,b]) (.int 1) st= .ok a st/\aV (.tup [x,a,b]) (.int 2) st= .ok b st:=⟨cw rfl,cw rfl⟩
theorem FQ(z:S)(st:Hs):Ak (rT z) arW (c_ [.str z] st) st:=by
 unfold rT;by_cases hz:100<=z.length
 ·rw[Os hz];exact trivial
 rw[OK hz];have sp:qk z [.str ":"] st= .ok (.ref st.length) (st++[.lst ((dN z ":").map Wv.str)]):=by unfold qk;dsimp only;rw[Os ⟨rfl,by unfold lim;omega⟩]
 generalize dN z ":"=xs at sp ⊢;have g1:Gr st (st++[.lst (xs.map Wv.str)]):=Gr.push;have hl:ax (st++[.lst (xs.map Wv.str)]) st.length=bv (xs.map Wv.str):=dq;generalize st++[.lst (xs.map Wv.str)]=s1 at sp g1 hl;have ln:dH [.ref st.length] s1= .ok (.int (xs.length:Nat)) s1:=by have:=DL hl;rwa [bN]at this
 by_cases c2:xs.length=2
 ·match xs,c2 with
  |[x,y],_=>
   have i0:aV (.ref st.length) (.int 0) s1= .ok (.str x) s1:=pD hl (L2.eZ (j:=0) rfl);have i1:aV (.ref st.length) (.int 1) s1= .ok (.str y) s1:=pD hl (L2.eZ (j:=1) rfl);have ie:vL kt (.str "") (.ref st.length) s1= .ok (.bl (decide (x=""\/y=""))) s1:=by
    have d1:bO s1 20 (.ref st.length)=bv (.list [.str x,.str y]):=by unfold bO;simp only[hl];rfl
    have d2:bO s1 20 (.str "")=bv (.str ""):=rfl;unfold vL;rw[d1,d2];show Re.ok (Wv.bl (((x == "")||((y == "")||false)) != kt)) s1=_;rw[jT,jT];simp
   have rx:=mM x s1;dsimp only;by_cases ce:x=""\/y=""
   ·rw[Os ce];exact trivial
   rw[OK ce];rw[decide_eq_false ce]at ie;cases ex:oG x with
   |un=>exact trivial
   |ok u=>
    obtain⟨a,b,p,q⟩:=u;rw[ex]at rx;obtain⟨s2,e2,g2⟩:=rx;have i1':aV (.ref st.length) (.int 1) s2= .ok (.str y) s2:=pD (g2.lst hl) (L2.eZ (j:=1) rfl);have ry:=mM y s2;dsimp only;cases ey:oG y with
    |un=>exact trivial
    |ok v=>
     obtain⟨c,d,r,s⟩:=v;rw[ey]at ry;obtain⟨s3,e3,g3⟩:=ry;have ad:aX (.tup [.int p,.int q]) (.tup [.int r,.int s]) s3= .ok (.tup [.int p,.int q,.int r,.int s]) s3:=rfl;unfold UA at e2 e3;dsimp only at e2 e3;unfold joinR;dsimp only;by_cases h:(a<=c/\b<=d)/\oC a b/\oC c d
     ·have jn:=joined (st:=s3) h;rw[Os h];refine⟨s3,?_,g1.trans (g2.trans g3)⟩;unfold c_ bf ju;simp[sp,ln,ie,i0,e2,i1',e3,at2.1,at2.2,jn,ad];rfl
     ·rw[OK h];exact trivial
 ·have e:(match xs with
    |[x,y]=>if x=""\/y="" then(.un:Rr Wd)else(match oG x with
     |.un=> .un
     |.ok u=>(match oG y with
      |.un=> .un
      |.ok v=>joinR u v))
    |_=> .un)= .un:=by
   match xs,c2 with
   |[],_=>rfl
   |[_],_=>rfl
   |[_,_],h=>exact absurd rfl h
   |_::_::_::_,_=>rfl
  rw[e];exact trivial
def CW:List S:=["not","rest","if","else","sum","count","least","greatest","find"]
def SW:List S:=["+","-","*","/","&","<","=","(",")",","]
def FR(z:S):Bool:=!(gJ z ":" 0 z.length 1).isEmpty
def Kl(z:S):Rr Wd:=let t:=aL z (bv 1) (bv (-1));if 1000 < t.length then .un else if t.cps.toList.all sgB=jp then .ok (.txt t)else .un
def Km(c:Nat)(z:S):Rr Wd:=if c=48/\z≠"0" then .un else match numOf (aL z gV (bv 62))with
 |.ok n=> .ok (.num n)
 |_=> .un
def OG(z:S):Rr Wd:=match oG z with
 |.ok v=> .ok (.pt v.1 v.2.1 v.2.2.1 v.2.2.2)
 |.un=> .un
def jy(z:S):Rr Wd:=match z.cps.toList with
 |[]=> .un
 |c::_=>if 1000<=z.length then .un else if c=34 then Kl z else if p8 c=jp then Km c z else if z="lost" then .ok .iw else if z∈CW then .ok (.cl z)else if z∈SW then .ok (.sg z)else if FR z=jp then rT z else OG z
theorem rV(a b:Nat):(tx [a] == tx [b])=decide (a=b):=by
 rw[jT,vb,decide_eq_true_eq,decide_eq_true_eq];constructor
 ·intro z;have:=congrArg (λs:S=>s.cps.toList) z;simpa [tx]using this
 ·intro z;rw[z]
def inW(d:Wd):Wv:=match d with
 |.num n=> .tup [.str "num",.int n]
 |.txt s=> .tup [.str "text",.str s]
 |.ar a b c d p q r s=>arW (.ar a b c d p q r s)
 |.pt r c p q=>UA (r,c,p,q)
 |_=> .cY
theorem Al(z:S)(hz:z.length < 1000)(st:Hs):Ak (Kl z) inW (f' [.str z] st) st:=by
 unfold Kl;have s1:kq (.str z) (bv 1) (bv (-1)) st= .ok (.str (aL z (bv 1) (bv (-1)))) st:=iF (by unfold lim;omega);generalize aL z (bv 1) (bv (-1))=t at s1 ⊢;dsimp only;by_cases c:1000 < t.length
 ·rw[Os c];exact trivial
 rw[OK c];by_cases h:t.cps.toList.all sgB=jp
 ·rw[Os h];obtain⟨st',e,g⟩:=Aj (λc hc=>of_decide_eq_true (List.all_eq_true.mp h c hc)) (by omega) st;refine⟨st',?_,g⟩;unfold f' bf nW;simp[s1,e];rfl
 ·rw[OK h];exact trivial
theorem Am{t:List Nat}(z:S)(hz:z.length < 1000)(h:z.cps.toList=c::t)(st:Hs):Ak (Km c z) inW (gf [.str z] st) st:=by
 have a1:aV (.str z) (.int 0) st= .ok (.str (tx [c])) st:=vc (L:=z.cps.toList) (i:=0) (c:=c) (st:=st) (by rw[h];rfl) (by rw[hZ];have:z.cps.size=z.length:=rfl;omega);have e1:oEq (.str (tx [c])) (.str "0") st= .ok (.bl (decide (c=48))) st:=by
  have e0:("0":S)=tx [48]:=by decide+kernel
  rw[e0,vS,rV]
 have e2:lU (.str z) (.str "0") st= .ok (.bl (decide (z≠"0"))) st:=by rw[Ol,jT];simp
 have s1:kq (.str z) gV (bv 62) st= .ok (.str (aL z gV (bv 62))) st:=iF (by unfold lim;omega);unfold Km;by_cases k:c=48/\z≠"0"
 ·rw[Os k];exact trivial
 rw[OK k];cases hn:numOf (aL z gV (bv 62))with
 |un=>exact trivial
 |ok n=>
  have it:=Kk hn st;refine⟨st,?_,Gr.refl⟩;unfold gf bf nY;by_cases q:c=48
  ·have q2:decide (z≠"0")=false:=decide_eq_false λh=>k ⟨q,h⟩;rw[decide_eq_true q]at e1;rw[q2]at e2;simp[a1,e1,e2,s1,it];rfl
  ·rw[decide_eq_false q]at e1;simp[a1,e1,s1,it];rfl
variable{d:Wd}
theorem OH(h:rT z= .ok d):d.w= .tup [.str "area",arW d]:=by
 unfold rT at h;by_cases c:100<=z.length
 ·rw[Os c]at h;cases h
 rw[OK c]at h;split at h
 ·rename_i x y e;by_cases q:x=""\/y=""
  ·rw[Os q]at h;cases h
  rw[OK q]at h;cases e1:oG x with
  |un=>rw[e1]at h;cases h
  |ok u=>
   rw[e1]at h;dsimp only at h;cases e2:oG y with
   |un=>rw[e2]at h;cases h
   |ok v=>
    rw[e2]at h;dsimp only at h;unfold joinR at h;by_cases k:(u.1<=v.1/\u.2.1<=v.2.1)/\oC u.1 u.2.1/\oC v.1 v.2.1
    ·rw[Os k]at h;cases h;rfl
    ·rw[OK k]at h;cases h
 ·cases h
theorem FT(z:S)(st:Hs):Ak (jy z) Wd.w (cg [.str z] st) st:=by
 unfold jy;cases h:z.cps.toList with
 |nil=>exact trivial
 |cons c t=>
  dsimp only;by_cases hz:1000<=z.length
  ·rw[Os hz];exact trivial
  rw[OK hz];have a1:aV (.str z) (.int 0) st= .ok (.str (tx [c])) st:=vc (L:=z.cps.toList) (i:=0) (c:=c) (st:=st) (by rw[h];rfl) (by rw[hZ];have:z.cps.size=z.length:=rfl;omega);have e1:oEq (.str (tx [c])) (.str "\"") st= .ok (.bl (decide (c=34))) st:=by
   have e0:("\"":S)=tx [34]:=by decide+kernel
   rw[e0,vS,rV]
  have f1:=yK (c:=c) (st:=st);have el:oEq (.str z) (.str "lost") st= .ok (.bl (decide (z="lost"))) st:=by rw[vS,jT]
  have ic:eG (.str z) (.j5 [.str "not",.str "rest",.str "if",.str "else",.str "sum",.str "count",.str "least",.str "greatest",.str "find"]) st= .ok (.bl (decide (z∈CW))) st:=Ow (ys:=CW);have is:eG (.str z) (.j5 [.str "+",.str "-",.str "*",.str "/",.str "&",.str "<",.str "=",.str "(",.str ")",.str ","]) st= .ok (.bl (decide (z∈SW))) st:=Ow (ys:=SW);have ik:eG (.str ":") (.str z) st= .ok (.bl (FR z)) st:=rfl;by_cases k1:c=34
  ·rw[Os k1];rw[decide_eq_true k1]at e1;have r:=Al z (by omega) st;unfold Kl at r ⊢;dsimp only at r ⊢;by_cases q:1000 < (aL z (bv 1) (bv (-1))).length
   ·rw[Os q];exact trivial
   rw[OK q]at r ⊢;by_cases q2:(aL z (bv 1) (bv (-1))).cps.toList.all sgB=jp
   ·rw[Os q2]at r ⊢;obtain⟨s1,e,g⟩:=r;refine⟨s1,?_,g⟩;unfold cg bf eF;simp[a1,e1,e];rfl
   ·rw[OK q2];exact trivial
  rw[OK k1];rw[decide_eq_false k1]at e1;by_cases k2:p8 c=jp
  ·rw[Os k2];rw[k2]at f1;have r:=Am z (by omega) h st;unfold Km at r ⊢;by_cases q:c=48/\z≠"0"
   ·rw[Os q];exact trivial
   rw[OK q]at r ⊢;cases hn:numOf (aL z gV (bv 62))with
   |un=>exact trivial
   |ok n=>rw[hn]at r;obtain⟨s1,e,g⟩:=r;refine⟨s1,?_,g⟩;unfold cg bf eF;simp[a1,e1,f1,e];rfl
  rw[OK k2];rw[Kj]at k2;rw[k2]at f1;by_cases k3:z="lost"
  ·rw[Os k3];rw[decide_eq_true k3]at el;refine⟨st,?_,Gr.refl⟩;unfold cg bf eF;simp[a1,e1,f1,el];rfl
  rw[OK k3];rw[decide_eq_false k3]at el;by_cases k4:z∈CW
  ·rw[Os k4];rw[decide_eq_true k4]at ic;refine⟨st,?_,Gr.refl⟩;unfold cg bf eF;simp[a1,e1,f1,el,ic];rfl
  rw[OK k4];rw[decide_eq_false k4]at ic;by_cases k5:z∈SW
  ·rw[Os k5];rw[decide_eq_true k5]at is;refine⟨st,?_,Gr.refl⟩;unfold cg bf eF;simp[a1,e1,f1,el,ic,is];rfl
  rw[OK k5];rw[decide_eq_false k5]at is;by_cases k6:FR z=jp
  ·rw[Os k6];rw[k6]at ik;have r:=FQ z st;cases ha:rT z with
   |un=>exact trivial
   |ok d=>rw[ha]at r;obtain⟨s1,e,g⟩:=r;have hd:d.w= .tup [.str "area",arW d]:=OH ha;refine⟨s1,?_,g⟩;show cg [.str z] st= .ok d.w s1;rw[hd];unfold cg bf eF;simp[a1,e1,f1,el,ic,is,ik,e]
  rw[OK k6];rw[Kj]at k6;rw[k6]at ik;have r:=mM z st;unfold OG;cases hp:oG z with
  |un=>exact trivial
  |ok v=>rw[hp]at r;obtain⟨s1,e,g⟩:=r;refine⟨s1,?_,g⟩;unfold cg bf eF;simp[a1,e1,f1,el,ic,is,ik,e];rfl
def iT:Nat->List Nat->Nat->Rr (List Wd)
 | 0,_,_=> .un
 |n+1,L,i=>if L.length<=i then .ok []else match qJ L i with
  |.un=> .un
  |.ok j=>if L[i]? =bv 32 then iT n L j else match jy (tx ((L.drop i).take (j - i)))with
   |.un=> .un
   |.ok w=>(match iT n L j with
    |.ok ws=> .ok (w::ws)
    |.un=> .un)
abbrev sV:GT:=aW (af oLt (ae 2) (aH dH (aa (ae 0) ag)))
def Yx(r:Rr (List Wd))(acc:List Wd)(l:Nat)(x:Rs)(st:Hs)(L:List Nat):Prop:=match r with
 |.ok ws=>∃i' o3 st',x= .nx [bv (.str (tx L)),bv (.ref l),i',o3] st'/\a9 l st st'/\st'[l]? =bv (.lst ((acc++ws).map Wd.w))
 |.un=>True
theorem oH{L:List Nat}(hl:L.length<=90000):∀(n:Nat)(acc:List Wd)(i l M:Nat)(o3:Option Wv)(st:Hs),n<=M->acc.length+n<=99000->st[l]? =bv (.lst (acc.map Wd.w))->Yx (iT n L i) acc l (AW sV dG M [bv (.str (tx L)),bv (.ref l),bv (.int (i:Nat)),o3] st) st L
 | 0,_,_,_,_,_,_,_,_,_=>trivial
 |n+1,acc,i,l,M,o3,st,hM,ha,h=>by
  obtain⟨M,rfl⟩:∃m,M=m+1:=⟨M - 1,by omega⟩;have ln:=Kg (L:=L) (st:=st) hl;unfold iT;by_cases c:L.length<=i
  ·rw[Os c];have t:sV [bv (.str (tx L)),bv (.ref l),bv (.int (i:Nat)),o3] st= .ok kt st:=by
    have:¬i < L.length:=by omega
    simp[ln,this]
   rw[p9 t];exact⟨_,_,st,rfl,a9.refl,by rw[fT];exact h⟩
  rw[OK c];have lt:i < L.length:=by omega
  have t:sV [bv (.str (tx L)),bv (.ref l),bv (.int (i:Nat)),o3] st= .ok jp st:=by simp[ln,lt]
  obtain⟨ch,hc⟩:∃ch,L[i]? =bv ch:=⟨L[i],fk lt⟩;have we:=Ki (i:=i) hl st;cases hw:qJ L i with
  |un=>exact trivial
  |ok j=>
   rw[hw]at we;obtain⟨s1,e1,g1⟩:=we;dsimp only at e1;have hb:=Ux hw;have a1:=vc (st:=s1) hc hl;have h1:=g1.get h;have en:lU (.str (tx [ch])) (.str " ") s1= .ok (.bl (!decide (ch=32))) s1:=by
    have e0:(" ":S)=tx [32]:=by decide+kernel
    rw[e0,Ol,rV]
   dsimp only;by_cases k:ch=32
   ·rw[hc,Os (by rw[k])];rw[decide_eq_true k]at en;have b:dG [bv (.str (tx L)),bv (.ref l),bv (.int (i:Nat)),o3] st= .nx [bv (.str (tx L)),bv (.ref l),bv (.int (j:Nat)),bv (.int (j:Nat))] s1:=by unfold dG;simp[e1,a1,en]
    rw[ve t b];have r:=oH hl n acc j l M (bv (.int (j:Nat))) s1 (by omega) (by omega) h1;cases hr:iT n L j with
    |un=>exact trivial
    |ok ws=>rw[hr]at r;obtain⟨i',o',s2,e2,k2,q⟩:=r;exact⟨i',o',s2,e2,(Gr.keep g1).trans k2,q⟩
   ·rw[hc,OK (by intro z;exact k (Option.some.inj z))];rw[decide_eq_false k]at en;have sl:=Yv (L:=L) (i:=i) (j:=j) (st:=s1) (by omega) hb.2 hl;have Wg:=FT (tx ((L.drop i).take (j - i))) s1;generalize tx ((L.drop i).take (j - i))=z at sl Wg ⊢;cases hz:jy z with
    |un=>exact trivial
    |ok w=>
     rw[hz]at Wg;obtain⟨s2,e2,g2⟩:=Wg;have q1:=bo h1;have h2:=g2.get h1;have ap:=nK (v:=w.w) h2 (by rw[bN];unfold lim;omega);have b:dG [bv (.str (tx L)),bv (.ref l),bv (.int (i:Nat)),o3] st= .nx [bv (.str (tx L)),bv (.ref l),bv (.int (j:Nat)),bv (.int (j:Nat))] (s2.set l (.lst (acc.map Wd.w++[w.w]))):=by unfold dG;simp[e1,a1,en,sl,e2,ap,uG,q1]
     rw[ve t b];have r:=oH hl n (acc++[w]) j l M (bv (.int (j:Nat))) (s2.set l (.lst (acc.map Wd.w++[w.w]))) (by omega) (by rw[bh];simp;omega) (by rw[cx h2];simp);have kk:a9 l st (s2.set l (.lst (acc.map Wd.w++[w.w]))):=(Gr.keep (g1.trans g2)).trans a9.set;dsimp only;cases hr:iT n L j with
     |un=>exact trivial
     |ok ws=>rw[hr]at r;obtain⟨i',o',s3,e3,k3,q⟩:=r;exact⟨i',o',s3,e3,kk.trans k3,by rw[q];simp⟩
def qK(z:S):Rr (List Wd):=if 90000 < z.length then .un else iT 90001 z.cps.toList 0
theorem words_of(z:S)(st:Hs):match qK z with
  |.ok ws=>∃st',jv [.str z] st= .ok (.ref st.length) st'/\Gr st st'/\st'[st.length]? =bv (.lst (ws.map Wd.w))
  |.un=>True:=by
 unfold qK;by_cases c:90000 < z.length
 ·rw[Os c];exact trivial
 rw[OK c];have hl:z.cps.toList.length<=90000:=by rw[hZ];have:z.cps.size=z.length:=rfl;omega
 have r:=oH hl 90001 [] 0 st.length cC gV (st++[.lst []]) (by unfold cC;omega) (by decide) aR;rw[Kf]at r;cases h:iT 90001 z.cps.toList 0 with
 |un=>exact trivial
 |ok ws=>rw[h]at r;obtain⟨i',o',s1,e1,k1,q⟩:=r;have zw:fV cC sV dG [bv (.str z),bv (.ref st.length),bv (.int 0),gV] (st++[.lst []])= .nx [bv (.str z),bv (.ref st.length),i',o'] s1:=e1;refine⟨s1,?_,Gr.uJ (av _) Gr.push k1,q⟩;unfold jv bf u4;simp[-uF,zw]
variable{g:GE}{f:S}{fs:List (S×Wv)}
theorem Yy{c:S}{k:Nat}{w:Wv}(h:g ρ st= .ok (.ref k) st1)(h2:st1[k]? =bv (.ins c fs))(h3:fs.lookup f=bv w):vM c f g ρ st= .ok w st1:=by
 have e:fb st1 c (.ref k)=bv fs:=by unfold fb;simp[h2]
 unfold vM;rw[h];show(match(fb st1 c (.ref k)).bind (·.lookup f)with |some w=>Re.ok w st1 |none=> .bad)=_
 rw[e];show(match fs.lookup f with |some w=>Re.ok w st1 |none=> .bad)=_
 rw[h3]
variable{F:List Wv->Hs->Re Wv}{go:GE}{st2:Hs}
theorem FU{c:S}{ga:GA}{k:Nat}(h:go ρ st= .ok (.ref k) st1)(h2:st1[k]? =bv (.ins c fs))(h3:fs.lookup f=gV)(h4:ga ρ st1= .ok ws st2)(h5:ws.length+1=n):
  gM c f n F go ga ρ st=F (.ref k::ws) st2:=by
 have e:fb st1 c (.ref k)=bv fs:=by unfold fb;simp[h2]
 unfold gM;rw[h];show(match(fb st1 c (.ref k)).map (·.lookup f)with
  |some gV=>(ga ρ st1).bind λws st2=>if ws.length+1=n then F (.ref k::ws) st2 else .bad
  |_=> .bad)=_
 rw[e];show(match bv (fs.lookup f)with
  |some gV=>(ga ρ st1).bind λws st2=>if ws.length+1=n then F (.ref k::ws) st2 else .bad
  |_=> .bad)=_
 rw[h3];dsimp only;rw[h4];show(if ws.length+1=n then F (.ref k::ws) st2 else .bad)=_;rw[Os h5]
theorem Yz{c:S}{gv:GE}{k:Nat}{v:Wv}(h1:gv ρ st= .ok v st1)(h2:go ρ st1= .ok (.ref k) st2)(h3:st2[k]? =bv (.ins c fs))(h4:fs.length < 900):ra c f gv go ρ st= .nx ρ (st2.set k (.ins c (zH f v fs))):=by
 have e:fb st2 c (.ref k)=bv fs:=by unfold fb;simp[h3]
 unfold ra;rw[h1];show(go ρ st1).bR ρ _=_;rw[h2];show(match vN c f (.ref k) v st2 with |some st3=>Rs.nx ρ st3 |none=> .bad)=_
 unfold vN;rw[e];dsimp only;rw[Os h4]
def dI(d:Wd)(x:S):Bool:=match d with
 |.sg y=>decide (y=x)
 |_=>kt
theorem Kn(d:Wd)(x:S)(st:Hs):oEq d.w (.tup [.str "sign",.str x]) st= .ok (.bl (dI d x)) st:=by
 have dx:bO st 20 (.tup [.str "sign",.str x])=bv (.tuple [.str "sign",.str x]):=rfl;cases d with
 |sg y=>have dd:bO st 20 (Wd.sg y).w=bv (.tuple [.str "sign",.str y]):=rfl;unfold oEq;rw[dd,dx];show Re.ok (Wv.bl ((("sign":S) == "sign")&&((y == x)&&jp))) st=_;rw[jT y x];simp[dI]
 |_=>rfl
theorem Qb(d:Wd)(x:S)(st:Hs):lU d.w (.tup [.str "sign",.str x]) st= .ok (.bl (!dI d x)) st:=by
 have dx:bO st 20 (.tup [.str "sign",.str x])=bv (.tuple [.str "sign",.str x]):=rfl;cases d with
 |sg y=>have dd:bO st 20 (Wd.sg y).w=bv (.tuple [.str "sign",.str y]):=rfl;unfold lU;rw[dd,dx];show Re.ok (Wv.bl (!((("sign":S) == "sign")&&((y == x)&&jp)))) st=_;rw[jT y x];simp[dI]
 |_=>rfl
def qL:List Wd->Int->Bool
 |[],_=>jp
 |w::r,d=>if 40 < d+eW (dI w "(") - eW (dI w ")")then kt else qL r (d+eW (dI w "(") - eW (dI w ")"))
theorem OI(l:Nat)(w:Wd)(d:Int)(st:Hs)(c:¬40 < d+eW (dI w "(") - eW (dI w ")")):cQ [bv (.ref l),bv (.int d),bv w.w] st= .nx [bv (.ref l),bv (.int (d+eW (dI w "(") - eW (dI w ")"))),bv w.w] st:=by
 have e1:=Kn w "(" st;have e2:=Kn w ")" st;generalize dI w "("=a at e1 c ⊢;generalize dI w ")"=b at e2 c ⊢;unfold cQ;cases a<;>cases b
 ·have q:d+eW kt - eW kt=d:=by simp[eW]
  rw[q]at c ⊢;simp[e1,e2,c,lim]
 ·have q:d+eW kt - eW jp=d - 1:=by simp[eW]
  rw[q]at c ⊢;simp[e1,e2,c,lim,jH,zF]
 ·have q:d+eW jp - eW kt=d+1:=by simp[eW]
  rw[q]at c ⊢;simp[e1,e2,c,lim,jH,zF]
 ·have q:d+eW jp - eW jp=d+1 - 1:=by simp[eW]
  rw[q]at c ⊢;have c':¬40 < d:=by omega
  simp[e1,e2,c',lim,jH,zF]
theorem D0{l:Nat}{all:List Wv}{st:Hs}(hl:ax st l=bv all):∀(ws:List Wd)(d:Int)(o:Option Wv),qL ws d=jp->∃ρ,forL 2 cQ l all (ws.map Wd.w) [bv (.ref l),bv (.int d),o] st= .nx ρ st
 |[],d,o,_=>⟨_,rfl⟩
 |w::r,d,o,b=>by
  unfold qL at b;by_cases c:40 < d+eW (dI w "(") - eW (dI w ")")
  ·rw[Os c]at b;cases b
  rw[OK c]at b;have t:=OI l w d st c;rw[bz];unfold forL;rw[show([bv (.ref l),bv (.int d),o]:b7).set 2 (bv w.w)=[bv (.ref l),bv (.int d),bv w.w] from rfl,t];dsimp only;rw[Os hl];exact D0 hl r _ (bv w.w) b
variable{ws:List Wd}
theorem brackets(h:st[l]? =bv (.lst (ws.map Wd.w)))(b:qL ws 0=jp):dY [.ref l] st= .ok .cY st:=by
 have hl:=bo h;obtain⟨ρ,e⟩:=D0 hl ws 0 gV b;have e':kFor 2 cQ [bv (.ref l),bv (.int 0),gV] (.ref l) st= .nx ρ st:=by rw[uH hl];exact e
 unfold dY bf kN;simp[e']
theorem adE{f:Int->Int->Int}{c fl:S}{k:Nat}{fs2:List (S×Wv)}{a b:Int}(h1:go ρ st= .ok (.ref k) st1)(h2:st1[k]? =bv (.ins c fs))(h3:fs.lookup fl=bv (.int a))(h4:ge ρ st1= .ok (.int b) st2)(h5:st2[k]? =bv (.ins c fs2))(h6:fs2.length < 900):wO f c fl go ge ρ st= .nx ρ (st2.set k (.ins c (zH fl (.int (f a b)) fs2))):=by
 have e:fb st1 c (.ref k)=bv fs:=by unfold fb;simp[h2]
 have e2:fb st2 c (.ref k)=bv fs2:=by unfold fb;simp[h5]
 unfold wO;rw[h1];dsimp only[Re.bR];rw[e];dsimp only[Dv];rw[h3];dsimp only;rw[h4];show(match vN c fl (.ref k) (.int (f a b)) st2 with |some st3=>Rs.nx ρ st3 |none=> .bad)=_
 unfold vN;rw[e2];dsimp only;rw[Os h6]
def YA(l i:Nat):List (S×Wv):=[("words",.ref l),("spot",.int (i:Nat))]
def eP(l i:Nat):Ob:=.ins "WordRow" (YA l i)
structure At(r l i:Nat)(ws:List Wd)(st:Hs):Prop where
 row:st[r]? =bv (eP l i)
 lst:st[l]? =bv (.lst (ws.map Wd.w))
 few:ws.length<=2000
def hd:List Wd->Wd
 |[]=> .en
 |w::_=>w
theorem ahead{r:Nat}(h:At r l i ws st):aC [.ref r] st= .ok (hd (ws.drop i)).w st:=by
 have f1:vM "WordRow" "spot" (ae 0) [bv (.ref r)] st= .ok (.int (i:Nat)) st:=Yy rfl h.row rfl;have f2:vM "WordRow" "words" (ae 0) [bv (.ref r)] st= .ok (.ref l) st:=Yy rfl h.row rfl;have hl:=bo h.lst;have ln:dH [.ref l] st= .ok (.int (ws.length:Nat)) st:=by have:=DL hl;rwa [bN]at this
 unfold aC bf ip;by_cases c:i < ws.length
 ·have e:hd (ws.drop i)=ws[i]:=by rw[yb c];rfl
  have ix:aV (.ref l) (.int (i:Nat)) st= .ok (ws[i]).w st:=pD hl (L2.eZ (by rw[j3,fk c];rfl));rw[e];simp[f1,f2,ln,c,ix]
 ·rw[J_ (by omega)];simp[f1,f2,ln,c];rfl
theorem At.to{r:Nat}(h:At r l i ws st):At r l j ws (st.set r (eP l j)):=by
 have hne:r≠l:=by intro z;have a:=h.row;have b:=h.lst;rw[z,b]at a;cases a
 exact⟨cx h.row,by rw[bM hne];exact h.lst,h.few⟩
theorem taken{r:Nat}(h:At r l i ws st):aU [.ref r] st= .ok (hd (ws.drop i)).w (st.set r (eP l (i+1))):=by
 have m1:gM "WordRow" "ahead" 1 aC (ae 0) ag [bv (.ref r),gV] st= .ok (hd (ws.drop i)).w st:=(FU (k:=r) (ws:=[]) rfl h.row rfl rfl rfl).trans (ahead h);generalize (hd (ws.drop i)).w=w at m1 ⊢;have a1:wO (λi j=>i+j) "WordRow" "spot" (ae 0) (gC (.int 1)) [bv (.ref r),bv w] st= .nx [bv (.ref r),bv w] (st.set r (eP l (i+1))):=by
  have pq:Ob.ins "WordRow" (zH "spot" (.int ((i:Int)+1)) (YA l i))=eP l (i+1):=by kernel_rfl
  rw[adE (a:=(i:Nat)) (b:=1) rfl h.row rfl rfl h.row (by show 2 < 900;decide),pq]
 unfold aU bf ir;simp[m1,a1]
abbrev RW:=Rr (Wv×Nat)
def An(v:RW)(r l:Nat)(ws:List Wd)(x:Re Wv)(st:Hs):Prop:=match v with
 |.ok p=>∃st',x= .ok p.1 st'/\a9 r st st'/\At r l p.2 ws st'
 |.un=>True
theorem FV{r:Nat}(h:At r l i ws st)(c:dI (hd (ws.drop i)) x=jp):bb [.ref r,.str x] st= .ok .cY (st.set r (eP l (i+1))):=by have m1:gM "WordRow" "taken" 1 aU (ae 0) ag [bv (.ref r),bv (.str x)] st= .ok (hd (ws.drop i)).w (st.set r (eP l (i+1))):=(FU (k:=r) (ws:=[]) rfl h.row rfl rfl rfl).trans (taken h);have ne:=Qb (hd (ws.drop i)) x (st.set r (eP l (i+1)));generalize (hd (ws.drop i)).w=w at m1 ne;rw[c]at ne;generalize st.set r (eP l (i+1))=s1 at m1 ne ⊢;unfold bb bf fK;simp[m1,ne]
theorem w0(d:Wd)(st:Hs):∃k,aV d.w (.int 0) st= .ok (.str k) st/\(k="whole"\/k="call"\/k="sign"\/k="area"\/k="end"):=by
 cases d with
 |num n=>exact⟨"whole",cw rfl,by simp⟩
 |txt s=>exact⟨"whole",cw rfl,by simp⟩
 |iw=>exact⟨"whole",cw rfl,by simp⟩
 |pt r c p q=>exact⟨"whole",cw rfl,by simp⟩
 |cl x=>exact⟨"call",cw rfl,by simp⟩
 |sg x=>exact⟨"sign",cw rfl,by simp⟩
 |ar a b c d p q r s=>exact⟨"area",cw rfl,by simp⟩
 |en=>exact⟨"end",rfl,by simp⟩
theorem q1:(("call":S) == "whole")=false:=by decide+kernel
theorem q2:(("sign":S) == "whole")=false:=by decide+kernel
theorem q3:(("sign":S) == "call")=false:=by decide+kernel
theorem q4:(("area":S) == "whole")=false:=by decide+kernel
theorem q5:(("area":S) == "call")=false:=by decide+kernel
theorem q6:(("end":S) == "whole")=false:=by decide+kernel
theorem q7:(("end":S) == "call")=false:=by decide+kernel
theorem q8:(("end":S) == "sign")=false:=by decide+kernel
theorem q9:(("area":S) == "sign")=false:=by decide+kernel
theorem q10:(("call":S) == "sign")=false:=by decide+kernel
theorem q11:(("whole":S) == "sign")=false:=by decide+kernel
def iU(F:List Wv->Hs->Re Wv)(P:Nat->RW)(ws:List Wd):Prop:=∀(r l i:Nat)(st:Hs),At r l i ws st->An (P i) r l ws (F [.ref r] st) st
def Cc(F:List Wv->Hs->Re Wv)(C:Nat->S->RW)(ws:List Wd):Prop:=∀(r l i:Nat)(x:S)(st:Hs),At r l i ws st->An (C i x) r l ws (F [.ref r,.str x] st) st
def j8(ws:List Wd)(v:RW):RW:=match v with
 |.ok p=>if dI (hd (ws.drop p.2)) ")"=jp then .ok (p.1,p.2+1)else .un
 |.un=> .un
def lC(P:Nat->RW)(C:Nat->S->RW)(ws:List Wd)(i:Nat):RW:=match hd (ws.drop i)with
 |.num n=> .ok (.tup [.str "num",.int n],i+1)
 |.txt s=> .ok (.tup [.str "text",.str s],i+1)
 |.iw=> .ok (.tup [.str "lost"],i+1)
 |.pt r c p q=> .ok (.tup [.str "at",.tup [.int r,.int c],.tup [.int p,.int q]],i+1)
 |.cl x=>C (i+1) x
 |.sg x=>if x="(" then j8 ws (P (i+1))else .un
 |.ar _ _ _ _ _ _ _ _=> .un
 |.en=> .un
variable{s1:Hs}
theorem An.up{v:RW}{r:Nat}{x:Re Wv}(k:a9 r st s1)(h:An v r l ws x s1):An v r l ws x st:=by
 cases v with
 |ok p=>obtain⟨st',e,k',a⟩:=h;exact⟨st',e,k.trans k',a⟩
 |un=>trivial
theorem sW{r:Nat}(h:At r l i ws st)(h0:ρ[0]? =bv (bv (.ref r))):gM "WordRow" "taken" 1 aU (ae 0) ag ρ st= .ok (hd (ws.drop i)).w (st.set r (eP l (i+1))) :=
 (FU (k:=r) (ws:=[]) (by show Wf ρ[0]? st=_;rw[h0];rfl) h.row rfl rfl rfl).trans (taken h)
theorem vf{r:Nat}(h:At r l i ws st)(c:dI (hd (ws.drop i)) x=jp)(h0:ρ[0]? =bv (bv (.ref r)))(hg:g ρ st= .ok (.str x) st):gM "WordRow" "pass_sign" 2 bb (ae 0) (aa g ag) ρ st= .ok .cY (st.set r (eP l (i+1))) :=
 (FU (k:=r) (ws:=[.str x]) (by show Wf ρ[0]? st=_;rw[h0];rfl) h.row rfl (by simp[hg]) rfl).trans (FV h c)
variable{P:Nat->RW}{F1 F2 F3 F4:List Wv->Hs->Re Wv}
theorem Ko{C:Nat->S->RW}(h1:Cc F1 C ws)(h4:iU F4 P ws):iU (bf 3 (cH F1 F2 F3 F4)) (lC P C ws) ws:=by
 intro r l i st h;have m1:=sW (ρ:=[bv (.ref r),gV,gV]) h rfl;have a1:=h.to (j:=i+1);have k1:a9 r st (st.set r (eP l (i+1))):=a9.set;have ns:=Qb (hd (ws.drop i)) "(" (st.set r (eP l (i+1)));unfold lC;generalize st.set r (eP l (i+1))=s1 at m1 a1 k1 ns;generalize hd (ws.drop i)=d at m1 ns ⊢;cases d with
 |num n=>simp only[Wd.w]at m1;exact⟨s1,by unfold bf cH;simp[m1,n6,LP],k1,a1⟩
 |txt n=>simp only[Wd.w]at m1;exact⟨s1,by unfold bf cH;simp[m1,n6,LP],k1,a1⟩
 |iw=>simp only[Wd.w]at m1;exact⟨s1,by unfold bf cH;simp[m1,n6,LP],k1,a1⟩
 |pt a b c d=>simp only[Wd.w]at m1;exact⟨s1,by unfold bf cH;simp[m1,n6,LP],k1,a1⟩
 |cl x=>
  have q:=(h1 r l (i+1) x s1 a1).up k1;have e:bf 3 (cH F1 F2 F3 F4) [.ref r] st=F1 [.ref r,.str x] s1:=by unfold bf cH;simp only[Wd.w]at m1;cases hF:F1 [.ref r,.str x] s1<;>simp[m1,n6,LP,hF,q1]
  rw[e];exact q
 |sg x=>
  simp only[Wd.w]at m1 ns;dsimp only;by_cases c:x="("
  ·have b:dI (.sg x) "("=true:=decide_eq_true c;rw[b]at ns;rw[Os c];have q:=h4 r l (i+1) s1 a1;cases hP:P (i+1)with
   |un=>exact trivial
   |ok p=>
    obtain⟨f,j⟩:=p;rw[hP]at q;obtain⟨s2,e2,k2,a2⟩:=q;unfold j8;dsimp only;by_cases z:dI (hd (ws.drop j)) ")"=jp
    ·rw[Os z];have ps:=vf (ρ:=[bv (.ref r),bv (.tup [.str "sign",.str x]),bv f]) (g:=gC (.str ")")) (x:=")") a2 z rfl rfl;refine⟨s2.set r (eP l (j+1)),?_,(k1.trans k2).trans a9.set,a2.to⟩;unfold bf cH;simp[m1,n6,q2,q3,q4,q5,ns,e2,ps]
    ·rw[OK z];exact trivial
  ·rw[OK c];exact trivial
 |ar a b c d p q r' s=>exact trivial
 |en=>exact trivial
def K2(r e:Nat)(st st':Hs):Prop:=st.length<=st'.length/\∀k,k < st.length->k≠r->k≠e->st'[k]? =st[k]?
theorem K2.refl{r e:Nat}:K2 r e st st:=⟨av _,λ_ _ _ _=>rfl⟩
theorem K2.trans{r e:Nat}{a b c:Hs}(h:K2 r e a b)(k:K2 r e b c):K2 r e a c:=⟨aA h.1 k.1,λj h1 h2 h3=>(k.2 j (bZ h1 h.1) h2 h3).trans (h.2 j h1 h2 h3)⟩
theorem K2.r{r e:Nat}{a b:Hs}(h:a9 r a b):K2 r e a b:=⟨h.1,λj h1 h2 _=>h.2 j h1 h2⟩
theorem K2.e{r e:Nat}{a:Hs}{o:Ob}:K2 r e a (a.set e o):=⟨by simp,λj _ _ h=>bM λz=>h z.symm⟩
variable{r e:Nat}
theorem Cd{a b:Hs}(h:a9 r a b)(he:e≠r)(g:a[e]? =bv o):b[e]? =bv o:=by rw[h.2 e (b_ g) he];exact g
theorem At.other(h:At r l i ws st)(h1:e≠r)(h2:e≠l):At r l i ws (st.set e o):=⟨by rw[bM h1];exact h.row,by rw[bM h2];exact h.lst,h.few⟩
abbrev RA:=Rr (List Wv×Nat×S)
def argsR(P:Nat->RW)(ws:List Wd):Nat->Nat->S->List Wv->RA
 | 0,i,op,acc=> .ok (acc,i,op)
 |k+1,i,op,acc=>if dI (hd (ws.drop i)) op=jp then(match P (i+1)with
  |.ok p=>argsR P ws k p.2 "," (acc++[p.1])
  |.un=> .un)else .un
def D1(v:RA)(r l e:Nat)(x:S)(ws:List Wd)(y:Rs)(st:Hs):Prop:=match v with
 |.ok p=>∃o st',y= .nx [bv (.ref r),bv (.str x),bv (.ref e),bv (.str p.2.2),o] st'/\K2 r e st st'/\At r l p.2.1 ws st'/\st'[e]? =bv (.lst p.1)
 |.un=>True
theorem D1.up{v:RA}{y:Rs}(k:K2 r e st s1)(h:D1 v r l e x ws y s1):D1 v r l e x ws y st:=by
 cases v with
 |ok p=>obtain⟨o,st',q,k',a⟩:=h;exact⟨o,st',q,k.trans k',a⟩
 |un=>trivial
theorem xl{F1 F2 F3 F4:List Wv->Hs->Re Wv}{P:Nat->RW}{ws:List Wd}(h4:iU F4 P ws){r l e:Nat}{x:S}(OJ:e≠r)(hel:e≠l):∀(us:List Wv)(i:Nat)(op:S)(acc:List Wv)(o:Option Wv)(st:Hs),At r l i ws st->st[e]? =bv (.lst acc)->acc.length+us.length<=100->
  D1 (argsR P ws us.length i op acc) r l e x ws (jF 4 (g0 F1 F2 F3 F4) us [bv (.ref r),bv (.str x),bv (.ref e),bv (.str op),o] st) st
 |[],i,op,acc,o,st,h,he,_=>⟨o,st,rfl,K2.refl,h,he⟩
 |u::us,i,op,acc,o,st,h,he,hl=>by
  rw[aZ];unfold argsR jF;rw[show([bv (.ref r),bv (.str x),bv (.ref e),bv (.str op),o]:b7).set 4 (bv u)=[bv (.ref r),bv (.str x),bv (.ref e),bv (.str op),bv u] from rfl];by_cases c:dI (hd (ws.drop i)) op=jp
  ·rw[Os c];have ps:=vf (ρ:=[bv (.ref r),bv (.str x),bv (.ref e),bv (.str op),bv u]) (g:=ae 3) (x:=op) h c rfl rfl;have a1:=h.to (j:=i+1);have k1:a9 r st (st.set r (eP l (i+1))):=a9.set;have OL:=Cd k1 OJ he;generalize st.set r (eP l (i+1))=s1 at ps a1 k1 OL;have q:=h4 r l (i+1) s1 a1;have l1:=bo OL;cases hP:P (i+1)with
   |un=>exact trivial
   |ok p=>
    rw[hP]at q;obtain⟨s2,e2,k2,a2⟩:=q;have LR:=Cd k2 OJ OL;have ap:=nK (v:=p.1) LR (by simp at hl;unfold lim;omega);have b:g0 F1 F2 F3 F4 [bv (.ref r),bv (.str x),bv (.ref e),bv (.str op),bv u] st= .nx [bv (.ref r),bv (.str x),bv (.ref e),bv (.str ","),bv u] (s2.set e (.lst (acc++[p.1]))):=by unfold g0;simp[ps,uG,l1,e2,ap]
    rw[b];have nx:=xl (F1:=F1) (F2:=F2) (F3:=F3) h4 (x:=x) OJ hel us p.2 "," (acc++[p.1]) (bv u) (s2.set e (.lst (acc++[p.1]))) (a2.other OJ hel) (cx LR) (by simp at hl ⊢;omega);exact nx.up ((K2.r (k1.trans k2)).trans K2.e)
  ·rw[OK c];exact trivial
def yN(d:Wd):Option (List Wv):=match d with
 |.ar a b c d p q r s=>bv [.tup [.int a,.int b,.int c,.int d],.tup [.int p,.int q,.int r,.int s]]
 |_=>gV
theorem FW(h:At r l i ws st)(ha:yN (hd (ws.drop i))=bv us):dZ [.ref r] st= .ok (.tup us) (st.set r (eP l (i+1))):=by have m1:=sW (ρ:=[bv (.ref r),gV]) h rfl;generalize hd (ws.drop i)=d at m1 ha;generalize st.set r (eP l (i+1))=s1 at m1 ⊢;cases d<;>cases ha;simp only[Wd.w]at m1;unfold dZ bf kP;simp[m1,n6,LP,Ol]
def lO(ws:List Wd)(x:S)(v:RA):RW:=match v with
 |.ok p=>if x∈AF then(if dI (hd (ws.drop p.2.1)) p.2.2=jp then(match yN (hd (ws.drop (p.2.1+1)))with
   |some us=>j8 ws (.ok (.tup (p.1++us),p.2.1+1+1))
   |none=> .un)else .un)else j8 ws (.ok (.tup p.1,p.2.1))
 |.un=> .un
def vg(P:Nat->RW)(ws:List Wd)(i:Nat)(x:S):RW:=match aB.lookup x with
 |some (.int k)=>lO ws x (argsR P ws k.toNat i "(" [.str x])
 |_=> .un
theorem K2.new(k:K2 r st.length (st++[o]) s1):a9 r st s1:=⟨aA (by simp) k.1,λj h1 h2=>by rw[k.2 j (by simp;omega) h2 (by omega),gU h1]⟩
theorem At.push(h:At r l i ws st):At r l i ws (st++[o]):=⟨aP h.row,aP h.lst,h.few⟩
theorem Kq(h:yN d=bv us):us.length=2:=by cases d<;>cases h;rfl
theorem Ao{P:Nat->RW}{ws:List Wd}:∀{k i:Nat}{op:S}{acc es:List Wv}{j:Nat}{op':S},argsR P ws k i op acc= .ok (es,j,op')->es.length=acc.length+k
 | 0,i,op,acc,es,j,op',h=>by cases h;rfl
 |k+1,i,op,acc,es,j,op',h=>by
  unfold argsR at h;by_cases c:dI (hd (ws.drop i)) op=jp
  ·rw[Os c]at h;cases hP:P (i+1)with
   |un=>rw[hP]at h;cases h
   |ok p=>rw[hP]at h;have:=Ao h;rw[this];simp;omega
  ·rw[OK c]at h;cases h
theorem OM(h4:iU F4 P ws):Cc (bf 5 (iO F1 F2 F3 F4)) (vg P ws) ws:=by
 intro r l i x st h;unfold vg;cases lk:aB.lookup x with
 |none=>exact trivial
 |some v=>
  obtain⟨k,rfl,hk⟩:=counts lk;dsimp only;rw[oa];have hr:r < st.length:=b_ h.row;have hl:l < st.length:=b_ h.lst;have al:=xl (F1:=F1) (F2:=F2) (F3:=F3) h4 (x:=x) (e:=st.length) (by omega) (by omega) (eL 0 k) i "(" [.str x] gV (st++[.lst [.str x]]) h.push aR (by rw[dQ];simp;omega);rw[dQ]at al;have pm:=mY (st:=st++[.lst [.str x]]) lk;have cr:lS (k:Nat):=B1 (by omega) (by omega);cases hv:argsR P ws k i "(" [.str x]with
  |un=>exact trivial
  |ok p=>
   obtain⟨es,j,op⟩:=p;have len:=Ao hv;rw[hv]at al;obtain⟨o,s1,e1,k1,a1,ge⟩:=al;dsimp only at e1 a1 ge;have ha:=u_ (x:=x) (st:=s1);unfold lO;dsimp only;by_cases c:x∈AF
   ·rw[Os c];rw[decide_eq_true c]at ha;by_cases c1:dI (hd (ws.drop j)) op=jp
    ·rw[Os c1];have ps:=vf (ρ:=[bv (.ref r),bv (.str x),bv (.ref st.length),bv (.str op),o]) (g:=ae 3) (x:=op) a1 c1 rfl rfl;have a2:=a1.to (j:=j+1);have k2:a9 r s1 (s1.set r (eP l (j+1))):=a9.set;have ge2:=Cd k2 (by omega) ge;generalize s1.set r (eP l (j+1))=s2 at ps a2 k2 ge2;have a3:=a2.to (j:=j+1+1);have k3:a9 r s2 (s2.set r (eP l (j+1+1))):=a9.set;have ge3:=Cd k3 (by omega) ge2;have l2:=bo ge2;cases ea:yN (hd (ws.drop (j+1)))with
     |none=>exact trivial
     |some us=>
      have aw:=FW a2 ea;generalize s2.set r (eP l (j+1+1))=s3 at aw a3 k3 ge3;have kk:=k1.trans (K2.r (k2.trans k3));have l3:=Kq ea;have ex:=J8 (zs:=us) ge3 (by rw[len,l3];simp;unfold lim;omega);have a4:=a3.other (o:=.lst (es++us)) (e:=st.length) (by omega) (by omega);have g4:(s3.set st.length (.lst (es++us)))[st.length]? =bv (.lst (es++us)):=cx ge3;have k4:=kk.trans (K2.e (r:=r) (e:=st.length) (a:=s3) (o:=.lst (es++us)));generalize s3.set st.length (.lst (es++us))=s4 at ex a4 g4 k4;unfold j8;dsimp only;by_cases z:dI (hd (ws.drop (j+1+1))) ")"=jp
      ·rw[Os z];have ps2:=vf (ρ:=[bv (.ref r),bv (.str x),bv (.ref st.length),bv (.str op),o]) (g:=gC (.str ")")) (x:=")") a4 z rfl rfl;have a5:=a4.to (j:=j+1+1+1);have k5:a9 r s4 (s4.set r (eP l (j+1+1+1))):=a9.set;have g5:=Cd k5 (by omega) g4;generalize s4.set r (eP l (j+1+1+1))=s5 at ps2 a5 k5 g5;have tc:=Yt g5;refine⟨s5,?_,(k4.trans (K2.r k5)).new,a5⟩;unfold bf iO;simp[pm,cr,e1,ha,ps,uG,l2,aw,ex,ps2,tc]
      ·rw[OK z];exact trivial
    ·rw[OK c1];exact trivial
   ·rw[OK c];rw[decide_eq_false c]at ha;unfold j8;dsimp only;by_cases z:dI (hd (ws.drop j)) ")"=jp
    ·rw[Os z];have ps2:=vf (ρ:=[bv (.ref r),bv (.str x),bv (.ref st.length),bv (.str op),o]) (g:=gC (.str ")")) (x:=")") a1 z rfl rfl;have a5:=a1.to (j:=j+1);have k5:a9 r s1 (s1.set r (eP l (j+1))):=a9.set;have g5:=Cd k5 (by omega) ge;generalize s1.set r (eP l (j+1))=s5 at ps2 a5 k5 g5;have tc:=Yt g5;refine⟨s5,?_,(k1.trans (K2.r k5)).new,a5⟩;unfold bf iO;simp[pm,cr,e1,ha,ps2,tc]
    ·rw[OK z];exact trivial
def bnd(x:S):Option Int:=match aT.lookup x with
 |some (.int b)=>bv b
 |_=>gV
theorem Ce{b:Int}(h:bnd x=bv b):aT.lookup x=bv (.int b):=by
 unfold bnd at h;split at h
 ·cases h;assumption
 ·cases h
theorem UB(h:bnd x=gV):aT.lookup x=none:=by
 cases e:aT.lookup x with
 |none=>rfl
 |some w=>
  obtain⟨a,b,q,_⟩:=List.lookup_eq_some_iff.mp e;have m:(x,w)∈aT:=by rw[q];simp
  have:∃k,w= .int k:=by simp only[aT,i_,jO,or_false,Prod.mk.injEq]at m;rcases m with m |m |m |m |m |m |m<;>exact⟨_,m.2⟩
  obtain⟨k,rfl⟩:=this;unfold bnd at h;rw[e]at h;cases h
def iV(ws:List Wd):Nat:=(ws.takeWhile λd=>dI d "-").length
def Cf:Nat->Wv->Wv
 | 0,w=>w
 |n+1,w=> .tup [.str "minus",Cf n w]
def rW(W:Nat->RW)(ws:List Wd)(i:Nat):RW:=match W (i+iV (ws.drop i))with
 |.ok p=> .ok (Cf (iV (ws.drop i)) p.1,p.2)
 |.un=> .un
def ny:List S->List Wv->Int->Rr (List S×List Wv)
 |op::ops,r::l::ps,b=>(match bnd op with
  |some k=>if b<=k then ny ops (.tup [.str op,l,r]::ps) b else .ok (op::ops,r::l::ps)
  |none=> .un)
 |[],ps,_=> .ok ([],ps)
 |_,_,_=> .un
def vh(d:Wd):Option (S×Int):=match d with
 |.sg x=>(bnd x).map λb=>(x,b)
 |_=>gV
def Ap(ops:List S)(ps:List Wv)(i:Nat):RW:=match ny ops ps 0 with
 |.ok q=>(match q.2.reverse with
  |w::_=> .ok (w,i)
  |[]=> .un)
 |_=> .un
def n8(O:Nat->RW)(ws:List Wd):Nat->List S->List Wv->Nat->RW
 | 0,_,_,_=> .un
 |n+1,ops,ps,i=>match vh (hd (ws.drop i))with
  |none=>Ap ops ps i
  |some (x,b)=>(match ny ops ps b with
   |.ok q=>(match O (i+1)with
    |.ok p=>n8 O ws n (x::q.1) (p.1::q.2) p.2
    |.un=> .un)
   |_=> .un)
def Aq(O:Nat->RW)(ws:List Wd)(i:Nat):RW:=match O i with
 |.ok p=>n8 O ws 2001 [] [p.1] p.2
 |.un=> .un
theorem D2(h:At r l i ws st)(h0:ρ[0]? =bv (bv (.ref r))):gM "WordRow" "ahead" 1 aC (ae 0) ag ρ st= .ok (hd (ws.drop i)).w st :=
 (FU (k:=r) (ws:=[]) (by show Wf ρ[0]? st=_;rw[h0];rfl) h.row rfl rfl rfl).trans (ahead h)
variable{r:List Wd}
theorem gG(h:ws.drop i=d::r):ws.drop (i+1)=r:=by rw[<-yL,h];rfl
theorem As{F1 F2 F3 F4:List Wv->Hs->Re Wv}{r l:Nat}{ws:List Wd}{o2 o3:Option Wv}:∀(rest:List Wd)(i k M:Nat)(st:Hs),ws.drop i=rest->rest.length < M->At r l i ws st->
  ∃st',AW (aW (af oEq (gM "WordRow" "ahead" 1 aC (ae 0) ag) (dA (aa (gC (.str "sign")) (aa (gC (.str "-")) ag))))) (dD F1 F2 F3 F4) M [bv (.ref r),bv (.int (k:Nat)),o2,o3] st= .nx [bv (.ref r),bv (.int ((k+iV rest:Nat):Int)),o2,o3] st'/\a9 r st st'/\At r l (i+iV rest) ws st'
 |rest,i,k,M,st,hr,hM,h=>by
  obtain⟨m,rfl⟩:∃m,M=m+1:=⟨M - 1,by omega⟩;have ma:=D2 (ρ:=[bv (.ref r),bv (.int (k:Nat)),o2,o3]) h rfl;have es:=Kn (hd (ws.drop i)) "-" st;have tt:∀b,dI (hd (ws.drop i)) "-"=b->aW (af oEq (gM "WordRow" "ahead" 1 aC (ae 0) ag) (dA (aa (gC (.str "sign")) (aa (gC (.str "-")) ag)))) [bv (.ref r),bv (.int (k:Nat)),o2,o3] st= .ok b st:=λb e=>by rw[e]at es;simp[ma,es]
  cases rest with
  |nil=>refine⟨st,p9 (tt kt (by rw[hr];rfl)),a9.refl,h⟩
  |cons d t=>
   cases c:dI d "-" with
   |false=>
    have e:iV (d::t)=0:=by unfold iV;rw[jR,c];rfl
    rw[e];exact⟨st,p9 (tt kt (by rw[hr];exact c)),a9.refl,h⟩
   |true=>
    have e:iV (d::t)=iV t+1:=by unfold iV;rw[jR,c];rfl
    rw[e];have mt:=sW (ρ:=[bv (.ref r),bv (.int (k:Nat)),o2,o3]) h rfl;have a1:=h.to (j:=i+1);have k1:a9 r st (st.set r (eP l (i+1))):=a9.set;generalize st.set r (eP l (i+1))=s1 at mt a1 k1;have body:dD F1 F2 F3 F4 [bv (.ref r),bv (.int (k:Nat)),o2,o3] st= .nx [bv (.ref r),bv (.int ((k+1:Nat):Int)),o2,o3] s1:=by unfold dD;simp[mt,jH,zF]
    obtain⟨s2,e2,k2,a2⟩:=As (F1:=F1) (F2:=F2) (F3:=F3) (F4:=F4) (o2:=o2) (o3:=o3) t (i+1) (k+1) m s1 (gG hr) (by simp at hM;omega) a1;refine⟨s2,?_,k1.trans k2,?_⟩
    ·rw[ve (tt jp (by rw[hr];exact c)) body,e2,show k+1+iV t=k+(iV t+1) by omega]
    ·rw[show i+(iV t+1)=i+1+iV t by omega];exact a2
theorem Au{F1 F2 F3 F4:List Wv->Hs->Re Wv}{a b:Option Wv}{st:Hs}:∀(us:List Wv)(w:Wv)(o:Option Wv),∃o',jF 3 (fc F1 F2 F3 F4) us [a,b,bv w,o] st= .nx [a,b,bv (Cf us.length w),o'] st
 |[],w,o=>⟨o,rfl⟩
 |u::us,w,o=>by
  obtain⟨o',q⟩:=Au (F1:=F1) (F2:=F2) (F3:=F3) (F4:=F4) (a:=a) (b:=b) (st:=st) us (.tup [.str "minus",w]) (bv u);refine⟨o',?_⟩;have b1:fc F1 F2 F3 F4 [a,b,bv w,bv u] st= .nx [a,b,bv (.tup [.str "minus",w]),bv u] st:=by unfold fc;simp
  have e:∀(n:Nat)(w:Wv),Cf n (.tup [.str "minus",w])=Cf (n+1) w:=by
   intro n
   induction n with
   |zero=>intro w;rfl
   |succ n ih=>intro w;show Wv.tup [_,Cf n _]=_;rw[ih];rfl
  unfold jF;rw[show([a,b,bv w,o]:b7).set 3 (bv u)=[a,b,bv w,bv u] from rfl,b1];dsimp only;rw[q,e,aZ]
theorem ON{W:Nat->RW}(h2:iU F2 W ws):iU (bf 4 (g_ F1 F2 F3 F4)) (rW W ws) ws:=by
 intro r l i st h;unfold rW;have fw:=h.few;obtain⟨s1,wl,k1,a1⟩:=As (F1:=F1) (F2:=F2) (F3:=F3) (F4:=F4) (o2:=gV) (o3:=gV) (ws.drop i) i 0 cC st rfl (by rw[ia];unfold cC;omega) h;have wl':fV cC (aW (af oEq (gM "WordRow" "ahead" 1 aC (ae 0) ag) (dA (aa (gC (.str "sign")) (aa (gC (.str "-")) ag))))) (dD F1 F2 F3 F4) [bv (.ref r),bv (.int 0),gV,gV] st= .nx [bv (.ref r),bv (.int ((0+iV (ws.drop i):Nat):Int)),gV,gV] s1:=wl;rw[Nat.zero_add]at wl';have cn:iV (ws.drop i)<=2000:=by have:=(OE (λd=>dI d "-") (l:=ws.drop i)).length_le;rw[ia]at this;unfold iV;omega
 generalize iV (ws.drop i)=n at wl' a1 cn ⊢;have q:=h2 r l (i+n) s1 a1;have cr:lS (n:Int):=B1 (by omega) (by omega);cases hW:W (i+n)with
 |un=>exact trivial
 |ok p=>obtain⟨f,j⟩:=p;rw[hW]at q;obtain⟨s2,e2,k2,a2⟩:=q;refine⟨s2,?_,k1.trans k2,a2⟩;obtain⟨o',ml⟩:=Au (F1:=F1) (F2:=F2) (F3:=F3) (F4:=F4) (a:=bv (.ref r)) (b:=bv (.int (n:Nat))) (st:=s2) (eL 0 (n:Int).toNat) f gV;rw[dQ,oa]at ml;unfold bf g_;simp[wl',e2,cr,ml]
variable{ps:List Wv}
theorem Kr{p:Wv}(h:st[a]? =bv (.lst (p::ps).reverse)):NT (.ref a) st= .ok p (st.set a (.lst ps.reverse)):=by unfold NT;dsimp only;rw[h,p_];simp
abbrev D3:GT:=og (gK (ae 1)) (aW (af Xp (pA aT (af aV (ae 1) (MJ o_ (gC (.int 1))))) (ae 2)))
variable{ops:List S}{o3:Option Wv}
theorem Av{b:Int}{o4:Option Wv}(he:st[e]? =bv (.lst (ops.map Wv.str).reverse)):(ops=[]->D3 [bv (.ref a),bv (.ref e),bv (.int b),o3,o4] st= .ok kt st)/\∀op t k,ops=op::t->bnd op=bv k->D3 [bv (.ref a),bv (.ref e),bv (.int b),o3,o4] st= .ok (decide (b<=k)) st:=by
 have tr:=Qa (bo he);refine⟨λz=>?_,λop t k z hk=>?_⟩
 ·subst z;simp[tr]
 ·subst z;have ix:aV (.ref e) (.int (-1)) st= .ok (.str op) st:=pD (bo he) (by rw[bz,p_];exact L2.G0 _ _);have dx:=pE (st:=st) (Ce hk);have e0:((op::t).map Wv.str).reverse.isEmpty=false:=by rw[bz,p_];simp
  rw[e0]at tr;simp[tr,ix,dx]
theorem Aw{a e:Nat}(Gh:a≠e){b:Int}:∀(ops:List S)(ps:List Wv)(M:Nat)(o3 o4:Option Wv)(st:Hs)(q:List S×List Wv),ny ops ps b= .ok q->ops.length < M->ps.length<=3000->st[a]? =bv (.lst ps.reverse)->st[e]? =bv (.lst (ops.map Wv.str).reverse)->
  ∃p3 p4 st',AW D3 fJ M [bv (.ref a),bv (.ref e),bv (.int b),o3,o4] st= .nx [bv (.ref a),bv (.ref e),bv (.int b),p3,p4] st'/\K2 a e st st'/\st'[a]? =bv (.lst q.2.reverse)/\st'[e]? =bv (.lst (q.1.map Wv.str).reverse)
 |[],ps,M,o3,o4,st,q,hq,hM,hl,ha,he=>by
  obtain⟨m,rfl⟩:∃m,M=m+1:=⟨M - 1,by have:=hM;simp at this;omega⟩;have e0:q=([],ps):=by cases ps<;>cases hq<;>rfl
  subst e0;exact⟨o3,o4,st,p9 ((Av he).1 rfl),K2.refl,ha,he⟩
 |op::ops,[],M,o3,o4,st,q,hq,hM,hl,ha,he=>by cases hq
 |op::ops,[_],M,o3,o4,st,q,hq,hM,hl,ha,he=>by cases hq
 |op::ops,r::l::ps,M,o3,o4,st,q,hq,hM,hl,ha,he=>by
  obtain⟨m,rfl⟩:∃m,M=m+1:=⟨M - 1,by have:=hM;simp at this;omega⟩;unfold ny at hq;cases hk:bnd op with
  |none=>rw[hk]at hq;cases hq
  |some k=>
   rw[hk]at hq;dsimp only at hq;have tt:=(Av (a:=a) (b:=b) (o3:=o3) (o4:=o4) he).2 op ops k rfl hk;by_cases c:b<=k
   ·rw[Os c]at hq;rw[decide_eq_true c]at tt;have p1:=Kr ha;have k1:K2 a e st (st.set a (.lst (l::ps).reverse)):=K2.r a9.set;have ha1:(st.set a (.lst (l::ps).reverse))[a]? =bv (.lst (l::ps).reverse):=cx ha;have OL:(st.set a (.lst (l::ps).reverse))[e]? =bv (.lst ((op::ops).map Wv.str).reverse):=by rw[bM Gh];exact he
    generalize st.set a (.lst (l::ps).reverse)=s1 at p1 k1 ha1 OL;have p2:=Kr ha1;have k2:K2 a e s1 (s1.set a (.lst ps.reverse)):=K2.r a9.set;have ha2:(s1.set a (.lst ps.reverse))[a]? =bv (.lst ps.reverse):=cx ha1;have LR:(s1.set a (.lst ps.reverse))[e]? =bv (.lst ((op::ops).map Wv.str).reverse):=by rw[bM Gh];exact OL
    generalize s1.set a (.lst ps.reverse)=s2 at p2 k2 ha2 LR;have p3:=Kr (p:=.str op) (ps:=ops.map Wv.str) LR;have k3:K2 a e s2 (s2.set e (.lst (ops.map Wv.str).reverse)):=K2.e;have IP:(s2.set e (.lst (ops.map Wv.str).reverse))[a]? =bv (.lst ps.reverse):=by rw[bM (λz=>Gh z.symm)];exact ha2
    have YB:(s2.set e (.lst (ops.map Wv.str).reverse))[e]? =bv (.lst (ops.map Wv.str).reverse):=cx LR;generalize s2.set e (.lst (ops.map Wv.str).reverse)=s3 at p3 k3 IP YB;have ap:=nK (v:=.tup [.str op,l,r]) IP (by rw[Ks];simp at hl;unfold lim;omega);rw[<-p_]at ap;have k4:K2 a e s3 (s3.set a (.lst (.tup [.str op,l,r]::ps).reverse)):=K2.r a9.set;have UC:(s3.set a (.lst (.tup [.str op,l,r]::ps).reverse))[a]? =bv (.lst (.tup [.str op,l,r]::ps).reverse):=cx IP;have YC:(s3.set a (.lst (.tup [.str op,l,r]::ps).reverse))[e]? =bv (.lst (ops.map Wv.str).reverse):=by rw[bM Gh];exact YB
    generalize s3.set a (.lst (.tup [.str op,l,r]::ps).reverse)=s4 at ap k4 UC YC;have body:fJ [bv (.ref a),bv (.ref e),bv (.int b),o3,o4] st= .nx [bv (.ref a),bv (.ref e),bv (.int b),bv r,bv l] s4:=by unfold fJ wM;simp[p1,p2,p3,uG,bo ha2,ap]
    obtain⟨x3,x4,s5,e5,k5,a5,b5⟩:=Aw Gh ops (.tup [.str op,l,r]::ps) m (bv r) (bv l) s4 q hq (by simp at hM;omega) (by simp at hl ⊢;omega) UC YC;exact⟨x3,x4,s5,(ve tt body).trans e5,k1.trans (k2.trans (k3.trans (k4.trans k5))),a5,b5⟩
   ·rw[OK c]at hq;rw[decide_eq_false c]at tt;cases hq;exact⟨o3,o4,st,p9 tt,K2.refl,ha,he⟩
theorem xm(Gh:a≠e){b:Int}{q:List S×List Wv}(hq:ny ops ps b= .ok q)(ho:ops.length<=3000)(hl:ps.length<=3000)(ha:st[a]? =bv (.lst ps.reverse))(he:st[e]? =bv (.lst (ops.map Wv.str).reverse)):
  ∃st',gR [.ref a,.ref e,.int b] st= .ok .cY st'/\K2 a e st st'/\st'[a]? =bv (.lst q.2.reverse)/\st'[e]? =bv (.lst (q.1.map Wv.str).reverse):=by
 obtain⟨p3,p4,st',w,k,h1,h2⟩:=Aw Gh ops ps cC gV gV st q hq (by unfold cC;omega) hl ha he;have w':fV cC D3 fJ [bv (.ref a),bv (.ref e),bv (.int b),gV,gV] st= .nx [bv (.ref a),bv (.ref e),bv (.int b),p3,p4] st':=w;refine⟨st',?_,k,h1,h2⟩;unfold gR bf rO;simp[-P1,w']
theorem D4:∀{ops:List S}{ps:List Wv}{b:Int}{q:List S×List Wv},ny ops ps b= .ok q->q.1.length<=ops.length/\q.2.length<=ps.length
 |[],ps,b,q,h=>by
  have e0:q=([],ps):=by cases ps<;>cases h<;>rfl
  subst e0;exact⟨av _,av _⟩
 |op::ops,[],b,q,h=>by cases h
 |op::ops,[_],b,q,h=>by cases h
 |op::ops,r::l::ps,b,q,h=>by
  unfold ny at h;cases hk:bnd op with
  |none=>rw[hk]at h;cases h
  |some k=>
   rw[hk]at h;dsimp only at h;by_cases c:b<=k
   ·rw[Os c]at h;have:=D4 h;simp at this ⊢;omega
   ·rw[OK c]at h;cases h;exact⟨av _,av _⟩
abbrev Cg:GT:=og (aW (af oEq (af aV (gM "WordRow" "ahead" 1 aC (ae 0) ag) (gC (.int 0))) (gC (.str "sign")))) (aW (jJ kt aT (af aV (gM "WordRow" "ahead" 1 aC (ae 0) ag) (gC (.int 1)))))
theorem Kt:(aT.lookup x).isSome=(bnd x).isSome:=by
 cases h:bnd x with
 |none=>rw[UB h];rfl
 |some b=>rw[Ce h];rfl
theorem FX{r:Nat}(h:At r l i ws st)(h0:ρ[0]? =bv (bv (.ref r))):Cg ρ st= .ok (vh (hd (ws.drop i))).isSome st:=by have ma:=D2 h h0;generalize hd (ws.drop i)=d at ma ⊢;have ik:aV (.j5 [.str "end",.str ""]) (.int 0) st= .ok (.str "end") st:=rfl;cases d<;>simp only[Wd.w]at ma<;>unfold vh<;>simp[ma,n6,LP,ik,q8,q9,q10,q11,vS,Kt]
def adI(a e:Nat)(w:Wv)(j:Nat)(st:Hs):Prop:=∃ops ps,st[a]? =bv (.lst ps.reverse)/\st[e]? =bv (.lst (List.map Wv.str ops).reverse)/\Ap ops ps j= .ok (w,j)/\ops.length<=2600/\ps.length<=2600
theorem YD{w:Wv}(h:Ap ops ps i= .ok (w,j)):j=i/\Ap ops ps j= .ok (w,j):=by
 have:j=i:=by
  unfold Ap at h;cases hq:ny ops ps 0 with
  |un=>rw[hq]at h;cases h
  |ok q=>
   rw[hq]at h;dsimp only at h;split at h
   ·cases h;rfl
   ·cases h
 subst this;exact⟨rfl,h⟩
theorem xn{F1 F2 F3 F4:List Wv->Hs->Re Wv}{O:Nat->RW}{ws:List Wd}(h3:iU F3 O ws){base:Hs}{r l a e:Nat}(hr:r < base.length)(hl:l < base.length)(hba:base.length<=a)(L3:base.length<=e)(Gh:a≠e):∀(n:Nat)(ops:List S)(ps:List Wv)(i M:Nat)(o:Option Wv)(st:Hs),a9 r base st->At r l i ws st->st[a]? =bv (.lst ps.reverse)->st[e]? =bv (.lst (ops.map Wv.str).reverse)->ops.length+n<=2500->ps.length+n<=2500->n<=M->
  match n8 O ws n ops ps i with
  |.ok p=>∃o' st',AW Cg (fM F1 F2 F3 F4) M [bv (.ref r),bv (.ref a),bv (.ref e),o] st= .nx [bv (.ref r),bv (.ref a),bv (.ref e),o'] st'/\a9 r base st'/\At r l p.2 ws st'/\adI a e p.1 p.2 st'
  |.un=>True
 | 0,ops,ps,i,M,o,st,hk,h,ha,he,lo,lp,hM=>trivial
 |n+1,ops,ps,i,M,o,st,hk,h,ha,he,lo,lp,hM=>by
  obtain⟨m,rfl⟩:∃m,M=m+1:=⟨M - 1,by omega⟩;have t:=FX (ρ:=[bv (.ref r),bv (.ref a),bv (.ref e),o]) h rfl;unfold n8;cases hop:vh (hd (ws.drop i))with
  |none=>
   rw[hop]at t;dsimp only;cases hE:Ap ops ps i with
   |un=>exact trivial
   |ok p=>obtain⟨w,j⟩:=p;obtain⟨rfl,hE⟩:=YD hE;exact⟨o,st,p9 t,hk,h,ops,ps,ha,he,hE,by omega,by omega⟩
  |some xb=>
   obtain⟨x,b⟩:=xb;rw[hop]at t;have hx:hd (ws.drop i)= .sg x/\bnd x=bv b:=by
    unfold vh at hop;split at hop
    ·rename_i y e;cases hy:bnd y with
     |none=>rw[hy]at hop;cases hop
     |some c=>rw[hy]at hop;cases hop;exact⟨e,hy⟩
    ·cases hop
   dsimp only;cases hq:ny ops ps b with
   |un=>exact trivial
   |ok q=>
    have mt:=sW (ρ:=[bv (.ref r),bv (.ref a),bv (.ref e),o]) h rfl;rw[hx.1]at mt;simp only[Wd.w]at mt;have a1:=h.to (j:=i+1);have k1:a9 r st (st.set r (eP l (i+1))):=a9.set;have har:a≠r:=by omega
    have OJ:e≠r:=by omega
    have ha1:=Cd k1 har ha;have OL:=Cd k1 OJ he;generalize st.set r (eP l (i+1))=s1 at mt a1 k1 ha1 OL;have dx:=pE (st:=s1) (Ce hx.2);obtain⟨s2,e2,k2,ha2,LR⟩:=xm Gh hq (by omega) (by omega) ha1 OL;have a2:At r l (i+1) ws s2:=⟨by rw[k2.2 r (b_ a1.row) (λz=>har z.symm) (λz=>OJ z.symm)];exact a1.row,by rw[k2.2 l (b_ a1.lst) (by omega) (by omega)];exact a1.lst,a1.few⟩;have ql:=D4 hq;have kb1:=hk.trans k1;have kb2:a9 r base s2:=⟨aA kb1.1 k2.1,λj h1 h2=>(k2.2 j (bZ h1 kb1.1) (by omega) (by omega)).trans (kb1.2 j h1 h2)⟩;have ap:=nK (v:=.str x) LR (by rw[Ks,bN];unfold lim;omega);have ap':ni (.ref e) (.str x) s2= .ok .cY (s2.set e (.lst ((x::q.1).map Wv.str).reverse)):=by rw[ap,bz,p_]
    have a3:=a2.other (o:=.lst ((x::q.1).map Wv.str).reverse) OJ (by omega:e≠l);have IP:(s2.set e (.lst ((x::q.1).map Wv.str).reverse))[a]? =bv (.lst q.2.reverse):=by rw[bM (λz=>Gh z.symm)];exact ha2
    have YB:(s2.set e (.lst ((x::q.1).map Wv.str).reverse))[e]? =bv (.lst ((x::q.1).map Wv.str).reverse):=cx LR;have l2:=bo LR;have kb3:a9 r base (s2.set e (.lst ((x::q.1).map Wv.str).reverse)):=⟨by rw[tM];exact kb2.1,λj h1 h2=>by rw[bM (by omega)];exact kb2.2 j h1 h2⟩;generalize s2.set e (.lst ((x::q.1).map Wv.str).reverse)=s3 at ap' a3 IP YB kb3;have l3:=bo IP;have q4:=h3 r l (i+1) s3 a3;cases hO:O (i+1)with
    |un=>exact trivial
    |ok p=>
     obtain⟨f,j⟩:=p;rw[hO]at q4;obtain⟨s4,e4,k4,a4⟩:=q4;have UC:=Cd k4 har IP;have YC:=Cd k4 OJ YB;have ap4:=nK (v:=f) UC (by rw[Ks];unfold lim;omega);rw[<-p_]at ap4;have a5:=a4.other (o:=.lst (f::q.2).reverse) har (by omega:a≠l);have ha5:(s4.set a (.lst (f::q.2).reverse))[a]? =bv (.lst (f::q.2).reverse):=cx UC;have he5:(s4.set a (.lst (f::q.2).reverse))[e]? =bv (.lst ((x::q.1).map Wv.str).reverse):=by rw[bM Gh];exact YC
     have kb5:a9 r base (s4.set a (.lst (f::q.2).reverse)):=⟨by rw[tM];exact(kb3.trans k4).1,λj h1 h2=>by rw[bM (by omega)];exact(kb3.trans k4).2 j h1 h2⟩;dsimp only at e4;generalize s4.set a (.lst (f::q.2).reverse)=s5 at ap4 a5 ha5 he5 kb5;have body:fM F1 F2 F3 F4 [bv (.ref r),bv (.ref a),bv (.ref e),o] st= .nx [bv (.ref r),bv (.ref a),bv (.ref e),bv (.str x)] s5:=by unfold fM;simp[mt,LP,dx,e2,uG,l2,ap',l3,e4,ap4]
     have ih:=xn (F1:=F1) (F2:=F2) (F4:=F4) h3 hr hl hba L3 Gh n (x::q.1) (f::q.2) j m (bv (.str x)) s5 kb5 a5 ha5 he5 (by simp;omega) (by simp;omega) (by omega);dsimp only;cases hL:n8 O ws n (x::q.1) (f::q.2) j with
     |un=>exact trivial
     |ok p=>rw[hL]at ih;obtain⟨o',s6,e6,k6⟩:=ih;exact⟨o',s6,(ve t body).trans e6,k6⟩
variable{O:Nat->RW}
theorem sQ(h3:iU F3 O ws):iU (bf 4 (gS F1 F2 F3 F4)) (Aq O ws) ws:=by
 intro r l i st h;unfold Aq;have q:=h3 r l i st h;cases hO:O i with
 |un=>exact trivial
 |ok p=>
  obtain⟨f,j⟩:=p;rw[hO]at q;obtain⟨s1,e1,k1,a1⟩:=q;dsimp only at e1 a1;have a2:At r l j ws (s1++[Ob.lst [f]]++[Ob.lst []]):=a1.push.push;have k2:a9 r st (s1++[Ob.lst [f]]++[Ob.lst []]):=k1.trans (a9.push.trans a9.push);have g1:(s1++[Ob.lst [f]]++[Ob.lst []])[s1.length]? =bv (.lst [f]):=aP aR;have g2:(s1++[Ob.lst [f]]++[Ob.lst []])[(s1++[Ob.lst [f]]).length]? =bv (.lst []):=aR;have hne:s1.length≠(s1++[Ob.lst [f]]).length:=by simp
  have hb1:st.length<=s1.length:=k1.1;have hb2:st.length<=(s1++[Ob.lst [f]]).length:=by have:=k1.1;simp;omega
  generalize hb:(s1++[Ob.lst [f]]).length=b at g2 hne hb2;generalize hs:s1++[Ob.lst [f]]++[Ob.lst []]=s2 at a2 k2 g1 g2;have pre:∀(K:GS),(aq (aO 1 (b8 (aa (ao 1 F3 (aa (ae 0) ag)) ag))) (aq (aO 2 (b8 ag)) K)) [bv (.ref r),gV,gV,gV] st=K [bv (.ref r),bv (.ref s1.length),bv (.ref b),gV] s2:=λK=>by rw[<-hs,<-hb];simp[e1]
  have lp:=xn (F1:=F1) (F2:=F2) (F4:=F4) h3 (b_ h.row) (b_ h.lst) hb1 hb2 hne 2001 [] [f] j cC gV s2 k2 a2 g1 g2 (by decide) (by simp) (by unfold cC;omega);dsimp only;cases hL:n8 O ws 2001 [] [f] j with
  |un=>exact trivial
  |ok p=>
   obtain⟨w,jj⟩:=p;rw[hL]at lp;obtain⟨o',s3,e3,k3,a3,ops,ps,ha,he,hE,lo,ll⟩:=lp;have e3':fV cC Cg (fM F1 F2 F3 F4) [bv (.ref r),bv (.ref s1.length),bv (.ref b),gV] s2= .nx [bv (.ref r),bv (.ref s1.length),bv (.ref b),o'] s3:=e3;unfold Ap at hE;cases hq:ny ops ps 0 with
   |un=>rw[hq]at hE;cases hE
   |ok q=>
    rw[hq]at hE;dsimp only at hE;obtain⟨s4,e4,k4,UC,YC⟩:=xm hne hq (by omega) (by omega) ha he;have a4:At r l jj ws s4:=⟨by rw[k4.2 r (b_ a3.row) (by have:=b_ h.row;omega) (by have:=b_ h.row;omega)];exact a3.row,by rw[k4.2 l (b_ a3.lst) (by have:=b_ h.lst;omega) (by have:=b_ h.lst;omega)];exact a3.lst,a3.few⟩;have kb4:a9 r st s4:=⟨by have:=k3.1;have:=k4.1;omega,λj h1 h2=>by rw[k4.2 j (by have:=k3.1;omega) (by omega) (by omega)];exact k3.2 j h1 h2⟩;have ix:aV (.ref s1.length) (.int 0) s4= .ok w s4:=pD (bo UC) (by
     split at hE
     ·rename_i v t hv;cases hE;rw[hv];exact L2.eZ (j:=0) rfl
     ·cases hE)
    refine⟨s4,?_,kb4,a4⟩;have ex:gS F1 F2 F3 F4 [bv (.ref r),gV,gV,gV] st= .rt w s4:=by unfold gS;rw[pre];simp[-P1,e3',e4,ix]
    exact P6 (n:=4) (g:=gS F1 F2 F3 F4) ex
def jU:Nat->List Wd->(Nat->S->RW)×(Nat->RW)×(Nat->RW)×(Nat->RW)
 | 0,_=>(λ_ _=> .un,λ_=> .un,λ_=> .un,λ_=> .un)
 |n+1,ws=>(vg (jU n ws).2.2.2 ws,lC (jU n ws).2.2.2 (jU n ws).1 ws,rW (jU n ws).2.1 ws,Aq (jU n ws).2.2.1 ws)
theorem Ku(ws:List Wd):∀n,Cc (cq n) (jU n ws).1 ws/\iU (bQ n) (jU n ws).2.1 ws/\iU (bB n) (jU n ws).2.2.1 ws/\iU (cu n) (jU n ws).2.2.2 ws
 | 0=>⟨λ_ _ _ _ _ _=>trivial,λ_ _ _ _ _=>trivial,λ_ _ _ _ _=>trivial,λ_ _ _ _ _=>trivial⟩
 |n+1=>by obtain⟨h1,h2,h3,h4⟩:=Ku ws n;rw[qE,pT,nu,qF];exact⟨OM h4,Ko h1 h4,ON h2,sQ h3⟩
def N9(d:Wd):Bool:=match d with
 |.en=>jp
 |_=>kt
theorem YE(d:Wd)(st:Hs):lU d.w (.j5 [.str "end",.str ""]) st= .ok (.bl (!N9 d)) st:=by cases d<;>rfl
theorem Kv(h0:ρ[1]? =bv (bv (.ref l))):zI "WordRow" 2 bI (aa (ae 1) ag) ρ st= .ok (.ref st.length) (st++[eP l 0]):=by
 have i1:bI [.ref st.length,.ref l] (st++[.ins "WordRow" []])= .ok .cY (st++[eP l 0]):=by
  have f1:ra "WordRow" "words" (ae 1) (ae 0) [bv (.ref st.length),bv (.ref l)] (st++[.ins "WordRow" []])= .nx [bv (.ref st.length),bv (.ref l)] (st++[.ins "WordRow" [("words",.ref l)]]):=by rw[Yz (k:=st.length) rfl rfl aR (by show 0 < 900;decide),sS];rfl
  have f2:ra "WordRow" "spot" (gC (.int 0)) (ae 0) [bv (.ref st.length),bv (.ref l)] (st++[.ins "WordRow" [("words",.ref l)]])= .nx [bv (.ref st.length),bv (.ref l)] (st++[eP l 0]):=by
   rw[Yz (k:=st.length) rfl rfl aR (by show 1 < 900;decide),sS];have e:Ob.ins "WordRow" (zH "spot" (.int 0) [("words",.ref l)])=eP l 0:=by kernel_rfl
   rw[e]
  unfold bI bf fZ;simp[f1,f2]
 have a:(aa (ae 1) ag) ρ st= .ok [.ref l] st:=by
  have:ae 1 ρ st= .ok (.ref l) st:=by show Wf ρ[1]? st=_;rw[h0];rfl
  simp only[lq,this,i9];rfl
 unfold zI;rw[a];show mkI "WordRow" bI [.ref l] st=_;unfold mkI;rw[i1]
def unR(z:S):Rr Wv:=match qK z with
 |.ok ws=>if 2000 < ws.length then .un else if qL ws 0=jp then(match(jU 160 ws).2.2.2 0 with
  |.ok p=>if N9 (hd (ws.drop p.2))=jp then .ok p.1 else .un
  |.un=> .un)else .un
 |.un=> .un
theorem vZ(z:S)(st:Hs):Ak (unR z) id (dy [.str z] st) st:=by
 have wo:=words_of z st;unfold unR;cases hw:qK z with
 |un=>exact trivial
 |ok ws=>
  rw[hw]at wo;obtain⟨s1,e1,g1,q1⟩:=wo;dsimp only;by_cases c:2000 < ws.length
  ·rw[Os c];exact trivial
  rw[OK c];by_cases b:qL ws 0=jp
  ·have br:=brackets q1 b;rw[Os b];have mr:=Kv (l:=st.length) (st:=s1) (ρ:=[bv (.str z),bv (.ref st.length),gV,gV]) rfl;have a1:At s1.length st.length 0 ws (s1++[eP st.length 0]):=⟨aR,aP q1,by omega⟩;have g2:Gr st (s1++[eP st.length 0]):=g1.trans Gr.push;have hle:st.length<=s1.length:=g1.1;have q:=(Ku ws 160).2.2.2 s1.length st.length 0 _ a1;generalize s1++[eP st.length 0]=s2 at mr a1 g2 q;cases hv:(jU 160 ws).2.2.2 0 with
   |un=>exact trivial
   |ok p=>
    obtain⟨f,j⟩:=p;rw[hv]at q;obtain⟨s3,e3,k3,a3⟩:=q;have e3':aS [.ref s1.length] s2= .ok f s3:=e3;have ah:=(FU (go:=ae 2) (ga:=ag) (ρ:=[bv (.str z),bv (.ref st.length),bv (.ref s1.length),bv f]) (c:="WordRow") (f:="ahead") (n:=1) (F:=aC) (k:=s1.length) (ws:=[]) rfl a3.row rfl rfl rfl).trans (ahead a3);have ne:=YE (hd (ws.drop j)) s3;dsimp only;by_cases en:N9 (hd (ws.drop j))=jp
    ·rw[Os en];rw[en]at ne;refine⟨s3,?_,Gr.uJ hle g2 k3⟩;unfold dy bf lN;simp[e1,br,mr,e3',ah,ne]
    ·rw[OK en];exact trivial
  ·rw[OK b];exact trivial
inductive BO
 |lt |eq |am |ad |su |mu |di
def BO.s:BO->S
 |.lt=>"<" |.eq=>"=" |.am=>"&" |.ad=>"+" |.su=>"-" |.mu=>"*" |.di=>"/"
def BO.lv:BO->Int
 |.lt=>1 |.eq=>1 |.am=>2 |.ad=>3 |.su=>3 |.mu=>4 |.di=>4
inductive Lf
 |num (i:Int)
 |txt (s:S)
 |FY (r c:Int) (p q:Bool)
 |iw
structure Ar where
 a:Int
 b:Int
 c:Int
 d:Int
 p:Bool
 q:Bool
 r:Bool
 s:Bool
def pin(b:Bool):Wv:=.int (if b then 1 else 0)
def dl(b:Bool):S:=if b then "$" else ""
def let1(c:Int):S:=⟨#[97+c.toNat]⟩
def iy(r:Int):S:=PySem.Str.ofString (toString r)
def gj(r c:Int)(p q:Bool):S:=dl q++let1 c++dl p++iy (r+1)
def Lf.v:Lf->List Wv
 |.num i=>[.str "num",.int i]
 |.txt s=>[.str "text",.str s]
 |.FY r c p q=>[.str "at",.tup [.int r,.int c],.tup [pin p,pin q]]
 |.iw=>[.str "lost"]
def Lf.t:Lf->S
 |.num i=>iy i
 |.txt s=>"\""++s++"\""
 |.FY r c p q=>gj r c p q
 |.iw=>"lost"
def Ar.v(x:Ar):List Wv:=[.tup [.int x.a,.int x.b,.int x.c,.int x.d],.tup [pin x.p,pin x.q,pin x.r,pin x.s]]
def Ar.t(x:Ar):S:=gj x.a x.b x.p x.q++":"++gj x.c x.d x.r x.s
inductive Fm
 |leaf (l:Lf)
 |eK (w:Fin 4) (a:Ar)
 |find (f:Fm) (a:Ar)
 |minus (f:Fm)
 |nt (f:Fm)
 |bin (o:BO) (f g:Fm)
 |two (w:Bool) (f g:Fm)
 |iff (f g h:Fm)
def aw(w:Fin 4):S:=(["sum","count","least","greatest"]:List S).getD w.1 ""
def tw(w:Bool):S:=if w then "rest" else "else"
def Fm.w:Fm->Wv
 |.leaf l=> .tup l.v
 |.eK w a=> .tup (.str (aw w)::a.v)
 |.find f a=> .tup (.str "find"::f.w::a.v)
 |.minus f=> .tup [.str "minus",f.w]
 |.nt f=> .tup [.str "not",f.w]
 |.bin o f g=> .tup [.str o.s,f.w,g.w]
 |.two w f g=> .tup [.str (tw w),f.w,g.w]
 |.iff f g h=> .tup [.str "if",f.w,g.w,h.w]
def Fm.lv:Fm->Int
 |.bin o _ _=>o.lv
 |_=>5
def par(c:Bool)(x:S):S:=if c then "("++x++")" else x
def Fm.T:Fm->S
 |.leaf l=>l.t
 |.eK w a=>aw w++"("++a.t++")"
 |.find f a=>"find"++"("++(f.T++", "++a.t)++")"
 |.minus f=>"-"++par (decide (f.lv < 5)) f.T
 |.nt f=>"not"++"("++f.T++")"
 |.bin o f g=>par (decide (f.lv < o.lv)) f.T++" "++o.s++" "++par (decide (g.lv < o.lv+1)) g.T
 |.two w f g=>tw w++"("++(f.T++", "++g.T)++")"
 |.iff f g h=>"if"++"("++(f.T++", "++g.T++", "++h.T)++")"
def inR(r c:Int):Prop:=0<=r/\r < 99/\0<=c/\c < 26
def Lf.ok:Lf->Prop
 |.num i=>0<=i/\i<=AX
 |.txt s=>FJ s
 |.FY r c _ _=>inR r c
 |.iw=>True
def Ar.ok(x:Ar):Prop:=nv x.a x.b x.c x.d
def Fm.sz:Fm->Nat
 |.leaf _=>1
 |.eK _ _=>1
 |.find f _=>f.sz+1
 |.minus f=>f.sz+1
 |.nt f=>f.sz+1
 |.bin _ f g=>f.sz+g.sz+1
 |.two _ f g=>f.sz+g.sz+1
 |.iff f g h=>f.sz+g.sz+h.sz+1
def Fm.dp:Fm->Nat
 |.leaf _=>1
 |.eK _ _=>1
 |.find f _=>f.dp+1
 |.minus f=>f.dp+1
 |.nt f=>f.dp+1
 |.bin _ f g=>max f.dp g.dp+1
 |.two _ f g=>max f.dp g.dp+1
 |.iff f g h=>max f.dp (max g.dp h.dp)+1
def Fm.ok:Fm->Prop
 |.leaf l=>l.ok
 |.eK _ a=>a.ok
 |.find f a=>f.ok/\a.ok
 |.minus f=>f.ok
 |.nt f=>f.ok
 |.bin _ f g=>f.ok/\g.ok
 |.two _ f g=>f.ok/\g.ok
 |.iff f g h=>f.ok/\g.ok/\h.ok
def nA(b:Bool):Int:=if b then 1 else 0
def Lf.wd:Lf->Wd
 |.num i=> .num i
 |.txt s=> .txt s
 |.FY r c p q=> .pt r c (nA p) (nA q)
 |.iw=> .iw
def Ar.wd(x:Ar):Wd:=.ar x.a x.b x.c x.d (nA x.p) (nA x.q) (nA x.r) (nA x.s)
inductive Wr:Nat->Int->Fm->List Wd->Prop
 |brk {h:Nat}{k:Int}{f:Fm}{ws:List Wd}:Wr h 1 f ws->Wr (h+1) k f (.sg "("::(ws++[.sg ")"]))
 |leaf {h:Nat}{k:Int}{l:Lf}:Wr h k (.leaf l) [l.wd]
 |eK {h:Nat}{k:Int}{w:Fin 4}{a:Ar}:Wr (h+1) k (.eK w a) [.cl (aw w),.sg "(",a.wd,.sg ")"]
 |find {h:Nat}{k:Int}{f:Fm}{a:Ar}{ws:List Wd}:Wr h 1 f ws->Wr (h+1) k (.find f a) (.cl "find":: .sg "("::(ws++[.sg ",",a.wd,.sg ")"]))
 |nt {h:Nat}{k:Int}{f:Fm}{ws:List Wd}:Wr h 1 f ws->Wr (h+1) k (.nt f) (.cl "not":: .sg "("::(ws++[.sg ")"]))
 |two {h:Nat}{k:Int}{w:Bool}{f g:Fm}{us vs:List Wd}:Wr h 1 f us->Wr h 1 g vs->Wr (h+1) k (.two w f g) (.cl (tw w):: .sg "("::(us++ .sg ","::(vs++[.sg ")"])))
 |iff {h:Nat}{k:Int}{f g e:Fm}{us vs xs:List Wd}:Wr h 1 f us->Wr h 1 g vs->Wr h 1 e xs->Wr (h+1) k (.iff f g e) (.cl "if":: .sg "("::(us++ .sg ","::(vs++ .sg ","::(xs++[.sg ")"]))))
 |minus {h:Nat}{k:Int}{f:Fm}{ws:List Wd}:k<=5->Wr h 5 f ws->Wr h k (.minus f) (.sg "-"::ws)
 |bin {h:Nat}{k:Int}{o:BO}{f g:Fm}{us vs:List Wd}:k<=o.lv->Wr h o.lv f us->Wr h (o.lv+1) g vs->Wr h k (.bin o f g) (us++ .sg o.s::vs)
variable{W vs:List Wd}
theorem qc{us:List Wd}(h:W.drop i=us++vs):W.drop (i+us.length)=vs:=by rw[<-yL,h,List.drop_left]
def OO(O:Nat->RW)(W:List Wd)(n:Nat)(ops:List S)(ps:List Wv)(i:Nat):RW:=match O i with
 |.ok p=>n8 O W n ops (p.1::ps) p.2
 |.un=> .un
def Nf(k:Int):List S->List Wv->Prop
 |[],_=>True
 |op::_,_::_=>∃c,bnd op=bv c/\c < k
 |_::_,[]=>False
theorem Nf.up{k k':Int}(h:k<=k'):∀{ops:List S}{ps:List Wv},Nf k ops ps->Nf k' ops ps
 |[],_,_=>trivial
 |_::_,_::_,⟨c,e,l⟩=>⟨c,e,by omega⟩
 |_::_,[],q=>q.elim
theorem Nf.stop{k b:Int}(h:k<=b){f:Wv}:∀{ops:List S}{ps:List Wv},Nf k ops ps->ny ops (f::ps) b= .ok (ops,f::ps)
 |[],_,_=>rfl
 |op::_,p::_,⟨c,e,l⟩=>by unfold ny;rw[e];dsimp only;rw[OK (by omega)]
 |_::_,[],q=>q.elim
theorem BO.bnd(o:BO):K11.bnd o.s=bv o.lv:=by cases o<;>decide+kernel
def vi(O:Nat->RW)(W:List Wd)(k:Int)(f:Fm)(ws:List Wd):Prop:=∀(i:Nat)(rest:List Wd)(ops:List S)(ps:List Wv),W.drop i=ws++rest->Nf k ops ps->∃m ops' ps',m<=ws.length/\(∀n,OO O W (n+m) ops ps i=n8 O W n ops' ps' (i+ws.length))/\∀b,b<=k->ny ops' ps' b=ny ops (f.w::ps) b
def jz(O:Nat->RW)(W:List Wd)(f:Fm)(ws:List Wd):Prop:=∀(i:Nat)(rest:List Wd),W.drop i=ws++rest->O i= .ok (f.w,i+ws.length)
variable{f:Fm}
theorem jz.loop{k:Int}(h:jz O W f ws):vi O W k f ws:=λi rest ops ps hd _=>by refine⟨0,ops,f.w::ps,dz _,λn=>?_,λ_ _=>rfl⟩;unfold OO;rw[h i rest hd];rfl
theorem vi.part{rest:List Wd}(hW:W.length<=2000)(h:vi O W 1 f ws)(hd:W.drop i=ws++rest)(hr:vh (K11.hd rest)=gV):Aq O W i= .ok (f.w,i+ws.length):=by
 obtain⟨m,ops',ps',hm,h1,h2⟩:=h i rest [] [] hd trivial;have hl:ws.length<=2000:=by have:=congrArg jf hd;rw[ia,bh]at this;omega
 have e:Aq O W i=OO O W (2001 - m+m) [] [] i:=by rw[show 2001 - m+m=2001 by omega];rfl
 rw[e,h1];obtain⟨n,en⟩:∃n,2001 - m=n+1:=⟨2000 - m,by omega⟩;rw[en];unfold n8;rw[qc hd,hr];dsimp only;unfold Ap;rw[h2 0 (by decide)];rfl
def Kx(P:Nat->RW)(W:List Wd)(f:Fm)(ws:List Wd):Prop:=∀(i:Nat)(rest:List Wd),W.drop i=ws++rest->vh (K11.hd rest)=gV->P i= .ok (f.w,i+ws.length)
theorem OP:vh (.sg ",")=none:=by decide+kernel
theorem OQ:vh (.sg ")")=none:=by decide+kernel
theorem Ky:dI (.sg x) x=true:=decide_eq_true rfl
variable{op:S}
theorem iz{rest:List Wd}{k:Nat}{acc:List Wv}(h:Kx P W f ws)(hd:W.drop i= .sg op::(ws++rest))(hr:vh (K11.hd rest)=gV):argsR P W (k+1) i op acc=argsR P W k (i+1+ws.length) "," (acc++[f.w])/\W.drop (i+1+ws.length)=rest:=by
 have d1:=gG hd;refine⟨?_,qc d1⟩
 conv=>lhs;unfold argsR
 rw[hd];show(if dI (.sg op) op=jp then _ else _)=_;rw[Os Ky,h (i+1) rest d1 hr]
theorem vj{rest:List Wd}{w:Wv}(hd:W.drop j= .sg ")"::rest):j8 W (.ok (w,j))= .ok (w,j+1):=by unfold j8;dsimp only;rw[hd];exact Os Ky
variable{es:List Wv}
theorem yO{rest:List Wd}(hx:¬x∈AF)(hd:W.drop j= .sg ")"::rest):lO W x (.ok (es,j,op))= .ok (.tup es,j+1):=by unfold lO;dsimp only;rw[OK hx];exact vj hd
variable{a:Ar}
theorem Ax{rest:List Wd}(hx:x∈AF)(hd:W.drop j= .sg op::a.wd:: .sg ")"::rest):lO W x (.ok (es,j,op))= .ok (.tup (es++a.v),j+3):=by have d1:=gG hd;have d2:=gG d1;unfold lO;dsimp only;rw[Os hx,hd,d1];show(if dI (.sg op) op=jp then j8 W (.ok (.tup (es++a.v),j+1+1))else .un)=_;rw[Os Ky,vj d2]
theorem Ci(hd:W.drop i=d::r)(hm:dI d "-"=kt):(jU (n+1) W).2.2.1 i=(match(jU n W).2.1 i with |.ok p=> .ok (p.1,p.2) |.un=> .un):=by
 have e:iV (W.drop i)=0:=by rw[hd];unfold iV;rw[jR,hm];rfl
 show rW (jU n W).2.1 W i=_;unfold rW;rw[e];rfl
theorem vk(hd:W.drop i= .cl x::r):(jU (n+3) W).2.2.1 i=(match vg (jU n W).2.2.2 W (i+1) x with |.ok p=> .ok (p.1,p.2) |.un=> .un):=by
 rw[Ci (n:=n+2) hd rfl];have e:(jU (n+2) W).2.1 i=vg (jU n W).2.2.2 W (i+1) x:=by show lC (jU (n+1) W).2.2.2 (jU (n+1) W).1 W i=_;unfold lC;rw[hd];rfl
 rw[e]
theorem part_of(hW:W.length<=2000)(h:vi (jU n W).2.2.1 W 1 f ws):Kx (jU (n+1) W).2.2.2 W f ws:=λ_ _ hd hr=>h.part hW hd hr
theorem YF:aB.lookup ("find":S)=bv (.int 1):=by kernel_rfl
theorem YG:aB.lookup ("not":S)=bv (.int 1):=by kernel_rfl
theorem YH:aB.lookup ("if":S)=bv (.int 3):=by kernel_rfl
theorem YI(w:Bool):aB.lookup (tw w)=bv (.int 2):=by cases w<;>kernel_rfl
theorem YJ(w:Fin 4):aB.lookup (aw w)=bv (.int 0):=by
 match w with
 | 0=>kernel_rfl
 | 1=>kernel_rfl
 | 2=>kernel_rfl
 | 3=>kernel_rfl
theorem YK:∀w:Fin 4,aw w∈AF:=by decide+kernel
theorem YL:("find":S)∈AF:=by decide+kernel
theorem adM:¬("not":S)∈AF:=by decide+kernel
theorem adN:¬("if":S)∈AF:=by decide+kernel
theorem adO(w:Bool):¬tw w∈AF:=by cases w<;>decide+kernel
theorem vm{k:Nat}(h:aB.lookup x=bv (.int (k:Nat))):vg P W i x=lO W x (argsR P W k i "(" [.str x]):=by unfold vg;rw[h];rfl
variable{h:Nat}
theorem YM(hW:W.length<=2000){k:Int}(w:Wr h k f ws):∀n,4 * h+2<=n->(5<=k->jz (jU n W).2.2.1 W f ws)/\(1<=k->vi (jU n W).2.2.1 W k f ws):=by
 induction w with
 | @brk h k f ws w ih=>
  intro n hn;obtain⟨m,rfl⟩:∃m,n=m+1+1+1:=⟨n - 3,by omega⟩;have pt:=part_of hW ((ih m (by omega)).2 (by decide));have o:jz (jU (m+1+1+1) W).2.2.1 W f (.sg "("::(ws++[.sg ")"])):=λi rest hd=>by
   have hd':W.drop i= .sg "("::(ws++(.sg ")"::rest)):=by rw[hd];simp
   have d1:=gG hd';rw[Ci hd' rfl];have e:(jU (m+1+1) W).2.1 i= .ok (f.w,i+1+ws.length+1):=by show lC (jU (m+1) W).2.2.2 (jU (m+1) W).1 W i=_;unfold lC;rw[hd'];show(if("(":S)="(" then j8 W ((jU (m+1) W).2.2.2 (i+1))else .un)=_;rw[Os rfl,pt (i+1) _ d1 OQ,vj (qc d1)]
   rw[e];show Rr.ok (f.w,i+1+ws.length+1)=_;rw[show i+1+ws.length+1=i+(Wd.sg "("::(ws++[.sg ")"])).length by simp;omega]
  exact⟨λ_=>o,λ_=>o.loop⟩
 | @leaf h k l=>
  intro n hn;obtain⟨m,rfl⟩:∃m,n=m+1+1:=⟨n - 2,by omega⟩;have o:jz (jU (m+1+1) W).2.2.1 W (.leaf l) [l.wd]:=λi rest hd=>by
   have hd':W.drop i=l.wd::rest:=hd;rw[Ci hd' (by cases l<;>rfl)];have e:(jU (m+1) W).2.1 i= .ok ((Fm.leaf l).w,i+1):=by show lC (jU m W).2.2.2 (jU m W).1 W i=_;unfold lC;rw[hd'];cases l<;>rfl
   rw[e];rfl
  exact⟨λ_=>o,λ_=>o.loop⟩
 | @eK h k w a=>
  intro n hn;obtain⟨m,rfl⟩:∃m,n=m+3:=⟨n - 3,by omega⟩;have o:jz (jU (m+3) W).2.2.1 W (.eK w a) [.cl (aw w),.sg "(",a.wd,.sg ")"]:=λi rest hd=>by
   have hd':W.drop i= .cl (aw w):: .sg "("::a.wd:: .sg ")"::rest:=hd;have d1:=gG hd';rw[vk hd',vm (k:=0) (YJ w)];show(match lO W (aw w) (.ok ([.str (aw w)],i+1,"("))with |.ok p=>Rr.ok (p.1,p.2) |.un=> .un)=_
   rw[Ax (YK w) d1];rfl
  exact⟨λ_=>o,λ_=>o.loop⟩
 | @find h k f a ws w ih=>
  intro n hn;obtain⟨m,rfl⟩:∃m,n=m+1+3:=⟨n - 4,by omega⟩;have pt:=part_of hW ((ih m (by omega)).2 (by decide));have o:jz (jU (m+1+3) W).2.2.1 W (.find f a) (.cl "find":: .sg "("::(ws++[.sg ",",a.wd,.sg ")"])):=λi rest hd=>by
   have hd':W.drop i= .cl "find":: .sg "("::(ws++(.sg ","::a.wd:: .sg ")"::rest)):=by rw[hd];simp
   have d1:=gG hd';obtain⟨e1,d2⟩:=iz (k:=0) (acc:=[.str "find"]) pt d1 OP;rw[vk hd',vm (k:=1) YF,e1];show(match lO W "find" (.ok (_,_,_))with |.ok p=>Rr.ok (p.1,p.2) |.un=> .un)=_
   rw[Ax YL d2];show Rr.ok (_,i+1+1+ws.length+3)=_;rw[show i+1+1+ws.length+3=i+(Wd.cl "find":: .sg "("::(ws++[.sg ",",a.wd,.sg ")"])).length by simp;omega];rfl
  exact⟨λ_=>o,λ_=>o.loop⟩
 | @nt h k f ws w ih=>
  intro n hn;obtain⟨m,rfl⟩:∃m,n=m+1+3:=⟨n - 4,by omega⟩;have pt:=part_of hW ((ih m (by omega)).2 (by decide));have o:jz (jU (m+1+3) W).2.2.1 W (.nt f) (.cl "not":: .sg "("::(ws++[.sg ")"])):=λi rest hd=>by
   have hd':W.drop i= .cl "not":: .sg "("::(ws++(.sg ")"::rest)):=by rw[hd];simp
   have d1:=gG hd';obtain⟨e1,d2⟩:=iz (k:=0) (acc:=[.str "not"]) pt d1 OQ;rw[vk hd',vm (k:=1) YG,e1];show(match lO W "not" (.ok (_,_,_))with |.ok p=>Rr.ok (p.1,p.2) |.un=> .un)=_
   rw[yO adM d2];show Rr.ok (_,i+1+1+ws.length+1)=_;rw[show i+1+1+ws.length+1=i+(Wd.cl "not":: .sg "("::(ws++[.sg ")"])).length by simp;omega];rfl
  exact⟨λ_=>o,λ_=>o.loop⟩
 | @two h k w f g us vs w1 w2 ih1 ih2=>
  intro n hn;obtain⟨m,rfl⟩:∃m,n=m+1+3:=⟨n - 4,by omega⟩;have p1:=part_of hW ((ih1 m (by omega)).2 (by decide));have p2:=part_of hW ((ih2 m (by omega)).2 (by decide));have o:jz (jU (m+1+3) W).2.2.1 W (.two w f g) (.cl (tw w):: .sg "("::(us++ .sg ","::(vs++[.sg ")"]))):=λi rest hd=>by
   have hd':W.drop i= .cl (tw w):: .sg "("::(us++(.sg ","::(vs++(.sg ")"::rest)))):=by rw[hd];simp
   have d1:=gG hd';obtain⟨e1,d2⟩:=iz (k:=1) (acc:=[.str (tw w)]) p1 d1 OP;obtain⟨e2,d3⟩:=iz (k:=0) (acc:=[.str (tw w)]++[f.w]) p2 d2 OQ;rw[vk hd',vm (k:=2) (YI w),e1,e2];show(match lO W (tw w) (.ok (_,_,_))with |.ok p=>Rr.ok (p.1,p.2) |.un=> .un)=_
   rw[yO (adO w) d3];show Rr.ok (_,i+1+1+us.length+1+vs.length+1)=_;rw[show i+1+1+us.length+1+vs.length+1=i+(Wd.cl (tw w):: .sg "("::(us++ .sg ","::(vs++[.sg ")"]))).length by simp;omega];rfl
  exact⟨λ_=>o,λ_=>o.loop⟩
 | @iff h k f g e us vs xs w1 w2 w3 ih1 ih2 ih3=>
  intro n hn;obtain⟨m,rfl⟩:∃m,n=m+1+3:=⟨n - 4,by omega⟩;have p1:=part_of hW ((ih1 m (by omega)).2 (by decide));have p2:=part_of hW ((ih2 m (by omega)).2 (by decide));have p3:=part_of hW ((ih3 m (by omega)).2 (by decide));have o:jz (jU (m+1+3) W).2.2.1 W (.iff f g e) (.cl "if":: .sg "("::(us++ .sg ","::(vs++ .sg ","::(xs++[.sg ")"])))):=λi rest hd=>by
   have hd':W.drop i= .cl "if":: .sg "("::(us++(.sg ","::(vs++(.sg ","::(xs++(.sg ")"::rest)))))):=by rw[hd];simp
   have d1:=gG hd';obtain⟨e1,d2⟩:=iz (k:=2) (acc:=[.str "if"]) p1 d1 OP;obtain⟨e2,d3⟩:=iz (k:=1) (acc:=[.str "if"]++[f.w]) p2 d2 OP;obtain⟨e3,d4⟩:=iz (k:=0) (acc:=[.str "if"]++[f.w]++[g.w]) p3 d3 OQ;rw[vk hd',vm (k:=3) YH,e1,e2,e3];show(match lO W "if" (.ok (_,_,_))with |.ok p=>Rr.ok (p.1,p.2) |.un=> .un)=_
   rw[yO adN d4];show Rr.ok (_,i+1+1+us.length+1+vs.length+1+xs.length+1)=_;rw[show i+1+1+us.length+1+vs.length+1+xs.length+1=i+(Wd.cl "if":: .sg "("::(us++ .sg ","::(vs++ .sg ","::(xs++[.sg ")"])))).length by simp;omega];rfl
  exact⟨λ_=>o,λ_=>o.loop⟩
 | @minus h k f ws hk w ih=>
  intro n hn;have o5:=(ih n hn).1 (by decide);obtain⟨m,rfl⟩:∃m,n=m+1:=⟨n - 1,by omega⟩;have o:jz (jU (m+1) W).2.2.1 W (.minus f) (.sg "-"::ws):=λi rest hd=>by
   have hd':W.drop i= .sg "-"::(ws++rest):=hd;have d1:=gG hd';have q:=o5 (i+1) rest d1;have e:iV (W.drop i)=iV (W.drop (i+1))+1:=by rw[hd',d1];unfold iV;rw[jR];rfl
   have q':rW (jU m W).2.1 W (i+1)= .ok (f.w,i+1+ws.length):=q;show rW (jU m W).2.1 W i=_;unfold rW at q' ⊢;rw[e,show i+(iV (W.drop (i+1))+1)=i+1+iV (W.drop (i+1)) by omega];cases hp:(jU m W).2.1 (i+1+iV (W.drop (i+1)))with
   |un=>rw[hp]at q';cases q'
   |ok p=>rw[hp]at q';have q2:=Rr.ok.inj q';have e1:=congrArg Prod.fst q2;have e2:=congrArg Prod.snd q2;dsimp only at e1 e2 ⊢;rw[e2];show Rr.ok (Wv.tup [.str "minus",Cf _ p.1],_)=_;rw[e1,show i+1+ws.length=i+(Wd.sg "-"::ws).length by simp;omega];rfl
  exact⟨λ_=>o,λ_=>o.loop⟩
 | @bin h k o f g us vs hk w1 w2 ih1 ih2=>
  intro n hn;have hl:1<=o.lv/\o.lv<=4:=by cases o<;>decide
  refine⟨λh5=>by omega,λh1=>?_⟩;have L1:=(ih1 n hn).2 hl.1;have L2:=(ih2 n hn).2 (by omega);intro i rest ops ps hd st;have hd1:W.drop i=us++(.sg o.s::(vs++rest)):=by rw[hd];simp
  obtain⟨m1,ahS,ps1,b1,r1,q1⟩:=L1 i _ ops ps hd1 (st.up hk);have d2:=qc hd1;have d3:=gG d2;have st2:Nf (o.lv+1) (o.s::ops) (f.w::ps):=⟨o.lv,o.bnd,by omega⟩;obtain⟨m2,adP,ps2,b2,r2,q2⟩:=L2 (i+us.length+1) rest (o.s::ops) (f.w::ps) d3 st2;refine⟨m1+1+m2,adP,ps2,by simp;omega,λn'=>?_,λb hb=>?_⟩
  ·have e0:n'+(m1+1+m2)=(n'+m2+1)+m1:=by omega
   rw[e0,r1];have e1:vh (K11.hd (W.drop (i+us.length)))=bv (o.s,o.lv):=by rw[d2];show(K11.bnd o.s).map _=_;rw[o.bnd];rfl
   conv=>lhs;unfold n8
   rw[e1];dsimp only;rw[q1 o.lv (vn _),(st.up hk).stop (vn _)];show OO (jU n W).2.2.1 W (n'+m2) (o.s::ops) (f.w::ps) (i+us.length+1)=_;rw[r2,show i+us.length+1+vs.length=i+(us++Wd.sg o.s::vs).length by simp;omega]
  ·rw[q2 b (by omega)]
   conv=>lhs;unfold ny
   rw[o.bnd];dsimp only;rw[Os (by omega)];rfl
theorem Kz{k:Nat}(h:k<=L.length):aL (tx L) gV (bv (k:Nat))=tx (L.take k):=by rw[eq_of_beq (PyProof.Rows.slice_closes_to (x:=tx L) (j:=(k:Nat)) ⟨by omega,by rw[dE];omega⟩),dE];simp[tx]
theorem sX{k:Nat}(h:k<=L.length):aL (tx L) (bv (k:Nat)) gV=tx (L.drop k):=by
 rw[eq_of_beq (PyProof.Rows.slice_closes_from (x:=tx L) (i:=(k:Nat)) ⟨by omega,by rw[dE];omega⟩),dE];have e:((L.length:Int) - (k:Nat)).toNat=(L.drop k).length:=by rw[ia];omega
 rw[e,oa,List.take_length];rfl
theorem Cj(h:i<=j)(hj:j<=L.length):aL (tx L) (bv (i:Nat)) (bv (j:Nat))=tx ((L.drop i).take (j - i)):=by rw[eq_of_beq (OD (x:=tx L) (i:=(i:Nat)) (j:=(j:Nat)) ⟨by omega,by omega,by rw[dE];omega⟩),dE,oa,show((j:Int) - (i:Nat)).toNat=j - i by omega];rfl
theorem UD{k:Nat}(h:L.length<=k):aL (tx L) gV (bv (k:Nat))=tx L:=by
 have e:sY (tx L) gV (bv (k:Nat))=sY (tx L) gV (bv (L.length:Nat)):=by
  have i:PySem.Builtin.Str.strSliceIndices gV (bv ((k:Nat):Int)) 1 (tx L).length=PySem.Builtin.Str.strSliceIndices gV (bv ((L.length:Nat):Int)) 1 (tx L).length:=by
   rw[dc];have e1:max (0:Int) (min (k:Int) (L.length:Int))=max (0:Int) (min (L.length:Int) (L.length:Int)):=by omega
   simp only[PySem.Builtin.Str.strSliceIndices];simp only[show ¬((k:Int) < 0) by omega,show ¬((L.length:Int) < 0) by omega,if_false,OK,not_false_eq_true];simp only[e1];rfl
  unfold sY;rw[i]
 show sY (tx L) gV (bv (k:Nat))=_;rw[e];have:=Kz (L:=L) (k:=L.length) (av _);rw[List.take_length]at this;exact this
theorem YN:aL (tx (34::(L++[34]))) (bv 1) (bv (-1))=tx L:=by
 show sY (tx (34::(L++[34]))) (bv 1) (bv (-1))=_;rw[StrLaws.sliceText_neg_hi _ _ (by decide) (by rw[dc];simp;omega),dc];have e:(-1:Int)+((34::(L++[34])).length:Nat)=((L.length+1:Nat):Int):=by simp;omega
 rw[e];have:=Cj (L:=34::(L++[34])) (i:=1) (j:=L.length+1) (by omega) (by simp);show aL _ (bv ((1:Nat):Int)) _=_;rw[this];simp[tx]
def oR(i:Int):List Nat:=(iy i).cps.toList
theorem D5(i:Int):tx (oR i)=iy i:=rfl
theorem yP(m:Nat):oR (m:Int)=(mZ 10 m).map oI:=PySem.W.KIN.signs_num m
variable{i:Int}
theorem Ay(h:0<=i):∀c∈oR i,48<=c/\c<=57:=by obtain⟨m,rfl⟩:=j9 h;intro c hc;rw[yP]at hc;obtain⟨ch,hch,e⟩:=u8.mp hc;have r:=PyProof.Rows.digit_range (Nat.isDigit_of_mem_toDigits (by decide) (by decide) hch);rw[<-e];exact r
theorem KA(h:0<=i):oR i≠[]:=by obtain⟨m,rfl⟩:=j9 h;rw[yP];intro e;have h:=PySem.toDigits_len_ge 10 m;rw[List.map_eq_nil_iff.mp e]at h;exact absurd h (by decide)
theorem Ck(h0:0<=i)(h:i<=AX):(oR i).length<=61:=by
 have:=D6 (k:=61) h0 (by decide) (by
  have:AX < 10 ^ 61:=by decide+kernel
  omega)
 unfold oR;rw[hZ];exact this
theorem KC(h0:0<=i)(h:i<=AX):xL (iy i)=bv i:=by
 have l:=Ck h0 h;obtain⟨m,rfl⟩:=j9 h0;have e:=PySem.intText_digits (x:=iy (m:Int)) (Ay h0) (KA h0) (by
  have q:(iy (m:Int)).length=(oR (m:Int)).length:=by unfold oR;rw[hZ];rfl
  rw[q];omega)
 have s:(iy (m:Int)).cps.toList=(mZ 10 m).map oI:=yP m;rw[s,PySem.W.KIN.val_back]at e;exact e
theorem UE:∀d:Nat,d < 10->d≠0->(Nat.digitChar d).toNat≠48:=by decide
theorem YO(m:Nat):∀c r,(mZ 10 m).map oI=c::r->c=48->m=0:=by
 induction m using Nat.strongRecOn with
 |_ m ih=>
  intro c r e hc;by_cases h:m < 10
  ·rw[Nat.toDigits_of_lt_base h]at e;cases e;by_cases z:m=0
   ·exact z
   ·exact absurd hc (UE m h z)
  ·have hm:m % 10 < 10:=Nat.mod_lt m (by decide);have t:mZ 10 (m / 10)++mZ 10 (m % 10)=mZ 10 (10 * (m / 10)+m % 10):=Nat.toDigits_append_toDigits (by decide) (by omega) hm;rw[Nat.div_add_mod]at t;rw[<-t,lD]at e;cases q:(mZ 10 (m / 10)).map oI with
   |nil=>have h1:=PySem.toDigits_len_ge 10 (m / 10);rw[List.map_eq_nil_iff.mp q]at h1;exact absurd h1 (by decide)
   |cons a u=>rw[q]at e;cases e;have:=ih (m / 10) (by omega) c u q hc;omega
def vQ(c:Nat):Bool:=qd 48 c&&qd c 57
def OR(c:Nat):Bool:=qd 97 c&&qd c 122
def YQ(c:Nat):Bool:=OR c||(vQ c||(ja c 36||ja c 58))
theorem KD(c:Nat):p8 c=vQ c:=by rw[vb,jQ];unfold vQ;rw[cZ,hJ,hJ]
theorem Cm:∀d:Fin 26,gJ DU ⟨#[97+d.val]⟩ 0 DU.length 1=[d.val]:=by decide+kernel
theorem OS(h:FO c=jp):97<=c/\c<=122:=by
 unfold FO at h;rw[DV]at h;have e:DU.cps.toList=(oV 26).map (97+·):=by decide+kernel
 obtain⟨i,h⟩:=h;have q:=(sU _ c i).mp h;rw[e]at q;have m:=sC q;simp at m;omega
theorem YR(c:Nat):FO c=OR c:=by rw[vb];unfold OR;rw[cZ,hJ,hJ];refine⟨OS,λh=>?_⟩;obtain⟨d,rfl⟩:∃d,c=97+d:=⟨c - 97,by omega⟩;unfold FO;rw[Cm ⟨d,by omega⟩];rfl
theorem KG(a b:Nat):decide (tx [a]=tx [b])=ja a b:=by rw[<-jT,rV,vb,decide_eq_true_eq,Nat.beq_eq]
theorem UG(c:Nat):mL c=YQ c:=by
 have e1:("$":S)=tx [36]:=by decide+kernel
 have e2:(":":S)=tx [58]:=by decide+kernel
 have e3:decide (tx [c]∈(["$",":"]:List S))=(ja c 36||ja c 58):=by rw[e1,e2,<-KG,<-KG,vb];simp
 unfold mL YQ;rw[YR,KD,e3]
def col:S:=":"
theorem vo:col=⟨#[58]⟩:=by decide+kernel
theorem yQ{α:Type}{x:α}:∀{p u q v:List α},x∉p->x∉u->p++x::q=u++x::v->p=u/\q=v
 |[],[],q,v,_,_,h=>by simpa using h
 |[],y::u,q,v,_,hu,h=>by
  have e:x=y:=by have:=congrArg List.head? h;simpa using this
  exact absurd (e ▸ aY) hu
 |y::p,[],q,v,hp,_,h=>by
  have e:y=x:=by have:=congrArg List.head? h;simpa using this
  exact absurd (e ▸ aY) hp
 |y::p,z::u,q,v,hp,hu,h=>by rw[de,de,List.cons.injEq]at h;obtain⟨e1,e2⟩:=yQ (λm=>hp (bw _ m)) (λm=>hu (bw _ m)) h.2;exact⟨by rw[h.1,e1],e2⟩
theorem fe(x y:S):(x++y).cps.toList=x.cps.toList++y.cps.toList:=by show(x.cps++y.cps).toList=_;simp
variable{y:S}
theorem D7(h:x.cps.toList=y.cps.toList):x=y:=by
 cases x;cases y
 congr 1
 exact Array.toList_inj.mp h
theorem UH{u v:S}(hu:58∉u.cps.toList)(hv:58∉v.cps.toList):dN (u++col++v) col=[u,v]:=by
 have e0:(u++col++v).cps.toList=u.cps.toList++58::v.cps.toList:=by rw[fe,fe,vo];simp
 have fr:∀p∈dN (u++col++v) col,58∉p.cps.toList:=by rw[vo];exact StrLaws.split_free _ 58
 have js:=StrLaws.join_split (u++col++v) col;generalize hs:dN (u++col++v) col=ps at fr js
 match ps,fr,js with
 |[],fr,js=>
  have:(u++col++v).cps.toList=[]:=by rw[<-js];rfl
  rw[e0]at this;simp at this
 |[p],fr,js=>have:p=u++col++v:=js;have q:=fr p aY;rw[this,e0]at q;simp at q
 |[p,q],fr,js=>have h:p++col++q=u++col++v:=js;have h':=congrArg (λz:S=>z.cps.toList) h;simp only[e0,fe,vo]at h';have:=yQ (fr p aY) hu (by simpa using h');rw[D7 this.1,D7 this.2]
 |p::q::r::t,fr,js=>have h:p++col++PySem.Str.join col (q::r::t)=u++col++v:=js;have h':=congrArg (λz:S=>z.cps.toList) h;simp only[e0,fe,vo]at h';have:=yQ (fr p aY) hu (by simpa using h');have e2:PySem.Str.join (⟨#[58]⟩:S) (q::r::t)=q++⟨#[58]⟩++PySem.Str.join ⟨#[58]⟩ (r::t):=rfl;rw[e2,fe,fe]at this;exact absurd (by rw[<-this.2];simp) hv
theorem YS(h:c < 26):FO (97+c)=true:=by unfold FO;rw[Cm ⟨c,h⟩];rfl
theorem qM(c:Nat):mL c=jp↔(97<=c/\c<=122)\/(48<=c/\c<=57)\/c=36\/c=58:=by rw[UG];unfold YQ OR vQ;rw[ya,ya,ya,cZ,cZ,hJ,hJ,hJ,hJ,Nat.beq_eq,Nat.beq_eq]
def OT(p:Int):List Nat:=if p=1 then[36]else[]
def jV(r c p:Int):List Nat:=(97+c.toNat)::(OT p++oR (r+1))
def bS(r c p q:Int):List Nat:=OT q++jV r c p
def sZ:Wd->List Nat
 |.num i=>oR i
 |.txt s=>34::(s.cps.toList++[34])
 |.iw=>[108,111,115,116]
 |.pt r c p q=>bS r c p q
 |.cl x=>x.cps.toList
 |.sg x=>x.cps.toList
 |.ar a b c d p q r s=>bS a b p q++58::bS c d r s
 |.en=>[]
def jb:Wd->Prop
 |.num i=>0<=i/\i<=AX
 |.txt s=>FJ s
 |.iw=>True
 |.pt r c p q=>inR r c/\oQ p/\oQ q
 |.cl x=>x∈CW
 |.sg x=>x∈SW
 |.ar a b c d p q r s=>nv a b c d/\oQ p/\oQ q/\oQ r/\oQ s
 |.en=>False
theorem p99:(100:Int)<=AX:=by decide+kernel
variable{r:Int}
theorem KH(h0:0<=r)(h:r < 99):oR (r+1)=(Ka r.toNat).cps.toList:=by obtain⟨m,rfl⟩:=j9 h0;rfl
theorem jA(h0:0<=r)(h:r < 99):1<=(oR (r+1)).length/\(oR (r+1)).length<=2:=by rw[KH h0 h,hZ];have:=Kb r.toNat (by omega);unfold PySem.Str.length at this;omega
variable{c:Int}
theorem OU(h:inR r c):oF ((97+c.toNat)::oR (r+1))= .ok (r,c.toNat):=by
 obtain⟨h0,h1,h2,h3⟩:=h;have l:=jA h0 h1;unfold oF;rw[OK (by rw[aZ];omega)];have n:nm ((97+c.toNat)::oR (r+1))=true:=by
  unfold nm;rw[List.headD_cons,List.tail_cons,YS (by omega),aZ];have:Kc (oR (r+1))=true:=by have q:=OB r.toNat (by omega);rw[KH h0 h1];unfold Kc;rw[cZ,decide_eq_true_eq,oq];refine⟨q.2,λx hx=>?_⟩;have:=List.all_eq_true.mp q.1 x hx;rw[cZ,decide_eq_true_eq,decide_eq_true_eq]at this;exact(jQ x).mpr this
  rw[this];simp;omega
 rw[n,OK (by decide)];dsimp only;have e1:numOf (tx (oR (r+1)))= .ok (r+1):=by unfold numOf;rw[D5,KC (by omega) (by have:=p99;omega)];dsimp only;rw[Os];rw[<-D5,dc];omega
 have e2:xk (97+c.toNat)= .ok c.toNat:=by
  unfold xk;have:=Cm ⟨c.toNat,by omega⟩;dsimp only at this;show(match gJ DU ⟨#[97+c.toNat]⟩ 0 DU.length 1 with |i::_=>Rr.ok i |[]=> .un)=_
  rw[this]
 rw[e1,e2];show Rr.ok (r+1 - 1,c.toNat)=_;rw[show r+1 - 1=r by omega]
theorem dlr:("$":S)=tx [36]:=by decide+kernel
variable{p:Int}
theorem xo(h:oQ p):(p=0/\OT p=[])\/(p=1/\OT p=[36]):=by
 rcases h with rfl |rfl
 ·exact .inl ⟨rfl,rfl⟩
 ·exact .inr ⟨rfl,rfl⟩
theorem UI(h:inR r c)(hp:oQ p):eW (aL (tx (jV r c p)) (bv 1) (bv 2) == "$")=p/\aL (tx (jV r c p)) gV (bv 1)=tx [97+c.toNat]/\aL (tx (jV r c p)) (bv (1+p)) gV=tx (oR (r+1)):=by
 have l:=jA h.1 h.2.1;have dg:=Ay (i:=r+1) (by have:=h.1;omega);unfold jV;cases hf:oR (r+1)with
 |nil=>rw[hf]at l;simp at l
 |cons d t=>
  rw[hf]at l dg;have hd:=dg d aY;rcases xo hp with ⟨rfl,e⟩ |⟨rfl,e⟩
  ·rw[e,iC];refine⟨?_,?_,?_⟩
   ·have:=Cj (L:=(97+c.toNat)::d::t) (i:=1) (j:=2) (by decide) (by simp);show eW (aL _ (bv ((1:Nat):Int)) (bv ((2:Nat):Int)) == "$")=_;rw[this,dlr];show eW (tx [d] == tx [36])=0;rw[rV,decide_eq_false (by omega)];rfl
   ·exact Kz (L:=(97+c.toNat)::d::t) (k:=1) (by simp)
   ·exact sX (L:=(97+c.toNat)::d::t) (k:=1) (by simp)
  ·rw[e];refine⟨?_,?_,?_⟩
   ·have:=Cj (L:=(97+c.toNat)::([36]++d::t)) (i:=1) (j:=2) (by decide) (by simp);show eW (aL _ (bv ((1:Nat):Int)) (bv ((2:Nat):Int)) == "$")=_;rw[this,dlr];show eW (tx [36] == tx [36])=1;rw[rV];rfl
   ·exact Kz (L:=(97+c.toNat)::([36]++d::t)) (k:=1) (by simp)
   ·exact sX (L:=(97+c.toNat)::([36]++d::t)) (k:=2) (by simp)
theorem Az(h:inR r c)(hp:oQ p):2<=(jV r c p).length/\(jV r c p).length<=4:=by have l:=jA h.1 h.2.1;unfold jV;rw[aZ,bh];rcases xo hp with ⟨_,e⟩ |⟨_,e⟩<;>rw[e]<;>simp<;>omega
variable{q:Int}
theorem jB(h:inR r c)(hp:oQ p)(hq:oQ q):2<=(bS r c p q).length/\(bS r c p q).length<=5:=by have:=Az h hp;unfold bS;rw[bh];rcases xo hq with ⟨_,e⟩ |⟨_,e⟩<;>rw[e]<;>simp<;>omega
theorem Cn(a b:List Nat):tx a++tx b=tx (a++b):=by show(⟨a.toArray++b.toArray⟩:S)=⟨(a++b).toArray⟩;rw[List.append_toArray]
theorem KI(h:inR r c)(hp:oQ p)(hq:oQ q):oG (tx (bS r c p q))= .ok (r,c,p,q):=by
 have l:=jB h hp hq;have bl:=Az h hp;obtain⟨b1,b2,b3⟩:=UI h hp;have l2:=jA h.1 h.2.1;have fin:∀a t,bS r c p q=a::t->eW (tx [a] == "$")=q->aL (tx (bS r c p q)) (bv q) gV=tx (jV r c p)->oG (tx (bS r c p q))= .ok (r,c,p,q):=λa t e1 e2 e3=>by
  unfold oG;rw[OK (by rw[dc];omega),dE,e1];dsimp only;rw[<-e1,e2,e3,b1,b2,b3,OK (by rw[dc,dc,dc];simp;omega),Cn,dE];show(match oF ((97+c.toNat)::oR (r+1))with |.ok (r,c)=>_ |.un=>_)=_
  rw[OU h];show Rr.ok (r,((c.toNat:Nat):Int),p,q)=_;rw[Int.toNat_of_nonneg h.2.2.1]
 rcases xo hq with ⟨rfl,e⟩ |⟨rfl,e⟩
 ·refine fin (97+c.toNat) (OT p++oR (r+1)) (by unfold bS;rw[e];rfl) ?_ ?_
  ·rw[dlr,rV,decide_eq_false (by omega)];rfl
  ·have:=sX (L:=bS r c p 0) (k:=0) (by omega);rw[Ir]at this;unfold bS at this ⊢;rw[e,iC]at this ⊢;exact this
 ·refine fin 36 (jV r c p) (by unfold bS;rw[e];rfl) ?_ ?_
  ·rw[dlr,rV];rfl
  ·have:=sX (L:=bS r c p 1) (k:=1) (by omega);unfold bS at this ⊢;rw[e]at this ⊢;exact this
def noD(z:S):Bool:=z.cps.toList.all λc=> !(vQ c)
theorem YT:(CW++SW++(["lost"]:List S)).all noD=true:=by decide+kernel
theorem YU{c:Nat}(h:c∈L)(hc:48<=c/\c<=57):tx L∉CW/\tx L∉SW/\tx L≠"lost":=by
 have n:∀z∈(CW++SW++(["lost"]:List S)),tx L≠z:=by
  rintro z hz rfl;have q:=List.all_eq_true.mp YT _ hz;unfold noD at q;rw[dE]at q;have q2:=List.all_eq_true.mp q c h;have:vQ c=true:=by unfold vQ;rw[cZ,hJ,hJ];exact hc
  rw[this]at q2;cases q2
 refine⟨λm=>n _ ?_ rfl,λm=>n _ ?_ rfl,λm=>n _ ?_ m⟩
 ·simp[m]
 ·simp[m]
 ·simp
theorem AA(L:List Nat):FR (tx L)=jp↔58∈L:=by
 unfold FR;have e:(":":S)=tx [58]:=by decide+kernel
 rw[e,DV];constructor
 ·rintro⟨i,h⟩;exact sC ((sU (tx L) 58 i).mp h)
 ·intro h;obtain⟨i,hi⟩:=List.mem_iff_getElem?.mp h;exact⟨i,(sU (tx L) 58 i).mpr hi⟩
theorem cell_in(h:inR r c)(hp:oQ p)(hq:oQ q):∀x∈bS r c p q,x=36\/(97<=x/\x<=122)\/(48<=x/\x<=57):=by
 intro x hx;have dg:=Ay (i:=r+1) (by have:=h.1;omega);have pn:∀p,oQ p->∀x∈OT p,x=36:=λp hp x hx=>by
  rcases xo hp with ⟨_,e⟩ |⟨_,e⟩
  ·rw[e]at hx;cases hx
  ·rw[e]at hx;exact lw.mp hx
 unfold bS jV at hx;have h2:=h.2.2;rcases wS.mp hx with z |z
 ·exact .inl (pn q hq x z)
 ·rcases List.mem_cons.mp z with z |z
  ·exact .inr (.inl (by omega))
  ·rcases wS.mp z with z |z
   ·exact .inl (pn p hp x z)
   ·exact .inr (.inr (dg x z))
theorem AB(h:inR r c):∃x∈bS r c p q,48<=x/\x<=57:=by
 have l:=jA h.1 h.2.1;have dg:=Ay (i:=r+1) (by have:=h.1;omega);cases hf:oR (r+1)with
 |nil=>rw[hf]at l;simp at l
 |cons d t=>rw[hf]at dg;exact⟨d,by unfold bS jV;rw[hf];simp,dg d aY⟩
theorem yR(h:inR r c)(hp:oQ p)(hq:oQ q):∃x t,bS r c p q=x::t/\(x=36\/(97<=x/\x<=122)):=by
 have h2:=h.2.2;rcases xo hq with ⟨_,e⟩ |⟨_,e⟩
 ·exact⟨_,_,by unfold bS jV;rw[e];rfl,.inr (by omega)⟩
 ·exact⟨_,_,by unfold bS;rw[e];rfl,.inl rfl⟩
theorem xp{x:Nat}{t:List Nat}(e:L=x::t)(hx:x=36\/(97<=x/\x<=122))(hl:L.length<=20)(hd:∃c∈L,48<=c/\c<=57):jy (tx L)=if FR (tx L)=jp then rT (tx L)else OG (tx L):=by
 obtain⟨c,hc,hd⟩:=hd;obtain⟨n1,n2,n3⟩:=YU hc hd;have nd:p8 x=false:=by
  rw[KD];unfold vQ;rw[Bool.and_eq_false_iff];have:¬(48<=x/\x<=57):=by omega
  by_cases q:48<=x
  ·exact .inr (by rw[vp];intro z;rw[hJ]at z;exact this ⟨q,z⟩)
  ·exact .inl (by rw[vp];intro z;rw[hJ]at z;exact q z)
 unfold jy;rw[dE,e];dsimp only;rw[<-e,OK (by rw[dc];omega),OK (by omega),nd,OK (by decide),OK n3,OK n1,OK n2]
theorem OV(h:inR r c)(hp:oQ p)(hq:oQ q):jy (tx (bS r c p q))= .ok (.pt r c p q):=by
 obtain⟨x,t,e,hx⟩:=yR h hp hq;have l:=jB h hp hq;rw[xp e hx (by omega) (AB h),OK]
 ·unfold OG;rw[KI h hp hq]
 ·rw[AA];intro m;have:=cell_in h hp hq 58 m;omega
variable{d:Int}
theorem OW{a b s:Int}(h:nv a b c d)(hp:oQ p)(hq:oQ q)(hr:oQ r)(hs:oQ s):jy (tx (bS a b p q++58::bS c d r s))= .ok (.ar a b c d p q r s):=by
 have h1:inR a b:=by unfold nv at h;unfold inR;omega
 have h2:inR c d:=by unfold nv at h;unfold inR;omega
 obtain⟨x,t,e,hx⟩:=yR h1 hp hq;have l1:=jB h1 hp hq;have l2:=jB h2 hr hs;obtain⟨y,hy,YV⟩:=AB (p:=p) (q:=q) h1;rw[xp (x:=x) (t:=t++58::bS c d r s) (by rw[e];rfl) hx (by rw[bh,aZ];omega) ⟨y,xC _ hy,YV⟩,Os ((AA _).mpr (by simp))];have n1:58∉(tx (bS a b p q)).cps.toList:=λm=>by have:=cell_in h1 hp hq 58 m;omega
 have n2:58∉(tx (bS c d r s)).cps.toList:=λm=>by have:=cell_in h2 hr hs 58 m;omega
 have sp:=UH n1 n2;have ec:tx (bS a b p q)++col++tx (bS c d r s)=tx (bS a b p q++58::bS c d r s):=by rw[show col=tx [58] from vo,Cn,Cn];simp
 rw[ec]at sp;have ne:∀{L:List Nat},2<=L.length->tx L≠"":=λ{L} hl z=>by have:=congrArg PySem.Str.length z;rw[dc]at this;have e0:("":S).length=0:=rfl;omega
 unfold rT;rw[OK (by rw[dc,bh,aZ];omega),show(":":S)=col from rfl,sp];dsimp only;rw[OK (by rintro(z |z);exact ne l1.1 z;exact ne l2.1 z),KI h1 hp hq,KI h2 hr hs];show joinR (a,b,p,q) (c,d,r,s)=_;unfold joinR;rw[Os (by unfold nv at h;unfold oC;dsimp only;omega)]
theorem KJ(h0:0<=i)(h:i<=AX):jy (tx (oR i))= .ok (.num i):=by
 have dg:=Ay h0;have l:=Ck h0 h;have v:=KC h0 h;cases hf:oR i with
 |nil=>exact absurd hf (KA h0)
 |cons c t=>
  have hc:=dg c (by rw[hf];exact aY);have nz:c=48->tx (c::t)="0":=λz=>by obtain⟨m,rfl⟩:=j9 h0;have q:=YO m c t (by rw[<-yP];exact hf) z;subst q;rw[<-hf];decide+kernel
  unfold jy;rw[dE];dsimp only;rw[OK (by rw[dc,<-hf];omega),OK (by omega),Os ((jQ c).mpr hc)];unfold Km;rw[OK (λz=>z.2 (nz z.1))];have e:numOf (aL (tx (c::t)) gV (bv 62))= .ok i:=by have:=UD (L:=c::t) (k:=62) (by rw[<-hf];omega);have e2:aL (tx (c::t)) gV (bv 62)=tx (c::t):=this;rw[e2,<-hf];unfold numOf;rw[D5,v];dsimp only;rw[Os];rw[<-D5,dc];omega
  rw[e]
variable{s:S}
theorem KL(h:FJ s):jy (tx (34::(s.cps.toList++[34])))= .ok (.txt s):=by
 have hl:s.cps.toList.length<=40:=by rw[hZ];exact h.1
 unfold jy;rw[dE];dsimp only;rw[OK (by rw[dc,aZ,bh,j4];omega),Os rfl];unfold Kl;rw[YN];dsimp only;rw[OK (by rw[dc];omega),dE,Os]
 ·rfl
 ·rw[oq];intro c hc;exact decide_eq_true (h.2 c hc)
def MW(w:Rr Wd)(v:Wd):Bool:=match w,v with
 |.ok (.cl x),.cl y=>decide (x=y)
 |.ok (.sg x),.sg y=>decide (x=y)
 |.ok .iw,.iw=>jp
 |_,_=>kt
theorem Co{w:Rr Wd}{v:Wd}(h:MW w v=jp):w= .ok v:=by
 unfold MW at h;split at h
 ·rw[of_decide_eq_true h]
 ·rw[of_decide_eq_true h]
 ·rfl
 ·cases h
theorem BA:CW.all (λx=>MW (jy x) (.cl x))=true:=by decide+kernel
theorem UJ:SW.all (λx=>MW (jy x) (.sg x))=true:=by decide+kernel
theorem UK:∀{w:Wd},jb w->jy (tx (sZ w))= .ok w
 |.num _,h=>KJ h.1 h.2
 |.txt _,h=>KL h
 |.iw,_=>Co (by decide+kernel)
 |.pt _ _ _ _,h=>OV h.1 h.2.1 h.2.2
 |.cl x,h=>Co (List.all_eq_true.mp BA x h)
 |.sg x,h=>Co (List.all_eq_true.mp UJ x h)
 |.ar _ _ _ _ _ _ _ _,h=>OW h.1 h.2.1 h.2.2.1 h.2.2.2.1 h.2.2.2.2
 |.en,h=>h.elim
inductive Sp:List Wd->List Nat->Prop
 |nil:Sp [] []
 |bl {ws:List Wd}{L:List Nat}:Sp ws L->Sp ws (32::L)
 |wd {w:Wd}{ws:List Wd}{L:List Nat}:Sp ws L->Sp (w::ws) (sZ w++L)
def Qc:Wd->Bool
 |.txt _=>kt
 |.sg _=>kt
 |.en=>kt
 |_=>jp
def D8:List Wd->Prop
 |w::v::r=>(Qc w=jp->Qc v=kt)/\D8 (v::r)
 |_=>True
theorem D8.tl{w:Wd}:∀{ws:List Wd},D8 (w::ws)->D8 ws
 |[],_=>trivial
 |_::_,h=>h.2
def Sep(p:Nat->Bool)(L:List Nat):Prop:=∀c t,L=c::t->p c=kt
theorem KN:mL 32=false:=by rw[vp];intro h;rw[qM]at h;omega
def YW(x:S):Bool:=match x.cps.toList with
 |[c]=> !(YQ c)&&(!(ja c 34)&& !(ja c 32))
 |_=>kt
theorem UL:SW.all YW=true:=by decide+kernel
theorem Cp(h:x∈SW):∃c,x.cps.toList=[c]/\mL c=kt/\c≠34/\c≠32:=by
 have q:=List.all_eq_true.mp UL x h;unfold YW at q;split at q
 ·rename_i c e;rw[cZ,cZ,qN,qN,qN]at q;refine⟨c,e,by rw[UG];exact q.1,λz=>?_,λz=>?_⟩
  ·subst z;cases q.2.1
  ·subst z;cases q.2.2
 ·cases q
theorem UM(h:Sp ws L)(ok:∀w∈ws,jb w)(hn:∀v r,ws=v::r->Qc v=kt):Sep mL L:=by
 cases h with
 |nil=>intro c t e;cases e
 |bl h=>intro c t e;cases e;exact KN
 | @wd w ws L h=>
  have q:=hn w ws rfl;have o:=ok w aY;intro c t e;cases w with
  |txt s=>have e':34::((s.cps.toList++[34])++L)=c::t:=e;cases e';rw[vp];intro h;rw[qM]at h;omega
  |sg x=>obtain⟨d,e1,e2,_⟩:=Cp o;have e':x.cps.toList++L=c::t:=e;rw[e1]at e';cases e';exact e2
  |en=>exact o.elim
  |_=>cases q
def KO(L:List Nat):Prop:=(∃c t,L=c::t/\c≠34/\p8 c=kt)/\∀x∈L,mL x=jp
def KP(L:List Nat):Bool:=match L with
 |c::t=> !(vQ c)&&(!(ja c 34)&&(c::t).all YQ)
 |[]=>kt
theorem AD(h:KP L=jp):KO L:=by
 unfold KP at h;split at h
 ·rename_i c t;rw[cZ,cZ,qN,qN,oq]at h;refine⟨⟨c,t,rfl,λz=>?_,by rw[KD];exact h.1⟩,λx hx=>by rw[UG];exact h.2.2 x hx⟩;subst z;cases h.2.1
 ·cases h
theorem OX:CW.all (λx=>KP x.cps.toList)=true:=by decide+kernel
theorem nod{x:Nat}(hx:x=36\/(97<=x/\x<=122)):x≠34/\p8 x=false:=by refine⟨by omega,?_⟩;rw[vp];intro z;have:=(jQ x).mp z;omega
theorem qO(h:inR r c)(hp:oQ p)(hq:oQ q):KO (bS r c p q):=by obtain⟨x,t,e,hx⟩:=yR h hp hq;refine⟨⟨x,t,e,nod hx⟩,λy hy=>?_⟩;rw[qM];have:=cell_in h hp hq y hy;omega
theorem Cq:∀{w:Wd},jb w->Qc w=jp->(∃i,w= .num i)\/KO (sZ w)
 |.num i,_,_=> .inl ⟨i,rfl⟩
 |.iw,_,_=> .inr (AD (by decide+kernel))
 |.pt _ _ _ _,h,_=> .inr (qO h.1 h.2.1 h.2.2)
 |.cl x,h,_=> .inr (AD (List.all_eq_true.mp OX x h))
 |.ar a b c d p q r s,h,_=>by
  obtain⟨h0,hp,hq,hr,hs⟩:=h;have h1:inR a b:=by unfold nv at h0;unfold inR;omega
  have h2:inR c d:=by unfold nv at h0;unfold inR;omega
  obtain⟨⟨x,t,e,hx⟩,n1⟩:=qO h1 hp hq;have n2:=(qO h2 hr hs).2;refine .inr ⟨⟨x,t++58::bS c d r s,by show bS a b p q++_=_;rw[e];rfl,hx⟩,λy hy=>?_⟩;rcases wS.mp hy with z |z
  ·exact n1 y z
  ·rcases List.mem_cons.mp z with z |z
   ·subst z;rw[qM];omega
   ·exact n2 y z
variable{i:Nat}{T:List Nat}
theorem KQ{p:Nat->Bool}{A:List Nat}(h:T.drop i=A++L)(ha:∀x∈A,p x=jp)(hs:Sep p L):jS p T i=A.length:=by
 unfold jS;rw[h,List.takeWhile_append_of_pos ha];cases L with
 |nil=>simp
 |cons c t=>rw[jR,hs c t rfl];simp
theorem jC{A:List Nat}{c:Nat}(h:T.drop i=c::A):T[i]? =bv c:=by rw[<-List.head?_drop,h];rfl
theorem UN(h:FJ s)(hd:T.drop i=34::(s.cps.toList++34::L)):iZ T i=((i+1+s.cps.toList.length:Nat):Int):=by
 have at_:∀j,T[i+1+j]? =(s.cps.toList++34::L)[j]?:=λj=>by have e:(T.drop i)[j+1]? =T[i+(j+1)]?:=List.getElem?_drop;rw[hd]at e;rw[show i+1+j=i+(j+1) by omega,<-e];rfl
 have hT:i+1+s.cps.toList.length < T.length:=by have:=congrArg jf hd;rw[ia,aZ,bh,aZ]at this;omega
 have gd:∀v,(tx T).cps.getD v 0=(T[v]?).getD 0:=λv=>by show T.toArray.getD v 0=_;simp
 have g34:(tx T).cps.getD (i+1+s.cps.toList.length) 0=34:=by rw[gd,at_,lW (av _)];simp
 have fi:fromIndex (tx T).length ((i+1:Nat):Int)=i+1:=by rw[dc];unfold fromIndex;split<;>omega
 unfold iZ;rcases OF (tx T) 34 ((i+1:Nat):Int)with ⟨_,n⟩ |⟨k,e,k1,k2,k3,k4⟩
 ·rw[fi,dc]at n;exact absurd g34 (n _ (by omega) hT)
 ·rw[e];rw[fi]at k1 k4;have le:k<=i+1+s.cps.toList.length:=by
   rcases Nat.lt_or_ge (i+1+s.cps.toList.length) k with z |z
   ·exact absurd g34 (k4 _ (by omega) z)
   ·exact z
  rcases Nat.lt_or_ge k (i+1+s.cps.toList.length)with z |z
  ·have hk:k - (i+1) < s.cps.toList.length:=by omega
   have e2:=at_ (k - (i+1));rw[show i+1+(k - (i+1))=k by omega,gU hk,fk hk]at e2;rw[gd,e2]at k3;have:=h.2 _ (ug hk);unfold Sg at this;exact absurd k3 (by show ¬s.cps.toList[k - (i+1)]=34;omega)
  ·congr 1
   omega
theorem YX:∀{w:Wd},jb w->T.drop i=sZ w++L->(Qc w=jp->Sep mL L)->qJ T i= .ok (i+(sZ w).length):=by
 have dn:∀{c},p8 c=jp->mL c=true:=λ{c} h=>by rw[qM];have:=(jQ c).mp h;omega
 intro w ok hd hs;cases hw:Qc w with
 |true=>
  have sp:=hs hw;rcases Cq ok hw with ⟨n,rfl⟩ |⟨⟨c,t,e,c34,cd⟩,al⟩
  ·have dg:=Ay (i:=n) ok.1;cases hf:oR n with
   |nil=>exact absurd hf (KA ok.1)
   |cons c t=>
    have hd':T.drop i=c::(t++L):=by rw[hd];show oR n++L=_;rw[hf];rfl
    have hc:=dg c (by rw[hf];exact aY);unfold qJ;rw[jC hd'];dsimp only;rw[OK (by omega),Os ((jQ c).mpr hc),KQ (A:=oR n) hd (λx hx=>(jQ x).mpr (dg x hx)) (λc t e=>by have:=sp c t e;rw[vp]at this ⊢;exact λz=>this (dn z))];rfl
  ·have hd':T.drop i=c::(t++L):=by rw[hd,e];rfl
   unfold qJ;rw[jC hd'];dsimp only;rw[OK c34,cd,OK (by decide),KQ hd al sp,Nat.max_eq_left (by rw[e,aZ];omega)]
 |false=>
  cases w with
  |txt s=>
   have hd':T.drop i=34::(s.cps.toList++34::L):=by rw[hd];show 34::((s.cps.toList++[34])++L)=_;simp
   have m:=UN ok hd';unfold qJ;rw[jC hd'];dsimp only;rw[Os rfl,m,OK (by omega),oa]
   congr 1
   show _=i+(34::(s.cps.toList++[34])).length;rw[aZ,bh,j4];omega
  |sg x=>
   obtain⟨c,e,c1,c2,c3⟩:=Cp ok;have hd':T.drop i=c::L:=by rw[hd];show x.cps.toList++L=_;rw[e];rfl
   have cd:p8 c=false:=by rw[vp]at c1 ⊢;exact λz=>c1 (dn z)
   have s0:jS mL T i=0:=by unfold jS;rw[hd',jR,c1];rfl
   unfold qJ;rw[jC hd'];dsimp only;rw[OK c2,cd,OK (by decide),s0];show Rr.ok (max (i+0) (i+1))=Rr.ok (i+x.cps.toList.length);rw[e];rw[DY (by omega)];rfl
  |en=>exact ok.elim
  |_=>cases hw
theorem YY:∀{w:Wd},jb w->∃c t,sZ w=c::t/\c≠32:=by
 intro w ok;cases hw:Qc w with
 |true=>
  rcases Cq ok hw with ⟨n,rfl⟩ |⟨⟨c,t,e,_⟩,al⟩
  ·have dg:=Ay (i:=n) ok.1;cases hf:oR n with
   |nil=>exact absurd hf (KA ok.1)
   |cons c t=>exact⟨c,t,hf,by have:=dg c (by rw[hf];exact aY);omega⟩
  ·refine⟨c,t,e,λz=>?_⟩;have:=al c (by rw[e];exact aY);rw[z,KN]at this;cases this
 |false=>
  cases w with
  |txt s=>exact⟨_,_,rfl,by decide⟩
  |sg x=>obtain⟨c,e,_,_,c3⟩:=Cp ok;exact⟨c,[],e,c3⟩
  |en=>exact ok.elim
  |_=>cases hw
theorem lex(h:Sp ws L):(∀w∈ws,jb w)->D8 ws->∀i n,T.drop i=L->L.length < n->iT n T i= .ok ws:=by
 induction h with
 |nil=>
  intro ok ad i n hd hn;obtain⟨n,rfl⟩:∃m,n=m+1:=⟨n - 1,by omega⟩;have:T.length<=i:=by have:=congrArg jf hd;rw[ia]at this;simp at this;omega
  unfold iT;rw[Os this]
 | @bl ws L h ih=>
  intro ok ad i n hd hn;obtain⟨n,rfl⟩:∃m,n=m+1:=⟨n - 1,by omega⟩;have lt:i < T.length:=by have:=congrArg jf hd;rw[ia,aZ]at this;omega
  have d1:T.drop (i+1)=L:=by rw[<-yL,hd];rfl
  have we:qJ T i= .ok (i+1):=by
   have YZ:p8 32=false:=by rw[vp];intro z;have:=(jQ 32).mp z;omega
   unfold qJ;rw[jC hd];dsimp only;rw[OK (by decide),YZ,OK (by decide)];have s0:jS mL T i=0:=by unfold jS;rw[hd,jR,KN];rfl
   rw[s0,DY (by omega)]
  unfold iT;rw[OK (by omega),we];dsimp only;rw[Os (jC hd)];exact ih ok ad (i+1) n d1 (by rw[aZ]at hn;omega)
 | @wd w ws L h ih=>
  intro ok ad i n hd hn;obtain⟨n,rfl⟩:∃m,n=m+1:=⟨n - 1,by omega⟩;have o:=ok w aY;have ok':∀v∈ws,jb v:=λv hv=>ok v (bw _ hv);obtain⟨c,t,e,c32⟩:=YY o;have hd':T.drop i=c::(t++L):=by rw[hd,e];rfl
  have lt:i < T.length:=by have:=congrArg jf hd';rw[ia,aZ]at this;omega
  have we:=YX o hd (λq=>UM h ok' (λv r z=>by subst z;exact ad.1 q));have d1:T.drop (i+(sZ w).length)=L:=by rw[<-yL,hd,List.drop_left]
  have tk:(T.drop i).take (i+(sZ w).length - i)=sZ w:=by rw[hd,show i+(sZ w).length - i=(sZ w).length by omega,List.take_left]
  unfold iT;rw[OK (by omega),we];dsimp only;rw[jC hd',OK (by intro z;exact c32 (Option.some.inj z)),tk,UK o,ih ok' ad.tl _ n d1 (by rw[bh,e,aZ]at hn;omega)]
theorem Ar.LQ{x:Ar}(h:x.ok):inR x.a x.b/\inR x.c x.d:=by unfold Ar.ok nv at h;unfold inR;omega
theorem Qd(a:S):("":S)++a=a:=by
 have e:("":S)=PySem.Str.empty:=by decide+kernel
 rw[e];show(⟨#[]++a.cps⟩:S)=a;simp
theorem Cr(a b c:S):a++b++c=a++(b++c):=by show(⟨a.cps++b.cps++c.cps⟩:S)=⟨a.cps++(b.cps++c.cps)⟩;rw[Pj]
variable{i:Int}
theorem FZ(h0:0<=i)(h:i<=AX):(iy i).length<=61 :=
 D6 h0 (by decide) (by
  have:AX < 10 ^ 61:=by decide+kernel
  omega)
theorem m6(h0:0<=i)(h:i < 100):(iy i).length<=2 :=
 D6 h0 (by decide) h
theorem qP(b:Bool):(dl b).length<=1:=by cases b<;>decide+kernel
theorem iG(c:Int):(let1 c).length=1:=rfl
theorem aG(a b:S):(a++b).length=a.length+b.length:=PySem.Str.length_append ..
theorem iA(h:inR r c)(p q:Bool):(gj r c p q).length<=5:=by unfold gj;have h1:=m6 (i:=r+1) (by have:=h.1;omega) (by have:=h.2.1;omega);have h2:=qP p;have h3:=qP q;rw[aG,aG,aG,iG];omega
theorem Lf.len{l:Lf}(h:l.ok):l.t.length<=64:=by
 cases l with
 |num i=>exact aA (FZ h.1 h.2) (by decide)
 |txt s=>show(("\"":S)++s++"\"").length<=64;have h':s.length<=40:=h.1;have e:("\"":S).length=1:=rfl;rw[aG,aG,e];omega
 |FY r c p q=>exact aA (iA h p q) (by decide)
 |iw=>decide+kernel
theorem Ar.len(h:a.ok):a.t.length<=11:=by have h:=Ar.LQ h;unfold Ar.t;have h1:=iA h.1 a.p a.q;have h2:=iA h.2 a.r a.s;have e:(":":S).length=1:=rfl;rw[aG,aG,e];omega
theorem str_inj{a b:String}(h:PySem.Str.ofString a=PySem.Str.ofString b):a=b:=by
 rw[PySem.Str.ofString_eq_toList,PySem.Str.ofString_eq_toList]at h;have h1:a.toList.map oI=b.toList.map oI:=by have:=congrArg (λs:S=>s.cps.toList) h;simpa using this
 have h2:∀(l m:List Char),l.map oI=m.map oI->l=m:=by
  intro l
  induction l with
  |nil=>intro m h;cases m with |nil=>rfl |cons=>cases h
  |cons c r ih=>
   intro m h;cases m with
   |nil=>cases h
   |cons d s=>simp only[bz,List.cons.injEq]at h;rw[ih s h.2,Char.toNat_inj.mp h.1]
 exact String.toList_inj.mp (h2 _ _ h1)
theorem iH(a b:String):(PySem.Str.ofString a == PySem.Str.ofString b)=(a == b):=by rw[vb,beq_iff_eq,beq_iff_eq];exact⟨str_inj,λh=>by rw[h]⟩
theorem KR(h0:0<=c)(h1:c < 26):aV (.str "abcdefghijklmnopqrstuvwxyz") (.int c) st= .ok (.str (let1 c)) st:=by
 obtain⟨n,rfl⟩:=j9 h0;have q:∀k:Fin 26,L2.kX ("abcdefghijklmnopqrstuvwxyz":S).cps.toList ((k.1:Nat):Int)=bv (97+k.1):=by decide+kernel
 have e:=q ⟨n,by omega⟩;show(if("abcdefghijklmnopqrstuvwxyz":S).length<=lim then(match L2.kX ("abcdefghijklmnopqrstuvwxyz":S).cps.toList (n:Int)with |some c=>Re.ok (Wv.str ⟨#[c]⟩) st |none=> .bad)else .bad)=_
 rw[Os (by decide+kernel),e];rfl
theorem yS(h0:0<=i)(h:i<=AX):l7 [.int i] st= .ok (.str (iy i)) st:=by have hl:i.natAbs.log2 < 1920:=BZ (b:=AX) (by have:=p99;omega) h (by decide+kernel) (by decide);rw[yA,Ou hl];rfl
theorem D9:(100:Int)<=AX:=by decide+kernel
theorem F0(h:inR r c):cP [.tup [.int r,.int c]] st= .ok (.bl jp) st:=by obtain⟨h1,h2,h3,h4⟩:=h;have a0:aV (.tup [.int r,.int c]) (.int 0) st= .ok (.int r) st:=cw rfl;have a1:aV (.tup [.int r,.int c]) (.int 1) st= .ok (.int c) st:=cw rfl;unfold cP bf oz;simp[a0,a1,h1,h2,h3,h4]
theorem made_place(h:inR r c):hG [.int r,.int c] st= .ok (.tup [.int r,.int c]) st:=by unfold hG bf pV;simp[F0 h]
theorem Cs(h:inR r c):hI [.tup [.int r,.int c]] st= .ok (.str (let1 c++iy (r+1))) st:=by have a0:aV (.tup [.int r,.int c]) (.int 0) st= .ok (.int r) st:=cw rfl;have a1:aV (.tup [.int r,.int c]) (.int 1) st= .ok (.int c) st:=cw rfl;have hr:0<=r+1/\r+1 < 100:=⟨by have:=h.1;omega,by have:=h.2.1;omega⟩;have s1:l7 [.int (r+1)] st= .ok (.str (iy (r+1))) st:=yS hr.1 (by have:=D9;omega);have l1:=m6 hr.1 hr.2;have ad:aX (.str (let1 c)) (.str (iy (r+1))) st= .ok (.str (let1 c++iy (r+1))) st:=eM (by rw[iG];unfold lim;omega);unfold hI bf pX;simp[a0,a1,made_place h,KR h.2.2.1 h.2.2.2,-yA,s1,ad]
theorem OY{b:Bool}:fm (.str "$") (pin b) st= .ok (.str (dl b)) st:=by cases b<;>rfl
theorem mN{p q:Bool}(h:inR r c):cX [.tup [.int r,.int c],.tup [pin p,pin q]] st= .ok (.str (gj r c p q)) st:=by
 have a0:aV (.tup [pin p,pin q]) (.int 0) st= .ok (pin p) st:=cw rfl;have a1:aV (.tup [pin p,pin q]) (.int 1) st= .ok (pin q) st:=cw rfl;have l1:=m6 (i:=r+1) (by have:=h.1;omega) (by have:=h.2.1;omega);have l2:=qP p;have l3:=qP q;have e:let1 c++iy (r+1)=⟨((97+c.toNat)::(iy (r+1)).cps.toList).toArray⟩:=by
  show(⟨#[97+c.toNat]++(iy (r+1)).cps⟩:S)=_
  congr 1
  apply Array.toList_inj.mp;simp
 have i0:aV (.str (let1 c++iy (r+1))) (.int 0) st= .ok (.str (let1 c)) st:=by
  show(if(let1 c++iy (r+1)).length<=lim then(match L2.kX (let1 c++iy (r+1)).cps.toList 0 with |some c=>Re.ok (Wv.str ⟨#[c]⟩) st |none=> .bad)else .bad)=_
  rw[Os (by rw[aG,iG];unfold lim;omega)];have:L2.kX (let1 c++iy (r+1)).cps.toList 0=bv (97+c.toNat):=by rw[e];exact L2.eZ (j:=0) rfl
  rw[this];rfl
 have s1:kq (.str (let1 c++iy (r+1))) (bv 1) gV st= .ok (.str (iy (r+1))) st:=by rw[iF (by rw[aG,iG];unfold lim;omega),e,Ca]
 have b1:aX (.str (dl q)) (.str (let1 c)) st= .ok (.str (dl q++let1 c)) st:=eM (by rw[iG];unfold lim;omega);have b2:aX (.str (dl q++let1 c)) (.str (dl p)) st= .ok (.str (dl q++let1 c++dl p)) st:=eM (by rw[aG,iG];unfold lim;omega);have b3:aX (.str (dl q++let1 c++dl p)) (.str (iy (r+1))) st= .ok (.str (gj r c p q)) st:=eM (by rw[aG,aG,iG];unfold lim;omega);unfold cX bf n0;simp[Cs h,a0,a1,OY,i0,s1,b1,b2,b3]
variable{ws:List Wv}
theorem AE{lo hi:Option Int}(h:f7 ws.length lo hi->us=ws)(h2:¬f7 ws.length lo hi->i7 ws lo hi=us):kq (.tup ws) lo hi st= .ok (.tup us) st:=by
 show(if f7 ws.length lo hi then Re.ok (Wv.tup ws) st else Sf (.tup ws) lo hi st)=_;by_cases c:f7 ws.length lo hi
 ·rw[Os c,h c]
 ·rw[OK c];show(if f7 ws.length lo hi then Re.bad else Re.ok (Wv.tup (i7 ws lo hi)) st)=_;rw[OK c,h2 c]
theorem Qe{a b c d:Wv}:kq (.tup [a,b,c,d]) gV (bv 2) st= .ok (.tup [a,b]) st :=
 AE (λh=>absurd h (by show ¬f7 4 gV (bv 2);decide+kernel)) λ_=>rfl
theorem Qf{a b c d:Wv}:kq (.tup [a,b,c,d]) (bv 2) gV st= .ok (.tup [c,d]) st :=
 AE (λh=>absurd h (by show ¬f7 4 (bv 2) gV;decide+kernel)) λ_=>rfl
theorem AG{x:Ar}(h:x.ok):bV x.v st= .ok (.str x.t) st:=by have h:=Ar.LQ h;have l1:=iA h.1 x.p x.q;have l2:=iA h.2 x.r x.s;have e:(":":S).length=1:=rfl;have b1:aX (.str (gj x.a x.b x.p x.q)) (.str ":") st= .ok (.str (gj x.a x.b x.p x.q++":")) st:=eM (by rw[e];unfold lim;omega);have b2:aX (.str (gj x.a x.b x.p x.q++":")) (.str (gj x.c x.d x.r x.s)) st= .ok (.str x.t) st:=eM (by rw[aG,e];unfold lim;omega);unfold bV bf jx Ar.v;simp[Qe,Qf,mN h.1,mN h.2,b1,b2]
theorem oJ{p q:Bool}(h:inR r c):∃st',bX [.tup [.int r,.int c],.tup [pin p,pin q]] st= .ok (.str (gj r c p q)) st'/\Gr st st':=by
 have a0:∀st:Hs,aV (.tup [.int r,.int c]) (.int 0) st= .ok (.int r) st:=λ_=>cw rfl;have a1:∀st:Hs,aV (.tup [.int r,.int c]) (.int 1) st= .ok (.int c) st:=λ_=>cw rfl;have p0:∀st:Hs,aV (.tup [pin p,pin q]) (.int 0) st= .ok (pin p) st:=λ_=>cw rfl;have p1:∀st:Hs,aV (.tup [pin p,pin q]) (.int 1) st= .ok (pin q) st:=λ_=>cw rfl;have hr:0<=r+1/\r+1 < 100:=⟨by have:=h.1;omega,by have:=h.2.1;omega⟩;have s1:∀st:Hs,l7 [.int (r+1)] st= .ok (.str (iy (r+1))) st:=λ_=>yS hr.1 (by have:=D9;omega);have l1:=m6 hr.1 hr.2;have l2:=qP p;have l3:=qP q;have pk:∀(st:Hs)(b:Bool),aV (.ref st.length) (pin b) (st++[.lst [.str "",.str "$"]])= .ok (.str (dl b)) (st++[.lst [.str "",.str "$"]]):=λst b=>by
  cases b with
  |false=>exact pD dq rfl
  |true=>exact pD dq rfl
 have b1:∀st:Hs,aX (.str (dl q)) (.str (let1 c)) st= .ok (.str (dl q++let1 c)) st:=λ_=>eM (by rw[iG];unfold lim;omega);have b2:∀st:Hs,aX (.str (dl q++let1 c)) (.str (dl p)) st= .ok (.str (dl q++let1 c++dl p)) st:=λ_=>eM (by rw[aG,iG];unfold lim;omega);have b3:∀st:Hs,aX (.str (dl q++let1 c++dl p)) (.str (iy (r+1))) st= .ok (.str (gj r c p q)) st:=λ_=>eM (by rw[aG,aG,iG];unfold lim;omega);refine⟨(st++[.lst [.str "",.str "$"]])++[.lst [.str "",.str "$"]],?_,Gr.push.trans Gr.push⟩;have k1:=pk st q;have k2:=pk (st++[.lst [.str "",.str "$"]]) p;generalize hs:st++[.lst [.str "",.str "$"]]=s1' at k1 k2;have hs':st++[Ob.lst [Wv.str (sD ""),Wv.str (sD "$")]]=s1':=hs;unfold bX bf kA;simp only[bz,iD,aZ,qi,de,iC,aD,zP,rj,wU,lq,e_c,i9,jN,rn,Ug,zQ,rh,rf,oK,oM,p0,p1,hs',k1,me,a0,a1,KR h.2.2.1 h.2.2.2,b1,k2,b2,yy,Yg,s1,b3,eV]
theorem xq{x:Ar}(h:x.ok):∃st',bx x.v st= .ok (.str x.t) st'/\Gr st st':=by have h:=Ar.LQ h;have l1:=iA h.1 x.p x.q;have l2:=iA h.2 x.r x.s;have e:(":":S).length=1:=rfl;have b1:∀st:Hs,aX (.str (gj x.a x.b x.p x.q)) (.str ":") st= .ok (.str (gj x.a x.b x.p x.q++":")) st:=λ_=>eM (by rw[e];unfold lim;omega);have b2:∀st:Hs,aX (.str (gj x.a x.b x.p x.q++":")) (.str (gj x.c x.d x.r x.s)) st= .ok (.str x.t) st:=λ_=>eM (by rw[aG,e];unfold lim;omega);obtain⟨st1,e1,g1⟩:=oJ (p:=x.p) (q:=x.q) (st:=st) h.1;obtain⟨st2,e2,g2⟩:=oJ (p:=x.r) (q:=x.s) (st:=st1) h.2;refine⟨st2,?_,g1.trans g2⟩;unfold bx bf kD Ar.v;simp[Qe,Qf,e1,e2,b1,b2]
variable{l:Lf}
theorem F5(h:l.ok):∃st',bC [.tup l.v] st= .ok (.str l.t) st'/\Gr st st':=by
 cases l with
 |num i=>refine⟨st,?_,Gr.refl⟩;have a0:aV (.tup [.str "num",.int i]) (.int 0) st= .ok (.str "num") st:=cw rfl;have a1:aV (.tup [.str "num",.int i]) (.int 1) st= .ok (.int i) st:=cw rfl;unfold bC bf dS Lf.v;simp[a0,a1,iH,-yA,yS h.1 h.2,Lf.t]
 |txt s=>refine⟨st,?_,Gr.refl⟩;have h':s.length<=40:=h.1;have a0:aV (.tup [.str "text",.str s]) (.int 0) st= .ok (.str "text") st:=cw rfl;have a1:aV (.tup [.str "text",.str s]) (.int 1) st= .ok (.str s) st:=cw rfl;have e:("\"":S).length=1:=rfl;have b1:aX (.str "\"") (.str s) st= .ok (.str ("\""++s)) st:=eM (by rw[e];unfold lim;omega);have b2:aX (.str ("\""++s)) (.str "\"") st= .ok (.str ("\""++s++"\"")) st:=eM (by rw[aG,e];unfold lim;omega);unfold bC bf dS Lf.v;simp[a0,a1,iH,b1,b2,Lf.t]
 |FY r c p q=>obtain⟨st',e1,g⟩:=oJ (p:=p) (q:=q) (st:=st) h;refine⟨st',?_,g⟩;have a0:aV (.tup [.str "at",.tup [.int r,.int c],.tup [pin p,pin q]]) (.int 0) st= .ok (.str "at") st:=cw rfl;have a1:aV (.tup [.str "at",.tup [.int r,.int c],.tup [pin p,pin q]]) (.int 1) st= .ok (.tup [.int r,.int c]) st:=cw rfl;have a2:aV (.tup [.str "at",.tup [.int r,.int c],.tup [pin p,pin q]]) (.int 2) st= .ok (.tup [pin p,pin q]) st:=cw rfl;unfold bC bf dS Lf.v;simp[a0,a1,a2,iH,e1,Lf.t]
 |iw=>refine⟨st,?_,Gr.refl⟩;have a0:aV (.tup [.str "lost"]) (.int 0) st= .ok (.str "lost") st:=cw rfl;unfold bC bf dS Lf.v;simp[a0,iH,Lf.t]
theorem m7(c:Bool)(x:S):(par c x).length<=x.length+2:=by
 cases c with
 |false=>exact jW _ _
 |true=>show(("(":S)++x++")").length<=_;have e1:("(":S).length=1:=rfl;have e2:(")":S).length=1:=rfl;rw[aG,aG,e1,e2];omega
theorem Cu(w:Fin 4):(aw w).length<=8:=by
 match w with
 | 0=>decide+kernel
 | 1=>decide+kernel
 | 2=>decide+kernel
 | 3=>decide+kernel
theorem tw_len(w:Bool):(tw w).length=4:=by cases w<;>decide+kernel
theorem Cv(o:BO):o.s.length=1:=by cases o<;>decide+kernel
theorem e_o:("(":S).length=1:=rfl
theorem AH:(")":S).length=1:=rfl
theorem Cw:(", ":S).length=2:=rfl
theorem e_b:(" ":S).length=1:=rfl
theorem e_m:("-":S).length=1:=rfl
theorem UO:("find":S).length=4:=rfl
theorem P0:("not":S).length=3:=rfl
theorem Y0:("if":S).length=2:=rfl
theorem Fm.len(h:f.ok):f.T.length<=64 * f.sz:=by
 induction f with
 |leaf l=>exact Lf.len h
 |eK w a=>have h1:=Cu w;have h2:=Ar.len h;show(aw w++"("++a.t++")").length<=64 * 1;simp only[aG,e_o,AH];omega
 |find f a ih=>have h1:=ih h.1;have h2:=Ar.len h.2;show(("find":S)++"("++(f.T++", "++a.t)++")").length<=64 * (f.sz+1);simp only[aG,e_o,AH,UO,Cw];omega
 |minus f ih=>have h1:=ih h;have h2:=m7 (decide (f.lv < 5)) f.T;show(("-":S)++par (decide (f.lv < 5)) f.T).length<=64 * (f.sz+1);simp only[aG,e_m];omega
 |nt f ih=>have h1:=ih h;show(("not":S)++"("++f.T++")").length<=64 * (f.sz+1);simp only[aG,e_o,AH,P0];omega
 |bin o f g ih1 ih2=>have h1:=ih1 h.1;have h2:=ih2 h.2;have h3:=m7 (decide (f.lv < o.lv)) f.T;have h4:=m7 (decide (g.lv < o.lv+1)) g.T;show(par (decide (f.lv < o.lv)) f.T++" "++o.s++" "++par (decide (g.lv < o.lv+1)) g.T).length<=64 * (f.sz+g.sz+1);simp only[aG,e_b,Cv];omega
 |two w f g ih1 ih2=>have h1:=ih1 h.1;have h2:=ih2 h.2;show(tw w++"("++(f.T++", "++g.T)++")").length<=64 * (f.sz+g.sz+1);simp only[aG,e_o,AH,Cw,tw_len];omega
 |iff f g k ih1 ih2 ih3=>have h1:=ih1 h.1;have h2:=ih2 h.2.1;have h3:=ih3 h.2.2;show(("if":S)++"("++(f.T++", "++g.T++", "++k.T)++")").length<=64 * (f.sz+g.sz+k.sz+1);simp only[aG,e_o,AH,Cw,Y0];omega
theorem OZ{kvs:Dc}{gk gx:GE}{x:Wv}(h1:gk ρ st= .ok (.str z) st1)(h2:gx ρ st1= .ok x st2):qm kvs gk gx ρ st= .ok ((kvs.lookup z).getD x) st2:=by unfold qm;rw[h1];show(gx ρ st1).bind _=_;rw[h2];rfl
theorem hR:fR [.tup (.str x::ws)] st= .ok ((aT.lookup x).getD (.int 5)) st:=by unfold fR bf pZ;have e:qm aT (af aV (ae 0) (gC (Wv.int 0))) (gC (Wv.int 5)) [bv (Wv.tup (Wv.str x::ws))] st= .ok ((aT.lookup x).getD (.int 5)) st:=OZ (by simp[n6]) rfl;simp[e]
theorem bind_f(f:Fm)(st:Hs):fR [f.w] st= .ok (.int f.lv) st:=by
 cases f with
 |leaf l=>cases l<;>exact hR
 |eK w a=>
  match w with
  | 0=>exact hR
  | 1=>exact hR
  | 2=>exact hR
  | 3=>exact hR
 |find f a=>exact hR
 |minus f=>exact hR
 |nt f=>exact hR
 |bin o f g=>cases o<;>exact hR
 |two w f g=>cases w<;>exact hR
 |iff f g h=>exact hR
theorem O0(h:g ρ st= .ok (.str z) st)(hz:z.length<=lim):AV g ρ st= .ok (.str z) st:=by unfold AV;rw[h];show(if z.length<=lim then Re.ok (Wv.str z) st else .bad)=_;rw[Os hz]
theorem jX{r:List GE}{out:S}(h:g ρ st= .ok (.str z) st1)(hz:out.length+z.length<=lim):pB out (g::r) ρ st=pB (out++z) r ρ st1:=by show(g ρ st).bind _=_;rw[h];show(if out.length+z.length<=lim then pB (out++z) r ρ st1 else .bad)=_;rw[Os hz]
def Ft(n:Nat)(f:Fm):Prop:=∀st,∃st',aF n [f.w] st= .ok (.str f.T) st'/\Gr st st'
def Pt(n:Nat)(f:Fm):Prop:=∀(k:Int)(st:Hs),∃st',bK n [f.w,.int k] st= .ok (.str (par (decide (f.lv < k)) f.T)) st'/\Gr st st'
theorem pt(h:Ft n f)(hl:f.T.length<=5000):Pt (n+1) f:=λk st=>by
 obtain⟨st',e,g⟩:=h st;refine⟨st',?_,g⟩;rw[qH];unfold bf mJ;have js:Wa [gC (Wv.str "("),AV (ae 2),gC (Wv.str ")")] [bv f.w,bv (.int k),bv (.str f.T)] st'= .ok (.str ("("++f.T++")")) st':=by show pB PySem.Str.empty [gC (Wv.str "("),AV (ae 2),gC (Wv.str ")")] [bv f.w,bv (.int k),bv (.str f.T)] st'=_;have z0:PySem.Str.empty.length=0:=rfl;rw[jX (z:="(") rfl (by decide+kernel),jX (z:=f.T) (O0 rfl (by unfold lim;omega)) (by rw[aG,e_o,z0];unfold lim;omega),jX (z:=")") rfl (by rw[aG,aG,e_o,AH,z0];unfold lim;omega)];have:PySem.Str.empty++("(":S)="(":=Qd _;rw[this];rfl
 by_cases c:f.lv < k
 ·simp[e,bind_f,c,js,par]
 ·simp[e,bind_f,c,par]
variable{o:BO}{g:Fm}
theorem UP(h1:Pt n f)(h2:Pt n g)(hl:f.T.length+g.T.length<=5000)(st:Hs):∃st',cG (n+1) [(Fm.bin o f g).w] st= .ok (.str (Fm.bin o f g).T) st'/\Gr st st':=by
 obtain⟨st1,e1,g1⟩:=h1 o.lv st;obtain⟨st2,e2,g2⟩:=h2 (o.lv+1) st1;refine⟨st2,?_,g1.trans g2⟩;have ew:(Fm.bin o f g).w= .tup [.str o.s,f.w,g.w]:=rfl;have l1:=m7 (decide (f.lv < o.lv)) f.T;have l2:=m7 (decide (g.lv < o.lv+1)) g.T;have lk:aT.lookup o.s=bv (.int o.lv):=by cases o<;>rfl
 have a1:∀st:Hs,aV (.tup [.str o.s,f.w,g.w]) (.int 1) st= .ok f.w st:=λ_=>cw rfl;have a2:∀st:Hs,aV (.tup [.str o.s,f.w,g.w]) (.int 2) st= .ok g.w st:=λ_=>cw rfl;have js:Wa [AV (ae 2),gC (Wv.str " "),AV (ae 1),gC (Wv.str " "),AV (ae 3)] [bv (.tup [.str o.s,f.w,g.w]),bv (.str o.s),bv (.str (par (decide (f.lv < o.lv)) f.T)),bv (.str (par (decide (g.lv < o.lv+1)) g.T))] st2= .ok (.str (Fm.bin o f g).T) st2:=by
  generalize hx:par (decide (f.lv < o.lv)) f.T=x at l1;generalize hy:par (decide (g.lv < o.lv+1)) g.T=y at l2;have hT:(Fm.bin o f g).T=x++" "++o.s++" "++y:=by rw[<-hx,<-hy];rfl
  rw[hT];have z0:PySem.Str.empty.length=0:=rfl;have zo:=Cv o;show pB PySem.Str.empty [AV (ae 2),gC (Wv.str " "),AV (ae 1),gC (Wv.str " "),AV (ae 3)] [bv (.tup [.str o.s,f.w,g.w]),bv (.str o.s),bv (.str x),bv (.str y)] st2=_;rw[jX (z:=x) (O0 rfl (by unfold lim;omega)) (by rw[z0];unfold lim;omega)];have:PySem.Str.empty++x=x:=Qd _;rw[this,jX (z:=" ") rfl (by rw[e_b];unfold lim;omega),jX (z:=o.s) (O0 rfl (by unfold lim;omega)) (by rw[aG,e_b];unfold lim;omega),jX (z:=" ") rfl (by rw[aG,aG,e_b];unfold lim;omega),
   jX (z:=y) (O0 rfl (by unfold lim;omega)) (by rw[aG,aG,aG,e_b];unfold lim;omega)]
  rfl
 rw[u9,ew];unfold bf qG;simp[n6,a1,a2,pE lk,e1,e2,js]
variable{fs:List Fm}
theorem UQ{t:Fm->Wv}(h:us.length=fs.length)(k:∀k (h:k < fs.length) (h':k < us.length),us[k]=t fs[k]):us=fs.map t:=by
 apply List.ext_getElem
 ·simpa using h
 ·intro i h1 h2;rw[List.getElem_map];exact k i (by simpa using h2) h1
theorem texts(h:∀f∈fs,Ft n f)(hl:fs.length<=3)(a b c:List Wv->Hs->Re Wv)(ρ:b7)(st:Hs):∃st',dj [] (iS a b c (aF n)) (gF a b c (aF n)) ρ (gV,fs.map Fm.w) st= .ok (.ref st.length) st'/\Gr st st'/\st'[st.length]? =bv (.lst (fs.map λf=> .str f.T)):=by
 obtain⟨st',us,e,p,q,h1,h2⟩:=wY (w:=(gV,fs.map Fm.w)) (gt:=λv=>iS a b c (aF n) (bv v::gT [] ρ)) (ge:=λv=>gF a b c (aF n) (bv v::gT [] ρ)) (rr:=st.length) Fm.w (λs=>Gr st s) (λf u=>u= .str f.T)
  (λs acc g=>Gr.J6 (av _) g) (λ_ _=>trivial) fs (by intro f hf s acc g hg;obtain⟨s2,e,g2⟩:=h f hf s;refine⟨s,rfl,g,hg,.str f.T,s2,?_,rfl,g.trans g2,g2.get hg⟩;unfold gF;simp[e]) [] (st++[.lst []]) Gr.push aR (by show 0+_ < _;unfold lim;omega)
 refine⟨st',?_,p,?_⟩
 ·unfold dj;dsimp only;rw[e]
 ·rw[q,UQ (t:=λf=> .str f.T) h1 h2];rfl
theorem vq{k:Int}(h:aB.lookup x=bv (.int k)):bY [.str x] st= .ok (.int k) st:=by unfold bY bf mj;simp[pE h]
theorem kR{k:Int}(h:aB.lookup x=bv (.int k))(n1:¬f7 (ws.length+1) (bv 1) (bv (1+k)))(hc:i7 (.str x::ws) (bv 1) (bv (1+k))=us)(st:Hs):bT [.tup (.str x::ws)] st= .ok (.tup us) st:=by unfold bT bf oy;have s:=AE (ws:=.str x::ws) (us:=us) (lo:=bv 1) (hi:=bv (1+k)) (st:=st) (λh=>absurd h n1) (λ_=>hc);simp[n6,vq h,s]
theorem AI{k:Int}(h:aB.lookup x=bv (.int k))(n1:¬f7 (ws.length+1) (bv (1+k)) gV)(hc:i7 (.str x::ws) (bv (1+k)) gV=us)(st:Hs):dw [.tup (.str x::ws)] st= .ok (.tup us) st:=by unfold dw bf qy;have s:=AE (ws:=.str x::ws) (us:=us) (lo:=bv (1+k)) (hi:=gV) (st:=st) (λh=>absurd h n1) (λ_=>hc);simp[n6,vq h,s]
theorem jn(ys:List S):gW ", " ys=PySem.Str.join ", " ys:=by simpa using D_ ", " ys
theorem vr(hp:∀st,bT [.tup (.str x::ws)] st= .ok (.tup (fs.map Fm.w)) st)(ha:∀st,bU [.str x] st= .ok (.bl kt) st)(h:∀f∈fs,Ft n f)(hl:fs.length<=3)
  (hs:((fs.map Fm.T).map (·.length)).sum<=5000)(hj:(PySem.Str.join ", " (fs.map Fm.T)).length<=5000)(hx:x.length<=10)(st:Hs):∃st',bD (n+1) [.tup (.str x::ws)] st= .ok (.str (x++"("++PySem.Str.join ", " (fs.map Fm.T)++")")) st'/\Gr st st':=by
 obtain⟨st1,e1,g1,l1⟩:=texts h hl (bD n) (bK n) (cG n) [bv (.tup (.str x::ws)),gV,gV,gV] st;have em:(fs.map λf=>Wv.str f.T)=(fs.map Fm.T).map Wv.str:=by rw[DW];rfl
 rw[em]at l1;have hs':((fs.map Fm.T).map (λx:PySem.Str=>x.length)).sum<=5000:=hs;have j:=B0 (z:=", ") (bo l1) (by rw[Cw];simp only[bN];omega);rw[jn]at j;generalize PySem.Str.join ", " (fs.map Fm.T)=J at j hj;have b1:aX (.str x) (.str "(") st1= .ok (.str (x++"(")) st1:=eM (by rw[e_o];unfold lim;omega);have b2:aX (.str (x++"(")) (.str J) st1= .ok (.str (x++"("++J)) st1:=eM (by rw[aG,e_o];unfold lim;omega);have b3:aX (.str (x++"("++J)) (.str ")") st1= .ok (.str (x++"("++J++")")) st1:=eM (by rw[aG,aG,e_o,AH];unfold lim;omega);refine⟨st1,?_,g1⟩;rw[kQ];unfold bf jP;simp[hp,e1,n6,ha,j,b1,b2,b3]
theorem xt(hp:∀st,bT [.tup (.str x::ws)] st= .ok (.tup (fs.map Fm.w)) st)(ha:∀st,bU [.str x] st= .ok (.bl jp) st)(ht:∀st,dw [.tup (.str x::ws)] st= .ok (.tup a.v) st)(oka:a.ok)(h:∀f∈fs,Ft n f)(hl:fs.length<=3)
  (hs:((fs.map Fm.T++[a.t]).map (·.length)).sum<=5000)(hj:(PySem.Str.join ", " (fs.map Fm.T++[a.t])).length<=5000)(hx:x.length<=10)(st:Hs):∃st',bD (n+1) [.tup (.str x::ws)] st= .ok (.str (x++"("++PySem.Str.join ", " (fs.map Fm.T++[a.t])++")")) st'/\Gr st st':=by
 obtain⟨st1,e1,g1,l1⟩:=texts h hl (bD n) (bK n) (cG n) [bv (.tup (.str x::ws)),gV,gV,gV] st;have em:(fs.map λf=>Wv.str f.T)=(fs.map Fm.T).map Wv.str:=by rw[DW];rfl
 rw[em]at l1;have pa:bV [.tup [.int a.a,.int a.b,.int a.c,.int a.d],.tup [pin a.p,pin a.q,pin a.r,pin a.s]] st1= .ok (.str a.t) st1:=AG oka;have a0:aV (.tup a.v) (.int 0) st1= .ok (.tup [.int a.a,.int a.b,.int a.c,.int a.d]) st1:=cw rfl;have a1:aV (.tup a.v) (.int 1) st1= .ok (.tup [pin a.p,pin a.q,pin a.r,pin a.s]) st1:=cw rfl;have ap:=nK (v:=.str a.t) l1 (by simp only[bN];unfold lim;omega);have km:=DM (mt:=ni) (ga:=ao 2 bV (aa (af aV (ae 2) (gC (Wv.int 0))) (aa (af aV (ae 2) (gC (Wv.int 1))) ag))) (ρ:=[bv (.tup (.str x::ws)),bv (.ref st.length),bv (.tup a.v),gV]) (bo l1);have l2:=cx (o':=.lst ((fs.map Fm.T).map Wv.str++[.str a.t])) l1;have g2:Gr st (st1.set st.length (.lst ((fs.map Fm.T).map Wv.str++[.str a.t]))):=Gr.J6 (av _) g1;have e2:(fs.map Fm.T).map Wv.str++[.str a.t]=(fs.map Fm.T++[a.t]).map Wv.str:=by simp
 rw[e2]at l2 ap g2;generalize st1.set st.length (.lst ((fs.map Fm.T++[a.t]).map Wv.str))=st2 at l2 ap g2;have hs':((fs.map Fm.T++[a.t]).map (λx:PySem.Str=>x.length)).sum<=5000:=hs;have j:=B0 (z:=", ") (bo l2) (by rw[Cw,bh,bN];show((fs.map Fm.T++[a.t]).map (λx:PySem.Str=>x.length)).sum+(fs.length+1) * 2<=_;omega);rw[jn]at j;generalize PySem.Str.join ", " (fs.map Fm.T++[a.t])=J at j hj;have b1:aX (.str x) (.str "(") st2= .ok (.str (x++"(")) st2:=eM (by rw[e_o];unfold lim;omega);have b2:aX (.str (x++"(")) (.str J) st2= .ok (.str (x++"("++J)) st2:=eM (by rw[aG,e_o];unfold lim;omega);have b3:aX (.str (x++"("++J)) (.str ")") st2= .ok (.str (x++"("++J++")")) st2:=eM (by rw[aG,aG,e_o,AH];unfold lim;omega);refine⟨st2,?_,g2⟩;rw[kQ];unfold bf jP;simp[hp,e1,n6,ha,ht,km,a0,a1,pa,ap,j,b1,b2,b3]
variable{t:S}
theorem Y1(q:((x == "num")=kt/\(x == "text")=kt/\(x == "lost")=kt/\(x == "at")=kt/\(x == "minus")=kt/\(aT.lookup x).isSome=kt))(h:∃st',bD n [.tup (.str x::ws)] st= .ok (.str t) st'/\Gr st st'):
  ∃st',aF (n+1) [.tup (.str x::ws)] st= .ok (.str t) st'/\Gr st st':=by
 obtain⟨st',e,g⟩:=h;obtain⟨q1,q2,q3,q4,q5,q6⟩:=q;refine⟨st',?_,g⟩;rw[dP];unfold bf d_;have k6:DO kt aT (.str x) st= .ok (.bl kt) st:=by rw[DP,q6];rfl
 simp only[bz,iD,aZ,qi,de,iC,aD,jM,DJ,rj,rh,rf,e_c,i9,zQ,n6,me,eV,jL,yT,nk,uF,vS,q1,q2,q3,q4,q5,wR,nJ,e_next,J1,k6,zP,JU,lq,jN,rn,DK,e,JP,oK,oM]
theorem ftO(q:((x == "num")=kt/\(x == "text")=kt/\(x == "lost")=kt/\(x == "at")=kt/\(x == "minus")=kt/\(aT.lookup x).isSome=jp))(h:∃st',cG n [.tup (.str x::ws)] st= .ok (.str t) st'/\Gr st st'):
  ∃st',aF (n+1) [.tup (.str x::ws)] st= .ok (.str t) st'/\Gr st st':=by
 obtain⟨st',e,g⟩:=h;obtain⟨q1,q2,q3,q4,q5,q6⟩:=q;refine⟨st',?_,g⟩;rw[dP];unfold bf d_;have k6:DO kt aT (.str x) st= .ok (.bl jp) st:=by rw[DP,q6];rfl
 simp only[bz,iD,aZ,qi,de,iC,aD,jM,DJ,rj,rh,rf,e_c,i9,zQ,n6,me,eV,jL,yT,nk,uF,vS,q1,q2,q3,q4,q5,wR,nJ,uE,e_next,J1,k6,zP,JU,lq,jN,rn,DK,e,JP,oK,oM]
theorem UR(h:¬(x∈(["sum","count","least","greatest","find"]:List S)))(st:Hs):bU [.str x] st= .ok (.bl kt) st:=by
 have e:eG (.str x) (.j5 [.str "sum",.str "count",.str "least",.str "greatest",.str "find"]) st= .ok (.bl kt) st:=by
  show Re.ok (Wv.bl (([.str "sum",.str "count",.str "least",.str "greatest",.str "find"]:List Wv).any λz=>wz z (.str x))) st=_;have:(([.str "sum",.str "count",.str "least",.str "greatest",.str "find"]:List Wv).any λz=>wz z (.str x))=false:=by rw[List.any_eq_false];intro w hw hq;simp only[i_,jO,or_false]at hw;rcases hw with rfl |rfl |rfl |rfl |rfl<;>exact h (by rw[<-eq_of_beq hq];decide+kernel)
  rw[this]
 unfold bU bf lA;simp[e]
theorem Y2(h:(([.str "sum",.str "count",.str "least",.str "greatest",.str "find"]:List Wv).any λz=>wz z (.str x))=jp)(st:Hs):bU [.str x] st= .ok (.bl jp) st:=by
 have e:eG (.str x) (.j5 [.str "sum",.str "count",.str "least",.str "greatest",.str "find"]) st= .ok (.bl jp) st:=by show Re.ok (Wv.bl (([.str "sum",.str "count",.str "least",.str "greatest",.str "find"]:List Wv).any λz=>wz z (.str x))) st=_;rw[h]
 unfold bU bf lA;simp[e]
theorem O1(h:l.ok)(n:Nat):Ft (n+1) (.leaf l):=λst=>by
 refine⟨st,?_,Gr.refl⟩;show aF (n+1) [.tup l.v] st= .ok (.str l.t) st;rw[dP];unfold bf d_;cases l with
 |num i=>have a1:aV (.tup [.str "num",.int i]) (.int 1) st= .ok (.int i) st:=cw rfl;simp[Lf.v,n6,a1,iH,-yA,yS h.1 h.2,Lf.t]
 |txt s=>have h':s.length<=40:=h.1;have a1:aV (.tup [.str "text",.str s]) (.int 1) st= .ok (.str s) st:=cw rfl;have e:("\"":S).length=1:=rfl;have b1:aX (.str "\"") (.str s) st= .ok (.str ("\""++s)) st:=eM (by rw[e];unfold lim;omega);have b2:aX (.str ("\""++s)) (.str "\"") st= .ok (.str ("\""++s++"\"")) st:=eM (by rw[aG,e];unfold lim;omega);simp[Lf.v,n6,a1,iH,b1,b2,Lf.t]
 |FY r c p q=>have a1:aV (.tup [.str "at",.tup [.int r,.int c],.tup [pin p,pin q]]) (.int 1) st= .ok (.tup [.int r,.int c]) st:=cw rfl;have a2:aV (.tup [.str "at",.tup [.int r,.int c],.tup [pin p,pin q]]) (.int 2) st= .ok (.tup [pin p,pin q]) st:=cw rfl;have h':inR r c:=h;simp[Lf.v,n6,a1,a2,iH,mN h',Lf.t]
 |iw=>simp[Lf.v,n6,iH,Lf.t]
theorem KS(h:Pt n f)(hl:f.T.length<=5000):Ft (n+1) (.minus f):=λst=>by obtain⟨st',e,g⟩:=h 5 st;refine⟨st',?_,g⟩;show aF (n+1) [.tup [.str "minus",f.w]] st= .ok (.str ("-"++par (decide (f.lv < 5)) f.T)) st';have l:=m7 (decide (f.lv < 5)) f.T;have b:aX (.str "-") (.str (par (decide (f.lv < 5)) f.T)) st'= .ok (.str ("-"++par (decide (f.lv < 5)) f.T)) st':=eM (by rw[e_m];unfold lim;omega);generalize par (decide (f.lv < 5)) f.T=t at e b;have a1:aV (.tup [.str "minus",f.w]) (.int 1) st= .ok f.w st:=cw rfl;rw[dP];unfold bf d_;simp[n6,a1,iH,e,b]
variable{a:Nat}
theorem US(h:3 * (a+1)<=n):∃m,n=m+3/\3 * a<=m:=⟨n - 3,by omega,by omega⟩
theorem dp2{b:Nat}(h:3 * (max a b+1)<=n):∃m,n=m+3/\3 * a<=m/\3 * b<=m:=by obtain⟨m,e,q⟩:=US h;exact⟨m,e,aA (s_ 3 (Ea a b)) q,aA (s_ 3 (yU a b)) q⟩
theorem dp3{b c:Nat}(h:3 * (max a (max b c)+1)<=n):∃m,n=m+3/\3 * a<=m/\3 * b<=m/\3 * c<=m:=by obtain⟨m,e,q⟩:=US h;exact⟨m,e,aA (s_ 3 (Ea a _)) q,aA (s_ 3 (aA (Ea b c) (yU a _))) q,aA (s_ 3 (aA (yU b c) (yU a _))) q⟩
theorem Eb(h:a+1<=60):a<=60:=Nat.le_of_succ_le h
theorem sz2{b:Nat}(h:a+b+1<=60):a<=60/\b<=60:=⟨aA (jW a b) (Eb h),aA (m8 b a) (Eb h)⟩
theorem sz3{b c:Nat}(h:a+b+c+1<=60):a<=60/\b<=60/\c<=60:=⟨aA (jW a b) (aA (jW (a+b) c) (Eb h)),aA (m8 b a) (aA (jW (a+b) c) (Eb h)),aA (m8 c (a+b)) (Eb h)⟩
theorem lz1(h:f.ok)(hz:f.sz+1<=60):f.T.length+20<=5000:=by have:=Fm.len h;omega
theorem Y3(h:f.ok)(hz:f.sz+1<=60):f.T.length<=5000:=aA (jW _ _) (lz1 h hz)
theorem lz2(h:f.ok/\g.ok)(hz:f.sz+g.sz+1<=60):f.T.length+g.T.length+20<=5000:=by have:=Fm.len h.1;have:=Fm.len h.2;omega
theorem lz3{k:Fm}(h:f.ok/\g.ok/\k.ok)(hz:f.sz+g.sz+k.sz+1<=60):f.T.length+g.T.length+k.T.length+20<=5000:=by have:=Fm.len h.1;have:=Fm.len h.2.1;have:=Fm.len h.2.2;omega
variable{a:S}
theorem js2{b:S}(h:a.length+b.length+20<=5000):(a++", "++b).length<=5000:=by rw[aG,aG,Cw];omega
theorem js3{b c:S}(h:a.length+b.length+c.length+20<=5000):(a++", "++(b++", "++c)).length<=5000:=by rw[aG,aG,aG,aG,Cw];omega
theorem Y4{b:S}(h:a.length+b.length+20<=5000):a.length+(b.length+0)<=5000:=by omega
theorem adQ{b c:S}(h:a.length+b.length+c.length+20<=5000):a.length+(b.length+(c.length+0))<=5000:=by omega
variable{a:Ar}
theorem lnA(h:f.ok/\a.ok)(hz:f.sz+1<=60):f.T.length+a.t.length+20<=5000:=by have:=Fm.len h.1;have:=Ar.len h.2;omega
theorem lnB(h:a.ok):a.t.length<=5000:=aA (Ar.len h) (by decide)
theorem O2{w:Fin 4}(h:a.ok)(m:Nat)(st:Hs):∃st',aF (m+2) [.tup (.str (aw w)::a.v)] st= .ok (.str (aw w++"("++a.t++")")) st'/\Gr st st':=by
 have q:((aw w == "num")=kt/\(aw w == "text")=kt/\(aw w == "lost")=kt/\(aw w == "at")=kt/\(aw w == "minus")=kt/\(aT.lookup (aw w)).isSome=kt)/\aB.lookup (aw w)=bv (.int 0)/\(([.str "sum",.str "count",.str "least",.str "greatest",.str "find"]:List Wv).any λz=>wz z (.str (aw w)))=true:=by
  match w with
  | 0=>exact⟨by decide+kernel,rfl,by decide+kernel⟩
  | 1=>exact⟨by decide+kernel,rfl,by decide+kernel⟩
  | 2=>exact⟨by decide+kernel,rfl,by decide+kernel⟩
  | 3=>exact⟨by decide+kernel,rfl,by decide+kernel⟩
 exact Y1 q.1 (xt (fs:=[]) (a:=a) (kR (k:=0) q.2.1 (by show ¬f7 3 (bv 1) (bv (1+0));decide+kernel) rfl) (Y2 q.2.2) (AI (k:=0) q.2.1 (by show ¬f7 3 (bv (1+0)) gV;decide+kernel) rfl) h (λ_ z=>by cases z) (dz _) (lnB h) (lnB h) (aA (Cu w) (by decide)) st)
theorem ft(f:Fm):f.ok->f.sz<=60->∀n,3 * f.dp<=n->Ft n f:=by
 induction f with
 |leaf l=>intro h hz n hn;obtain⟨m,rfl,_⟩:=US (a:=0) hn;exact O1 h _
 |eK w a=>intro h hz n hn st;obtain⟨m,rfl,_⟩:=US (a:=0) hn;exact O2 h (m+1) st
 |find f a ih=>
  intro h hz n hn st;obtain⟨m,rfl,hm⟩:=US hn;have q:=ih h.1 (Eb hz) (m+1) (lE hm);have l:=lnA h hz;exact Y1 (x:="find") (by decide+kernel) (xt (fs:=[f]) (a:=a) (kR (k:=1) rfl (by show ¬f7 4 (bv 1) (bv (1+1));decide+kernel) rfl) (Y2 (by decide+kernel)) (AI (k:=1) rfl (by show ¬f7 4 (bv (1+1)) gV;decide+kernel) rfl) h.2 (λg z=>by rw[lw.mp z];exact q) (m8 1 2)
   (Y4 l) (js2 l) (by decide+kernel) st)
 |minus f ih=>intro h hz n hn;obtain⟨m,rfl,hm⟩:=US hn;have l:=Y3 (f:=f) h hz;exact KS (pt (ih h (Eb hz) (m+1) (lE hm)) l) l
 |nt f ih=>intro h hz n hn st;obtain⟨m,rfl,hm⟩:=US hn;have l:=Y3 (f:=f) h hz;have q:=ih h (Eb hz) (m+1) (lE hm);exact Y1 (x:="not") (by decide+kernel) (vr (fs:=[f]) (kR (k:=1) rfl (by show ¬f7 2 (bv 1) (bv (1+1));decide+kernel) rfl) (UR (by decide+kernel)) (λg z=>by rw[lw.mp z];exact q) (m8 1 2) l l (by decide+kernel) st)
 |bin o f g ih1 ih2=>intro h hz n hn st;obtain⟨m,rfl,h1,h2⟩:=dp2 hn;have z:=sz2 hz;have l:=aA (jW _ 20) (lz2 h hz);have q1:=pt (ih1 h.1 z.1 m h1) (aA (jW _ _) l);have q2:=pt (ih2 h.2 z.2 m h2) (aA (m8 _ _) l);exact ftO (x:=o.s) (by cases o<;>decide+kernel) (UP q1 q2 l st)
 |two w f g ih1 ih2=>
  intro h hz n hn st;obtain⟨m,rfl,h1,h2⟩:=dp2 hn;have z:=sz2 hz;have l:=lz2 h hz;have q1:=ih1 h.1 z.1 (m+1) (lE h1);have q2:=ih2 h.2 z.2 (m+1) (lE h2);exact Y1 (x:=tw w) (by cases w<;>decide+kernel) (vr (fs:=[f,g]) (kR (k:=2) (by cases w<;>rfl) (by show ¬f7 3 (bv 1) (bv (1+2));decide+kernel) rfl) (UR (by cases w<;>decide+kernel)) (pc.mpr ⟨q1,pc.mpr ⟨q2,λ_ z=>by cases z⟩⟩) (m8 2 1)
   (Y4 l) (js2 l) (by rw[tw_len];decide) st)
 |iff f g k ih1 ih2 ih3=>
  intro h hz n hn st;obtain⟨m,rfl,h1,h2,h3⟩:=dp3 hn;have z:=sz3 hz;have l:=lz3 h hz;have q1:=ih1 h.1 z.1 (m+1) (lE h1);have q2:=ih2 h.2.1 z.2.1 (m+1) (lE h2);have q3:=ih3 h.2.2 z.2.2 (m+1) (lE h3);have r:=Y1 (x:="if") (ws:=[f.w,g.w,k.w]) (by decide+kernel) (vr (fs:=[f,g,k]) (kR (k:=3) rfl (by show ¬f7 4 (bv 1) (bv (1+3));decide+kernel) rfl) (UR (by decide+kernel)) (pc.mpr ⟨q1,pc.mpr ⟨q2,pc.mpr ⟨q3,λ_ z=>by cases z⟩⟩⟩) (av 3)
   (adQ l) (js3 l) (by decide+kernel) st)
  obtain⟨st',e,g'⟩:=r;refine⟨st',?_,g'⟩;show aF (m+3) [.tup [.str "if",f.w,g.w,k.w]] st= .ok (.str ("if"++"("++(f.T++", "++g.T++", "++k.T)++")")) st';rw[e];show Re.ok (Wv.str ("if"++"("++(f.T++", "++(g.T++", "++k.T))++")")) st'=_;rw[Cr (f.T++", ") g.T,Cr (f.T++", "),Cr g.T]
variable{ws:List Wd}
theorem Wr.lo{k k':Int}(w:Wr h k f ws)(hk:k'<=k):Wr h k' f ws:=by
 cases w with
 |brk w=>exact .brk w
 |leaf=>exact .leaf
 |eK=>exact .eK
 |find w=>exact .find w
 |nt w=>exact .nt w
 |two w1 w2=>exact .two w1 w2
 |iff w1 w2 w3=>exact .iff w1 w2 w3
 |minus q w=>exact .minus (Bt hk q) w
 |bin q w1 w2=>exact .bin (Bt hk q) w1 w2
theorem Wr.hi{k:Int}(w:Wr h k f ws):∀{h':Nat},h<=h'->Wr h' k f ws:=by
 induction w with
 |brk w ih=>intro h' q;obtain⟨m,rfl⟩:∃m,h'=m+1:=⟨h' - 1,by omega⟩;exact .brk (ih (by omega))
 |leaf=>intro h' q;exact .leaf
 |eK=>intro h' q;obtain⟨m,rfl⟩:∃m,h'=m+1:=⟨h' - 1,by omega⟩;exact .eK
 |find w ih=>intro h' q;obtain⟨m,rfl⟩:∃m,h'=m+1:=⟨h' - 1,by omega⟩;exact .find (ih (by omega))
 |nt w ih=>intro h' q;obtain⟨m,rfl⟩:∃m,h'=m+1:=⟨h' - 1,by omega⟩;exact .nt (ih (by omega))
 |two w1 w2 ih1 ih2=>intro h' q;obtain⟨m,rfl⟩:∃m,h'=m+1:=⟨h' - 1,by omega⟩;exact .two (ih1 (by omega)) (ih2 (by omega))
 |iff w1 w2 w3 ih1 ih2 ih3=>intro h' q;obtain⟨m,rfl⟩:∃m,h'=m+1:=⟨h' - 1,by omega⟩;exact .iff (ih1 (by omega)) (ih2 (by omega)) (ih3 (by omega))
 |minus q w ih=>intro h' z;exact .minus q (ih z)
 |bin q w1 w2 ih1 ih2=>intro h' z;exact .bin q (ih1 z) (ih2 z)
def lP(ws:List Wd):Prop:=∀w∈ws,jb w
theorem lP.nil:lP []:=λ_ h=>by cases h
theorem lP.cons{w:Wd}{ws:List Wd}(a:jb w)(b:lP ws):lP (w::ws):=λv hv=>by
 rcases List.mem_cons.mp hv with rfl |z
 ·exact a
 ·exact b v z
variable{us:List Wd}
theorem lP.app(a:lP us)(b:lP vs):lP (us++vs):=λv hv=>by
 rcases wS.mp hv with z |z
 ·exact a v z
 ·exact b v z
theorem UT:jb (.sg "("):=by show("(":S)∈SW;decide+kernel
theorem UU:jb (.sg ")"):=by show(")":S)∈SW;decide+kernel
theorem Y5:jb (.sg ","):=by show(",":S)∈SW;decide+kernel
theorem s_m:jb (.sg "-"):=by show("-":S)∈SW;decide+kernel
theorem s_b(o:BO):jb (.sg o.s):=by show o.s∈SW;cases o<;>decide+kernel
theorem c_f:jb (.cl "find"):=by show("find":S)∈CW;decide+kernel
theorem c_n:jb (.cl "not"):=by show("not":S)∈CW;decide+kernel
theorem c_i:jb (.cl "if"):=by show("if":S)∈CW;decide+kernel
theorem c_t(w:Bool):jb (.cl (tw w)):=by show tw w∈CW;cases w<;>decide+kernel
theorem c_a:∀w:Fin 4,jb (.cl (aw w)):=by
 have:∀w:Fin 4,aw w∈CW:=by decide+kernel
 exact this
theorem xu(b:Bool):oQ (nA b):=by cases b;exact .inl rfl;exact .inr rfl
theorem KU(h:a.ok):jb a.wd:=⟨h,xu _,xu _,xu _,xu _⟩
theorem Qg(h:l.ok):jb l.wd:=by
 cases l with
 |num i=>exact h
 |txt s=>exact h
 |FY r c p q=>exact⟨h,xu p,xu q⟩
 |iw=>exact trivial
theorem KW{k:Int}(w:Wr h k f ws):f.ok->lP ws:=by
 induction w with
 |brk w ih=>intro ok;exact .cons UT ((ih ok).app (.cons UU .nil))
 |leaf=>intro ok;exact .cons (Qg ok) .nil
 |eK=>intro ok;exact .cons (c_a _) (.cons UT (.cons (KU ok) (.cons UU .nil)))
 |find w ih=>intro ok;exact .cons c_f (.cons UT ((ih ok.1).app (.cons Y5 (.cons (KU ok.2) (.cons UU .nil)))))
 |nt w ih=>intro ok;exact .cons c_n (.cons UT ((ih ok).app (.cons UU .nil)))
 |two w1 w2 ih1 ih2=>intro ok;exact .cons (c_t _) (.cons UT ((ih1 ok.1).app (.cons Y5 ((ih2 ok.2).app (.cons UU .nil)))))
 |iff w1 w2 w3 ih1 ih2 ih3=>intro ok;exact .cons c_i (.cons UT ((ih1 ok.1).app (.cons Y5 ((ih2 ok.2.1).app (.cons Y5 ((ih3 ok.2.2).app (.cons UU .nil)))))))
 |minus q w ih=>intro ok;exact .cons s_m (ih ok)
 |bin q w1 w2 ih1 ih2=>intro ok;exact(ih1 ok.1).app (.cons (s_b _) (ih2 ok.2))
theorem AJ(h:D8 vs):D8 (.sg x::vs):=by
 cases vs with
 |nil=>exact trivial
 |cons v r=>exact⟨λz=>(by cases z),h⟩
theorem lQ{x:S}{vs:List Wd}(h:D8 vs):∀{us:List Wd},D8 us->D8 (us++ .sg x::vs)
 |[],_=>AJ h
 |[w],_=>⟨λ_=>rfl,AJ h⟩
 |_::w::r,g=>⟨g.1,lQ h (us:=w::r) g.2⟩
theorem AK(h:D8 vs):D8 (.cl x:: .sg y::vs):=⟨λ_=>rfl,AJ h⟩
theorem UW{k:Int}(w:Wr h k f ws):D8 ws:=by
 have n:D8 []:=trivial
 induction w with
 |brk w ih=>exact AJ (lQ n ih)
 |leaf=>exact trivial
 | @eK h k w a=>exact AK (lQ (us:=[a.wd]) n trivial)
 | @find h k f a ws w ih=>exact AK (lQ (lQ (us:=[a.wd]) n trivial) ih)
 |nt w ih=>exact AK (lQ n ih)
 |two w1 w2 ih1 ih2=>exact AK (lQ (lQ n ih2) ih1)
 |iff w1 w2 w3 ih1 ih2 ih3=>exact AK (lQ (lQ (lQ n ih3) ih2) ih1)
 |minus q w ih=>exact AJ ih
 |bin q w1 w2 ih1 ih2=>exact lQ ih2 ih1
variable{r:List Wd}
theorem F6(h:d+1<=40):qL (.sg "("::r) d=qL r (d+1):=by
 conv=>lhs;unfold qL
 have e1:dI (.sg "(") "("=true:=Ky;have e2:dI (.sg "(") ")"=false:=by decide+kernel
 rw[e1,e2];show(if 40 < d+1 - 0 then kt else qL r (d+1 - 0))=_;rw[OK (by omega),Int.sub_zero]
theorem F7(h:d<=41):qL (.sg ")"::r) d=qL r (d - 1):=by
 conv=>lhs;unfold qL
 have e1:dI (.sg ")") "("=false:=by decide+kernel
 have e2:dI (.sg ")") ")"=true:=Ky;rw[e1,e2];show(if 40 < d+0 - 1 then kt else qL r (d+0 - 1))=_;rw[OK (by omega),Int.add_zero]
def xv(w:Wd):Bool:=!(dI w "(")&& !(dI w ")")
theorem qe{w:Wd}(hw:xv w=jp)(h:d<=40):qL (w::r) d=qL r d:=by
 unfold xv at hw;rw[cZ,qN,qN]at hw
 conv=>lhs;unfold qL
 rw[hw.1,hw.2];show(if 40 < d+0 - 0 then kt else qL r (d+0 - 0))=_;rw[OK (by omega),Int.add_zero,Int.sub_zero]
theorem O3:xv (.sg ",")=true:=by decide+kernel
theorem adR:xv (.sg "-")=true:=by decide+kernel
theorem adS(o:BO):xv (.sg o.s)=true:=by cases o<;>decide+kernel
theorem adT(l:Lf):xv l.wd=true:=by cases l<;>rfl
theorem Y6{k:Int}(w:Wr h k f ws):∀(d:Int)(rest:List Wd),d+h<=40->qL (ws++rest) d=qL rest d:=by
 induction w with
 | @brk h k f ws w ih=>intro d rest hd;rw[de,dm,F6 (by omega),ih _ _ (by omega)];show qL (.sg ")"::rest) (d+1)=_;rw[F7 (by omega),vt]
 |leaf=>intro d rest hd;exact qe (adT _) (by omega)
 |eK=>intro d rest hd;show qL (.cl _:: .sg "("::Ar.wd _:: .sg ")"::rest) d=_;rw[qe rfl (by omega),F6 (by omega),qe rfl (by omega),F7 (by omega),vt]
 | @find h k f a ws w ih=>intro d rest hd;rw[de,de,dm,qe rfl (by omega),F6 (by omega),ih _ _ (by omega)];show qL (.sg ","::a.wd:: .sg ")"::rest) (d+1)=_;rw[qe O3 (by omega),qe rfl (by omega),F7 (by omega),vt]
 |nt w ih=>intro d rest hd;rw[de,de,dm,qe rfl (by omega),F6 (by omega),ih _ _ (by omega)];show qL (.sg ")"::rest) (d+1)=_;rw[F7 (by omega),vt]
 |two w1 w2 ih1 ih2=>intro d rest hd;rw[de,de,dm,qe rfl (by omega),F6 (by omega),ih1 _ _ (by omega),de,qe O3 (by omega),dm,ih2 _ _ (by omega)];show qL (.sg ")"::rest) (d+1)=_;rw[F7 (by omega),vt]
 |iff w1 w2 w3 ih1 ih2 ih3=>intro d rest hd;rw[de,de,dm,qe rfl (by omega),F6 (by omega),ih1 _ _ (by omega),de,qe O3 (by omega),dm,ih2 _ _ (by omega),de,qe O3 (by omega),dm,ih3 _ _ (by omega)];show qL (.sg ")"::rest) (d+1)=_;rw[F7 (by omega),vt]
 |minus q w ih=>intro d rest hd;rw[de,qe adR (by omega),ih _ _ hd]
 |bin q w1 w2 ih1 ih2=>intro d rest hd;rw[dm,ih1 _ _ hd,de,qe (adS _) (by omega),ih2 _ _ hd]
theorem O4(w:Wr h 1 f ws)(ok:f.ok)(hh:h<=38)(sp:Sp ws L)(hl:L.length<=90000)(hw:ws.length<=2000):unR (tx L)= .ok f.w:=by
 have lx:qK (tx L)= .ok ws:=by unfold qK;rw[OK (by rw[dc];omega),dE];exact lex sp (KW w ok) (UW w) 0 90001 rfl (by omega)
 have br:qL ws 0=true:=by have:=Y6 w 0 [] (by omega);rw[fT]at this;rw[this];rfl
 have pt:=part_of hw ((YM hw w 159 (by omega)).2 (by decide)) 0 [] (by rw[Ir,fT]) rfl;have pt':(jU 160 ws).2.2.2 0= .ok (f.w,0+ws.length):=pt;unfold unR;rw[lx];dsimp only;rw[OK (by omega),Os br,pt'];dsimp only;rw[Os];rw[Nat.zero_add,Bv];rfl
theorem Sp.app{M:List Nat}(a:Sp us L)(b:Sp vs M):Sp (us++vs) (L++M):=by
 induction a with
 |nil=>exact b
 |bl _ ih=>exact .bl ih
 |wd _ ih=>rw[dm];exact .wd ih
theorem Sp.one(w:Wd):Sp [w] (sZ w):=by
 have:=Sp.wd (w:=w) Sp.nil
 rwa [fT]at this
theorem Sp.ow{w:Wd}(h:x.cps.toList=sZ w):Sp [w] x.cps.toList:=by rw[h];exact .one w
def hU(ws:List Wd)(z:S):Prop:=Sp ws z.cps.toList
theorem hU.app(a:hU us x)(b:hU vs y):hU (us++vs) (x++y):=by unfold hU;rw[fe];exact Sp.app a b
theorem hU.w{w:Wd}{x:S}(h:x.cps.toList=sZ w):hU [w] x:=Sp.ow h
theorem hU.b:hU [] " ":=by
 have e:(" ":S).cps.toList=[32]:=by decide+kernel
 unfold hU;rw[e];exact .bl .nil
theorem hU.k:hU [.sg ","] ", ":=by
 have e:(", ":S).cps.toList=sZ (.sg ",")++[32]:=by decide+kernel
 unfold hU;rw[e];exact .wd (.bl .nil)
theorem KY(b:Bool):(dl b).cps.toList=OT (nA b):=by cases b<;>decide+kernel
theorem Cy{r:Int}(p q:Bool):(gj r c p q).cps.toList=bS r c (nA p) (nA q):=by unfold gj bS jV;rw[fe,fe,fe,KY,KY];show OT (nA q)++[97+c.toNat]++OT (nA p)++oR (r+1)=_;simp
theorem KZ(l:Lf):l.t.cps.toList=sZ l.wd:=by
 cases l with
 |num i=>rfl
 |txt s=>
  show(("\"":S)++s++"\"").cps.toList=34::(s.cps.toList++[34]);have e:("\"":S).cps.toList=[34]:=by decide+kernel
  rw[fe,fe,e];rfl
 |FY r c p q=>exact Cy p q
 |iw=>decide+kernel
theorem Cz(a:Ar):a.t.cps.toList=sZ a.wd:=by
 show(gj a.a a.b a.p a.q++":"++gj a.c a.d a.r a.s).cps.toList=bS a.a a.b (nA a.p) (nA a.q)++58::bS a.c a.d (nA a.r) (nA a.s);have e:(":":S).cps.toList=[58]:=by decide+kernel
 rw[fe,fe,Cy,Cy,e];simp
theorem Qh(o:BO):1<=o.lv/\o.lv<=5:=by cases o<;>decide
theorem vw(f:Fm):1<=f.lv/\f.lv<=5:=by
 have adU:(1:Int)<=5/\(5:Int)<=5:=by decide
 cases f with
 |bin o f g=>exact Qh o
 |_=>exact adU
def TxW(h:Nat)(k:Int)(f:Fm)(n:Nat)(z:S):Prop:=∃ws,Wr h k f ws/\hU ws z/\ws.length<=n
theorem K0(q:TxW h f.lv f n z)(k:Int):TxW (h+1) k f (n+2) (par (decide (f.lv < k)) z):=by
 obtain⟨ws,w,s,l⟩:=q;by_cases c:f.lv < k
 ·rw[decide_eq_true c];refine⟨.sg "("::(ws++[.sg ")"]),.brk (w.lo (vw f).1),?_,by simp;omega⟩;show hU ([.sg "("]++(ws++[.sg ")"])) ("("++z++")");rw[<-dm];exact((hU.w rfl).app s).app (hU.w rfl)
 ·rw[decide_eq_false c];exact⟨ws,(w.lo (by omega)).hi (by omega),s,by omega⟩
theorem UX(f:Fm):TxW (2 * f.dp) f.lv f (8 * f.sz) f.T:=by
 induction f with
 |leaf l=>exact⟨_,.leaf,hU.w (KZ l),by show 1<=8 * 1;decide⟩
 |eK w a=>refine⟨_,(Wr.eK (h:=0)).hi (by show 0+1<=2 * 1;decide),?_,by show 4<=8 * 1;decide⟩;show hU (((([.cl (aw w)]:List Wd)++[.sg "("])++[a.wd])++[.sg ")"]) (aw w++"("++a.t++")");exact(((hU.w rfl).app (hU.w rfl)).app (hU.w (Cz a))).app (hU.w rfl)
 |find f a ih=>obtain⟨ws,w,s,l⟩:=ih;refine⟨_,(Wr.find (w.lo (vw f).1)).hi (by show 2 * f.dp+1<=2 * (f.dp+1);omega),?_,by show _<=8 * (f.sz+1);simp;omega⟩;show hU (.cl "find":: .sg "("::(ws++[.sg ",",a.wd,.sg ")"])) ("find"++"("++(f.T++", "++a.t)++")");have b:=(((hU.w (w:=.cl "find") (x:="find") rfl).app (hU.w (w:=.sg "(") (x:="(") rfl)).app ((s.app hU.k).app (hU.w (Cz a)))).app (hU.w (w:=.sg ")") (x:=")") rfl);simpa using b
 |minus f ih=>obtain⟨ws,w,s,l⟩:=K0 ih 5;refine⟨_,(Wr.minus (vn _) w).hi (by show 2 * f.dp+1<=2 * (f.dp+1);omega),?_,by show _<=8 * (f.sz+1);simp;omega⟩;show hU ([.sg "-"]++ws) ("-"++_);exact(hU.w rfl).app s
 |nt f ih=>obtain⟨ws,w,s,l⟩:=ih;refine⟨_,(Wr.nt (w.lo (vw f).1)).hi (by show 2 * f.dp+1<=2 * (f.dp+1);omega),?_,by show _<=8 * (f.sz+1);simp;omega⟩;show hU ([.cl "not"]++([.sg "("]++(ws++[.sg ")"]))) ("not"++"("++f.T++")");rw[<-dm,<-dm];exact(((hU.w rfl).app (hU.w rfl)).app s).app (hU.w rfl)
 |bin o f g ih1 ih2=>obtain⟨us,w1,s1,l1⟩:=K0 ih1 o.lv;obtain⟨vs,w2,s2,l2⟩:=K0 ih2 (o.lv+1);refine⟨_,.bin (vn _) (w1.hi (by show 2 * f.dp+1<=2 * (max f.dp g.dp+1);omega)) (w2.hi (by show 2 * g.dp+1<=2 * (max f.dp g.dp+1);omega)),?_,by show _<=8 * (f.sz+g.sz+1);simp;omega⟩;show hU (us++([.sg o.s]++vs)) (_++" "++o.s++" "++_);rw[<-dm];have e:∀x:List Wd,x++[]=x:=fT;have a:=(((s1.app hU.b).app (hU.w (w:=.sg o.s) rfl)).app hU.b).app s2;rw[e,e]at a;exact a
 |two w f g ih1 ih2=>obtain⟨us,w1,s1,l1⟩:=ih1;obtain⟨vs,w2,s2,l2⟩:=ih2;refine⟨_,(Wr.two ((w1.lo (vw f).1).hi (h':=2 * max f.dp g.dp) (by omega)) ((w2.lo (vw g).1).hi (by omega))).hi (by show _+1<=2 * (max f.dp g.dp+1);omega),?_,by show _<=8 * (f.sz+g.sz+1);simp;omega⟩;show hU (.cl (tw w):: .sg "("::(us++ .sg ","::(vs++[.sg ")"]))) (tw w++"("++(f.T++", "++g.T)++")");have a:=(((hU.w (w:=.cl (tw w)) rfl).app (hU.w (w:=.sg "(") (x:="(") rfl)).app ((s1.app hU.k).app s2)).app (hU.w (w:=.sg ")") (x:=")") rfl);simpa using a
 |iff f g e ih1 ih2 ih3=>obtain⟨us,w1,s1,l1⟩:=ih1;obtain⟨vs,w2,s2,l2⟩:=ih2;obtain⟨xs,w3,s3,l3⟩:=ih3;refine⟨_,(Wr.iff ((w1.lo (vw f).1).hi (h':=2 * max f.dp (max g.dp e.dp)) (by omega)) ((w2.lo (vw g).1).hi (by omega)) ((w3.lo (vw e).1).hi (by omega))).hi (by show _+1<=2 * (max f.dp (max g.dp e.dp)+1);omega),?_,by show _<=8 * (f.sz+g.sz+e.sz+1);simp;omega⟩;show hU (.cl "if":: .sg "("::(us++ .sg ","::(vs++ .sg ","::(xs++[.sg ")"])))) ("if"++"("++(f.T++", "++g.T++", "++e.T)++")");have a:=(((hU.w (w:=.cl "if") (x:="if") rfl).app (hU.w (w:=.sg "(") (x:="(") rfl)).app ((((s1.app hU.k).app s2).app hU.k).app s3)).app (hU.w (w:=.sg ")") (x:=")") rfl);simpa using a
def Fm.ks:Fm->List Fm
 |.leaf _=>[]
 |.eK _ _=>[]
 |.find f _=>[f]
 |.minus f=>[f]
 |.nt f=>[f]
 |.bin _ f g=>[f,g]
 |.two _ f g=>[f,g]
 |.iff f g h=>[f,g,h]
theorem ks3(f:Fm):f.ks.length<=3:=by cases f<;>simp[Fm.ks]
def Fm.hd:Fm->S
 |.leaf (.num _)=>"num"
 |.leaf (.txt _)=>"text"
 |.leaf (.FY _ _ _ _)=>"at"
 |.leaf .iw=>"lost"
 |.eK w _=>aw w
 |.find _ _=>"find"
 |.minus _=>"minus"
 |.nt _=>"not"
 |.bin o _ _=>o.s
 |.two w _ _=>tw w
 |.iff _ _ _=>"if"
def Fm.tl:Fm->List Wv
 |.leaf l=>l.v.tail
 |.eK _ a=>a.v
 |.find _ a=>a.v
 |_=>[]
theorem shape(f:Fm):f.w= .tup (.str f.hd::(f.ks.map Fm.w++f.tl)):=by
 cases f with
 |leaf l=>cases l<;>rfl
 |_=>rfl
theorem adW(o:BO):aB.lookup o.s=bv (.int (2:Nat)):=by cases o<;>kernel_rfl
theorem Y7(f:Fm):aB.lookup f.hd=bv (.int (f.ks.length:Nat)):=by
 cases f with
 |leaf l=>cases l<;>kernel_rfl
 |eK w a=>exact YJ w
 |find f a=>exact YF
 |minus f=>kernel_rfl
 |nt f=>exact YG
 |bin o f g=>exact adW o
 |two w f g=>exact YI w
 |iff f g h=>exact YH
theorem node(f:Fm):(∀st,bT [f.w] st= .ok (.tup (f.ks.map Fm.w)) st)/\∀st,dw [f.w] st= .ok (.tup f.tl) st:=by have lk:=Y7 f;rw[shape f];have h:(f.ks.map Fm.w).length=f.ks.length:=bN _;exact⟨λst=>(Ut lk st).trans (by rw[List.take_left' h]),λst=>(Uu lk st).trans (by rw[List.drop_left' h])⟩
theorem Qi(p:Bool):oQ (if p then 1 else 0):=by cases p<;>simp[oQ]
theorem O5(h:f.ok)(st:Hs):∃st',cO [.str f.hd,.tup f.tl] st= .ok (.bl jp) st'/\Gr st st':=by
 have Y8:∀{x:S}{a:Ar},((x == "num")=kt/\(x == "text")=kt/\(x == "at")=kt)->x∈AF->a.ok->∃st',cO [.str x,.tup a.v] st= .ok (.bl jp) st'/\Gr st st':=by rintro x a ⟨n1,n2,n3⟩ ha ho;have r1:=oE (l:=[a.a,a.b,a.c,a.d]) (n:=4) rfl (by decide) st;have g1:Gr st (st++[.lst (aD 4 (.bl jp))]):=Gr.push;generalize st++[.lst (aD 4 (.bl jp))]=s1 at r1 g1;obtain⟨s2,e2,g2⟩:=Ai (l:=[if a.p then 1 else 0,if a.q then 1 else 0,if a.r then 1 else 0,if a.s then 1 else 0]) (n:=4) rfl (by decide) (by intro q hq;simp only[i_,jO,or_false]at hq;rcases hq with rfl |rfl |rfl |rfl<;>exact Qi _) s1;have i:=Oz (st:=s1) (show nv a.a a.b a.c a.d from ho);refine⟨s2,?_,g1.trans g2⟩;have hr:bG [.tup [.int a.a,.int a.b,.int a.c,.int a.d],.int 4] st= .ok (.bl jp) s1:=r1;have hp:fF [.tup [pin a.p,pin a.q,pin a.r,pin a.s],.int 4] s1= .ok (.bl jp) s2:=e2;unfold cO bf jd Ar.v;simp[n1,n2,n3,u_,ha,p7,n6,LP,hr,i,hp]
 have F8:∀{x:S},((x == "num")=kt/\(x == "text")=kt/\(x == "at")=kt)/\x∉AF->∃st',cO [.str x,.tup []] st= .ok (.bl jp) st'/\Gr st st':=by rintro x ⟨⟨n1,n2,n3⟩,ha⟩;refine⟨st,?_,Gr.refl⟩;unfold cO bf jd;simp[n1,n2,n3,u_,ha,p7]
 cases f with
 |leaf l=>
  cases l with
  |num i=>obtain⟨h0,h1⟩:0<=i/\i<=AX:=h;refine⟨st,?_,Gr.refl⟩;show cO [.str "num",.tup [.int i]] st=_;unfold cO bf jd;simp[p7,n6,Ah,p60,h0,h1]
  |txt s=>
   obtain⟨s1,e1,g1⟩:=OA (show FJ s from h) st;refine⟨s1,?_,g1⟩;show cO [.str "text",.tup [.str s]] st=_;have n1:(("text":S) == "num")=false:=by decide+kernel
   unfold cO bf jd;simp[n1,p7,n6,e1]
  |FY a b q r=>
   have r1:=oE (l:=[a,b]) (n:=2) rfl (by decide) st;have g1:Gr st (st++[.lst (aD 2 (.bl jp))]):=Gr.push;generalize st++[.lst (aD 2 (.bl jp))]=s1 at r1 g1;obtain⟨s2,e2,g2⟩:=Ai (l:=[if q then 1 else 0,if r then 1 else 0]) (n:=2) rfl (by decide) (by intro z hz;simp only[i_,jO,or_false]at hz;rcases hz with rfl |rfl<;>exact Qi _) s1;have i:=va (st:=s1) (show oC a b from h);refine⟨s2,?_,g1.trans g2⟩;have hr:bG [.tup [.int a,.int b],.int 2] st= .ok (.bl jp) s1:=r1;have hp:fF [.tup [pin q,pin r],.int 2] s1= .ok (.bl jp) s2:=e2;have n1:(("at":S) == "num")=false:=by decide+kernel
   have n2:(("at":S) == "text")=false:=by decide+kernel
   show cO [.str "at",.tup [.tup [.int a,.int b],.tup [pin q,pin r]]] st=_;unfold cO bf jd;simp[n1,n2,p7,n6,LP,hr,i,hp]
  |iw=>exact F8 (x:="lost") (by decide+kernel)
 |eK w a=>
  have q:∀w:Fin 4,(aw w == "num")=kt/\(aw w == "text")=kt/\(aw w == "at")=false:=by decide+kernel
  exact Y8 (q w) (YK w) h
 |find f a=>exact Y8 (x:="find") (by decide+kernel) YL h.2
 |minus f=>exact F8 (x:="minus") (by decide+kernel)
 |nt f=>exact F8 (x:="not") (by decide+kernel)
 |bin o f g=>exact F8 (x:=o.s) (by cases o<;>decide+kernel)
 |two w f g=>exact F8 (x:=tw w) (by cases w<;>decide+kernel)
 |iff f g h=>exact F8 (x:="if") (by decide+kernel)
theorem K1(h:f.ok)(st:Hs):∃st',jo [f.w] st= .ok (.bl jp) st'/\Gr st st':=by
 obtain⟨n1,n2⟩:=node f;obtain⟨s1,e1,g1⟩:=O5 h st;have lk:=Y7 f;refine⟨s1,?_,g1⟩;have w0:∀st:Hs,aV f.w (.int 0) st= .ok (.str f.hd) st:=λ_=>by rw[shape f];exact n6
 have t0:∀st:Hs,jG jD fW [f.w,.ty "tuple"] st= .ok (.bl jp) st:=λ_=>by rw[shape f];rfl
 obtain⟨n,l0,b0'⟩:∃n:Int,(∀st:Hs,dH [f.w] st= .ok (.int n) st)/\(n == 0)=false:=⟨(((f.ks.map Fm.w++f.tl).length+1:Nat):Int),λ_=>by rw[shape f];rfl,beq_false_of_ne (by omega)⟩;have pm:=λst:Hs=>mY (st:=st) lk;unfold jo bf uW;simp[t0,l0,b0',w0,str_is,lk,n1,p7,pm,n2,e1]
theorem vx{L A:Nat}{all:List Wv}(hne:L≠A):∀(fs:List Fm)(acc:List Wv)(o2:Option Wv)(st:Hs),(∀f∈fs,f.ok)->st[A]? =bv (.lst acc)->ax st L=bv all->acc.length+3 * fs.length<=1000->
  ∃o2' st',forL 2 dU L all (fs.map Fm.w) [bv (.ref L),bv (.ref A),o2] st= .nx [bv (.ref L),bv (.ref A),o2'] st'/\a9 A st st'/\st'[A]? =bv (.lst (acc++(fs.flatMap Fm.ks).map Fm.w))
 |[],acc,o2,st,_,hA,_,_=>⟨o2,st,rfl,a9.refl,by simpa []using hA⟩
 |f::r,acc,o2,st,ho,hA,hL,hl=>by
  have hl':acc.length+3 * (r.length+1)<=1000:=hl;have k3:=ks3 f;obtain⟨n1,_⟩:=node f;have ex:=J8 (zs:=f.ks.map Fm.w) hA (by rw[bN];unfold lim;omega);have kk:a9 A st (st.set A (.lst (acc++f.ks.map Fm.w))):=a9.set;have hA2:=cx (o':=.lst (acc++f.ks.map Fm.w)) hA;have hL2:=kk.lst hL hne;generalize st.set A (.lst (acc++f.ks.map Fm.w))=s1 at ex kk hA2 hL2;have e1:dU ([bv (.ref L),bv (.ref A),o2].set 2 (bv f.w)) st= .nx [bv (.ref L),bv (.ref A),bv f.w] s1:=by have km:=λga=>DM (mt:=uw) (ga:=ga) (ρ:=[bv (.ref L),bv (.ref A),bv f.w]) (bo hA);unfold dU;simp[km,n1,ex]
  obtain⟨o2',s2,e2,k2,h2⟩:=vx hne r (acc++f.ks.map Fm.w) (bv f.w) s1 (λg hg=>ho g (bw _ hg)) hA2 hL2 (by rw[bh,bN];omega);refine⟨o2',s2,?_,kk.trans k2,by rw[h2];simp[]⟩;rw[bz];unfold forL;rw[e1];simp only[Os hL2];exact e2
theorem AL{L:Nat}(ho:∀f∈fs,f.ok)(hl:fs.length<=300)(h:st[L]? =bv (.lst (fs.map Fm.w))):
  ∃st',f_ [.ref L] st= .ok (.ref st.length) st'/\Gr st st'/\st'[st.length]? =bv (.lst ((fs.flatMap Fm.ks).map Fm.w)):=by
 have hL:L < st.length:=b_ h;have h1:ax (st++[.lst []]) L=bv (fs.map Fm.w):=bo (aP h);obtain⟨o2,s1,e1,k1,g1⟩:=vx (L:=L) (A:=st.length) (all:=fs.map Fm.w) (by omega) fs [] gV (st++[.lst []]) ho aR h1 (by simp;omega);have zw:kFor 2 dU [bv (.ref L),bv (.ref st.length),gV] (.ref L) (st++[.lst []])= .nx [bv (.ref L),bv (.ref st.length),o2] s1:=by rw[uH h1];exact e1
 refine⟨s1,?_,Gr.uJ (av _) Gr.push k1,by simpa using g1⟩;unfold f_ bf nN;simp[zw]
variable{k:Nat}
theorem F9{cs:i8}{ws:List Wv}(h0:ax st k=bv ws)(h1:∀v∈ws,∀s,gt (bv v::gT cs ρ) s= .ok jp s)
  (h2:∀v∈ws,∀s,∃s',ge (bv v::gT cs ρ) s= .ok (.bl jp) s'/\Gr s s')(hl:ws.length < lim):∃st',dj cs gt ge ρ (bv k,ws) st= .ok (.ref st.length) st'/\Gr st st'/\ax st' st.length=bv (aD ws.length (.bl jp)):=by
 obtain⟨st',acc,e,p,g,he,hlen⟩:=mX (w:=(bv k,ws)) (gt:=λv=>gt (bv v::gT cs ρ)) (ge:=λv=>ge (bv v::gT cs ρ)) (rr:=st.length) (λs=>Gr st s) (λu=>u= .bl jp)
  (λs acc h=>Gr.uJ (av _) h a9.set) (λs h=>h.lst h0) ws (λv hv s acc hp hg=>by obtain⟨s',e',g'⟩:=h2 v hv s;exact⟨s,h1 v hv s,hp,hg,_,s',e',rfl,hp.trans g',g'.get hg⟩) [] (st++[.lst []]) Gr.push aR (by simpa using hl) (λ_ z=>by cases z)
 refine⟨st',?_,p,?_⟩
 ·unfold dj;dsimp only;rw[e]
 ·rw[bo g]
  congr 1
  have:acc.length=ws.length:=by simpa using hlen
  rw[<-this];exact List.eq_replicate_iff.mpr ⟨rfl,he⟩
def Ec:List Fm->Nat
 |[]=>0
 |f::r=>f.sz+Ec r
theorem Ed:∀{a b:List Fm},Ec (a++b)=Ec a+Ec b
 |[],b=>by simp[Ec]
 |f::r,b=>by show f.sz+Ec (r++b)=f.sz+Ec r+Ec b;rw[Ed,Nat.add_assoc]
theorem Y9(f:Fm):f.sz=Ec f.ks+1:=by cases f<;>simp only[Fm.sz,Fm.ks,Ec]<;>omega
theorem Qj(h:g∈f.ks):g.dp+1<=f.dp:=by
 cases f<;>simp only[Fm.ks,i_,jO,or_false]at h<;>simp only[Fm.dp]
 ·subst h;omega
 ·subst h;omega
 ·subst h;omega
 ·rcases h with rfl |rfl<;>omega
 ·rcases h with rfl |rfl<;>omega
 ·rcases h with rfl |rfl |rfl<;>omega
theorem O6(f:Fm):1<=f.dp:=by cases f<;>simp only[Fm.dp]<;>omega
theorem Qk(ok:f.ok)(h:g∈f.ks):g.ok:=by
 cases f<;>simp only[Fm.ks,i_,jO,or_false]at h
 ·subst h;exact ok.1
 ·subst h;exact ok
 ·subst h;exact ok
 ·rcases h with rfl |rfl;exact ok.1;exact ok.2
 ·rcases h with rfl |rfl;exact ok.1;exact ok.2
 ·rcases h with rfl |rfl |rfl;exact ok.1;exact ok.2.1;exact ok.2.2
theorem Ee:∀fs:List Fm,Ec (fs.flatMap Fm.ks)+fs.length=Ec fs
 |[]=>rfl
 |f::r=>by rw[K3,Ed,aZ];show _=f.sz+Ec r;have:=Ee r;have:=Y9 f;omega
theorem xw{F:Wv}:∀(N:Nat)(fs:List Fm)(p d:Int)(M k:Nat)(st:Hs),(∀f∈fs,f.ok)->0<=p->p+(Ec fs:Nat)<=60->(∀f∈fs,d+(f.dp:Nat)<=12)->d<=12->13<=d+(N:Nat)->N < M->st[k]? =bv (.lst (fs.map Fm.w))->
  ∃ρ st',AW (gK (ae 1)) dB M [bv F,bv (.ref k),bv (.int p),bv (.int d)] st= .nx (bv F::ρ) st'/\Gr st st'
 | 0,_,_,_,_,_,_,_,_,_,_,_,_,_,_=>by omega
 |N+1,fs,p,d,M,k,st,ok,p0,hz,hd,h1,hN,hM,hk=>by
  obtain⟨M,rfl⟩:∃m,M=m+1:=⟨M - 1,by omega⟩;have tl:=Qa (bo hk);have sn:=Ee fs;cases hf:fs with
  |nil=>rw[hf]at tl;exact⟨[_,_,_],st,p9 (by simp[tl]),Gr.refl⟩
  |cons f r=>
  have ne:(!(fs.map Fm.w).isEmpty)=true:=by rw[hf];rfl
  have d1:d+1<=12:=by have:=hd f (by rw[hf];exact aY);have:=O6 f;omega
  rw[ne]at tl;obtain⟨s1,e1,g1,l1⟩:=F9 (cs:=[]) (gt:=jq) (ge:=gO) (ρ:=[bv F,bv (.ref k),bv (.int (p+fs.length)),bv (.int (d+1))]) (bo hk) (λ_ _ _=>rfl) (λv hv s=>by obtain⟨f,hf,rfl⟩:=u8.mp hv;obtain⟨s',e',g'⟩:=K1 (ok f hf) s;refine⟨s',?_,g'⟩;unfold gO;simp[e']) (by rw[bN];unfold lim;omega);have al:=sT l1;obtain⟨s2,e2,g2,h2⟩:=AL ok (by omega) (g1.get hk);obtain⟨ρ,s3,e3,g3⟩:=xw (F:=F) N (fs.flatMap Fm.ks) (p+fs.length) (d+1) M s1.length s2 (λg hg=>by
   obtain⟨x,hx,hg⟩:=List.mem_flatMap.mp hg;exact Qk (ok x hx) hg) (by omega) (by omega) (λg hg=>by
   obtain⟨x,hx,hg⟩:=List.mem_flatMap.mp hg;have:=Qj hg;have:=hd x hx;omega) d1 (by omega) (by omega) h2
  refine⟨ρ,s3,?_,g1.trans (g2.trans g3)⟩;have ln:dH [.ref k] st= .ok (.int (fs.length:Nat)) st:=by rw[DL (bo hk),bN]
  have tt:gK (ae 1) [bv F,bv (.ref k),bv (.int p),bv (.int d)] st= .ok jp st:=by simp[tl]
  have c1:¬60 < p+(fs.length:Int):=by omega
  have c2:¬12 < d+1:=by omega
  have a1:jH (λi j=>i+j) 2 (aH dH (aa (ae 1) ag)) [bv F,bv (.ref k),bv (.int p),bv (.int d)] st= .nx [bv F,bv (.ref k),bv (.int (p+fs.length)),bv (.int d)] st:=by unfold jH;simp[ln,zF]
  have a2:jH (λi j=>i+j) 3 (gC (.int 1)) [bv F,bv (.ref k),bv (.int (p+fs.length)),bv (.int d)] st= .nx [bv F,bv (.ref k),bv (.int (p+fs.length)),bv (.int (d+1))] st:=by unfold jH;simp[zF]
  have body:dB [bv F,bv (.ref k),bv (.int p),bv (.int d)] st= .nx [bv F,bv (.ref s1.length),bv (.int (p+fs.length)),bv (.int (d+1))] s2:=by unfold dB;simp[a1,a2,c1,c2,Uk (bo hk),e1,al,e2]
  exact(ve tt body).trans e3
theorem UY(ok:f.ok)(hz:f.sz<=60)(hd:f.dp<=12)(st:Hs):∃st',fG [f.w] st= .ok f.w st'/\Gr st st':=by obtain⟨ρ,s1,e1,g1⟩:=xw (F:=f.w) 13 [f] 0 0 cC st.length (st++[.lst [f.w]]) (λg hg=>by rw[lw.mp hg];exact ok) (by decide) (by show(0:Int)+((f.sz+0:Nat):Int)<=60;omega) (λg hg=>by rw[lw.mp hg];omega) (by decide) (by decide) (by decide) aR;have zw:fV cC (gK (ae 1)) dB [bv f.w,bv (.ref st.length),bv (.int 0),bv (.int 0)] (st++[.lst [f.w]])=_:=e1;refine⟨s1,?_,Gr.push.trans g1⟩;unfold fG bf my;simp[-Yd,zw]
variable{m:Nat}
theorem O7{l:List Int}(h:l.length<=300):pl (m+2) (tI l):=⟨by rw[bN];exact h,λv hv=>by obtain⟨i,_,rfl⟩:=u8.mp hv;exact trivial⟩
theorem Y_(m:Nat)(a:Ar):∀v∈a.v,pl (m+2) v:=λv hv=>by
 simp only[Ar.v,i_,jO,or_false]at hv;rcases hv with rfl |rfl
 ·exact O7 (l:=[a.a,a.b,a.c,a.d]) (by decide:4<=300)
 ·exact O7 (l:=[_,_,_,_]) (by decide:4<=300)
theorem plF:∀(n:Nat)(f:Fm),f.ok->f.dp+2<=n->pl n f.w
 | 0,f,_,h=>by omega
 | 1,f,_,h=>by have:=O6 f;omega
 | 2,f,_,h=>by have:=O6 f;omega
 |n+3,f,ok,h=>by
  rw[shape f];refine⟨?_,λv hv=>?_⟩
  ·have:=ks3 f;have:f.tl.length<=2:=by
    cases f with
    |leaf l=>cases l<;>exact jY (by kernel_rfl)
    |eK w a=>exact av 2
    |find f a=>exact av 2
    |_=>exact dz _
   simp only[aZ,bh,bN];omega
  rw[i_,wS]at hv;rcases hv with rfl |hv |hv
  ·show f.hd.length<=1000;cases f with
   |leaf l=>cases l<;>exact jY (by kernel_rfl)
   |eK w a=>have:=Cu w;show(aw w).length<=1000;omega
   |bin o f g=>show o.s.length<=1000;rw[Cv];decide
   |two w f g=>show(tw w).length<=1000;rw[tw_len];decide
   |_=>exact jY (by kernel_rfl)
  ·obtain⟨g,hg,rfl⟩:=u8.mp hv;have:=Qj hg;exact plF (n+2) g (Qk ok hg) (by omega)
  ·cases f with
   |leaf l=>
    cases l with
    |num i=>rw[lw.mp hv];exact trivial
    |txt s=>rw[lw.mp hv];have:s.length<=40:=ok.1;show s.length<=1000;omega
    |FY r c p q=>
     rcases List.mem_cons.mp hv with rfl |hv
     ·exact O7 (l:=[r,c]) (by decide:2<=300)
     rw[lw.mp hv];exact O7 (l:=[_,_]) (by decide:2<=300)
    |iw=>cases hv
   |eK w a=>exact Y_ n a v hv
   |find f a=>exact Y_ n a v hv
   |_=>cases hv
theorem qf(w:Wr h 1 f ws)(ok:f.ok)(hz:f.sz<=60)(hd:f.dp<=12)(hh:h<=38)(sp:Sp ws L)(hl:L.length<=90000)(hw:ws.length<=2000)(st:Hs):∃st',cN [.str (tx L)] st= .ok f.w st'/\Gr st st':=by have q:=vZ (tx L) st;rw[O4 w ok hh sp hl hw]at q;obtain⟨s1,e1,g1⟩:=q;obtain⟨s2,e2,g2⟩:=UY ok hz hd s1;refine⟨s2,?_,g1.trans g2⟩;have zw:dy [.str (tx L)] st= .ok f.w s1:=e1;unfold cN bf mI;simp[zw,e2]
def wA(ak:List Wv->Hs->Re Wv):GS:=(aO 3 (ao 1 eJ (aa (ae 0) ag)))
def wB(ak:List Wv->Hs->Re Wv):GS:=(aO 4 (af aV (ae 0) (gC (.int 0))))
def K4(ak:List Wv->Hs->Re Wv):GS:=(aq (cR (aW (af oLt (ae 3) (ae 1))) (aO 5 (af aX (af aX (b8 (aa (gC (.str "[")) ag)) (ae 5)) (b8 (aa (gC (.str "]")) ag)))) aN)
 (aq (cR (og (aW (af lU (ae 2) (b8 ag))) (aW (af oEq (ao 2 az (aa (ae 2) (aa (gC (.int 3)) ag))) (gC (.int 1))))) (aO 5 (af aX (af aX (b8 (aa (gC (.str "[")) ag)) (ae 5)) (b8 (aa (gC (.str "]")) ag)))) aN)
 (aQ (ae 5))))
def Wh(ak:List Wv->Hs->Re Wv):GT:=(aW (af eG (ae 4) (b8 (aa (gC (.str "sum")) (aa (gC (.str "count")) (aa (gC (.str "least")) (aa (gC (.str "greatest")) ag)))))))
def Y'(ak:List Wv->Hs->Re Wv):GS:=(aO 5 (b8 (aa (ae 4) (aa (gC (.str "(")) (aa (ao 2 bx (aa (af aV (ae 0) (gC (.int 1))) (aa (af aV (ae 0) (gC (.int 2))) ag))) (aa (gC (.str ")")) ag))))))
def Wi(ak:List Wv->Hs->Re Wv):GT:=(aW (af eG (ae 4) (b8 (aa (gC (.str "num")) (aa (gC (.str "text")) (aa (gC (.str "at")) (aa (gC (.str "lost")) ag)))))))
def Za(ak:List Wv->Hs->Re Wv):GS:=(aO 5 (b8 (aa (ao 1 bC (aa (ae 0) ag)) ag)))
def Ql(ak:List Wv->Hs->Re Wv):GT:=(aW (af oEq (ae 3) (gC (.int 5))))
def O8(ak:List Wv->Hs->Re Wv):GS:=(aO 5 (af aX (b8 (aa (gC (.str "-")) ag)) (ao 3 ak (aa (af aV (ae 0) (gC (.int 1))) (aa (gC (.int 5)) (aa (ae 2) ag))))))
def Qm(ak:List Wv->Hs->Re Wv):GT:=(aW (af oLt (ae 3) (gC (.int 5))))
def Qn(ak:List Wv->Hs->Re Wv):GS:=(aO 5 (af aX (af aX (ao 3 ak (aa (af aV (ae 0) (gC (.int 1))) (aa (ae 3) (aa (ae 2) ag)))) (b8 (aa (ae 4) ag))) (ao 3 ak (aa (af aV (ae 0) (gC (.int 2))) (aa (af aX (ae 3) (gC (.int 1))) (aa (ae 2) ag))))))
def O9(ak:List Wv->Hs->Re Wv):GS:=(aq (aO 5 (b8 (aa (ae 4) (aa (gC (.str "(")) ag))))
     (aq (vJ 6 (ao 1 cV (aa (ae 0) ag)) (dv ak))
     (aq (nE (gC (.str ")")) (ae 5) (af l5 (aH dH (aa (ae 5) ag)) (gC (.int 1))))
     (cR (aW (af oEq (ae 4) (gC (.str "find")))) (aO 5 (af aX (bA (ae 5) bP (cJ (MJ o_ (gC (.int 1))))) (b8 (aa (gC (.str ",")) (aa (ao 2 bx (aa (af aV (ae 0) (gC (.int 2))) (aa (af aV (ae 0) (gC (.int 3))) ag))) (aa (gC (.str ")")) ag)))))) aN))))
theorem O_(ak:List Wv->Hs->Re Wv):lr ak=aq (wA ak) (aq (wB ak) (aq (cR (Wh ak) (Y' ak) (cR (Wi ak) (Za ak) (cR (Ql ak) (O8 ak) (cR (Qm ak) (Qn ak) (O9 ak))))) (K4 ak))):=rfl
def Fm.ll:Fm->Int
 |.minus _=>5
 |.bin o _ _=>o.lv
 |_=>6
theorem BO.vw(o:BO):1<=o.lv/\o.lv<=4:=by cases o<;>decide
def LB:List S:=["["]
def RB:List S:=["]"]
def LV:List (L2.Key×Wv):=[(.inr "<",.int 1),(.inr "=",.int 1),(.inr "&",.int 2),(.inr "+",.int 3),(.inr "-",.int 3),(.inr "*",.int 4),(.inr "/",.int 4),(.inr "minus",.int 5)]
variable{ws:List Wv}
theorem level(h:(oo (eI [] LV) (.inr x)).getD (.int 6)= .int i):eJ [.tup (.str x::ws)] st= .ok (.int i) (st++[.dct (eI [] LV)]):=by
 unfold eJ bf pK;have e1:∀ρ:b7,pz [((gC (.str "<")),(gC (.int 1))),((gC (.str "=")),(gC (.int 1))),((gC (.str "&")),(gC (.int 2))),((gC (.str "+")),(gC (.int 3))),((gC (.str "-")),(gC (.int 3))),((gC (.str "*")),(gC (.int 4))),((gC (.str "/")),(gC (.int 4))),((gC (.str "minus")),(gC (.int 5)))] ρ st= .ok (.ref st.length) (st++[.dct (eI [] LV)]):=λρ=>by rw[J2 (kvs:=LV) (st2:=st++[.dct []]) rfl aR,sS]
 generalize hD:eI [] LV=D at e1 h;have e2:l9 (ae 1) (af aV (ae 0) (gC (.int 0))) (gC (.int 6)) [bv (.tup (.str x::ws)),bv (.ref st.length)] (st++[.dct D])= .ok (.int i) (st++[.dct D]):=by rw[DQ (l:=st.length) (k:=.str x) (x:=.int 6) (kk:=.inr x) (kvs:=D) (kvs':=D) rfl aR (by simp[n6]) rfl rfl aR,h]
 simp[e1,e2]
theorem lev(f:Fm)(st:Hs):∃st',eJ [f.w] st= .ok (.int f.ll) st'/\Gr st st':=by
 refine⟨st++[.dct (eI [] LV)],?_,Gr.push⟩;cases f with
 |leaf l=>cases l<;>exact level (by kernel_rfl)
 |eK w a=>
  match w with
  | 0=>exact level (by kernel_rfl)
  | 1=>exact level (by kernel_rfl)
  | 2=>exact level (by kernel_rfl)
  | 3=>exact level (by kernel_rfl)
 |find f a=>exact level (by kernel_rfl)
 |minus f=>exact level (by kernel_rfl)
 |nt f=>exact level (by kernel_rfl)
 |bin o f g=>cases o<;>exact level (by kernel_rfl)
 |two w f g=>cases w<;>exact level (by kernel_rfl)
 |iff f g h=>exact level (by kernel_rfl)
theorem Zb(l:List S)(h:S):((l.map Wv.str).any λz=>wz z (.str h))=decide (h∈l):=by
 rw[vb];simp only[List.any_eq_true,u8,decide_eq_true_eq];constructor
 ·rintro⟨_,⟨z,hz,rfl⟩,e⟩;have e':(z == h)=true:=e;have:=eq_of_beq e';subst this;exact hz
 ·intro hm;exact⟨_,⟨h,hm,rfl⟩,show(h == h)=jp from beq_self_eq_true h⟩
theorem UZ(l:List S):(l.map Wv.str).all cU=true:=by rw[oq];intro w hw;obtain⟨z,_,rfl⟩:=u8.mp hw;rfl
variable{l:Nat}
theorem adZ(h:ax st l=bv (ys.map Wv.str)):eG (.str x) (.ref l) st= .ok (.bl (decide (x∈ys))) st:=by
 show(match ax st l with |some ws=>if cU (.str x)=jp/\ws.all cU=jp then Re.ok (Wv.bl (ws.any λz=>wz z (.str x))) st else .bad |none=> .bad)=_
 rw[h];dsimp only;rw[Os ⟨rfl,UZ ys⟩,Zb]
theorem U0:eG (.str x) (.ref st.length) (st++[.lst (ys.map Wv.str)])= .ok (.bl (decide (x∈ys))) (st++[.lst (ys.map Wv.str)]):=adZ dq
section
variable {F:List Wv->Hs->Re Wv}{fw:Wv}{least lv:Int}{lo k:Nat}{x:S}{o5 o6:Option Wv}{st:Hs}
theorem yV:Wh F [bv fw,bv (.int least),bv (.ref lo),bv (.int lv),bv (.str x),o5,o6] st= .ok (decide (x∈(["sum","count","least","greatest"]:List S))) (st++[.lst ((["sum","count","least","greatest"]:List S).map Wv.str)]):=by have e:=U0 (st:=st) (x:=x) (ys:=(["sum","count","least","greatest"]:List S));simp only[bz,iD]at e ⊢;unfold Wh;simp only[uF,rj,rh,rf,oK,oM,i9,zQ,wU,lq,e_c,jN,rn,JR,e,me,wR]
theorem Ef:Wi F [bv fw,bv (.int least),bv (.ref lo),bv (.int lv),bv (.str x),o5,o6] st= .ok (decide (x∈(["num","text","at","lost"]:List S))) (st++[.lst ((["num","text","at","lost"]:List S).map Wv.str)]):=by have e:=U0 (st:=st) (x:=x) (ys:=(["num","text","at","lost"]:List S));simp only[bz,iD]at e ⊢;unfold Wi;simp only[uF,rj,rh,rf,oK,oM,i9,zQ,wU,lq,e_c,jN,rn,JR,e,me,wR]
theorem yW:Ql F [bv fw,bv (.int least),bv (.ref lo),bv (.int lv),bv (.str x),o5,o6] st= .ok (lv == 5) st:=by unfold Ql;simp
theorem Eg:Qm F [bv fw,bv (.int least),bv (.ref lo),bv (.int lv),bv (.str x),o5,o6] st= .ok (decide (lv < 5)) st:=by unfold Qm;simp
theorem rX{a b:Nat}{xs:List S}(h1:st[a]? =bv (.lst (xs.map Wv.str)))(h2:st[b]? =bv (.lst (ys.map Wv.str)))(hl:xs.length+ys.length<=10000):aX (.ref a) (.ref b) st= .ok (.ref st.length) (st++[.lst ((xs++ys).map Wv.str)]):=by rw[add_l (bo h1) (bo h2) (by simp only[bN];unfold lim;omega),lD]
end
theorem ad0:¬f7 (n+1) (bv 1) none:=by intro h;have h1:HT.ff (n+1) 0 (bv 1)=0:=h.1;have h2:=HT.mO (n+1) 0 1;have e:((1:Nat):Int)=1:=rfl;rw[e,h1]at h2;omega
theorem Zc{x:Wv}:i7 (x::ws) (bv 1) gV=ws:=by
 unfold i7;have h2:=HT.mO (x::ws).length 0 1;have e:((1:Nat):Int)=1:=rfl;rw[e]at h2;have e2:min 1 (x::ws).length=1:=by rw[aZ];omega
 rw[h2,e2,HT.tH];simp
theorem Zd{x:Wv}:i7 (ws++[x]) gV (bv (-1))=ws:=by
 unfold i7;have e:HT.ff (ws++[x]).length (ws++[x]).length (bv (-1))=ws.length:=by show(if(-1:Int) < 0 then(-1+((ws++[x]).length:Int)).toNat else min (-1:Int).toNat (ws++[x]).length)=_;rw[Os (by decide),bh,j4];omega
 rw[e,HT.tH];simp
theorem F_(st:Hs):cV [(Fm.find f a).w] st= .ok (.ref st.length) (st++[.lst [f.w]]):=by have a1:aV (.tup (.str "find"::f.w::a.v)) (.int 1) st= .ok f.w st:=cw (L2.eZ (j:=1) rfl);show cV [.tup (.str "find"::f.w::a.v)] st=_;unfold cV bf mi;simp[n6,a1,iH]
theorem F'(h1:(x == "find")=kt)(h2:¬x∈(["num","text","lost","at","sum","count","least","greatest"]:List S))(st:Hs):∃k st',cV [.tup (.str x::ws)] st= .ok (.ref k) st'/\Gr st st'/\st.length<=k/\st'[k]? =bv (.lst ws):=by have e:=U0 (st:=st) (x:=x) (ys:=(["num","text","lost","at","sum","count","least","greatest"]:List S));rw[decide_eq_false h2]at e;simp only[bz,iD]at e;generalize hs1:st++[Ob.lst [Wv.str "num",.str "text",.str "lost",.str "at",.str "sum",.str "count",.str "least",.str "greatest"]]=st1 at e;have g1:Gr st st1:=hs1 ▸ Gr.push;have sl:kq (.tup (.str x::ws)) (bv 1) gV st1= .ok (.tup ws) st1:=AE (λh=>absurd h ad0) (λ_=>Zc);have li:yk [.tup ws] st1= .ok (.ref st1.length) (st1++[.lst ws]):=rfl;refine⟨st1.length,st1++[.lst ws],?_,g1.trans Gr.push,g1.1,aR⟩;unfold cV bf mi;simp only[bz,iD,aZ,qi,de,iC,aD,jM,rj,rh,rf,e_c,i9,zQ,n6,me,eV,jL,nk,uF,vS,h1,wR,nJ,e_next,zP,lq,jN,rn,wU,Uh,hs1,e,JP,oK,oM,yy,Om,Yj,Uj,Oo,JX,sl,li]
def Wt(t:S)(w:Wd):Prop:=(t="["/\w= .sg "(")\/(t="]"/\w= .sg ")")\/(t≠"["/\t≠"]"/\t.cps.toList=sZ w)
inductive Tw:List S->List Wd->Prop
 |nil:Tw [] []
 |cons {t:S}{w:Wd}{ts:List S}{ws:List Wd}:Wt t w->Tw ts ws->Tw (t::ts) (w::ws)
theorem Tw.app{a b:List S}(h:Tw a us)(k:Tw b vs):Tw (a++b) (us++vs):=by
 induction h with
 |nil=>exact k
 |cons h _ ih=>exact .cons h ih
variable{w:Wd}
theorem Tw.one(h:Wt t w):Tw [t] [w]:=.cons h .nil
theorem Tw.len{a:List S}(h:Tw a us):us.length=a.length:=by
 induction h with
 |nil=>rfl
 |cons _ _ ih=>rw[aZ,aZ,ih]
theorem K5(h1:t≠"[")(h2:t≠"]")(h3:t.cps.toList=sZ w):Wt t w:=.inr (.inr ⟨h1,h2,h3⟩)
theorem ad3:Wt "[" (.sg "("):=.inl ⟨rfl,rfl⟩
theorem ad4:Wt "]" (.sg ")"):=.inr (.inl ⟨rfl,rfl⟩)
theorem lbr:("[":S).cps.toList=[91]/\("]":S).cps.toList=[93]:=by decide+kernel
theorem U1(h3:t.cps.toList=sZ w)(c:Nat)(r:List Nat)(e:sZ w=c::r)(hc:c≠91/\c≠93):Wt t w:=by
 refine K5 (λz=>?_) (λz=>?_) h3
 ·rw[z,lbr.1,e]at h3;cases h3;exact hc.1 rfl
 ·rw[z,lbr.2,e]at h3;cases h3;exact hc.2 rfl
def Ze(x:S):Bool:=match x.cps.toList with
 |c::_=> !(ja c 91)&& !(ja c 93)
 |[]=>kt
theorem Eh(h:Ze x=jp):x≠"["/\x≠"]":=by constructor<;>(rintro rfl;revert h;decide+kernel)
theorem K6:(CW++SW).all Ze=true:=by decide+kernel
theorem AM(h:x∈SW):Wt x (.sg x):=by have:=Eh (List.all_eq_true.mp K6 x (iB _ h));exact K5 this.1 this.2 rfl
theorem AN(h:x∈CW):Wt x (.cl x):=by have:=Eh (List.all_eq_true.mp K6 x (xC _ h));exact K5 this.1 this.2 rfl
theorem Zf(ok:jb w)(hn:Qc w=jp\/∃s,w= .txt s)(h:t.cps.toList=sZ w):Wt t w:=by
 rcases hn with hn |⟨s,rfl⟩
 ·rcases Cq ok hn with ⟨n,rfl⟩ |⟨⟨c,r,e,_⟩,al⟩
  ·have dg:=Ay (i:=n) ok.1;cases hf:oR n with
   |nil=>exact absurd hf (KA ok.1)
   |cons c r=>exact U1 h c r hf (by have:=dg c (by rw[hf];exact aY);omega)
  ·refine U1 h c r e ?_;have:=al c (by rw[e];exact aY);rw[qM]at this;omega
 ·exact U1 h 34 _ rfl (by decide)
theorem Pa{l:Lf}(ok:l.ok):Wt l.t l.wd:=by
 refine Zf (Qg ok) ?_ (KZ l);cases l with
 |txt s=>exact .inr ⟨s,rfl⟩
 |_=>exact .inl rfl
theorem Ei(ok:a.ok):Wt a.t a.wd:=Zf (KU ok) (.inl rfl) (Cz a)
theorem K7:Wt "(" (.sg "("):=AM UT
theorem U2:Wt ")" (.sg ")"):=AM UU
theorem Pb:Wt "," (.sg ","):=AM Y5
def Wq(k:Int)(f:Fm)(W:List S):Prop:=(∃ws,Wr (3 * f.dp) k f ws/\Tw W ws)/\W.length<=10 * f.sz
def Wm(f:Fm)(W:List S):Prop:=(∃ws,Wr (3 * f.dp - 2) f.ll f ws/\Tw W ws)/\W.length+4<=10 * f.sz
def CA(n:Nat)(f:Fm):Prop:=∀(least:Int)(lo:Nat)(a:Int)(st:Hs),1<=least->least<=5->st[lo]? =bv (.lst [.int a])->∃k a' W st',au n [f.w,.int least,.ref lo] st= .ok (.ref k) st'/\a9 lo st st'/\st'[lo]? =bv (.lst [.int a'])/\st.length<=k/\st'[k]? =bv (.lst (W.map Wv.str))/\Wq least f W
theorem Zg(f:Fm):1<=f.ll:=by
 cases f with
 |bin o f g=>exact(Qh o).1
 |minus f=>show(1:Int)<=5;decide
 |_=>show(1:Int)<=6;decide
def Gi(b:Bool)(W:List S):List S:=if b=jp then(LB++W)++RB else W
theorem yX(b:Bool)(W:List S):(Gi b W).length<=W.length+2:=by
 cases b
 ·exact jW _ _
 ·show((LB++W)++RB).length<=_;rw[bh,bh];show 1+W.length+1<=_;omega
variable{X:List S}
theorem Ej{k:Int}(w:Wr h k f us)(hk:1<=k)(t:Tw X us)(k':Int):∃vs,Wr (h+1) k' f vs/\Tw (Gi jp X) vs:=⟨.sg "("::(us++[.sg ")"]),.brk (w.lo hk),by show Tw ((LB++X)++RB) _;rw[dm];exact .cons ad3 (t.app (.one ad4))⟩
variable{W:List S}{least:Int}
theorem Wm.br(h:Wm f W)(h1:1<=least)(b:Bool):Wq least f (Gi b (Gi (decide (f.ll < least)) W)):=by
 obtain⟨⟨ws,w,t⟩,l⟩:=h;have d1:=O6 f;have q:∃us,Wr (3 * f.dp - 1) least f us/\Tw (Gi (decide (f.ll < least)) W) us:=by
  by_cases c:f.ll < least
  ·rw[decide_eq_true c];obtain⟨us,w1,t1⟩:=Ej w (Zg f) t least;exact⟨us,w1.hi (by omega),t1⟩
  ·rw[decide_eq_false c];exact⟨ws,(w.lo (by omega)).hi (by omega),t⟩
 obtain⟨us,w1,t1⟩:=q;have l1:=yX (decide (f.ll < least)) W;generalize Gi (decide (f.ll < least)) W=X at t1 l1 ⊢;refine⟨?_,aA (yX b X) (by omega)⟩;cases b with
 |false=>exact⟨us,w1.hi (by omega),t1⟩
 |true=>obtain⟨vs,w2,t2⟩:=Ej w1 h1 t1 least;exact⟨vs,w2.hi (by omega),t2⟩
variable{n many:Int}
theorem digit(h:st[l]? =bv (.lst [.int n]))(hm:many≠0/\many.natAbs.log2 < 9000):
  az [.ref l,.int many] st= .ok (.int (n.fmod many)) (st.set l (.lst [.int (n.fdiv many)])):=by
 have hl:ax st l=bv [.int n]:=by unfold ax;rw[h]
 have h0:L2.kX [Wv.int n] 0=bv (.int n):=rfl;unfold az bf pG;simp[pD hl h0,wW hm.1,yz hm,nE,M6,h,L2.xM]
theorem draw(many:Int)(h:st[l]? =bv (.lst [.int n]))(hp:0 < many)(hm:many<=1000):∃d n' st',az [.ref l,.int many] st= .ok (.int d) st'/\0<=d/\d < many/\a9 l st st'/\st'[l]? =bv (.lst [.int n']) :=
 ⟨_,_,_,digit h ⟨by omega,xS (BZ (k:=20) (b:=1000) (by omega) hm (by decide) (by decide)) (by decide)⟩,oN _ hp,oO _ hp,a9.set,cx h⟩
theorem pick(h:st[l]? =bv (.lst [.int n]))(hm:many≠0/\many.natAbs.log2 < 9000)(hp:0 < many)(hw:(ws.length:Int)=many):
  ∃v st',v∈ws/\az [.ref l,.int many] (st++[.lst ws])= .ok (.int (n.fmod many)) st'/\aV (.ref st.length) (.int (n.fmod many)) st'= .ok v st'/\a9 l st st'/\st'[l]? =bv (.lst [.int (n.fdiv many)]):=by
 have hl:l < st.length:=(np.mp h).1;obtain⟨v,e1,e2⟩:=zT (ws:=ws) (d:=n.fmod many) (oN _ hp) (by rw[hw];exact oO _ hp);refine⟨v,_,e2,digit (aP h) hm,pD (ws:=ws) ?_ e1,a9.push.trans a9.set,cx (aP h)⟩;have k:a9 l (st++[Ob.lst ws]) ((st++[Ob.lst ws]).set l (.lst [.int (n.fdiv many)])):=a9.set;exact k.lst dq (by omega)
theorem eK{st:Hs}{l:Nat}{n:Int}(h:st[l]? =bv (.lst [.int n])):∃(a b c d n':Int)(st':Hs),eu [.ref l] st= .ok (.tup [.int a,.int b,.int c,.int d]) st'/\a9 l st st'/\st'[l]? =bv (.lst [.int n'])/\nv a b c d:=by
 obtain⟨top,n1,s1,e1,t0,t1,k1,h1⟩:=draw 99 h (by decide) (by decide);obtain⟨left,n2,s2,e2,l0,l1,k2,h2⟩:=draw 26 h1 (by decide) (by decide);obtain⟨hi,n3,s3,e3,i0,i1,k3,h3⟩:=draw (99 - top) h2 (by omega) (by omega);have f1:lF (.int 300) (.int (1+hi)) s3= .ok (.int ((300:Int).fdiv (1+hi))) s3:=yz ⟨by omega,xS (BZ (k:=20) (b:=1000) (by omega) (by omega) (by decide) (by decide)) (by decide)⟩;have f2:1<=(300:Int).fdiv (1+hi):=by rw[U3 _ (by omega)];exact(Int.le_ediv_iff_mul_le (by omega)).mpr (by omega)
 have f3:(1+hi) * (300:Int).fdiv (1+hi)<=300:=by rw[U3 _ (by omega)];exact Int.mul_ediv_self_le (by omega)
 generalize (300:Int).fdiv (1+hi)=q at f1 f2 f3;generalize hm:(if q < 26 - left then q else 26 - left)=m;have m1:1<=m/\m<=26 - left/\m<=q:=by rw[<-hm];split<;>omega
 obtain⟨wi,n4,s4,e4,w0,w1,k4,h4⟩:=draw m h3 (by omega) (by omega);refine⟨top,left,top+(1+hi) - 1,left+(1+wi) - 1,n4,s4,?_,k1.trans (k2.trans (k3.trans k4)),h4,⟨t0,by omega,by omega,l0,by omega,by omega,?_⟩⟩
 rotate_left
 ·have e5:top+(1+hi) - 1 - top+1=1+hi:=by omega
  have e6:left+(1+wi) - 1 - left+1=1+wi:=by omega
  rw[e5,e6];exact Bt (Sl (by omega) (by omega)) f3
 unfold eu bf rB;simp[e1,e2,e3,f1,hm,e4]
theorem U4(h0:0<=d)(h1:d < 2):Wv.int d=pin (decide (d=1)):=by
 unfold pin;by_cases c:d=1
 ·subst c;rfl
 ·rw[decide_eq_false c];have:d=0:=by omega
  rw[this];rfl
theorem pins(m:Nat)(hm:m<=200)(h:st[l]? =bv (.lst [.int n])):∃(bs:List Bool)(n':Int)(st':Hs),cL [.ref l,.int (m:Int)] st= .ok (.tup (bs.map pin)) st'/\bs.length=m/\a9 l st st'/\st'[l]? =bv (.lst [.int n']):=by
 have hl:l < st.length:=b_ h;obtain⟨st',acc,e,⟨p1,n',p2⟩,g,he,hlen⟩:=mX (w:=(gV,eL 0 m)) (gt:=λv=>iQ (bv v::gT [("own",0)] [bv (.ref l),bv (.int (m:Int))]))
  (ge:=λv=>gz (bv v::gT [("own",0)] [bv (.ref l),bv (.int (m:Int))])) (rr:=st.length)
  (λs=>(st.length < s.length/\∀k,k < st.length->k≠l->s[k]? =st[k]?)/\∃n',s[l]? =bv (.lst [.int n'])) (λv=>∃b:Bool,v=pin b)
  (by
   rintro s acc ⟨⟨q0,q1⟩,n',q2⟩;refine⟨⟨by simpa using q0,λk h1 h2=>?_⟩,n',?_⟩
   ·rw[bM (by omega)];exact q1 k h1 h2
   ·rw[bM (by omega)];exact q2)
  (λs _=>trivial) (eL 0 m)
  (by
   rintro v hv s acc ⟨⟨q0,q1⟩,n',q2⟩ hg;refine⟨s,rfl,⟨⟨q0,q1⟩,n',q2⟩,hg,?_⟩;have d:=digit (many:=2) q2 (by decide);refine⟨.int (n'.fmod 2),s.set l (.lst [.int (n'.fdiv 2)]),?_,⟨_,U4 (oN _ (by decide)) (oO _ (by decide))⟩,⟨⟨by simpa using q0,λk h1 h2=>?_⟩,_,cx q2⟩,?_⟩
   ·unfold gz gT;simp[d]
   ·rw[bM (by omega)];exact q1 k h1 h2
   ·rw[bM (by omega)];exact hg)
  [] (st++[.lst []]) ⟨⟨by simp,λk h1 _=>gU h1⟩,n,aP h⟩ aR (by rw[dQ];show 0+m < lim;unfold lim;omega) (λ_ z=>by cases z)
 have:∀acc:List Wv,(∀a∈acc,∃b:Bool,a=pin b)->∃bs:List Bool,acc=bs.map pin:=by
  intro acc
  induction acc with
  |nil=>exact λ_=>⟨[],rfl⟩
  |cons a r ih=>intro h;obtain⟨bs,e1⟩:=ih λb hb=>h b (bw _ hb);obtain⟨b,rfl⟩:=h a aY;exact⟨b::bs,by rw[e1];rfl⟩
 obtain⟨bs,rfl⟩:=this acc he;rw[bN,dQ]at hlen;refine⟨bs,n',st',?_,by simpa using hlen,⟨sr p1.1,p1.2⟩,p2⟩;have cr:lS (m:Int):=B1 (by omega) (by omega);have ec:dj [("own",0)] iQ gz [bv (.ref l),bv (.int (m:Int))] (gV,eL 0 m) st= .ok (.ref st.length) st':=by unfold dj;dsimp only;rw[e]
 have tp:nH [.ref st.length] st'= .ok (.tup (bs.map pin)) st':=by
  show(match ax st' st.length with |some ws=>Re.ok (Wv.tup ws) st' |none=> .bad)=_
  rw[bo g]
 unfold cL bf rD;simp[BY cr,ec,tp]
theorem Zh(h:st[l]? =bv (.lst [.int n])):∃(p q:Bool)(n':Int)(st':Hs),cL [.ref l,.int 2] st= .ok (.tup [pin p,pin q]) st'/\a9 l st st'/\st'[l]? =bv (.lst [.int n']):=by
 obtain⟨bs,n',st',e,hb,k,g⟩:=pins 2 (by decide) h
 match bs,hb,e with
 |[p,q],_,e=>exact⟨p,q,n',st',e,k,g⟩
theorem Qo(h:st[l]? =bv (.lst [.int n])):∃(p q r s:Bool)(n':Int)(st':Hs),cL [.ref l,.int 4] st= .ok (.tup [pin p,pin q,pin r,pin s]) st'/\a9 l st st'/\st'[l]? =bv (.lst [.int n']):=by
 obtain⟨bs,n',st',e,hb,k,g⟩:=pins 4 (by decide) h
 match bs,hb,e with
 |[p,q,r,s],_,e=>exact⟨p,q,r,s,n',st',e,k,g⟩
theorem U5:∀c∈("ab zCZ019(),+-*/&<=:$'!~_{}@#":S).cps.toList,Sg c:=by decide+kernel
theorem Ek:∀{ys:List S},(∀y∈ys,∀c∈y.cps.toList,Sg c)->∀c∈(PySem.Str.join "" ys).cps.toList,Sg c
 |[],_=>λc z=>by have:(PySem.Str.empty).cps.toList=[]:=rfl;rw[show PySem.Str.join "" []=PySem.Str.empty from rfl,this]at z;cases z
 |[y],h=>λc z=>h y aY c z
 |y::z::r,h=>λc m=>by
  have e:(PySem.Str.join "" (y::z::r)).cps.toList=y.cps.toList++(PySem.Str.join "" (z::r)).cps.toList:=by
   show((y.cps++("":S).cps)++(PySem.Str.join "" (z::r)).cps).toList=_;have e0:("":S).cps.toList=[]:=by decide+kernel
   rw[Zi,Zi,e0,fT]
  rw[e]at m;rcases wS.mp m with q |q
  ·exact h y aY c q
  ·exact Ek (λy hy=>h y (bw _ hy)) c q
theorem chars(m:Nat)(hm:m<=200)(h:st[l]? =bv (.lst [.int n])):
  ∃(st':Hs)(n':Int)(ys:List S),dj [("signs",2),("own",0)] iR gE [bv (.ref l),bv (.int 1),bv (.str "ab zCZ019(),+-*/&<=:$'!~_{}@#"),o3,gV,gV,gV] (gV,eL 0 m) st= .ok (.ref st.length) st'/\a9 l st st'/\st'[l]? =bv (.lst [.int n'])/\ax st' st.length=bv (ys.map Wv.str)/\ys.length=m/\(∀y∈ys,PySem.Str.length y=1)/\∀y∈ys,∀c∈y.cps.toList,Sg c:=by
 have hl:l < st.length:=b_ h;have ls:("ab zCZ019(),+-*/&<=:$'!~_{}@#":PySem.Str).length=29:=rfl;obtain⟨st',acc,e,⟨p1,n',p2⟩,g,he,hlen⟩:=mX (w:=(gV,eL 0 m)) (gt:=λv=>iR (bv v::gT [("signs",2),("own",0)] [bv (.ref l),bv (.int 1),bv (.str "ab zCZ019(),+-*/&<=:$'!~_{}@#"),o3,gV,gV,gV]))
  (ge:=λv=>gE (bv v::gT [("signs",2),("own",0)] [bv (.ref l),bv (.int 1),bv (.str "ab zCZ019(),+-*/&<=:$'!~_{}@#"),o3,gV,gV,gV])) (rr:=st.length)
  (λs=>(st.length < s.length/\∀k,k < st.length->k≠l->s[k]? =st[k]?)/\∃n',s[l]? =bv (.lst [.int n'])) (λv=>∃ch:Nat,v= .str ⟨#[ch]⟩/\Sg ch)
  (by
   rintro s acc ⟨⟨q0,q1⟩,n',q2⟩;refine⟨⟨by simpa using q0,λk h1 h2=>?_⟩,n',?_⟩
   ·rw[bM (by omega)];exact q1 k h1 h2
   ·rw[bM (by omega)];exact q2)
  (λs _=>trivial) (eL 0 m)
  (by
   rintro v hv s acc ⟨⟨q0,q1⟩,n',q2⟩ hg;refine⟨s,rfl,⟨⟨q0,q1⟩,n',q2⟩,hg,?_⟩;have d:=digit (many:=29) q2 (by decide);obtain⟨ch,hcm,hch⟩:=Uq (z:="ab zCZ019(),+-*/&<=:$'!~_{}@#") (d:=n'.fmod 29) (by rw[ls];decide) (oN _ (by decide)) (by rw[ls];exact oO _ (by decide));refine⟨.str ⟨#[ch]⟩,s.set l (.lst [.int (n'.fdiv 29)]),?_,⟨ch,rfl,U5 ch hcm⟩,⟨⟨by simpa using q0,λk h1 h2=>?_⟩,_,cx q2⟩,?_⟩
   ·have hlen:dH [.str "ab zCZ019(),+-*/&<=:$'!~_{}@#"] s= .ok (.int 29) s:=rfl;unfold gE gT;simp[hlen,d,hch]
   ·rw[bM (by omega)];exact q1 k h1 h2
   ·rw[bM (by omega)];exact hg)
  [] (st++[.lst []]) ⟨⟨by simp,λk h1 _=>gU h1⟩,n,aP h⟩ aR (by rw[dQ];show 0+m < lim;unfold lim;omega) (λ_ z=>by cases z)
 have:∀acc:List Wv,(∀a∈acc,∃ch:Nat,a= .str ⟨#[ch]⟩/\Sg ch)->∃ys:List PySem.Str,acc=ys.map Wv.str/\(∀y∈ys,PySem.Str.length y=1)/\∀y∈ys,∀c∈y.cps.toList,Sg c:=by
  intro acc
  induction acc with
  |nil=>exact λ_=>⟨[],rfl,(λ_ z=>by cases z),λ_ z=>by cases z⟩
  |cons a r ih=>intro h;obtain⟨ys,e1,e2,e3⟩:=ih λb hb=>h b (bw _ hb);obtain⟨ch,rfl,hs⟩:=h a aY;exact⟨⟨#[ch]⟩::ys,by rw[e1];rfl,pc.mpr ⟨rfl,e2⟩,pc.mpr ⟨λc hc=>by rw[lw.mp hc];exact hs,e3⟩⟩
 obtain⟨ys,rfl,hy,YV⟩:=this acc he;refine⟨st',n',ys,?_,⟨sr p1.1,p1.2⟩,p2,bo g,?_,hy,YV⟩
 ·unfold dj;dsimp only;rw[e]
 ·rw[bN,dQ]at hlen;simpa using hlen
theorem AO:∀{ys:List PySem.Str},(∀y∈ys,PySem.Str.length y=1)->(ys.map (·.length)).sum=ys.length
 |[],_=>rfl
 |y::r,h=>by rw[bz,List.sum_cons,h y aY,AO λz hz=>h z (bw _ hz),aZ];omega
theorem leaf{st:Hs}{l:Nat}{n kind:Int}(h:st[l]? =bv (.lst [.int n]))(h0:0<=kind)(h5:kind < 5):∃(f:Fm)(n':Int)(st':Hs),gQ [.ref l,.int kind] st= .ok f.w st'/\a9 l st st'/\st'[l]? =bv (.lst [.int n'])/\f.ok/\f.sz=1/\f.dp=1:=by
 unfold gQ bf rF;by_cases w0:kind=0
 ·subst w0;obtain⟨v,st2,hv,e1,e2,k2,h2⟩:=pick (many:=3) (ws:=[.int 10,.int 1000,.int (AX+1)]) h (by decide) (by decide) rfl;obtain⟨x,rfl,hx0,hx1,hx⟩:∃x,v= .int x/\0 < x/\x<=AX+1/\(x≠0/\x.natAbs.log2 < 9000):=by
   simp at hv;rcases hv with rfl |rfl |rfl
   ·exact⟨10,rfl,by decide,by decide+kernel,by decide⟩
   ·exact⟨1000,rfl,by decide,by decide+kernel,by decide⟩
   ·exact⟨_,rfl,by decide+kernel,by decide+kernel,by decide+kernel⟩
  have d2:=digit (many:=x) h2 hx;have q1:=oN (n.fdiv 3) hx0;have q2:=oO (n.fdiv 3) hx0;generalize (n.fdiv 3).fmod x=number at d2 q1 q2;exact⟨.leaf (.num number),(n.fdiv 3).fdiv x,st2.set l (.lst [.int ((n.fdiv 3).fdiv x)]),by simp[p60,e1,e2,d2];rfl,k2.trans a9.set,cx h2,⟨q1,by omega⟩,rfl,rfl⟩
 by_cases w1:kind=1
 ·subst w1;obtain⟨v,st2,hv,e1,e2,k2,h2⟩:=pick (many:=2) (ws:=[.int 4,.int 41]) h (by decide) (by decide) rfl;obtain⟨x,rfl,hx0,hx1⟩:∃x,v= .int x/\0 < x/\x<=41:=by
   simp at hv;rcases hv with rfl |rfl
   ·exact⟨4,rfl,by decide,by decide⟩
   ·exact⟨41,rfl,by decide,by decide⟩
  obtain⟨m,n3,s3,e3,m0,m1,k3,h3⟩:=draw x h2 hx0 (by omega);obtain⟨AR,n4,ys,e4,k4,h4,hl4,hlen,hy,YV⟩:=chars (o3:=bv (.int m)) m.toNat (by omega) h3;have hs:=AO hy;have e0:("":PySem.Str).length=0:=rfl;have j:=B0 (z:="") hl4 (by rw[hs,e0,hlen];omega);have hj:(gW "" ys).length<=40:=by
   have ej:gW "" ys=PySem.Str.join "" ys:=by simpa using D_ "" ys
   rw[ej];cases ys with
   |nil=>decide
   |cons y r=>rw[PyProof.Rows.len_join_cons,hs,e0];omega
  have hjs:∀c∈(gW "" ys).cps.toList,Sg c:=by
   have ej:gW "" ys=PySem.Str.join "" ys:=by simpa using D_ "" ys
   rw[ej];exact Ek YV
  have cm:lS m:=B1 (by omega) (by omega);refine⟨.leaf (.txt (gW "" ys)),n4,AR,?_,k2.trans (k3.trans k4),h4,⟨hj,hjs⟩,rfl,rfl⟩;simp[e1,e2,e3,BY cm,e4,j];rfl
 by_cases w2:kind=2
 ·subst w2;obtain⟨a,n1,s1,e1,a0,a1,k1,h1⟩:=draw 99 h (by decide) (by decide);obtain⟨b,n2,s2,e2,b0,b1,k2,h2⟩:=draw 26 h1 (by decide) (by decide);obtain⟨p,q,n3,s3,e3,k3,h3⟩:=Zh h2;refine⟨.leaf (.FY a b p q),n3,s3,?_,k1.trans (k2.trans k3),h3,⟨a0,a1,b0,b1⟩,rfl,rfl⟩;simp[e1,e2,e3];rfl
 by_cases w3:kind=3
 ·subst w3;exact⟨.leaf .iw,n,st,by simp;rfl,a9.refl,h,trivial,rfl,rfl⟩
 ·have w4:kind=4:=by omega
  subst w4;obtain⟨v,st2,hv,e1,e2,k2,h2⟩:=pick (many:=4) (ws:=[.str "sum",.str "count",.str "least",.str "greatest"]) h (by decide) (by decide) rfl;obtain⟨w,rfl⟩:∃w:Fin 4,v= .str (aw w):=by
   simp at hv;rcases hv with rfl |rfl |rfl |rfl
   ·exact⟨0,rfl⟩
   ·exact⟨1,rfl⟩
   ·exact⟨2,rfl⟩
   ·exact⟨3,rfl⟩
  obtain⟨a,b,c,d,n3,s3,e3,k3,h3,i1⟩:=eK h2;obtain⟨p,q,r,s,n4,s4,e4,k4,h4⟩:=Qo h3;refine⟨.eK w ⟨a,b,c,d,p,q,r,s⟩,n4,s4,?_,k2.trans (k3.trans k4),h4,i1,rfl,rfl⟩;simp[e1,e2,e3,e4];rfl
def fA(ay:List Wv->Hs->Re Wv):GS:=(aO 3 (ao 2 az (aa (ae 0) (aa (gC (.int 18)) ag))))
def fB(ay:List Wv->Hs->Re Wv):GS:=(aO 4 (af aV (b8 (aa (gC (.int 0)) (aa (gC (.int 0)) (aa (gC (.int 0)) (aa (gC (.int 0)) (aa (gC (.int 0)) (aa (gC (.int 1)) (aa (gC (.int 1)) (aa (gC (.int 1)) (aa (gC (.int 2)) (aa (gC (.int 2)) (aa (gC (.int 2)) (aa (gC (.int 2)) (aa (gC (.int 2)) (aa (gC (.int 2)) (aa (gC (.int 2)) (aa (gC (.int 2)) (aa (gC (.int 2)) (aa (gC (.int 3)) ag))))))))))))))))))) (ae 3)))
def fC(ay:List Wv->Hs->Re Wv):GS:=(cR (HA (aW (af oEq (ae 1) (gC (.int 1)))) (aW (af oLt (af aV (ae 2) (gC (.int 0))) (ae 4)))) (aq (aO 3 (af oMod (ae 3) (gC (.int 5))))
  (aO 4 (gC (.int 0)))) aN)
def fD(ay:List Wv->Hs->Re Wv):GS:=(nE (af l5 (af aV (ae 2) (gC (.int 0))) (ae 4)) (ae 2) (gC (.int 0)))
def fE(ay:List Wv->Hs->Re Wv):GS:=(aO 5 (jk [("own",0),("deep",1),("room",2)] (By (aa (ae 4) ag)) (c9 ay) (cD ay)))
def n9:GS:=(aq (cR (aW (af oLt (ae 3) (gC (.int 5)))) (aQ (ao 2 gQ (aa (ae 0) (aa (ae 3) ag)))) aN)
 (aq (cR (aW (af oEq (ae 3) (gC (.int 7)))) (aq (aO 6 (ao 1 eu (aa (ae 0) ag)))
  (aQ (dA (aa (gC (.str "find")) (aa (af aV (ae 5) (gC (.int 0))) (aa (ae 6) (aa (ao 2 cL (aa (ae 0) (aa (gC (.int 4)) ag))) ag))))))) aN)
 (aq (aO 7 (b8 (aa (gC (.str "minus")) (aa (gC (.str "not")) (aa (gC (.str "find")) (aa (gC (.str "+")) (aa (gC (.str "-")) (aa (gC (.str "*")) (aa (gC (.str "/")) (aa (gC (.str "&")) (aa (gC (.str "<")) (aa (gC (.str "=")) (aa (gC (.str "rest")) (aa (gC (.str "else")) (aa (gC (.str "if")) ag)))))))))))))))
 (aQ (af aX (dA (aa (af aV (ae 7) (af l5 (ae 3) (gC (.int 5)))) ag)) (aH nH (aa (ae 5) ag)))))))
theorem Pc(ay:List Wv->Hs->Re Wv):dR ay=aq (fA ay) (aq (fB ay) (aq (fC ay) (aq (fD ay) (aq (fE ay) n9)))):=rfl
def Kp(l r:Nat)(st st':Hs):Prop:=st.length<=st'.length/\∀k,k < st.length->k≠l->k≠r->st'[k]? =st[k]?
variable{a b:Hs}{r:Nat}
theorem Kp.trans{c:Hs}(h:Kp l r a b)(k:Kp l r b c):Kp l r a c:=⟨aA h.1 k.1,λj h1 h2 h3=>(k.2 j (bZ h1 h.1) h2 h3).trans (h.2 j h1 h2 h3)⟩
theorem Kp.own(h:a9 l a b):Kp l r a b:=⟨h.1,λj h1 h2 _=>h.2 j h1 h2⟩
theorem Kp.room(h:a9 r a b):Kp l r a b:=⟨h.1,λj h1 _ h2=>h.2 j h1 h2⟩
theorem Kp.gr(h:Gr a b):Kp l r a b:=⟨h.1,λj h1 _ _=>h.2 j h1⟩
def Fd(n:Nat):Prop:=∀(deep:Int)(l r:Nat)(a b:Int)(st:Hs),1<=deep->deep<=n->l≠r->st[l]? =bv (.lst [.int a])->st[r]? =bv (.lst [.int b])->0<=b->∃(f:Fm)(a' b':Int)(st':Hs),aI n [.ref l,.int deep,.ref r] st= .ok f.w st'/\Kp l r st st'/\st'[l]? =bv (.lst [.int a'])/\st'[r]? =bv (.lst [.int b'])/\0<=b'/\f.ok/\(f.dp:Int)<=deep/\(f.sz:Int)<=1+(b - b')
def Ga(fs:List Fm):Nat:=(fs.map Fm.sz).sum
variable{n:Nat}{deep:Int}
theorem Zj(h:Fd n){ws0:List Wv}(hd:1<=deep - 1)(hn:deep - 1<=n)(hlr:l≠r)(h1:rr≠l)(h2:rr≠r)(hρ:gT [("own",0),("deep",1),("room",2)] ρ=[bv (.ref l),bv (.int deep),bv (.ref r)]):
  ∀(ws acc:List Wv)(a b:Int)(st:Hs),st[l]? =bv (.lst [.int a])->st[r]? =bv (.lst [.int b])->0<=b->st[rr]? =bv (.lst acc)->acc.length+ws.length < lim->
   ∃(fs:List Fm)(a' b':Int)(st':Hs),ji (k9 (gV,ws0)) (λv=>c9 (aI n) (bv v::gT [("own",0),("deep",1),("room",2)] ρ)) (λv=>cD (aI n) (bv v::gT [("own",0),("deep",1),("room",2)] ρ)) rr ws st=bv st'/\st'[rr]? =bv (.lst (acc++fs.map Fm.w))/\fs.length=ws.length/\(∀f∈fs,f.ok/\(f.dp:Int)<=deep - 1)/\(Ga fs:Int)<=ws.length+(b - b')/\0<=b'/\st'[l]? =bv (.lst [.int a'])/\st'[r]? =bv (.lst [.int b'])/\st.length<=st'.length/\∀k,k < st.length->k≠l->k≠r->k≠rr->st'[k]? =st[k]?:=by
 rw[hρ];intro ws
 induction ws with
 |nil=>intro acc a b st ha hb h0 hr hl;exact⟨[],a,b,st,rfl,by simpa using hr,rfl,(λ_ z=>by cases z),by simp[Ga],h0,ha,hb,av _,λ_ _ _ _ _=>rfl⟩
 |cons w t ih=>
  intro acc a b st ha hb h0 hr hl;have hl':acc.length+(t.length+1) < lim:=hl;obtain⟨f,a1,b1,s1,e1,k1,q1,q2,q3,fo,fd,fz⟩:=h (deep - 1) l r a b st hd hn hlr ha hb h0;have hr1:s1[rr]? =bv (.lst acc):=by rw[k1.2 rr (b_ hr) h1 h2];exact hr
  have qa:(s1.set rr (.lst (acc++[f.w])))[l]? =bv (.lst [.int a1]):=by rw[bM h1];exact q1
  have qb:(s1.set rr (.lst (acc++[f.w])))[r]? =bv (.lst [.int b1]):=by rw[bM h2];exact q2
  obtain⟨fs,a',b',s2,e2,r2,l2,o2,z2,b2,p1,p2,p3,p4⟩:=ih (acc++[f.w]) a1 b1 (s1.set rr (.lst (acc++[f.w]))) qa qb q3 (cx hr1) (by simp;omega);refine⟨f::fs,a',b',s2,?_,by rw[r2];simp,by simp[l2],λg hg=>?_,?_,b2,p1,p2,?_,λk c0 c1 c2 c3=>?_⟩
  ·unfold ji;have e0:c9 (aI n) [bv w,bv (.ref l),bv (.int deep),bv (.ref r)] st= .ok jp st:=rfl;have e3:cD (aI n) [bv w,bv (.ref l),bv (.int deep),bv (.ref r)] st= .ok f.w s1:=by unfold cD;simp[e1]
   rw[e0];dsimp only;rw[e3];dsimp only;rw[nK hr1 (by omega)];dsimp only;rw[Os (show k9 (gV,ws0) (s1.set rr (.lst (acc++[f.w]))) from trivial),e2]
  ·rcases List.mem_cons.mp hg with z |z
   ·rw[z];exact⟨fo,fd⟩
   ·exact o2 g z
  ·have:Ga (f::fs)=f.sz+Ga fs:=by simp[Ga]
   rw[this,aZ];omega
  ·have:=k1.1;rw[tM]at p3;omega
  ·have:=k1.1;rw[p4 k (by rw[tM];omega) c1 c2 c3,bM (λz=>c3 z.symm),k1.2 k c0 c1 c2]
def NL:List Int:=[0,0,0,0,0,1,1,1,2,2,2,2,2,2,2,2,2,3]
def nf(d:Int):Nat:=(NL.getD d.toNat 0).toNat
theorem Zk(h0:0<=d)(h1:d < 18):L2.kX (NL.map Wv.int) d=bv (.int (nf d:Nat)):=by
 obtain⟨n,rfl⟩:=j9 h0;have q:∀k:Fin 18,L2.kX NL ((k.1:Nat):Int)=bv ((nf ((k.1:Nat):Int):Nat):Int):=by decide+kernel
 have e:=q ⟨n,by omega⟩;unfold L2.kX at e ⊢;rw[bN];cases ei:L2.xM NL.length ((n:Nat):Int)with
 |none=>rw[ei]at e;cases e
 |some j=>rw[ei]at e;have e':NL[j]? =bv ((nf ((n:Nat):Int):Nat):Int):=e;show(NL.map Wv.int)[j]? =_;rw[j3,e'];rfl
theorem Zl(h0:0<=d)(h1:d < 5):nf d=0:=by
 obtain⟨n,rfl⟩:=j9 h0;have q:∀k:Fin 5,nf ((k.1:Nat):Int)=0:=by decide+kernel
 exact q ⟨n,by omega⟩
theorem ad5(h0:0<=d)(h1:d < 18):nf d<=3:=by
 obtain⟨n,rfl⟩:=j9 h0;have q:∀k:Fin 18,nf ((k.1:Nat):Int)<=3:=by decide+kernel
 exact q ⟨n,by omega⟩
variable{a kind:Int}
theorem U6(h:Fd n){b:Int}(hm:m<=3)(hd:m≠0->2<=deep)(hn:deep<=(n:Int)+1)(hlr:l≠r)(ha:st[l]? =bv (.lst [.int a]))(hb:st[r]? =bv (.lst [.int b]))(h0:0<=b):
  ∃(fs:List Fm)(a' b':Int)(st':Hs)(k:Nat),fE (aI n) [bv (.ref l),bv (.int deep),bv (.ref r),bv (.int kind),bv (.int (m:Int)),gV,gV,gV] st= .nx [bv (.ref l),bv (.int deep),bv (.ref r),bv (.int kind),bv (.int (m:Int)),bv (.ref k),gV,gV] st'/\Kp l r st st'/\st'[l]? =bv (.lst [.int a'])/\st'[r]? =bv (.lst [.int b'])/\0<=b'/\k≠l/\st'[k]? =bv (.lst (fs.map Fm.w))/\fs.length=m/\(∀f∈fs,f.ok/\(f.dp:Int)<=deep - 1)/\(Ga fs:Int)<=m+(b - b'):=by
 have cr:lS (m:Int):=B1 (by omega) (by omega);have la:=b_ ha;have lb:=b_ hb;have go:∃(fs:List Fm)(a' b':Int)(st':Hs),dj [("own",0),("deep",1),("room",2)] (c9 (aI n)) (cD (aI n)) [bv (.ref l),bv (.int deep),bv (.ref r),bv (.int kind),bv (.int (m:Int)),gV,gV,gV] (gV,eL 0 m) st= .ok (.ref st.length) st'/\Kp l r st st'/\st'[l]? =bv (.lst [.int a'])/\st'[r]? =bv (.lst [.int b'])/\0<=b'/\st'[st.length]? =bv (.lst (fs.map Fm.w))/\fs.length=m/\(∀f∈fs,f.ok/\(f.dp:Int)<=deep - 1)/\(Ga fs:Int)<=m+(b - b'):=by
  by_cases c:m=0
  ·subst c;exact⟨[],a,b,st++[.lst []],rfl,Kp.gr Gr.push,aP ha,aP hb,h0,aR,rfl,(λ_ z=>by cases z),by simp[Ga]⟩
  ·have hd':=hd c;obtain⟨fs,a',b',s2,e2,r2,l2,o2,z2,b2,p1,p2,p3,p4⟩:=Zj h (deep:=deep) (rr:=st.length) (ρ:=[bv (.ref l),bv (.int deep),bv (.ref r),bv (.int kind),bv (.int (m:Int)),gV,gV,gV]) (ws0:=eL 0 m) (by omega) (by omega) hlr (by omega) (by omega) rfl (eL 0 m) [] a b (st++[.lst []]) (aP ha) (aP hb) h0 aR (by rw[dQ];show 0+m < lim;unfold lim;omega);rw[dQ]at l2 z2;refine⟨fs,a',b',s2,?_,⟨?_,λk c0 c1 c2=>?_⟩,p1,p2,b2,by simpa using r2,l2,o2,z2⟩
   ·unfold dj;dsimp only;rw[e2]
   ·rw[bh]at p3;omega
   ·rw[p4 k (by rw[bh];omega) c1 c2 (by omega),gU c0]
 obtain⟨fs,a',b',st',e,q1,q2,q3,q4,q5,q6,q7,q8⟩:=go;refine⟨fs,a',b',st',st.length,?_,q1,q2,q3,q4,by omega,q5,q6,q7,q8⟩;unfold fE;simp[BY cr,e]
theorem pre(h:Fd n){b:Int}(hd:1<=deep)(hn:deep<=(n:Int)+1)(hlr:l≠r)(ha:st[l]? =bv (.lst [.int a]))(hb:st[r]? =bv (.lst [.int b]))(h0:0<=b):
  ∃(kind:Int)(fs:List Fm)(a' b':Int)(st':Hs)(k:Nat),dR (aI n) [bv (.ref l),bv (.int deep),bv (.ref r),gV,gV,gV,gV,gV] st=n9 [bv (.ref l),bv (.int deep),bv (.ref r),bv (.int kind),bv (.int (nf kind:Nat)),bv (.ref k),gV,gV] st'/\0<=kind/\kind < 18/\Kp l r st st'/\st'[l]? =bv (.lst [.int a'])/\st'[r]? =bv (.lst [.int b'])/\0<=b'/\k≠l/\st'[k]? =bv (.lst (fs.map Fm.w))/\fs.length=nf kind/\(∀f∈fs,f.ok/\(f.dp:Int)<=deep - 1)/\(Ga fs:Int)<=b - b':=by
 obtain⟨d,a1,s1,e1,d0,d1,k1,h1⟩:=draw 18 ha (by decide) (by decide);have eA:fA (aI n) [bv (.ref l),bv (.int deep),bv (.ref r),gV,gV,gV,gV,gV] st= .nx [bv (.ref l),bv (.int deep),bv (.ref r),bv (.int d),gV,gV,gV,gV] s1:=by unfold fA;simp[e1]
 have hb1:s1[r]? =bv (.lst [.int b]):=by rw[k1.2 r (b_ hb) (λz=>hlr z.symm)];exact hb
 have nl:NL.map Wv.int=[.int 0,.int 0,.int 0,.int 0,.int 0,.int 1,.int 1,.int 1,.int 2,.int 2,.int 2,.int 2,.int 2,.int 2,.int 2,.int 2,.int 2,.int 3]:=rfl;have ix:aV (.ref s1.length) (.int d) (s1++[.lst (NL.map Wv.int)])= .ok (.int (nf d:Nat)) (s1++[.lst (NL.map Wv.int)]):=pD dq (Zk d0 d1);have ha2:=aP (o':=.lst (NL.map Wv.int)) h1;have hb2:=aP (o':=.lst (NL.map Wv.int)) hb1;have kl:vR (NL.map Wv.int) s1= .ok (.ref s1.length) (s1++[.lst (NL.map Wv.int)]):=mf (by rw[bN];decide);have gp:Gr s1 (s1++[.lst (NL.map Wv.int)]):=Gr.push;generalize s1++[Ob.lst (NL.map Wv.int)]=s2 at ix ha2 hb2 kl gp;have k2:Kp l r st s2:=(Kp.own k1).trans (Kp.gr gp);rw[nl]at kl;have eB:fB (aI n) [bv (.ref l),bv (.int deep),bv (.ref r),bv (.int d),gV,gV,gV,gV] s1= .nx [bv (.ref l),bv (.int deep),bv (.ref r),bv (.int d),bv (.int (nf d:Nat)),gV,gV,gV] s2:=by unfold fB;simp only[DJ,rj,wU,lq,e_c,i9,jN,rn,kl,zQ,rh,rf,oK,oM,ix,me,eV,yT]
 have ixb:aV (.ref r) (.int 0) s2= .ok (.int b) s2:=pD (bo hb2) rfl;have eD:∀(kind:Int)(m:Nat),fD (aI n) [bv (.ref l),bv (.int deep),bv (.ref r),bv (.int kind),bv (.int (m:Int)),gV,gV,gV] s2= .nx [bv (.ref l),bv (.int deep),bv (.ref r),bv (.int kind),bv (.int (m:Int)),gV,gV,gV] (s2.set r (.lst [.int (b - m)])):=λkind m=>by unfold fD;simp[nE,ixb,M6,hb2,L2.xM]
 have IP:∀o:Ob,(s2.set r o)[l]? =bv (.lst [.int a1]):=λo=>by rw[bM (λz=>hlr z.symm)];exact ha2
 have main:∀kind:Int,0<=kind->kind < 18->(nf kind≠0->2<=deep)->(nf kind:Int)<=b->fC (aI n) [bv (.ref l),bv (.int deep),bv (.ref r),bv (.int d),bv (.int (nf d:Nat)),gV,gV,gV] s2= .nx [bv (.ref l),bv (.int deep),bv (.ref r),bv (.int kind),bv (.int (nf kind:Nat)),gV,gV,gV] s2->∃(kind:Int)(fs:List Fm)(a' b':Int)(st':Hs)(k:Nat),dR (aI n) [bv (.ref l),bv (.int deep),bv (.ref r),gV,gV,gV,gV,gV] st=n9 [bv (.ref l),bv (.int deep),bv (.ref r),bv (.int kind),bv (.int (nf kind:Nat)),bv (.ref k),gV,gV] st'/\0<=kind/\kind < 18/\Kp l r st st'/\st'[l]? =bv (.lst [.int a'])/\st'[r]? =bv (.lst [.int b'])/\0<=b'/\k≠l/\st'[k]? =bv (.lst (fs.map Fm.w))/\fs.length=nf kind/\(∀f∈fs,f.ok/\(f.dp:Int)<=deep - 1)/\(Ga fs:Int)<=b - b':=by intro kind c0 c1 c2 c3 eC;obtain⟨fs,a',b',st',k,e,q1,q2,q3,q4,q5,q6,q7,q8,q9⟩:=U6 h (deep:=deep) (kind:=kind) (m:=nf kind) (a:=a1) (b:=b - (nf kind:Nat)) (st:=s2.set r (.lst [.int (b - (nf kind:Nat))])) (ad5 c0 c1) c2 hn hlr (IP _) (cx hb2) (by omega);refine⟨kind,fs,a',b',st',k,?_,c0,c1,k2.trans ((Kp.room a9.set).trans q1),q2,q3,q4,q5,q6,q7,q8,by omega⟩;rw[Pc,jM,eA,jL,jM,eB,jL,jM,eC,jL,jM,eD,jL,jM,e,jL]
 by_cases c:deep=1\/b < (nf d:Int)
 ·have m0:0<=d.fmod 5:=oN _ (by decide);have m5:d.fmod 5 < 5:=oO _ (by decide);have z:=Zl m0 m5;refine main (d.fmod 5) m0 (by omega) (λw=>absurd z w) (by rw[z];exact h0) ?_;rw[z];unfold fC;by_cases c':deep=1
  ·subst c';simp[wW]
  ·have c2:b < (nf d:Int):=by rcases c with q |q;exact absurd q c';exact q
   have t1:(deep == 1)=false:=beq_false_of_ne c';simp[t1,ixb,c2,wW]
 ·have c1:deep≠1:=λq=>c (.inl q);have c2:¬b < (nf d:Int):=λq=>c (.inr q);refine main d d0 d1 (λ_=>by omega) (by omega) ?_;have t1:(deep == 1)=false:=beq_false_of_ne c1;unfold fC;simp[t1,ixb,c2]
theorem cat{x:Wv}{xs ys:List Wv}(h:xs.length+ys.length<=100):aX (.tup (x::xs)) (.tup ys) st= .ok (.tup (x::(xs++ys))) st:=by show(if(x::xs).length+ys.length<=lim then Re.ok (Wv.tup (x::xs++ys)) st else .bad)=_;rw[Os (by simp[lim];omega)];rfl
def WL:List Wv:=[.str "minus",.str "not",.str "find",.str "+",.str "-",.str "*",.str "/",.str "&",.str "<",.str "=",.str "rest",.str "else",.str "if"]
theorem K8(hx:L2.kX WL (kind - 5)=bv (.str x))(h5:¬kind < 5)(h7:kind≠7)(hf:fs≠[])(hl:fs.length<=3)(hk:st[k]? =bv (.lst (fs.map Fm.w))):
  n9 [bv (.ref l),bv (.int deep),bv (.ref r),bv (.int kind),bv (.int (m:Int)),bv (.ref k),gV,gV] st= .rt (.tup (.str x::fs.map Fm.w)) (st++[.lst WL]):=by
 have kl:vR WL st= .ok (.ref st.length) (st++[.lst WL]):=mf (by decide);have ix:aV (.ref st.length) (.int (kind - 5)) (st++[.lst WL])= .ok (.str x) (st++[.lst WL]):=pD dq hx;have tp:nH [.ref k] (st++[.lst WL])= .ok (.tup (fs.map Fm.w)) (st++[.lst WL]):=by
  show(match ax (st++[Ob.lst WL]) k with |some ws=>Re.ok (Wv.tup ws) (st++[Ob.lst WL]) |none=> .bad)=_
  rw[bo (aP hk)]
 generalize st++[Ob.lst WL]=s at kl ix tp;have ad:aX (.tup [.str x]) (.tup (fs.map Fm.w)) s= .ok (.tup (.str x::fs.map Fm.w)) s:=cat (xs:=[]) (by rw[bN];simp;omega);have t5:decide (kind < 5)=false:=decide_eq_false h5;have t7:(kind == 7)=false:=beq_false_of_ne h7;unfold WL at kl;unfold n9;simp only[jM,nk,uF,rj,rh,rf,oK,oM,i9,zQ,e_c,adg,me,wR,eV,t5,nJ,e_next,jL,adh,t7,DJ,wU,lq,jN,rn,kl,yT,zP,Yf,Yh,ix,Ue,yy,tp,ad]
theorem kinds(h0:0<=kind)(h18:kind < 18)(c5:¬kind < 5)(c7:kind≠7):kind=5\/kind=6\/kind=8\/kind=9\/kind=10\/kind=11\/kind=12\/kind=13\/kind=14\/kind=15\/kind=16\/kind=17:=by
 obtain⟨n,rfl⟩:=j9 h0;have q:∀k:Fin 18,¬((k.1:Nat):Int) < 5->((k.1:Nat):Int)≠7->(((k.1:Nat):Int)=5\/((k.1:Nat):Int)=6\/((k.1:Nat):Int)=8\/((k.1:Nat):Int)=9\/((k.1:Nat):Int)=10\/((k.1:Nat):Int)=11\/((k.1:Nat):Int)=12\/((k.1:Nat):Int)=13\/((k.1:Nat):Int)=14\/((k.1:Nat):Int)=15\/((k.1:Nat):Int)=16\/((k.1:Nat):Int)=17):=by decide+kernel
 exact q ⟨n,by omega⟩ c5 c7
theorem rest{deep kind:Int}{l r k:Nat}{a:Int}{fs:List Fm}{st:Hs}(h0:0<=kind)(h18:kind < 18)(ha:st[l]? =bv (.lst [.int a]))(Gj:k≠l)(hk:st[k]? =bv (.lst (fs.map Fm.w)))(hf:fs.length=nf kind)(ho:∀f∈fs,f.ok/\(f.dp:Int)<=deep - 1)(hd:1<=deep):
  ∃(f:Fm)(a':Int)(st':Hs),n9 [bv (.ref l),bv (.int deep),bv (.ref r),bv (.int kind),bv (.int (nf kind:Nat)),bv (.ref k),gV,gV] st= .rt f.w st'/\a9 l st st'/\st'[l]? =bv (.lst [.int a'])/\f.ok/\(f.dp:Int)<=deep/\f.sz=1+Ga fs:=by
 by_cases c5:kind < 5
 ·obtain⟨f,a',st',e,q1,q2,q3,q4,q5⟩:=leaf ha h0 c5;have z:=Zl h0 c5;have fn:fs=[]:=xY (hf.trans z);refine⟨f,a',st',?_,q1,q2,q3,by omega,by rw[q4,fn];rfl⟩;have t5:decide (kind < 5)=true:=decide_eq_true c5;unfold n9;simp[t5,e]
 by_cases c7:kind=7
 ·subst c7;obtain⟨f0,rfl⟩:∃f0,fs=[f0]:=by
   match fs,hf with
   |[f0],_=>exact⟨f0,rfl⟩
  obtain⟨xa,xb,xc,xd,n3,s3,e3,k3,h3,i1⟩:=eK ha;obtain⟨p,q,r',s',n4,s4,e4,k4,h4⟩:=Qo h3;have lk:s3[k]? =bv (.lst [f0.w]):=by rw[k3.2 k (b_ hk) Gj];exact hk
  have ix:aV (.ref k) (.int 0) s3= .ok f0.w s3:=pD (bo lk) (L2.eZ (j:=0) rfl);have q':=ho f0 aY;refine⟨.find f0 ⟨xa,xb,xc,xd,p,q,r',s'⟩,n4,s4,?_,k3.trans k4,h4,⟨q'.1,i1⟩,?_,?_⟩
  ·unfold n9;simp[e3,ix,e4];rfl
  ·show((f0.dp+1:Nat):Int)<=deep;omega
  ·show f0.sz+1=1+(f0.sz+0);omega
 have cs:kind=5\/kind=6\/kind=8\/kind=9\/kind=10\/kind=11\/kind=12\/kind=13\/kind=14\/kind=15\/kind=16\/kind=17:=kinds h0 h18 c5 c7;have one:∀(mk:Fm->Fm)(x:S),L2.kX WL (kind - 5)=bv (.str x)->fs.length=1->(∀f,(mk f).w= .tup [.str x,f.w]/\((mk f).ok=f.ok)/\(mk f).dp=f.dp+1/\(mk f).sz=f.sz+1)->∃(f:Fm)(a':Int)(st':Hs),n9 [bv (.ref l),bv (.int deep),bv (.ref r),bv (.int kind),bv (.int (nf kind:Nat)),bv (.ref k),gV,gV] st= .rt f.w st'/\a9 l st st'/\st'[l]? =bv (.lst [.int a'])/\f.ok/\(f.dp:Int)<=deep/\f.sz=1+Ga fs:=by
  intro mk x hx hl1 hm
  match fs,hl1,hk,ho with
  |[f],_,hk,ho=>
   obtain⟨m1,m2,m3,m4⟩:=hm f;have q:=ho f aY;refine⟨mk f,a,st++[.lst WL],?_,a9.push,aP ha,by rw[m2];exact q.1,by rw[m3];omega,?_⟩
   ·rw[K8 hx c5 c7 (by simp) (by simp) hk,m1];rfl
   ·rw[m4];show f.sz+1=1+(f.sz+0);omega
 have two:∀(mk:Fm->Fm->Fm)(x:S),L2.kX WL (kind - 5)=bv (.str x)->fs.length=2->(∀f g,(mk f g).w= .tup [.str x,f.w,g.w]/\((mk f g).ok=(f.ok/\g.ok))/\(mk f g).dp=max f.dp g.dp+1/\(mk f g).sz=f.sz+g.sz+1)->∃(f:Fm)(a':Int)(st':Hs),n9 [bv (.ref l),bv (.int deep),bv (.ref r),bv (.int kind),bv (.int (nf kind:Nat)),bv (.ref k),gV,gV] st= .rt f.w st'/\a9 l st st'/\st'[l]? =bv (.lst [.int a'])/\f.ok/\(f.dp:Int)<=deep/\f.sz=1+Ga fs:=by
  intro mk x hx hl1 hm
  match fs,hl1,hk,ho with
  |[f,g],_,hk,ho=>
   obtain⟨m1,m2,m3,m4⟩:=hm f g;have q:=ho f (by simp);have q':=ho g (by simp);refine⟨mk f g,a,st++[.lst WL],?_,a9.push,aP ha,by rw[m2];exact⟨q.1,q'.1⟩,by rw[m3];omega,?_⟩
   ·rw[K8 hx c5 c7 (by simp) (by simp) hk,m1];rfl
   ·rw[m4];show f.sz+g.sz+1=1+(f.sz+(g.sz+0));omega
 rcases cs with rfl |rfl |rfl |rfl |rfl |rfl |rfl |rfl |rfl |rfl |rfl |rfl
 ·exact one .minus "minus" rfl hf λf=>⟨rfl,rfl,rfl,rfl⟩
 ·exact one .nt "not" rfl hf λf=>⟨rfl,rfl,rfl,rfl⟩
 ·exact two (.bin .ad) "+" rfl hf λf g=>⟨rfl,rfl,rfl,rfl⟩
 ·exact two (.bin .su) "-" rfl hf λf g=>⟨rfl,rfl,rfl,rfl⟩
 ·exact two (.bin .mu) "*" rfl hf λf g=>⟨rfl,rfl,rfl,rfl⟩
 ·exact two (.bin .di) "/" rfl hf λf g=>⟨rfl,rfl,rfl,rfl⟩
 ·exact two (.bin .am) "&" rfl hf λf g=>⟨rfl,rfl,rfl,rfl⟩
 ·exact two (.bin .lt) "<" rfl hf λf g=>⟨rfl,rfl,rfl,rfl⟩
 ·exact two (.bin .eq) "=" rfl hf λf g=>⟨rfl,rfl,rfl,rfl⟩
 ·exact two (.two jp) "rest" rfl hf λf g=>⟨rfl,rfl,rfl,rfl⟩
 ·exact two (.two kt) "else" rfl hf λf g=>⟨rfl,rfl,rfl,rfl⟩
 ·have hl3:fs.length=3:=hf
  match fs,hl3,hk,ho with
  |[f,g,e],_,hk,ho=>
   have q1:=ho f (by simp);have q2:=ho g (by simp);have q3:=ho e (by simp);refine⟨.iff f g e,a,st++[.lst WL],?_,a9.push,aP ha,⟨q1.1,q2.1,q3.1⟩,?_,?_⟩
   ·rw[K8 (x:="if") rfl c5 c7 (by simp) (by simp) hk];rfl
   ·show((max f.dp (max g.dp e.dp)+1:Nat):Int)<=deep;omega
   ·show f.sz+g.sz+e.sz+1=1+(f.sz+(g.sz+(e.sz+0)));omega
theorem fd:∀n,Fd n
 | 0=>λdeep l r a b st h1 h2=>by omega
 |n+1=>λdeep l r a b st h1 h2 hlr ha hb h0=>by
  obtain⟨kind,fs,a1,b1,s1,k,e,c0,c1,q1,q2,q3,q4,q5,q6,q7,q8,q9⟩:=pre (fd n) (deep:=deep) h1 (by omega) hlr ha hb h0;obtain⟨f,a2,s2,e2,p1,p2,p3,p4,p5⟩:=rest (deep:=deep) (r:=r) c0 c1 q2 q5 q6 q7 q8 h1;refine⟨f,a2,b1,s2,?_,q1.trans (Kp.own p1),p2,?_,q4,p3,p4,by rw[p5];omega⟩
  ·rw[nq];exact P6 (by show dR (aI n) [bv (.ref l),bv (.int deep),bv (.ref r),gV,gV,gV,gV,gV] st=_;rw[e,e2])
  ·rw[p1.2 r (b_ q3) (λz=>hlr z.symm)];exact q3
theorem f2:lF (.int i) (.int 2) st= .ok (.int (i.fdiv 2)) st:=yz (by decide)
theorem f8:lF (.int i) (.int 8) st= .ok (.int (i.fdiv 8)) st:=yz (by decide)
theorem own:∃n:Int,ij [.int c] st= .ok (.ref st.length) (st++[.lst [.int n]]):=by
 have loop:∀(a:Option Wv)(g s:Int),0<=s->s < 2147483648->∃(o3:Option Wv)(g' s':Int),jF 3 iE (eL 0 60) [a,bv (.int g),bv (.int s),gV] st= .nx [a,bv (.int g'),bv (.int s'),o3] st:=by
  intro a g s h0 h1;obtain⟨ρ,st',e,q⟩:=uI (i:=3) (gb:=iE) (λρ st'=>∃(o3:Option Wv)(g s:Int),0<=s/\s < 2147483648/\ρ=[a,bv (.int g),bv (.int s),o3]/\st'=st) (eL 0 60) [a,bv (.int g),bv (.int s),gV] st ⟨gV,g,s,h0,h1,rfl,rfl⟩ (by
   rintro w hw _ st ⟨o3,g,s,h0,h1,rfl,rfl⟩;obtain⟨k,rfl,k0,k1⟩:=DN hw;have z1:fm (.int s) (.int s) st= .ok (.int (s * s)) st:=JV (by omega) (by omega);have z2:fm (.int 977) (.int k) st= .ok (.int (977 * k)) st:=JV (by decide) (by decide);have z3:fm (.int g) (.int 268435399) st= .ok (.int (g * 268435399)) st:=mul_r (by decide) (by decide);generalize hs:(s * s+977 * k+1).fmod 2147483647=s';have s0:0<=s':=by rw[<-hs];exact oN _ (by decide)
   have s1:s' < 2147483647:=by rw[<-hs];exact oO _ (by decide)
   have z4:fm (.int s') (.int 69621) st= .ok (.int (s' * 69621)) st:=mul_r (by decide) (by decide);refine⟨_,_,?_,⟨bv (.int k),g * 268435399+((s' * 69621).fmod 2147483647).fdiv 8,s',s0,by omega,rfl,rfl⟩⟩;unfold iE;simp[z1,z2,z3,z4,wW,hs,f8])
  obtain⟨o3,g',s',_,_,rfl,rfl⟩:=q;exact⟨o3,g',s',e⟩
 unfold ij bf uM;by_cases b:(if c < 0 then -c else c).fmod 2=1
 ·exact⟨_,by simp[wW,b,f2];rfl⟩
 ·have b':((if c < 0 then -c else c).fmod 2 == 1)=false:=beq_false_of_ne b;generalize hs:((if c < 0 then -c else c).fdiv 2).fmod 2147483629+1=s;have s0:0<=s:=by have:=oN ((if c < 0 then -c else c).fdiv 2) (b:=2147483629) (by decide);omega
  have s1:s < 2147483648:=by have:=oO ((if c < 0 then -c else c).fdiv 2) (b:=2147483629) (by decide);omega
  obtain⟨o3,g',s',e⟩:=loop (bv (.int (if c < 0 then -c else c))) 0 s s0 s1;have c60:lS 60:=B1 (by decide) (by decide);exact⟨g',by simp[wW,b',f2,hs,c60,e]⟩
variable{lo:Nat}
theorem Pd(h:st[lo]? =bv (.lst [.int a])):lU (.ref lo) (.ref st.length) (st++[.lst []])= .ok (.bl jp) (st++[.lst []]):=by
 have d1:bO (st++[.lst []]) 20 (.ref lo)=bv (.list [.int a]):=by rw[P9 (bo (aP h))];rfl
 have d2:bO (st++[.lst []]) 20 (.ref st.length)=bv (.list []):=by rw[P9 dq];rfl
 unfold lU;rw[d1,d2];rfl
abbrev Zm:GS:=aO 5 (af aX (af aX (b8 (aa (gC (.str "[")) ag)) (ae 5)) (b8 (aa (gC (.str "]")) ag)))
theorem K9{a0 a1 a2 a3 a4 o6:Option Wv}(hk:st[k]? =bv (.lst (W.map Wv.str)))(hl:W.length<=2000):∃k' st',Zm [a0,a1,a2,a3,a4,bv (.ref k),o6] st= .nx [a0,a1,a2,a3,a4,bv (.ref k'),o6] st'/\Gr st st'/\st.length<=k'/\st'[k']? =bv (.lst ((Gi jp W).map Wv.str)):=by have k1:(st++[.lst [.str "["]])[k]? =bv (.lst (W.map Wv.str)):=aP hk;have a1:=rX (st:=st++[.lst [.str "["]]) (a:=st.length) (b:=k) (xs:=LB) aR k1 (by show 1+_<=_;omega);generalize hs1:st++[Ob.lst [Wv.str "["]]=st1 at a1;have g1:Gr st st1:=hs1 ▸ Gr.push;have k2:(st1++[.lst ((LB++W).map Wv.str)])[st1.length]? =bv (.lst ((LB++W).map Wv.str)):=aR;generalize hs2:st1++[Ob.lst ((LB++W).map Wv.str)]=st2 at a1 k2;have g2:Gr st1 st2:=hs2 ▸ Gr.push;have a2:=rX (st:=st2++[.lst [.str "]"]]) (a:=st1.length) (b:=st2.length) (ys:=RB) (aP k2) aR (by rw[bh];show 1+_+1<=_;omega);generalize SD:st2++[Ob.lst [Wv.str "]"]]=st3 at a2;have g3:Gr st2 st3:=SD ▸ Gr.push;have k4:(st3++[.lst ((LB++W++RB).map Wv.str)])[st3.length]? =bv (.lst ((LB++W++RB).map Wv.str)):=aR;generalize hs4:st3++[Ob.lst ((LB++W++RB).map Wv.str)]=AR at a2 k4;have g4:Gr st3 AR:=hs4 ▸ Gr.push;refine⟨st3.length,AR,?_,g1.trans (g2.trans (g3.trans g4)),aA g1.1 (aA g2.1 g3.1),k4⟩;simp[hs1,a1,SD,a2]
section
variable {F:List Wv->Hs->Re Wv}{fw:Wv}{least lv:Int}{lo k:Nat}{x:S}{o6:Option Wv}{st:Hs}
abbrev gLo:GT:=og (aW (af lU (ae 2) (b8 ag))) (aW (af oEq (ao 2 az (aa (ae 2) (aa (gC (.int 3)) ag))) (gC (.int 1))))
theorem CB:K4 F=aq (cR (aW (af oLt (ae 3) (ae 1))) Zm aN) (aq (cR gLo Zm aN) (aQ (ae 5))):=rfl
theorem Gb(hlo:st[lo]? =bv (.lst [.int a]))(hk:st[k]? =bv (.lst (W.map Wv.str)))(Gj:k≠lo)(hl:W.length<=1000):∃b k' a' st',K4 F [bv fw,bv (.int least),bv (.ref lo),bv (.int lv),bv (.str x),bv (.ref k),o6] st= .rt (.ref k') st'/\a9 lo st st'/\st'[lo]? =bv (.lst [.int a'])/\st'[k']? =bv (.lst ((Gi b (Gi (decide (lv < least)) W)).map Wv.str))/\(k'=k\/st.length<=k'):=by
 have s1:∃k1 s1,cR (aW (af oLt (ae 3) (ae 1))) Zm aN [bv fw,bv (.int least),bv (.ref lo),bv (.int lv),bv (.str x),bv (.ref k),o6] st= .nx [bv fw,bv (.int least),bv (.ref lo),bv (.int lv),bv (.str x),bv (.ref k1),o6] s1/\Gr st s1/\s1[k1]? =bv (.lst ((Gi (decide (lv < least)) W).map Wv.str))/\(k1=k\/st.length<=k1):=by
  have t:aW (af oLt (ae 3) (ae 1)) [bv fw,bv (.int least),bv (.ref lo),bv (.int lv),bv (.str x),bv (.ref k),o6] st= .ok (decide (lv < least)) st:=by simp
  rw[nk,t,eV];cases decide (lv < least)with
  |true=>obtain⟨k1,s1,e1,g1,b1,l1⟩:=K9 (a0:=bv fw) (a1:=bv (.int least)) (a2:=bv (.ref lo)) (a3:=bv (.int lv)) (a4:=bv (.str x)) (o6:=o6) hk (by omega);exact⟨k1,s1,by rw[uE];exact e1,g1,l1,.inr b1⟩
  |false=>exact⟨k,st,rfl,Gr.refl,hk,.inl rfl⟩
 obtain⟨k1,s1,e1,g1,l1,b1⟩:=s1;have wl:=yX (decide (lv < least)) W;generalize Gi (decide (lv < least)) W=X at l1 wl ⊢;have Zn:=g1.get hlo;have k1l:k1≠lo:=by
  rcases b1 with rfl |z
  ·exact Gj
  ·have:=b_ hlo;omega
 have ne:=Pd Zn;have l2:=aP (o':=.lst []) l1;have Zo:=aP (o':=.lst []) Zn;have k2:a9 lo s1 (s1++[.lst []]):=a9.push;generalize hs2:s1++[Ob.lst []]=s2 at ne l2 Zo k2;obtain⟨d,a',s3,e3,d0,d1,k3,U7⟩:=draw 3 Zo (by decide) (by decide);have l3:=Cd k3 k1l l2;have t2:gLo [bv fw,bv (.int least),bv (.ref lo),bv (.int lv),bv (.str x),bv (.ref k1),o6] s1= .ok (d == 1) s3:=by simp[hs2,ne,e3]
 have fin:∃k' s4,cR gLo Zm aN [bv fw,bv (.int least),bv (.ref lo),bv (.int lv),bv (.str x),bv (.ref k1),o6] s1= .nx [bv fw,bv (.int least),bv (.ref lo),bv (.int lv),bv (.str x),bv (.ref k'),o6] s4/\Gr s3 s4/\s4[k']? =bv (.lst ((Gi (d == 1) X).map Wv.str))/\(k'=k1\/s3.length<=k'):=by
  rw[nk,t2,eV];cases (d == 1)with
  |true=>obtain⟨k',s4,e4,g4,b4,l4⟩:=K9 (a0:=bv fw) (a1:=bv (.int least)) (a2:=bv (.ref lo)) (a3:=bv (.int lv)) (a4:=bv (.str x)) (o6:=o6) l3 (by omega);exact⟨k',s4,by rw[uE];exact e4,g4,l4,.inr b4⟩
  |false=>exact⟨k1,s3,rfl,Gr.refl,l3,.inl rfl⟩
 obtain⟨k',s4,e4,g4,l4,b4⟩:=fin;have kk:=(g1.keep (l:=lo)).trans (k2.trans (k3.trans g4.keep));refine⟨d == 1,k',a',s4,?_,kk,g4.get U7,l4,?_⟩
 ·rw[CB,jM,e1,jL,jM,e4,jL];simp
 ·rcases b4 with rfl |z
  ·exact b1
  ·exact .inr (aA g1.1 (aA k2.1 (aA k3.1 z)))
end
def v_(n:Nat)(f:Fm):Prop:=∀(x:S)(ws:List Wv),f.w= .tup (.str x::ws)->∀(least:Int)(lo:Nat)(a:Int)(st:Hs),st[lo]? =bv (.lst [.int a])->∃k o6 a' W st',(cR (Wh (au n)) (Y' (au n)) (cR (Wi (au n)) (Za (au n)) (cR (Ql (au n)) (O8 (au n)) (cR (Qm (au n)) (Qn (au n)) (O9 (au n)))))) [bv f.w,bv (.int least),bv (.ref lo),bv (.int f.ll),bv (.str x),gV,gV] st= .nx [bv f.w,bv (.int least),bv (.ref lo),bv (.int f.ll),bv (.str x),bv (.ref k),o6] st'/\a9 lo st st'/\st'[lo]? =bv (.lst [.int a'])/\st.length<=k/\st'[k]? =bv (.lst (W.map Wv.str))/\Wm f W
theorem Zp(f:Fm):∃x ws,f.w= .tup (.str x::ws):=by
 cases f with
 |leaf l=>cases l<;>exact⟨_,_,rfl⟩
 |_=>exact⟨_,_,rfl⟩
theorem rY(h:v_ n f)(hz:f.sz<=60):CA (n+1) f:=λleast lo a st h1 h5 hlo=>by
 obtain⟨x,ws,e⟩:=Zp f;obtain⟨st1,e1,g1⟩:=lev f st;obtain⟨k,o6,a2,W,st2,e2,k2,q2,b2,l2,w2⟩:=h x ws e least lo a st1 (g1.get hlo);have Gj:k≠lo:=by have:=b_ hlo;have:=g1.1;omega
 obtain⟨b,k',a3,st3,e3,k3,q3,l3,b3⟩:=Gb (F:=au n) (fw:=f.w) (least:=least) (lv:=f.ll) (x:=x) (o6:=o6) q2 l2 Gj (by have:=w2.2;omega);refine⟨k',a3,_,st3,?_,g1.keep.trans (k2.trans k3),q3,?_,l3,w2.br h1 b⟩
 ·have c:∀st:Hs,aV f.w (.int 0) st= .ok (.str x) st:=λst=>by rw[e];exact n6
  rw[pM,O_];unfold bf;have eA:wA (au n) [bv f.w,bv (.int least),bv (.ref lo),gV,gV,gV,gV] st= .nx [bv f.w,bv (.int least),bv (.ref lo),bv (.int f.ll),gV,gV,gV] st1:=by unfold wA;simp[e1]
  have eB:wB (au n) [bv f.w,bv (.int least),bv (.ref lo),bv (.int f.ll),gV,gV,gV] st1= .nx [bv f.w,bv (.int least),bv (.ref lo),bv (.int f.ll),bv (.str x),gV,gV] st1:=by unfold wB;simp[c]
  show(match aq _ _ [bv f.w,bv (.int least),bv (.ref lo),gV,gV,gV,gV] st with
   |.nx _ st'=>Re.ok Wv.cY st'
   |.rt w st'=> .ok w st'
   |.err c _ st'=> .err c st'
   |_=> .bad)=_
  rw[jM,eA,jL,jM,eB,jL,jM,e2,jL,e3]
 ·have:=g1.1;have:=k2.1;omega
theorem oP{us vs:List Wv}(e:Wv.tup (.str y::vs)=Wv.tup (.str x::us)):x=y:=by simp only[Wv.tup.injEq,List.cons.injEq,Wv.str.injEq]at e;exact e.1.symm
variable{fw:Wv}
theorem skip{lv:Int}{G:GS}(h1:¬x∈(["sum","count","least","greatest"]:List S))(h2:¬x∈(["num","text","at","lost"]:List S)):
  ∃st',(cR (Wh F) (Y' F) (cR (Wi F) (Za F) G)) [bv fw,bv (.int least),bv (.ref lo),bv (.int lv),bv (.str x),gV,gV] st=G [bv fw,bv (.int least),bv (.ref lo),bv (.int lv),bv (.str x),gV,gV] st'/\Gr st st':=by
 refine⟨st++[.lst ((["sum","count","least","greatest"]:List S).map Wv.str)]++[.lst ((["num","text","at","lost"]:List S).map Wv.str)],?_,Gr.push.trans Gr.push⟩;rw[nk,yV,eV,decide_eq_false h1,nJ,nk,Ef,eV,decide_eq_false h2,nJ]
theorem K_{l:Lf}(h:l.ok)(n:Nat):v_ n (.leaf l):=λx ws e least lo a st hlo=>by
 have h1:¬x∈(["sum","count","least","greatest"]:List S):=by cases l<;>(rw[oP e];decide+kernel)
 have h2:x∈(["num","text","at","lost"]:List S):=by cases l<;>(rw[oP e];decide+kernel)
 generalize hA:st++[.lst ((["sum","count","least","greatest"]:List S).map Wv.str)]=U8;have gA:Gr st U8:=hA ▸ Gr.push;generalize hB:U8++[.lst ((["num","text","at","lost"]:List S).map Wv.str)]=AY;have gB:Gr U8 AY:=hB ▸ Gr.push;obtain⟨st1,e1,g1⟩:=F5 (l:=l) (st:=AY) h;have g:=gA.trans (gB.trans (g1.trans (Gr.push (o:=.lst [.str l.t]))));refine⟨st1.length,gV,a,[l.t],st1++[.lst [.str l.t]],?_,g.keep,g.get hlo,aA gA.1 (aA gB.1 g1.1),aR,⟨_,.leaf,.one (Pa h)⟩,by show 1+4<=10 * 1;decide⟩;rw[nk,yV,eV,decide_eq_false h1,nJ,hA,nk,Ef,eV,decide_eq_true h2,uE,hB];unfold Za;have zw:bC [(Fm.leaf l).w] AY= .ok (.str l.t) st1:=e1;simp[zw]
theorem K'{w:Fin 4}{a:Ar}(h:a.ok)(n:Nat):v_ n (.eK w a):=λx ws e least lo a0 st hlo=>by
 have ex:x=aw w:=oP e;have h1:∀w:Fin 4,aw w∈(["sum","count","least","greatest"]:List S):=by decide+kernel
 have h1:=h1 w;subst ex;generalize hA:st++[.lst ((["sum","count","least","greatest"]:List S).map Wv.str)]=U8;have gA:Gr st U8:=hA ▸ Gr.push;obtain⟨st1,e1,g1⟩:=xq (x:=a) (st:=U8) h;have g:=gA.trans (g1.trans (Gr.push (o:=.lst [.str (aw w),.str "(",.str a.t,.str ")"])));refine⟨st1.length,gV,a0,[aw w,"(",a.t,")"],st1++[.lst [.str (aw w),.str "(",.str a.t,.str ")"]],?_,g.keep,g.get hlo,aA gA.1 g1.1,aR,⟨_,.eK (h:=0),.cons (AN (c_a w)) (.cons K7 (.cons (Ei h) (.one U2)))⟩,by show 4+4<=10 * 1;decide⟩;rw[nk,yV,eV,decide_eq_true h1,uE,hA];unfold Y';have a1:∀st:Hs,aV (Fm.eK w a).w (.int 1) st= .ok (.tup [.int a.a,.int a.b,.int a.c,.int a.d]) st:=λ_=>cw rfl;have a2:∀st:Hs,aV (Fm.eK w a).w (.int 2) st= .ok (.tup [pin a.p,pin a.q,pin a.r,pin a.s]) st:=λ_=>cw rfl;have zw:bx [.tup [.int a.a,.int a.b,.int a.c,.int a.d],.tup [pin a.p,pin a.q,pin a.r,pin a.s]] U8= .ok (.str a.t) st1:=e1;simp[a1,a2,zw]
theorem Gd(h:CA n f)(hz:f.sz<=60):v_ n (.minus f):=λx ws e least lo a st hlo=>by
 have ex:x="minus":=oP e;subst ex;obtain⟨AY,e0,gB⟩:=skip (F:=au n) (fw:=(Fm.minus f).w) (least:=least) (lv:=(Fm.minus f).ll) (lo:=lo) (x:="minus") (st:=st) (G:=cR (Ql (au n)) (O8 (au n)) (cR (Qm (au n)) (Qn (au n)) (O9 (au n)))) (by decide+kernel) (by decide+kernel);have q0:(AY++[.lst [.str "-"]])[AY.length]? =bv (.lst ((["-"]:List S).map Wv.str)):=aR;generalize hC:AY++[Ob.lst [Wv.str "-"]]=stC at q0;have gC:Gr AY stC:=hC ▸ Gr.push;obtain⟨k,a1,W,st1,e1,k1,q1,b1,l1,w1⟩:=h 5 lo a stC (by decide) (by decide) ((gB.trans gC).get hlo);have nB:AY.length≠lo:=by have:=b_ hlo;have:=gB.1;omega
 have ad:=rX (Cd k1 nB q0) l1 (by have:=w1.2;rw[j4];omega);have kk:=((gB.trans gC).keep (l:=lo)).trans k1;obtain⟨⟨us,w,t⟩,wl⟩:=w1;refine⟨st1.length,gV,a1,(["-"]:List S)++W,_,?_,kk.trans a9.push,aP q1,kk.1,aR (o:=.lst (((["-"]:List S)++W).map Wv.str)),⟨_,.minus (vn _) (w.hi (by show 3 * f.dp<=3 * (f.dp+1) - 2;omega)),.cons (AM s_m) t⟩,?_⟩
 ·rw[e0,nk,yW,eV];show We (O8 (au n)) _ _ jp AY=_;rw[uE];have b1:∀st:Hs,aV (Fm.minus f).w (.int 1) st= .ok f.w st:=λ_=>cw rfl;unfold O8;simp[hC,b1,e1,ad,-lD]
 ·show(([("-":S)]++W).length)+4<=10 * (f.sz+1);rw[bh,j4];omega
theorem Pe(h1:CA n f)(h2:CA n g)(hz:f.sz<=60/\g.sz<=60):v_ n (.bin o f g):=λx ws e least lo a st hlo=>by
 have ex:x=o.s:=oP e;subst ex;have lvb:=o.vw;obtain⟨AY,e0,gB⟩:=skip (F:=au n) (fw:=(Fm.bin o f g).w) (least:=least) (lv:=(Fm.bin o f g).ll) (lo:=lo) (x:=o.s) (st:=st) (G:=cR (Ql (au n)) (O8 (au n)) (cR (Qm (au n)) (Qn (au n)) (O9 (au n)))) (by cases o<;>decide+kernel) (by cases o<;>decide+kernel);obtain⟨k1,a1,U,st1,e1,kp1,q1,b1,l1,w1⟩:=h1 o.lv lo a AY (by omega) (by omega) (gB.get hlo);have q0:(st1++[.lst [.str o.s]])[st1.length]? =bv (.lst (([o.s]:List S).map Wv.str)):=aR;have l1':=aP (o':=.lst [.str o.s]) l1;have Zq:=aP (o':=.lst [.str o.s]) q1;generalize hC:st1++[Ob.lst [Wv.str o.s]]=stC at q0 l1' Zq;have gC:Gr st1 stC:=hC ▸ Gr.push;have Wj:=rX l1' q0 (by have:=w1.2;rw[j4];omega);have q2:(stC++[.lst ((U++[o.s]).map Wv.str)])[stC.length]? =bv (.lst ((U++[o.s]).map Wv.str)):=aR;have q3:=aP (o':=.lst ((U++[o.s]).map Wv.str)) Zq;generalize hD:stC++[Ob.lst ((U++[o.s]).map Wv.str)]=Zr at q2 Wj q3;have gD:Gr stC Zr:=hD ▸ Gr.push;obtain⟨k2,a2,V,st2,e2,kp2,q4,b2,l2,w2⟩:=h2 (o.lv+1) lo a1 Zr (by omega) (by omega) q3;have nC:stC.length≠lo:=by have:=b_ hlo;have:=gB.1;have:=kp1.1;have:=gC.1;omega
 have ad2:=rX (Cd kp2 nC q2) l2 (by have:=w1.2;have:=w2.2;rw[bh,j4];omega);have kk:=(gB.keep (l:=lo)).trans (kp1.trans ((gC.keep (l:=lo)).trans ((gD.keep (l:=lo)).trans kp2)));obtain⟨⟨us,wu,tu⟩,wl1⟩:=w1;obtain⟨⟨vs,wv,tv⟩,wl2⟩:=w2;refine⟨st2.length,gV,a2,(U++[o.s])++V,_,?_,kk.trans a9.push,aP q4,kk.1,aR (o:=.lst ((U++[o.s]++V).map Wv.str)),⟨us++ .sg o.s::vs,.bin (vn _) (wu.hi ?_) (wv.hi ?_),?_⟩,?_⟩
 ·have t3:(((Fm.bin o f g).ll) == 5)=false:=beq_false_of_ne (by show o.lv≠5;omega);have t4:decide ((Fm.bin o f g).ll < 5)=true:=decide_eq_true (by show o.lv < 5;omega);rw[e0,nk,yW,eV,t3,nJ,nk,Eg,eV,t4,uE];have b1:∀st:Hs,aV (Fm.bin o f g).w (.int 1) st= .ok f.w st:=λ_=>cw rfl;have b2:∀st:Hs,aV (Fm.bin o f g).w (.int 2) st= .ok g.w st:=λ_=>cw rfl;have ell:(Fm.bin o f g).ll=o.lv:=rfl;unfold Qn;simp[ell,b1,b2,e1,hC,Wj,e2,ad2,-lD]
 ·show 3 * f.dp<=3 * (max f.dp g.dp+1) - 2;omega
 ·show 3 * g.dp<=3 * (max f.dp g.dp+1) - 2;omega
 ·rw[dm];exact tu.app (.cons (AM (s_b o)) tv)
 ·show((U++[o.s])++V).length+4<=10 * (f.sz+g.sz+1);rw[bh,bh,j4];omega
theorem to5(h1:¬x∈(["sum","count","least","greatest"]:List S))(h2:¬x∈(["num","text","at","lost"]:List S)):
  ∃st',(cR (Wh F) (Y' F) (cR (Wi F) (Za F) (cR (Ql F) (O8 F) (cR (Qm F) (Qn F) (O9 F))))) [bv fw,bv (.int least),bv (.ref lo),bv (.int 6),bv (.str x),gV,gV] st=O9 F [bv fw,bv (.int least),bv (.ref lo),bv (.int 6),bv (.str x),gV,gV] st'/\Gr st st':=by
 obtain⟨st',e,g⟩:=skip (F:=F) (fw:=fw) (least:=least) (lv:=6) (lo:=lo) (x:=x) (st:=st) (G:=cR (Ql F) (O8 F) (cR (Qm F) (Qn F) (O9 F))) h1 h2;refine⟨st',?_,g⟩;rw[e,nk,yW,eV];show We (O8 F) _ _ kt st'=_;rw[nJ,nk,Eg,eV];show We (Qn F) _ _ kt st'=_;rw[nJ]
def CM:List S:=[","]
def PS:List S:=[")"]
inductive Qs:List Fm->List (List S)->Prop
 |nil:Qs [] []
 |cons {f:Fm}{W:List S}{fs:List Fm}{Ws:List (List S)}:Wq 1 f W->Qs fs Ws->Qs (f::fs) (W::Ws)
variable{Ws:List (List S)}
theorem Qs.snoc(h:Qs fs Ws)(k:Wq 1 f W):Qs (fs++[f]) (Ws++[W]):=by
 induction h with
 |nil=>exact .cons k .nil
 |cons a _ ih=>exact .cons a ih
theorem Qs.len(h:Qs fs Ws)(hz:∀f∈fs,f.sz<=60):(Ws.flatMap λW=>W++CM).length<=fs.length * 601:=by
 induction h with
 |nil=>exact dz _
 | @cons f W fs Ws a _ ih=>have h1:=hz f aY;have h2:=ih λg hg=>hz g (bw _ hg);have h3:=a.2;rw[K3,bh,bh,aZ];have:CM.length=1:=rfl;rw[this];omega
section
variable {n:Nat}{fw:Wv}{least lv:Int}{lo:Nat}{x:S}{st:Hs}
theorem Zs{acc:List S}(h:∀f∈fs,CA n f)(hz:∀f∈fs,f.sz<=60)(hl:fs.length<=3)(ha:acc.length<=10)(hbl:lo < base.length)(hb:base.length<=k)(g:a9 lo base st)(hlo:st[lo]? =bv (.lst [.int a]))(hk:st[k]? =bv (.lst (acc.map Wv.str)))(hq:ax st l=bv (fs.map Fm.w))(hll:l≠lo):
  ∃k' Wl a' Ws st',forL 6 (dv (au n)) l (fs.map Fm.w) (fs.map Fm.w) [bv fw,bv (.int least),bv (.ref lo),bv (.int lv),bv (.str x),bv (.ref k),gV] st= .nx [bv fw,bv (.int least),bv (.ref lo),bv (.int lv),bv (.str x),bv (.ref k'),Wl] st'/\base.length<=k'/\a9 lo base st'/\st'[lo]? =bv (.lst [.int a'])/\Qs fs Ws/\st'[k']? =bv (.lst ((acc++Ws.flatMap λW=>W++CM).map Wv.str)):=by
 obtain⟨ρ',st',e,⟨k',Wl,a',Ws,rfl,b1,b2,b3,b4,b5⟩,_⟩:=zU (i:=6) (gb:=dv (au n)) (l:=l) (all:=fs.map Fm.w) Fm.w fs (λpre ρ s=>∃k' Wl a' Ws,ρ=[bv fw,bv (.int least),bv (.ref lo),bv (.int lv),bv (.str x),bv (.ref k'),Wl]/\base.length<=k'/\a9 lo base s/\s[lo]? =bv (.lst [.int a'])/\Qs pre Ws/\s[k']? =bv (.lst ((acc++Ws.flatMap λW=>W++CM).map Wv.str))) (by
  rintro f pre post _ s hf ⟨k',Wl,a',Ws,rfl,b1,b2,b3,b4,b5⟩ hs;have hm:f∈fs:=by rw[hf];simp
  obtain⟨j,a2,W1,s1,e1,g1,q1,j1,l1,w1⟩:=h f hm 1 lo a' s (by decide) (by decide) b3;have hp:pre.length<=3:=by have:=congrArg jf hf;simp at this;omega
  have lp:=b4.len λg hg=>hz g (by rw[hf];simp[hg]);have lf:=hz f hm;have l3:=w1.2;have lh:(acc++Ws.flatMap λW=>W++CM).length<=4000:=by rw[bh];omega
  have Wj:=rX (Cd g1 (by omega) b5) l1 (by omega);generalize hW:(acc++Ws.flatMap λW=>W++CM)=W at Wj lh;have k2:(s1++[.lst ((W++W1).map Wv.str)])[s1.length]? =bv (.lst ((W++W1).map Wv.str)):=aR;have q2:=aP (o':=.lst ((W++W1).map Wv.str)) q1;generalize hs2:s1++[Ob.lst ((W++W1).map Wv.str)]=s2 at Wj k2 q2;have g2:Gr s1 s2:=hs2 ▸ Gr.push;have ad2:=rX (st:=s2++[.lst [.str ","]]) (a:=s1.length) (b:=s2.length) (ys:=CM) (aP k2) aR (by rw[bh];show _+1<=_;omega);generalize SD:s2++[Ob.lst [Wv.str ","]]=s3 at ad2;have g3:Gr s2 s3:=SD ▸ Gr.push;have gg:=g1.trans ((g2.trans (g3.trans (Gr.push (o:=.lst ((W++W1++CM).map Wv.str))))).keep (l:=lo));refine⟨_,s3++[.lst ((W++W1++CM).map Wv.str)],?_,gg.lst hs hll,s3.length,bv f.w,a2,Ws++[W1],rfl,?_,b2.trans gg,aP (g3.get q2),b4.snoc w1,?_⟩
  ·unfold dv;simp[e1,Wj,SD,ad2]
  ·have:=b2.1;have:=g1.1;have:=g2.1;have:=g3.1;omega
  ·rw[aR,List.flatMap_append,<-dm,hW];simp) fs [] [bv fw,bv (.int least),bv (.ref lo),bv (.int lv),bv (.str x),bv (.ref k),gV] st rfl ⟨k,gV,a,[],rfl,hb,g,hlo,.nil,by simpa using hk⟩ hq
 exact⟨k',Wl,a',Ws,st',e,b1,b2,b3,b4,b5⟩
def El:GS:=(cR (aW (af oEq (ae 4) (gC (.str "find")))) (aO 5 (af aX (bA (ae 5) bP (cJ (MJ o_ (gC (.int 1))))) (b8 (aa (gC (.str ",")) (aa (ao 2 bx (aa (af aV (ae 0) (gC (.int 2))) (aa (af aV (ae 0) (gC (.int 3))) ag))) (aa (gC (.str ")")) ag)))))) aN)
theorem Em(h:∀f∈fs,CA n f)(hz:∀f∈fs,f.sz<=60)(hl:fs.length<=3)(hf:fs≠[])(hlo:st[lo]? =bv (.lst [.int a]))
  (hk:∀st:Hs,∃k st',cV [fw] st= .ok (.ref k) st'/\Gr st st'/\st.length<=k/\st'[k]? =bv (.lst (fs.map Fm.w))):
  ∃k o6 a' Ws X st',O9 (au n) [bv fw,bv (.int least),bv (.ref lo),bv (.int lv),bv (.str x),gV,gV] st=El [bv fw,bv (.int least),bv (.ref lo),bv (.int lv),bv (.str x),bv (.ref k),o6] st'/\a9 lo st st'/\st'[lo]? =bv (.lst [.int a'])/\st.length<=k/\Qs fs Ws/\([x,"("]:List S)++(Ws.flatMap λW=>W++CM)=X++CM/\st'[k]? =bv (.lst ((X++PS).map Wv.str)):=by
 have q0:(st++[.lst [.str x,.str "("]])[st.length]? =bv (.lst ((([x,"("]:List S)).map Wv.str)):=aR;have lo1:=b_ hlo;generalize hs1:st++[Ob.lst [Wv.str x,.str "("]]=st1 at q0;have g1:Gr st st1:=hs1 ▸ Gr.push;obtain⟨l,st2,e2,g2,hll,l2⟩:=hk st1;obtain⟨k,o6,a',Ws,st3,e3,b3,g3,U7,qs,l3⟩:=Zs (n:=n) (fw:=fw) (least:=least) (lv:=lv) (x:=x) (base:=st) (acc:=[x,"("]) h hz hl (by simp) lo1 (av _) ((g1.trans g2).keep) ((g1.trans g2).get hlo) (g2.get q0) (bo l2) (by have:=g1.1;omega);obtain⟨X,hX⟩:∃X,([x,"("]:List S)++(Ws.flatMap λW=>W++CM)=X++CM:=by
  have:∀{fs:List Fm}{Ws:List (List S)},Qs fs Ws->fs≠[]->∃X,(Ws.flatMap λW=>W++CM)=X++CM:=by
   intro fs Ws q hf
   induction q with
   |nil=>exact absurd rfl hf
   | @cons f W fs Ws a b ih=>
    cases b with
    |nil=>exact⟨W,by simp⟩
    |cons a b=>obtain⟨X,e⟩:=ih (by simp);exact⟨(W++CM)++X,by rw[K3,e];simp⟩
  obtain⟨X,e⟩:=this qs hf;exact⟨([x,"("]:List S)++X,by rw[e,dm]⟩
 rw[hX]at l3;have hlen:dH [.ref k] st3= .ok (.int (((X++CM).map Wv.str).length:Nat)) st3:=DL (bo l3);have es:((X++CM).map Wv.str).length=X.length+1:=by rw[bN,bh];rfl
 rw[es]at hlen;have st':∀ρ:b7,M6 (.ref k) (.int (X.length:Int)) (.str ")") ρ st3= .nx ρ (st3.set k (.lst ((X++PS).map Wv.str))):=λρ=>by
  show(match st3[k]? with |some (.lst ws)=>(match L2.xM ws.length (X.length:Int)with |some j=>Rs.nx ρ (st3.set k (.lst (ws.set j (.str ")")))) |none=> .bad) |_=> .bad)=_
  rw[l3];dsimp only;have ei:L2.xM ((X++CM).map Wv.str).length (X.length:Int)=bv X.length:=by rw[es];unfold L2.xM;rw[Os (by omega),Os (by omega)];rfl
  rw[ei];dsimp only
  congr 2
  congr 1
  have em:(X++CM).map Wv.str=X.map Wv.str++[.str ","]:=by rw[lD];rfl
  rw[em,List.set_append_right _ _ (by simp)];simp[PS]
 have Gj:k≠lo:=by omega
 refine⟨k,o6,a',Ws,X,st3.set k (.lst ((X++PS).map Wv.str)),?_,⟨by rw[tM];exact g3.1,λj h1 h2=>by rw[bM (by omega)];exact g3.2 j h1 h2⟩,by rw[bM Gj];exact U7,b3,qs,hX,cx l3⟩;unfold O9;have kf:=uH (i:=6) (gb:=dv (au n)) (ρ:=[bv fw,bv (.int least),bv (.ref lo),bv (.int lv),bv (.str x),bv (.ref st.length),gV]) (bo l2);simp[hs1,e2,kf,e3,nE,hlen,st',El,-lD]
end
theorem qs1(h:Qs [f] Ws):∃A,Ws=[A]/\Wq 1 f A:=by
 cases h with
 |cons a b=>cases b;exact⟨_,rfl,a⟩
theorem qs2(h:Qs [f,g] Ws):∃A B,Ws=[A,B]/\Wq 1 f A/\Wq 1 g B:=by
 cases h with
 |cons a b=>obtain⟨B,rfl,q⟩:=qs1 b;exact⟨_,B,rfl,a,q⟩
theorem qs3{e:Fm}(h:Qs [f,g,e] Ws):∃A B C,Ws=[A,B,C]/\Wq 1 f A/\Wq 1 g B/\Wq 1 e C:=by
 cases h with
 |cons a b=>obtain⟨B,C,rfl,q,r⟩:=qs2 b;exact⟨_,B,C,rfl,a,q,r⟩
theorem vz(ew:f.w= .tup (.str y::fs.map Fm.w))(el:f.ll=6)(h1:¬y∈(["sum","count","least","greatest"]:List S))(h2:¬y∈(["num","text","at","lost"]:List S))(h3:(y == "find")=kt)(h4:¬y∈(["num","text","lost","at","sum","count","least","greatest"]:List S))
  (h:∀f∈fs,CA n f)(hz:∀f∈fs,f.sz<=60)(hl:fs.length<=3)(hf:fs≠[])(fin:∀Ws X,Qs fs Ws->([y,"("]:List S)++(Ws.flatMap λW=>W++CM)=X++CM->Wm f (X++PS)):v_ n f:=λx ws e least lo a st hlo=>by
 have ex:x=y:=oP (ew.symm.trans e);subst ex;rw[el];obtain⟨AY,e0,gB⟩:=to5 (F:=au n) (fw:=f.w) (least:=least) (lo:=lo) (x:=x) (st:=st) h1 h2;obtain⟨k,o6,a',Ws,X,st1,e1,g1,q1,b1,qs,hX,l1⟩:=Em (n:=n) (fw:=f.w) (least:=least) (lv:=6) (lo:=lo) (x:=x) (st:=AY) h hz hl hf (gB.get hlo) (λs=>by rw[ew];exact F' h3 h4 s);refine⟨k,o6,a',X++PS,st1,?_,gB.keep.trans g1,q1,aA gB.1 b1,l1,fin Ws X qs hX⟩;rw[e0,e1];unfold El;simp[h3]
theorem La(h:Tw X us):Tw (X++PS) (us++[.sg ")"]):=h.app (.one U2)
theorem can{Y:List S}(h:Y++CM=X++CM):X=Y:=(List.append_cancel_right h).symm
theorem U9(h:CA n f)(hz:f.sz<=60):v_ n (.nt f):=by refine vz (y:="not") (fs:=[f]) rfl rfl (by decide+kernel) (by decide+kernel) (by decide+kernel) (by decide+kernel) (λg z=>by rw[lw.mp z];exact h) (λg z=>by rw[lw.mp z];exact hz) (jY rfl) (by simp) λWs X qs hX=>?_;obtain⟨A,rfl,⟨us,wu,tu⟩,lu⟩:=qs1 qs;have e:X=("not":S)::("(":S)::A:=can (by rw[<-hX];simp);rw[e];refine⟨⟨_,(Wr.nt wu).hi (by show 3 * f.dp+1<=3 * (f.dp+1) - 2;omega),.cons (AN c_n) (.cons K7 (La tu))⟩,?_⟩;show(_::_::(A++PS)).length+4<=10 * (f.sz+1);rw[aZ,aZ,bh];show A.length+1+1+1+4<=_;omega
theorem Pf{w:Bool}(h1:CA n f)(h2:CA n g)(hz:f.sz<=60/\g.sz<=60):v_ n (.two w f g):=by
 refine vz (y:=tw w) (fs:=[f,g]) rfl rfl (by cases w<;>decide+kernel) (by cases w<;>decide+kernel) (by cases w<;>decide+kernel) (by cases w<;>decide+kernel) (pc.mpr ⟨h1,pc.mpr ⟨h2,λ_ z=>by cases z⟩⟩) (pc.mpr ⟨hz.1,pc.mpr ⟨hz.2,λ_ z=>by cases z⟩⟩) (jY rfl) (by simp) λWs X qs hX=>?_;obtain⟨A,B,rfl,⟨⟨us,wu,tu⟩,lu⟩,⟨vs,wv,tv⟩,lv⟩:=qs2 qs;have e:X=tw w::("(":S)::(A++(",":S)::B):=can (by rw[<-hX];simp[CM]);rw[e];refine⟨⟨.cl (tw w):: .sg "("::(us++ .sg ","::(vs++[.sg ")"])),(Wr.two (wu.hi (h':=3 * max f.dp g.dp) (by omega)) (wv.hi (by omega))).hi (by show _<=3 * (max f.dp g.dp+1) - 2;omega),?_⟩,?_⟩
 ·show Tw (tw w::("(":S)::((A++(",":S)::B)++PS)) _;rw[dm,de];exact .cons (AN (c_t w)) (.cons K7 (tu.app (.cons Pb (La tv))))
 ·show(_::_::((A++(",":S)::B)++PS)).length+4<=10 * (f.sz+g.sz+1);rw[aZ,aZ,bh,bh,aZ];show A.length+(B.length+1)+1+1+1+4<=_;omega
theorem Pg{c:Fm}(h1:CA n f)(h2:CA n g)(h3:CA n c)(hz:f.sz<=60/\g.sz<=60/\c.sz<=60):v_ n (.iff f g c):=by
 refine vz (y:="if") (fs:=[f,g,c]) rfl rfl (by decide+kernel) (by decide+kernel) (by decide+kernel) (by decide+kernel) (pc.mpr ⟨h1,pc.mpr ⟨h2,pc.mpr ⟨h3,λ_ z=>by cases z⟩⟩⟩) (pc.mpr ⟨hz.1,pc.mpr ⟨hz.2.1,pc.mpr ⟨hz.2.2,λ_ z=>by cases z⟩⟩⟩) (jY rfl) (by simp) λWs X qs hX=>?_;obtain⟨A,B,C,rfl,⟨⟨us,wu,tu⟩,lu⟩,⟨⟨vs,wv,tv⟩,lv⟩,⟨xs,wx,tx⟩,lx⟩:=qs3 qs;have e:X=("if":S)::("(":S)::(A++(",":S)::(B++(",":S)::C)):=can (by rw[<-hX];simp[CM]);rw[e];refine⟨⟨.cl "if":: .sg "("::(us++ .sg ","::(vs++ .sg ","::(xs++[.sg ")"]))),(Wr.iff (wu.hi (h':=3 * max f.dp (max g.dp c.dp)) (by omega)) (wv.hi (by omega)) (wx.hi (by omega))).hi (by show _<=3 * (max f.dp (max g.dp c.dp)+1) - 2;omega),?_⟩,?_⟩
 ·show Tw (("if":S)::("(":S)::((A++(",":S)::(B++(",":S)::C))++PS)) _;rw[dm,de,dm,de];exact .cons (AN c_i) (.cons K7 (tu.app (.cons Pb (tv.app (.cons Pb (La tx))))))
 ·show(_::_::((A++(",":S)::(B++(",":S)::C))++PS)).length+4<=10 * (f.sz+g.sz+c.sz+1);rw[aZ,aZ,bh,bh,aZ,bh,aZ];show A.length+(B.length+(C.length+1)+1)+1+1+1+4<=_;omega
theorem Lb{a:Ar}(h:CA n f)(ha:a.ok)(hz:f.sz<=60):v_ n (.find f a):=λx ws e least lo a0 st hlo=>by
 have ex:x="find":=oP e;subst ex;have el:(Fm.find f a).ll=6:=rfl;rw[el];obtain⟨AY,e0,gB⟩:=to5 (F:=au n) (fw:=(Fm.find f a).w) (least:=least) (lo:=lo) (x:="find") (st:=st) (by decide+kernel) (by decide+kernel);obtain⟨k,o6,a',Ws,X,st1,e1,g1,q1,b1,qs,hX,l1⟩:=Em (n:=n) (fw:=(Fm.find f a).w) (least:=least) (lv:=6) (lo:=lo) (x:="find") (st:=AY) (fs:=[f]) (λg z=>by rw[lw.mp z];exact h) (λg z=>by rw[lw.mp z];exact hz) (jY rfl) (by simp) (gB.get hlo) (λs=>⟨s.length,_,F_ s,Gr.push,av _,aR⟩);obtain⟨A,rfl,⟨us,wu,tu⟩,lu⟩:=qs1 qs;have eX:X=("find":S)::("(":S)::A:=can (by rw[<-hX];simp);have sl:=adi (lo:=gV) (hi:=bv (-1)) (bo l1);have ec:((X++PS).map Wv.str)=X.map Wv.str++[.str ")"]:=by rw[lD];rfl
 rw[ec,Zd]at sl;have lX:X.length=A.length+2:=by rw[eX];rfl
 have q0:(st1++[.lst (X.map Wv.str)])[st1.length]? =bv (.lst (X.map Wv.str)):=aR;have Zq:=aP (o':=.lst (X.map Wv.str)) q1;generalize hC:st1++[Ob.lst (X.map Wv.str)]=stC at q0 sl Zq;have gC:Gr st1 stC:=hC ▸ Gr.push;obtain⟨st2,e2,g2⟩:=xq (x:=a) (st:=stC) ha;have q2:(st2++[.lst [.str ",",.str a.t,.str ")"]])[st2.length]? =bv (.lst (([",",a.t,")"]:List S).map Wv.str)):=aR;have q3:=aP (o':=.lst [.str ",",.str a.t,.str ")"]) (g2.get q0);have q4:=aP (o':=.lst [.str ",",.str a.t,.str ")"]) (g2.get Zq);generalize hD:st2++[Ob.lst [Wv.str ",",.str a.t,.str ")"]]=Zr at q2 q3 q4;have gD:Gr st2 Zr:=hD ▸ Gr.push;have ad:=rX q3 q2 (by rw[lX];show _+3<=_;omega);have kk:=(gB.keep (l:=lo)).trans (g1.trans ((gC.trans (g2.trans gD)).keep));refine⟨Zr.length,o6,a',X++([",",a.t,")"]:List S),_,?_,kk.trans a9.push,aP q4,kk.1,aR (o:=.lst ((X++([",",a.t,")"]:List S)).map Wv.str)),⟨_,(Wr.find (a:=a) wu).hi (by show 3 * f.dp+1<=3 * (f.dp+1) - 2;omega),?_⟩,?_⟩
 ·rw[e0,e1];have b1:∀st:Hs,aV (Fm.find f a).w (.int 2) st= .ok (.tup [.int a.a,.int a.b,.int a.c,.int a.d]) st:=λ_=>cw rfl;have b2:∀st:Hs,aV (Fm.find f a).w (.int 3) st= .ok (.tup [pin a.p,pin a.q,pin a.r,pin a.s]) st:=λ_=>cw rfl;have LN:bx [.tup [.int a.a,.int a.b,.int a.c,.int a.d],.tup [pin a.p,pin a.q,pin a.r,pin a.s]] stC= .ok (.str a.t) st2:=e2;unfold El;simp[sl,b1,b2,LN,hD,ad,-lD]
 ·rw[eX];exact .cons (AN c_f) (.cons K7 (tu.app (.cons Pb (.cons (Ei ha) (.one U2)))))
 ·show(X++([",",a.t,")"]:List S)).length+4<=10 * (f.sz+1);rw[bh,lX];show A.length+2+3+4<=_;omega
theorem Ph{a:Nat}(h:a+1<=n):∃m,n=m+1/\a<=m:=⟨n - 1,by omega,by omega⟩
theorem dw2{a b:Nat}(h:max a b+1<=n):∃m,n=m+1/\a<=m/\b<=m:=⟨n - 1,by omega,by omega,by omega⟩
theorem dw3{a b c:Nat}(h:max a (max b c)+1<=n):∃m,n=m+1/\a<=m/\b<=m/\c<=m:=⟨n - 1,by omega,by omega,by omega,by omega⟩
theorem fwK(f:Fm):f.ok->f.sz<=60->∀n,f.dp<=n->CA n f:=by
 induction f with
 |leaf l=>intro h hz n hn;obtain⟨m,rfl,_⟩:=Ph (a:=0) hn;exact rY (K_ h m) hz
 |eK w a=>intro h hz n hn;obtain⟨m,rfl,_⟩:=Ph (a:=0) hn;exact rY (K' h m) hz
 |find f a ih=>intro h hz n hn;obtain⟨m,rfl,hm⟩:=Ph hn;exact rY (Lb (ih h.1 (Eb hz) m hm) h.2 (Eb hz)) hz
 |minus f ih=>intro h hz n hn;obtain⟨m,rfl,hm⟩:=Ph hn;exact rY (Gd (ih h (Eb hz) m hm) (Eb hz)) hz
 |nt f ih=>intro h hz n hn;obtain⟨m,rfl,hm⟩:=Ph hn;exact rY (U9 (ih h (Eb hz) m hm) (Eb hz)) hz
 |bin o f g ih1 ih2=>intro h hz n hn;obtain⟨m,rfl,h1,h2⟩:=dw2 hn;have z:=sz2 hz;exact rY (Pe (ih1 h.1 z.1 m h1) (ih2 h.2 z.2 m h2) z) hz
 |two w f g ih1 ih2=>intro h hz n hn;obtain⟨m,rfl,h1,h2⟩:=dw2 hn;have z:=sz2 hz;exact rY (Pf (ih1 h.1 z.1 m h1) (ih2 h.2 z.2 m h2) z) hz
 |iff f g k ih1 ih2 ih3=>intro h hz n hn;obtain⟨m,rfl,h1,h2,h3⟩:=dw3 hn;have z:=sz3 hz;exact rY (Pg (ih1 h.1 z.1 m h1) (ih2 h.2.1 z.2.1 m h2) (ih3 h.2.2 z.2.2 m h3) z) hz
def vA(t:S):S:=if t="[" then "(" else if t="]" then ")" else t
def BK:List (L2.Key×Wv):=[(.inr "[",.str "("),(.inr "]",.str ")")]
theorem U_(t:S):(oo (eI [] BK) (.inr t)).getD (.str t)= .str (vA t):=by
 have e:eI [] BK=BK:=by kernel_rfl
 rw[e];show((if(L2.Key.inr "[":L2.Key)= .inr t then bv (Wv.str "(")else if(L2.Key.inr "]":L2.Key)= .inr t then bv (Wv.str ")")else gV).getD (.str t))=_;unfold vA;by_cases c:t="["
 ·subst c;rfl
 ·rw[OK (λh=>c (L2.Key.inr.inj h).symm),OK c];by_cases d:t="]"
  ·subst d;rfl
  ·rw[OK (λh=>d (L2.Key.inr.inj h).symm),OK d];rfl
theorem Zt(h:Wt t w):(vA t).cps.toList=sZ w:=by
 unfold vA;rcases h with ⟨rfl,rfl⟩ |⟨rfl,rfl⟩ |⟨h1,h2,h3⟩
 ·rw[Os rfl];rfl
 ·rw[OK (by decide+kernel),Os rfl];rfl
 ·rw[OK h1,OK h2];exact h3
theorem Bq:CW.all (λx=>qd x.length 8)=true:=by decide+kernel
theorem U':SW.all (λx=>qd x.length 8)=true:=by decide+kernel
theorem Va:∀{w:Wd},jb w->(sZ w).length<=62
 |.num _,h=>aA (Ck h.1 h.2) (by decide)
 |.txt s,h=>by
  have:s.cps.toList.length<=40:=by rw[hZ];exact h.1
  show(34::(s.cps.toList++[34])).length<=62;rw[aZ,bh,j4];omega
 |.iw,_=>by decide
 |.pt _ _ _ _,h=>aA (jB h.1 h.2.1 h.2.2).2 (by decide)
 |.cl x,h=>by have:=jY (List.all_eq_true.mp Bq x h);show x.cps.toList.length<=62;rw[hZ];exact aA this (by decide)
 |.sg x,h=>by have:=jY (List.all_eq_true.mp U' x h);show x.cps.toList.length<=62;rw[hZ];exact aA this (by decide)
 |.ar a b c d p q r s,⟨h,hp,hq,hr,hs⟩=>by
  have h1:inR a b:=by unfold nv at h;unfold inR;omega
  have h2:inR c d:=by unfold nv at h;unfold inR;omega
  have:=(jB h1 hp hq).2;have:=(jB h2 hr hs).2;show(bS a b p q++58::bS c d r s).length<=62;rw[bh,aZ];omega
 |.en,h=>h.elim
theorem blank(h0:0<=d)(h:d < 3):∃z:S,(∀st,fm (.str " ") (.int d) st= .ok (.str z) st)/\hU [] z/\z.length<=2:=by
 have l1:(" ":S).length=1:=by decide+kernel
 by_cases c0:d=0
 ·subst c0;exact⟨PySem.Str.empty,λ_=>rfl,Sp.nil,by decide⟩
 by_cases c1:d=1
 ·subst c1;exact⟨" ",λ_=>rfl,hU.b,by rw[l1];decide⟩
 have c2:d=2:=by omega
 subst c2;refine⟨tZ 2 " ",λst=>?_,?_,by rw[zk,l1];decide⟩
 ·show(if(2:Int)=0\/(2:Int)=1 then Re.ok (Wv.str (if(2:Int)=0 then PySem.Str.empty else " ")) st else(if t8 " " 2 then Re.ok (Wv.str (tZ (2:Int).toNat " ")) st else .bad))=_;rw[OK (by decide),Os ⟨by decide,by decide,by rw[l1];decide,by rw[l1];decide⟩];rfl
 ·have e:(tZ 2 " ").cps.toList=[32,32]:=by decide+kernel
  unfold hU;rw[e];exact .bl (.bl .nil)
theorem CC(h:Wt t w)(ok:jb w){pre:List Wd}(hlo:st[lo]? =bv (.lst [.int a]))(sp:hU pre x)(hl:x.length<=90000):
  ∃y a' st',eN [bv (.ref l),bv (.ref lo),bv (.str x),bv (.str t)] st= .nx [bv (.ref l),bv (.ref lo),bv (.str y),bv (.str t)] st'/\hU (pre++[w]) y/\y.length<=x.length+70/\a9 lo st st'/\st'[lo]? =bv (.lst [.int a']):=by
 have d1:∀ρ:b7,pz [((gC (.str "[")),(gC (.str "("))),((gC (.str "]")),(gC (.str ")")))] ρ st= .ok (.ref st.length) (st++[.dct (eI [] BK)]):=λρ=>by rw[J2 (kvs:=BK) (st2:=st++[.dct []]) rfl aR,sS]
 have d2:l9 (pz [((gC (.str "[")),(gC (.str "("))),((gC (.str "]")),(gC (.str ")")))]) (ae 3) (ae 3) [bv (.ref l),bv (.ref lo),bv (.str x),bv (.str t)] st= .ok (.str (vA t)) (st++[.dct (eI [] BK)]):=by rw[DQ (l:=st.length) (k:=.str t) (x:=.str t) (kk:=.inr t) (kvs:=eI [] BK) (kvs':=eI [] BK) (d1 _) aR rfl rfl rfl aR,U_]
 have q1:=aP (o':=.dct (eI [] BK)) hlo;have k1:a9 lo st (st++[.dct (eI [] BK)]):=a9.push;generalize st++[Ob.dct (eI [] BK)]=s1 at d2 q1 k1;obtain⟨d,a',s2,e2,d0,d3,k2,q2⟩:=draw 3 q1 (by decide) (by decide);obtain⟨z,ez,sz,lz⟩:=blank d0 d3;have Wg:=Zt h;have rl:(vA t).length<=62:=by have:=Va ok;rw[<-Wg,hZ]at this;exact this
 have a1:aX (.str x) (.str (vA t)) s1= .ok (.str (x++vA t)) s1:=eM (by unfold lim;omega);have a2:aX (.str (x++vA t)) (.str z) s2= .ok (.str (x++vA t++z)) s2:=eM (by rw[aG];unfold lim;omega);refine⟨x++vA t++z,a',s2,?_,?_,by rw[aG,aG];omega,k1.trans k2,q2⟩
 ·unfold eN;simp[d2,a1,e2,ez,a2]
 ·have:=(sp.app (hU.w (w:=w) Wg)).app sz
  rwa [fT]at this
variable{ws:List Wd}
theorem CD{all:List Wv}(hll:l≠lo)(t:Tw W ws):lP ws->∀(x:S)(pre:List Wd)(o3:Option Wv)(a:Int)(st:Hs),ax st l=bv all->st[lo]? =bv (.lst [.int a])->hU pre x->x.length+70 * W.length<=90000->
  ∃y o3' a' st',forL 3 eN l all (W.map Wv.str) [bv (.ref l),bv (.ref lo),bv (.str x),o3] st= .nx [bv (.ref l),bv (.ref lo),bv (.str y),o3'] st'/\hU (pre++ws) y/\y.length<=x.length+70 * W.length/\a9 lo st st'/\st'[lo]? =bv (.lst [.int a']):=by
 induction t with
 |nil=>intro ok x pre o3 a st hl hlo sp hx;exact⟨x,o3,a,st,rfl,by rw[fT];exact sp,av _,a9.refl,hlo⟩
 | @cons t w W ws h k ih=>intro ok x pre o3 a st hl hlo sp hx;rw[aZ]at hx;obtain⟨y,a1,s1,e1,p1,l1,k1,q1⟩:=CC (l:=l) h (ok w aY) hlo sp (by omega);have hl1:=k1.lst hl hll;obtain⟨y2,o',a2,s2,e2,p2,l2,k2,q2⟩:=ih (λv hv=>ok v (bw _ hv)) y (pre++[w]) (bv (.str t)) a1 s1 hl1 q1 p1 (by omega);refine⟨y2,o',a2,s2,?_,by rw[dm]at p2;exact p2,by rw[aZ];omega,k1.trans k2,q2⟩;rw[bz];unfold forL;rw[show([bv (.ref l),bv (.ref lo),bv (.str x),o3]:b7).set 3 (bv (.str t))=[bv (.ref l),bv (.ref lo),bv (.str x),bv (.str t)] from rfl,e1];dsimp only;rw[Os hl1,e2]
theorem Ge(t:Tw W ws)(ok:lP ws)(hW:W.length<=1000)(hk:st[k]? =bv (.lst (W.map Wv.str)))(Gj:k≠lo)(hlo:st[lo]? =bv (.lst [.int a])):
  ∃(y:S)(a':Int)(st':Hs),gY [.ref k,.ref lo] st= .ok (.str y) st'/\hU ws y/\y.length<=90000/\a9 lo st st'/\st'[lo]? =bv (.lst [.int a']):=by
 obtain⟨d,a1,s1,e1,d0,d3,k1,q1⟩:=draw 3 hlo (by decide) (by decide);obtain⟨z,ez,sz,lz⟩:=blank d0 d3;have l1:=bo (Cd k1 Gj hk);obtain⟨y,o',a2,s2,e2,p2,l2,k2,q2⟩:=CD (l:=k) (lo:=lo) (all:=W.map Wv.str) Gj t ok z [] gV a1 s1 l1 q1 sz (by omega);refine⟨y,a2,s2,?_,p2,by omega,k1.trans k2,q2⟩;have kf:=uH (i:=3) (gb:=eN) (ρ:=[bv (.ref k),bv (.ref lo),bv (.str z),gV]) l1;unfold gY bf pI;simp[e1,ez,kf,e2]
theorem same:∀(n:Nat){w:Wv},pl n w->∀st:Hs,eE n [w,w] st= .ok (.bl jp) st
 | 0,_,h,_=>ab h
 |n+1,w,h,st=>by
  have it:∀(i:Int)(s:Hs),jG jD fW [.int i,.ty "tuple"] s= .ok (.bl kt) s:=λ_ _=>rfl;have is:∀(i:Int)(s:Hs),jG jD fW [.int i,.ty "str"] s= .ok (.bl kt) s:=λ_ _=>rfl;have st':∀(i:S)(s:Hs),jG jD fW [.str i,.ty "tuple"] s= .ok (.bl kt) s:=λ_ _=>rfl;rw[qw];cases w with
  |int i=>unfold bf iL;simp[it,is,int_is,J7]
  |str x=>unfold bf iL;simp[st',str_is]
  |tup ws=>
   have hl:ws.length<=300:=h.1;have cr:lS (ws.length:Nat):=B1 (by omega) (by omega);have ne:∀(i:Int)(s:Hs),lU (.int i) (.int i) s= .ok (.bl kt) s:=λ_ _=>Yp;obtain⟨ρ,s1,e,o2,hρ,hst⟩:=uI (i:=2) (gb:=gZ (eE n)) (λρ s=>∃o2,ρ=[bv (.tup ws),bv (.tup ws),o2]/\s=st) (eL 0 ws.length) [bv (.tup ws),bv (.tup ws),gV] st ⟨gV,rfl,rfl⟩ (by
    rintro v hv _ s ⟨o2,rfl,rfl⟩;obtain⟨j,rfl,j0,j1⟩:=DN hv;obtain⟨m,rfl⟩:=j9 j0;have hm:m < ws.length:=by omega
    have ix:aV (.tup ws) (.int (m:Nat)) s= .ok ws[m] s:=cw (L2.eZ (fk hm));have ih:=same n (h.2 ws[m] (ug hm)) s;refine⟨_,s,?_,bv (.int (m:Nat)),rfl,rfl⟩;unfold gZ;simp[ix,ih])
   rw[hρ,hst]at e;have er:∀(ga:GA)(gb:GS)(ρ:b7),ga ρ st= .ok [.int (ws.length:Nat)] st->l6 2 ga gb ρ st=jF 2 gb (eL 0 ws.length) ρ st:=λga gb ρ hg=>by simp[hg,cr]
   have e2:=er (aa (aH dH (aa (ae 1) ag)) ag) (gZ (eE n)) [bv (.tup ws),bv (.tup ws),gV] (by simp[p7]);rw[e]at e2;unfold bf iL;simp only[bz,iD,aZ,qi,de,iC,aD];simp[-Oq,tup_is,p7,ne,e2]
  |_=>exact ab h
theorem step{s:Wv}{o2 o4:Option Wv}(st:Hs):∃p2 p3 p4 st',p6 [bv s,bv (.int c),o2,o3,o4] st= .nx [bv s,bv (.int c),p2,p3,p4] st'/\Gr st st':=by
 obtain⟨n,e1⟩:=own (st:=st) (c:=c);have q0:(st++[Ob.lst [Wv.int n]]++[Ob.lst [Wv.int 59]])[st.length]? =bv (Ob.lst [Wv.int n]):=aP aR;have q1:(st++[Ob.lst [Wv.int n]]++[Ob.lst [Wv.int 59]])[(st++[Ob.lst [Wv.int n]]).length]? =bv (Ob.lst [Wv.int 59]):=aR;have hg:Gr st (st++[Ob.lst [Wv.int n]]++[Ob.lst [Wv.int 59]]):=Gr.push.trans Gr.push;have hne:st.length≠(st++[Ob.lst [Wv.int n]]).length:=by rw[bh,j4];omega
 have hge:st.length<=(st++[Ob.lst [Wv.int n]]).length:=by rw[bh];omega
 obtain⟨f,a',b',s1,e2,k1,_,_,b0,ok,dp,sz⟩:=fd 14 12 st.length (st++[Ob.lst [Wv.int n]]).length n 59 _ (by decide) (by decide) hne q0 q1 (by decide);have LN:ay [.ref st.length,.int 12,.ref (st++[Ob.lst [Wv.int n]]).length] (st++[Ob.lst [Wv.int n]]++[Ob.lst [Wv.int 59]])= .ok f.w s1:=e2;have g1:Gr st s1:=⟨aA hg.1 k1.1,λk h=>by rw[k1.2 k (bZ h hg.1) (by omega) (by omega),hg.2 k h]⟩;generalize hA:st++[Ob.lst [Wv.int n]]=sA at e1 LN;generalize hB:sA++[Ob.lst [Wv.int 59]]=sB at LN;have hz:f.sz<=60:=by omega
 have hd:f.dp<=12:=by omega
 have ml:∀s:Hs,fm (.int c) (.int 69621) s= .ok (.int (c * 69621)) s:=λs=>mul_r (by decide) (by decide);obtain⟨n2,e3⟩:=own (st:=s1) (c:=c * 69621+5);have lo3:(s1++[Ob.lst [Wv.int n2]])[s1.length]? =bv (.lst [.int n2]):=aR;have g3:Gr s1 (s1++[Ob.lst [Wv.int n2]]):=Gr.push;generalize s1++[Ob.lst [Wv.int n2]]=s3 at e3 lo3 g3;obtain⟨k,a4,W,s4,e4,k4,lo4,b4,l4,⟨ws,w4,t4⟩,wl⟩:=fwK f ok hz 20 (by omega) 1 s1.length n2 s3 (by decide) (by decide) lo3;have e4':ak [f.w,.int 1,.ref s1.length] s3= .ok (.ref k) s4:=e4;have al:=KW w4 ok;have Gj:k≠s1.length:=by have:=b_ lo3;omega
 obtain⟨y,a5,s5,e5,sp5,ly,k5,lo5⟩:=Ge t4 al (by omega) l4 Gj lo4;have gg5:Gr st s5:=g1.trans (Gr.uJ (av _) g3 (k4.trans k5));obtain⟨s6,e6,g6⟩:=ft f ok hz 40 (by omega) s5;have e6':aK [f.w] s5= .ok (.str f.T) s6:=e6;obtain⟨vs,wv,sv,lv⟩:=UX f;have tl:=Fm.len ok;obtain⟨s7,e7,g7⟩:=qf (wv.lo (vw f).1) ok hz hd (by omega) sv (by rw[hZ];have:f.T.cps.size=f.T.length:=rfl;omega) (by omega) s6;have e7':cN [.str f.T] s6= .ok f.w s7:=e7;have twl:=t4.len;obtain⟨s8,e8,g8⟩:=qf w4 ok hz hd (by omega) sp5 (by rw[hZ];exact ly) (by omega) s7;have e8':cN [.str y] s7= .ok f.w s8:=e8;have aea:pl 16 f.w:=plF 16 f ok (by omega);have sm:∀s:Hs,cM [f.w,f.w] s= .ok (.bl jp) s:=λs=>same 16 aea s;refine⟨bv f.w,bv (.ref s1.length),bv (.str y),s8,?_,gg5.trans (g6.trans (g7.trans g8))⟩;unfold p6;simp[e1,hA,hB,LN,ml,e3,e4',e5,e6',e7',e8',sm]
theorem law_true:∀ns:List Int,ns.length<=63->∃st,F_law [.ref 0] [.vB ns]= .ok (.bl jp) st:=by
 intro ns hn;have l0:ax [.vB ns,.lst [.int 0]] 0=bv (ns.map Wv.int):=rfl;have l1:ax [.vB ns,.lst [.int 0]] 1=bv [.int 0]:=rfl;have a:=add_l l1 l0 (by simp;unfold lim;omega);have e0:[Wv.int 0]++ns.map Wv.int=([0]++ns).map Wv.int:=by simp
 rw[e0]at a;generalize hc:[0]++ns=cs at a;have l2:ax [.vB ns,.lst [.int 0],.lst (cs.map Wv.int)] 2=bv (cs.map Wv.int):=rfl;obtain⟨ρ',st',e,⟨p1,p2,p3,p4,rfl⟩,_⟩:=zS (i:=1) (gb:=p6) (l:=2) (all:=cs.map Wv.int) (λρ st=>∃p1 p2 p3 p4,ρ=[bv (.ref 0),p1,p2,p3,p4]) (cs.map Wv.int) [bv (.ref 0),gV,gV,gV,gV] [.vB ns,.lst [.int 0],.lst (cs.map Wv.int)] ⟨gV,gV,gV,gV,rfl⟩ l2 (by rintro w hw _ st ⟨p1,p2,p3,p4,rfl⟩ hl;obtain⟨c,_,rfl⟩:=u8.mp hw;obtain⟨q2,q3,q4,st',e,g⟩:=step (s:=.ref 0) (c:=c) (o2:=p2) (o3:=p3) (o4:=p4) st;exact⟨_,st',e,g.lst hl,⟨_,_,_,_,rfl⟩⟩);refine⟨st',?_⟩;unfold F_law bf J3;simp[a,uH l2,e]
end K11
namespace PySem.W.Fast
def tw1839869572781325800:=()
def tw11440967509539979487:=()
def tw11242788633425926543:=()
def tw764959916422868156:=()
def tw888219262052861509:=()
def tw311463519748535695:=()
def tw9882400385520019921:=()
def tw6904795089936981403:=()
def tw13909641313133951881:=()
def tw1767256173042591471:=()
def tw9052534765064793639:=()
def tw10857432565079184989:=()
def tw12389442408018000499:=()
def tw14403552304077863185:=()
def tw2827450260294626553:=()
def tw4578142197335162055:=()
def tw4127000951844420204:=()
def tw3090653026737021014:=()
def tw13654793831599064488:=()
def tw3756510576345019133:=()
def tw8702748175115368044:=()
def tw7500444448926799651:=()
def tw12925887149731265089:=()
def tw7399387589316385293:=()
def tw6899476243210123759:=()
def tw9805637147826656248:=()
def tw17493040752212482778:=()
def tw18031808753043843897:=()
def tw9986410025309801643:=()
def tw6881842361941400947:=()
def tw3924266128670841118:=()
def tw11657565345394936559:=()
def tw5254141620935278860:=()
def tw15939985293285796582:=()
def tw18127348381645489418:=()
def tw6569390282258828463:=()
def tw8677507543398019539:=()
def tw18139829111283869706:=()
def tw4580827277812906553:=()
def tw9485244700953124791:=()
def tw10746492344659154955:=()
def tw13566247440693233704:=()
def tw7304963506297358078:=()
def tw12756147674264052301:=()
def tw15903066334193985383:=()
def tw10133899751152300935:=()
def tw16712309019516035963:=()
def tw13444729876098801072:=()
def tw11881573522068200914:=()
def tw3707123691020780194:=()
def tw2700642642041415663:=()
def tw10777101120510673724:=()
def tw10174508647325460618:=()
def tw3785997910718555674:=()
def tw6702274862451388494:=()
def tw7305443070679574221:=()
def tw8843956567360777857:=()
def tw1175972245307893166:=()
def tw16475218730750451634:=()
def tw15132968599855985493:=()
def tw11644788987788830741:=()
def tw10206270913654604124:=()
def tw13322045044626853524:=()
def tw5537466774642369634:=()
def tw5713962251434675452:=()
def tw16336758967172759811:=()
def tw6609501131156354192:=()
def tw1633862727416406628:=()
def tw8400199908581177682:=()
def tw17697961047787393656:=()
def tw6239259122572264136:=()
def tw60041124733411357:=()
def tw8441989206122843310:=()
def tw6854134294131511337:=()
def tw15252924763253986961:=()
def tw12876213177067693748:=()
def tw7215116220274248765:=()
def tw17090339017030395663:=()
def tw17996869001316969993:=()
def tw9930166642247315309:=()
def tw17248966216198228273:=()
def tw10667519752811494519:=()
def tw17177007998251766030:=()
def tw6501056566341956083:=()
def tw17830689441260638583:=()
def tw58226943451831895:=()
def tw16110340243872887782:=()
def tw13807282159159132237:=()
def tw4990636920633790989:=()
def tw15051488646545830831:=()
def tw12644330355218219587:=()
def tw17453128896615204495:=()
def tw15575104038176981446:=()
def tw9912754414599868027:=()
def tw2971643770663589783:=()
def tw2601822105670322577:=()
def tw878573924432326389:=()
def tw13287860803336620732:=()
def tw11976119432245943677:=()
def tw3825674269507869766:=()
def tw8626724783466316845:=()
def tw10461359829326282284:=()
def tw5791582002673866909:=()
def tw1794313375993988226:=()
def tw14210473989582570238:=()
def tw10252913638089032195:=()
def tw942575330601940642:=()
def tw8432920946659443457:=()
def tw2893824687829694523:=()
def tw11189920010266530586:=()
def tw683751544838174844:=()
def tw8640324895929588032:=()
def tw18344521672426182533:=()
def tw7514700174880179484:=()
def tw6012460433300042095:=()
def tw17610901438458980593:=()
def tw13217710472356591304:=()
def tw8989645225635244377:=()
def tw17484881303852471039:=()
def tw13255831072776410384:=()
def tw13553904698447624802:=()
def tw13460366848094814556:=()
def tw12348016115925052577:=()
def tw6702991306693679757:=()
def tw2395537562464661224:=()
def tw16186766737752623800:=()
def tw1170672393735041396:=()
def tw14191190909700693194:=()
def tw7953550798932101532:=()
def tw8517251049693976960:=()
def tw4078409466142544551:=()
def tw8883887654192690426:=()
def tw15243281096329178337:=()
def tw8115614166859174183:=()
def tw7698365818251120444:=()
def tw3470236564114054654:=()
def tw14366273649349887735:=()
def tw16515482306084845826:=()
def tw3846218767637381540:=()
def tw4593975718637582364:=()
def tw17161256040534431077:=()
def tw829574914560777500:=()
def tw3734482867626626765:=()
def tw13083117090699603383:=()
def tw11387715893679467174:=()
def tw12427327803699574887:=()
def tw4285603147799243884:=()
def tw11096996707639385554:=()
def tw2491948324573764020:=()
def tw16902311689486152239:=()
def tw13282650000005947397:=()
def tw17087046682046096842:=()
def tw3067419773199881075:=()
def tw7638727410055488422:=()
def tw3098876123315269224:=()
def tw8732596550514229590:=()
def tw5742395607534617233:=()
def tw6816458505177989555:=()
def tw1723872980070634809:=()
def tw12251065935159400216:=()
def tw15200829570481864828:=()
def tw18172051361582529353:=()
def tw12116090412165805031:=()
def tw2243936954641276268:=()
def tw15199887034730217598:=()
def tw8438658231621161092:=()
def tw14766428889571488366:=()
end PySem.W.Fast
namespace K11
open PySem PySem.W PyProof.Rows
set_option maxHeartbeats 0 in
open_top head for PySem.Challenge.rw_onelook_k11_whole_formulas_read_back
open PySem J
open PySem.W (nsIn mg_of mg_none_of)
open L2 (defScope defBody defArgs FnScope CX0 FnOk XK Hp)
set_option autoImplicit true in
theorem all_mk {l:PySem.W.OpenLaw} {w:World} {K:lc} {h:Heap} {mg:Str → Option Value} {fa:Addr} (X:K.In h) (G:h.Ns mainGlobals mg) (hfa:mg "law" = bv (.ref fa))
        {Zu Zv Zw Zx Zy tk1 tk2 tk3 tk4 tk5 tk6 tk7 tk8 Zz ZA ZC ZD ZE ZF ZG ZH ZI Vb Vc Vd Ve Vf Vg Vh Vi Vj Vk aeb Vl Vm aec:Tok}{ca0:ajO}{aed:Option ajO}{cn0:Nat}{cs0:Array (Option ajU)}{ca9:ajO}{aee:Option ajO}{cn9:Nat}{cs9:Array (Option ajU)}{ZJ:ajO}{ZK:Option ajO}{aef:Nat}{aeg:Array (Option ajU)}{ZL:ajO}{ZM:Option ajO}{aeh:Nat}{aei:Array (Option ajU)}{da0:ajO}{de0:Nat}{Qp Qq Qr Qt Qu Qv Qw Qx Qy Qz Lc Ld Le Lg Lh Li Lj Lk Ll Ln Lo:Int}{ZN ZO ZP ZQ ZR ZS ZT ZU ZV ZW Vn Vo Vp Vq Vr Vs Vt Vu Vv Vw Vx ZX ZY ZZ Z_ Z' aaa aab aac aad aae Vy Vz VA VB VC VD VE VF VG VH VI:Tok}{da1:ajO}{de1:Nat}{QA QB QC QD QE QF QG:Int}{aaf aag aah aai aaj aak aal aam aan aao aap aaq aar aas:Tok}
    (d1:J.a6 K "_law_digit" pF)
    (d2:J.a6 K "_law_area" rA)
    (d3:J.a6 K "_law_pins" rC)
    (d4:J.a6 K "_law_leaf" rE)
    (d5:J.a6 K "_law_formula" mh)
    (d6:J.a6 K "_law_own" uL)
    (d7:J.a6 K "_law_loose" pH)
    (d8:J.a6 K "_law_level" pJ)
    (d9:J.a6 K "_law_cell_name" kz)
    (d10:J.a6 K "_law_area_name" kC)
    (d11:J.a6 K "_law_leaf_text" kE)
    (d12:J.a6 K "_law_kids" rG)
    (d13:J.a6 K "_law_words" pL)
    (d14:J.a6 K "_law_same" rH)
    (d15:J.a6 K "part_many" rJ)
    (d16:J.a6 K "parts_of" uN)
    (d17:J.a6 K "level_below" nM)
    (d18:J.a6 K "has_area" uO)
    (d19:J.a6 K "is_whole" uP)
    (d20:J.a6 K "is_text_sign" mn)
    (d21:J.a6 K "has_text_signs" kF)
    (d22:J.a6 K "is_text" wZ)
    (d23:J.a6 K "is_number_row" lI)
    (d24:J.a6 K "is_place" uS)
    (d25:J.a6 K "are_pins" uT)
    (d26:J.a6 K "has_corners" nO)
    (d27:J.a6 K "area_many" rK)
    (d28:J.a6 K "is_area" w6)
    (d29:J.a6 K "is_tail" w_)
    (d30:J.a6 K "tail_of" xf)
    (d31:J.a6 K "is_piece" uV)
    (YZ:J.a6 K "made_formula" mw)
    (d33:J.a6 K "is_name_sign" mz)
    (d34:J.a6 K "closing_mark" mC)
    (d35:J.a6 K "word_end" u0)
    (d36:J.a6 K "is_row_number" lK)
    (d37:J.a6 K "is_name" xg)
    (d38:J.a6 K "read_place" pO)
    (d39:J.a6 K "read_pinned" nT)
    (d40:J.a6 K "read_quoted" nV)
    (d41:J.a6 K "read_number" nX)
    (d42:J.a6 K "joined_corners" kK)
    (d43:J.a6 K "read_pinned_area" jr)
    (d44:J.a6 K "read_word" rM)
    (d45:J.a6 K "words_of" u3)
    (d46:J.a6 K "check_brackets" kM)
    (d47:J.JN K "WordRow" "WordRow.__init__" dO)
    (d48:J.a6 K "join_down" rN)
    (d49:J.zO K "WordRow" "ahead" "WordRow.ahead" fP)
    (d50:J.zO K "WordRow" "taken" "WordRow.taken" fQ)
    (d51:J.zO K "WordRow" "pass_sign" "WordRow.pass_sign" dC)
    (d52:J.a6 K "read_area_word" kO)
    (d53:J.a6 K "read_call" rP)
    (d54:J.a6 K "read_whole" pS)
    (d55:J.a6 K "read_operand" mG)
    (d56:J.a6 K "read_part" rQ)
    (d57:J.a6 K "read_unlooked" lM)
    (d58:J.a6 K "read_formula" mH)
    (d59:J.a6 K "made_place" pU)
    (d60:J.a6 K "place_name" pW)
    (d61:J.a6 K "pinned_name" nZ)
    (d62:J.a6 K "pinned_area_name" jw)
    (d63:J.a6 K "binding_of" pY)
    (d64:J.a6 K "call_text" rR)
    (d65:J.a6 K "part_text" rS)
    (d66:J.a6 K "op_text" xi)
    (d67:J.a6 K "formula_text" mK)
    (d68:J.a6 K "law" DR)
    (yo0:J.Own K "WordRow" "words")
    (yo1:J.Own K "WordRow" "spot")
    (z0:nsIn K aj3 "min"=bv gV)
    (z1:nsIn K aj3 "tuple"=bv gV)
    (z2:nsIn K aj3 "range"=bv gV)
    (z3:nsIn K aj3 "len"=bv gV)
    (z4:nsIn K aj3 "abs"=bv gV)
    (z5:nsIn K aj3 "str"=bv gV)
    (z6:nsIn K aj3 "list"=bv gV)
    (z7:nsIn K aj3 "isinstance"=bv gV)
    (z8:nsIn K aj3 "int"=bv gV)
    (z9:nsIn K aj3 "bool"=bv gV)
    (z10:nsIn K aj3 "all"=bv gV)
    (z11:nsIn K aj3 "ord"=bv gV)
    (z12:nsIn K aj3 "max"=bv gV)
    (v0:nsIn K aj3 "AREA_WORDS"=bv (bv (.ref ca0))) (w0:K.lookup ca0=bv ⟨.type "tuple",aed,.seq #[.str "sum" Zu,.str "count" Zv,.str "least" Zw,.str "greatest" Zx,.str "find" Zy] cn0,cs0⟩)
    (v1:nsIn K aj3 "MOST_SIGNS"=bv (bv (.int 40 tk1)))
    (v2:nsIn K aj3 "ROWS"=bv (bv (.int 99 tk2)))
    (v3:nsIn K aj3 "COLUMNS"=bv (bv (.int 26 tk3)))
    (v4:nsIn K aj3 "MOST_PLACES"=bv (bv (.int 300 tk4)))
    (v5:nsIn K aj3 "MOST_PIECES"=bv (bv (.int 60 tk5)))
    (v6:nsIn K aj3 "MOST_DEEP"=bv (bv (.int 12 tk6)))
    (v7:nsIn K aj3 "LETTERS"=bv (bv (.str "abcdefghijklmnopqrstuvwxyz" tk7)))
    (v8:nsIn K aj3 "FIGURES"=bv (bv (.str "0123456789" tk8)))
    (v9:nsIn K aj3 "CALL_WORDS"=bv (bv (.ref ca9))) (w9:K.lookup ca9=bv ⟨.type "tuple",aee,.seq #[.str "not" Zz,.str "rest" ZA,.str "if" ZC,.str "else" ZD,.str "sum" ZE,.str "count" ZF,.str "least" ZG,.str "greatest" ZH,.str "find" ZI] cn9,cs9⟩)
    (v10:nsIn K aj3 "SIGNS"=bv (bv (.ref ZJ))) (w10:K.lookup ZJ=bv ⟨.type "tuple",ZK,.seq #[.str "+" Vb,.str "-" Vc,.str "*" Vd,.str "/" Ve,.str "&" Vf,.str "<" Vg,.str "=" Vh,.str "(" Vi,.str ")" Vj,.str "," Vk] aef,aeg⟩)
    (v11:nsIn K aj3 "MOST_BRACKETS"=bv (bv (.int 40 aeb)))
    (v12:nsIn K aj3 "END"=bv (bv (.ref ZL))) (w12:K.lookup ZL=bv ⟨.type "tuple",ZM,.seq #[.str "end" Vl,.str "" Vm] aeh,aei⟩)
    (v13:nsIn K aj3 "MINUS_BINDING"=bv (bv (.int 5 aec)))
    (dv0:nsIn K aj3 "PART_COUNTS"=bv (bv (.ref da0))) (dw0:K.lookup da0=bv ⟨.type "dict",gV,.dict #[⟨Qp,.str "num" ZN,.int 0 ZX⟩,⟨Qq,.str "text" ZO,.int 0 ZY⟩,⟨Qr,.str "lost" ZP,.int 0 ZZ⟩,⟨Qt,.str "at" ZQ,.int 0 Z_⟩,⟨Qu,.str "minus" ZR,.int 1 Z'⟩,⟨Qv,.str "not" ZS,.int 1 aaa⟩,⟨Qw,.str "+" ZT,.int 2 aab⟩,⟨Qx,.str "-" ZU,.int 2 aac⟩,⟨Qy,.str "*" ZV,.int 2 aad⟩,⟨Qz,.str "/" ZW,.int 2 aae⟩,⟨Lc,.str "&" Vn,.int 2 Vy⟩,⟨Ld,.str "<" Vo,.int 2 Vz⟩,⟨Le,.str "=" Vp,.int 2 VA⟩,⟨Lg,.str "rest" Vq,.int 2 VB⟩,⟨Lh,.str "if" Vr,.int 3 VC⟩,⟨Li,.str "else" Vs,.int 2 VD⟩,⟨Lj,.str "sum" Vt,.int 0 VE⟩,⟨Lk,.str "count" Vu,.int 0 VF⟩,⟨Ll,.str "least" Vv,.int 0 VG⟩,⟨Ln,.str "greatest" Vw,.int 0 VH⟩,⟨Lo,.str "find" Vx,.int 1 VI⟩] de0,#[]⟩) (dm0:(da0 == sysModules)=kt) (Lp:Qp=hashStr w "num") (Lq:Qq=hashStr w "text") (Lr:Qr=hashStr w "lost") (Ls:Qt=hashStr w "at") (Lu:Qu=hashStr w "minus") (Lv:Qv=hashStr w "not") (Lw:Qw=hashStr w "+") (Lx:Qx=hashStr w "-") (Ly:Qy=hashStr w "*") (Lz:Qz=hashStr w "/") (CF:Lc=hashStr w "&") (CG:Ld=hashStr w "<") (CH:Le=hashStr w "=") (CI:Lg=hashStr w "rest") (CJ:Lh=hashStr w "if") (CK:Li=hashStr w "else") (CL:Lj=hashStr w "sum") (CN:Lk=hashStr w "count") (CO:Ll=hashStr w "least") (CP:Ln=hashStr w "greatest") (CQ:Lo=hashStr w "find")
    (dv1:nsIn K aj3 "BINDING"=bv (bv (.ref da1))) (Ph:K.lookup da1=bv ⟨.type "dict",gV,.dict #[⟨QA,.str "<" aaf,.int 1 aam⟩,⟨QB,.str "=" aag,.int 1 aan⟩,⟨QC,.str "&" aah,.int 2 aao⟩,⟨QD,.str "+" aai,.int 3 aap⟩,⟨QE,.str "-" aaj,.int 3 aaq⟩,⟨QF,.str "*" aak,.int 4 aar⟩,⟨QG,.str "/" aal,.int 4 aas⟩] de1,#[]⟩) (dm1:(da1 == sysModules)=kt) (LA:QA=hashStr w "<") (LC:QB=hashStr w "=") (LD:QC=hashStr w "&") (LG:QD=hashStr w "+") (LH:QE=hashStr w "-") (LI:QF=hashStr w "*") (LJ:QG=hashStr w "/")
     :
    ∃fd:ajQ,(∀(s:ajT)(u:ajU),BindsTo s fd ⟨[u],[]⟩ [("script",u)])/\∀base:Heap,K.In base->base.Ns aj3 mg->FnOk l.prog w K mg base (CXJ l.prog w) 166 fa fd ["script"] (spW K 1 F_law):=by
  refine J.Oi X G hfa d68 (λ_ _ _ _ _ _ s u=> .of_eq rfl) (λf fd Fu base kb nb=>?_);have Z0:=mg_none_of kb nb z0;have Z1:=mg_none_of kb nb z1;have Z2:=mg_none_of kb nb z2;have Z3:=mg_none_of kb nb z3;have Z4:=mg_none_of kb nb z4;have Z5:=mg_none_of kb nb z5;have Z6:=mg_none_of kb nb z6;have Z7:=mg_none_of kb nb z7;have Z8:=mg_none_of kb nb z8;have Z9:=mg_none_of kb nb z9;have Z10:=mg_none_of kb nb z10;have Z11:=mg_none_of kb nb z11;have Z12:=mg_none_of kb nb z12;have V0:=mg_of kb nb v0;have V1:=mg_of kb nb v1;have V2:=mg_of kb nb v2;have V3:=mg_of kb nb v3;have V4:=mg_of kb nb v4;have V5:=mg_of kb nb v5;have V6:=mg_of kb nb v6;have V7:=mg_of kb nb v7;have V8:=mg_of kb nb v8;have V9:=mg_of kb nb v9;have V10:=mg_of kb nb v10;have V11:=mg_of kb nb v11;have V12:=mg_of kb nb v12;have V13:=mg_of kb nb v13;have TB:TabOk K jD fW qr:=J.Ua trivial trivial trivial;have DD0:J.nj K w mg "PART_COUNTS" aB:=⟨_,_,_,mg_of kb nb dv0,dw0,dm0,⟨⟨Lp,⟨_,rfl⟩,⟨_,rfl⟩⟩,⟨Lq,⟨_,rfl⟩,⟨_,rfl⟩⟩,⟨Lr,⟨_,rfl⟩,⟨_,rfl⟩⟩,⟨Ls,⟨_,rfl⟩,⟨_,rfl⟩⟩,⟨Lu,⟨_,rfl⟩,⟨_,rfl⟩⟩,⟨Lv,⟨_,rfl⟩,⟨_,rfl⟩⟩,⟨Lw,⟨_,rfl⟩,⟨_,rfl⟩⟩,⟨Lx,⟨_,rfl⟩,⟨_,rfl⟩⟩,⟨Ly,⟨_,rfl⟩,⟨_,rfl⟩⟩,⟨Lz,⟨_,rfl⟩,⟨_,rfl⟩⟩,⟨CF,⟨_,rfl⟩,⟨_,rfl⟩⟩,⟨CG,⟨_,rfl⟩,⟨_,rfl⟩⟩,⟨CH,⟨_,rfl⟩,⟨_,rfl⟩⟩,⟨CI,⟨_,rfl⟩,⟨_,rfl⟩⟩,⟨CJ,⟨_,rfl⟩,⟨_,rfl⟩⟩,⟨CK,⟨_,rfl⟩,⟨_,rfl⟩⟩,⟨CL,⟨_,rfl⟩,⟨_,rfl⟩⟩,⟨CN,⟨_,rfl⟩,⟨_,rfl⟩⟩,⟨CO,⟨_,rfl⟩,⟨_,rfl⟩⟩,⟨CP,⟨_,rfl⟩,⟨_,rfl⟩⟩,⟨CQ,⟨_,rfl⟩,⟨_,rfl⟩⟩,trivial⟩,by decide+kernel⟩;have DD1:J.nj K w mg "BINDING" aT:=⟨_,_,_,mg_of kb nb dv1,Ph,dm1,⟨⟨LA,⟨_,rfl⟩,⟨_,rfl⟩⟩,⟨LC,⟨_,rfl⟩,⟨_,rfl⟩⟩,⟨LD,⟨_,rfl⟩,⟨_,rfl⟩⟩,⟨LG,⟨_,rfl⟩,⟨_,rfl⟩⟩,⟨LH,⟨_,rfl⟩,⟨_,rfl⟩⟩,⟨LI,⟨_,rfl⟩,⟨_,rfl⟩⟩,⟨LJ,⟨_,rfl⟩,⟨_,rfl⟩⟩,trivial⟩,by decide+kernel⟩;have H1:J.dk l.prog w K mg base 1 "_law_digit" 2 az:=J.hdg kb nb d1 (J.tk (c:=yB) TB);have H2:J.dk l.prog w K mg base 2 "_law_area" 1 eu:=J.hdg kb nb d2 (J.tk (c:=zV) TB ⟨H1.mo,trivial⟩ (hb:=⟨Z0,trivial⟩));have H3:J.dk l.prog w K mg base 2 "_law_pins" 2 cL:=J.hdg kb nb d3 (J.tk (c:=zW) TB ⟨H1.mo,trivial⟩ (hb:=⟨Z1,Z2,trivial⟩));have H4:J.dk l.prog w K mg base 3 "_law_leaf" 2 gQ:=J.hdg kb nb d4 (J.tk (c:=zX) TB ⟨H2.mo,H1.mo,H3.mo,trivial⟩ (hb:=⟨Z2,Z3,trivial⟩));have G5:∀n:Nat,J.dk l.prog w K mg base (3+n) "_law_formula" 3 (aI n):=λn=>by
    induction n with
    |zero=>exact J.gX (ps:=["own","deep","room"]) kb nb d5 (λ_ _ _ _ _ _ us hl=>J.ln3 us hl λ_ _ _=>rfl)
    |succ n ih=>exact J.hdg kb nb d5 (J.tk (c:=(uK (aI n))) TB ⟨H1.mo,ih,H4.mo,H2.mo,H3.mo,trivial⟩ (hb:=⟨Z1,Z2,trivial⟩))
  have H5:J.dk l.prog w K mg base 17 "_law_formula" 3 ay:=(G5 14);have H6:J.dk l.prog w K mg base 1 "_law_own" 1 ij:=J.hdg kb nb d6 (J.tk (c:=B2) TB (hb:=⟨Z4,Z2,trivial⟩));have H7:J.dk l.prog w K mg base 2 "_law_loose" 2 gY:=J.hdg kb nb d7 (J.tk (c:=yC) TB ⟨H1.mo,trivial⟩);have H8:J.dk l.prog w K mg base 1 "_law_level" 1 eJ:=J.hdg kb nb d8 (J.tk (c:=yD) TB);have H9:J.dk l.prog w K mg base 1 "_law_cell_name" 2 bX:=J.hdg kb nb d9 (J.tk (c:=qt) TB (hb:=⟨Z5,trivial⟩));have VZ:J.dk l.prog w K mg base 2 "_law_area_name" 2 bx:=J.hdg kb nb d10 (J.tk (c:=qu) TB ⟨H9.mo,trivial⟩);have H11:J.dk l.prog w K mg base 2 "_law_leaf_text" 1 bC:=J.hdg kb nb d11 (J.tk (c:=qv) TB ⟨H9.mo,trivial⟩ (hb:=⟨Z5,trivial⟩));have H12:J.dk l.prog w K mg base 1 "_law_kids" 1 cV:=J.hdg kb nb d12 (J.tk (c:=zY) TB (hb:=⟨Z6,trivial⟩));have G13:∀n:Nat,J.dk l.prog w K mg base (2+n) "_law_words" 3 (au n):=λn=>by
    induction n with
    |zero=>exact J.gX (ps:=["formula","least","loose"]) kb nb d13 (λ_ _ _ _ _ _ us hl=>J.ln3 us hl λ_ _ _=>rfl)
    |succ n ih=>exact J.hdg kb nb d13 (J.tk (c:=(yE (au n))) TB ⟨H8.mo,VZ.mo,H1.mo,H11.mo,ih,H12.mo,trivial⟩ (hb:=⟨Z3,trivial⟩))
  have H13:J.dk l.prog w K mg base 22 "_law_words" 3 ak:=(G13 20);have G14:∀n:Nat,J.dk l.prog w K mg base (0+n) "_law_same" 2 (eE n):=λn=>by
    induction n with
    |zero=>exact J.gX (ps:=["found","due"]) kb nb d14 (λ_ _ _ _ _ _ us hl=>J.ln2 us hl λ_ _=>rfl)
    |succ n ih=>exact J.hdg kb nb d14 (J.tk (c:=(zZ (eE n))) TB ⟨ih,trivial⟩ (hb:=⟨Z7,Z1,Z5,Z2,Z8,Z3,Z9,trivial⟩))
  have H14:J.dk l.prog w K mg base 16 "_law_same" 2 cM:=(G14 16);have H15:J.dk l.prog w K mg base 1 "part_many" 1 bY:=J.hdg kb nb d15 (J.tk (c:=z_) TB (hd:=⟨DD0,trivial⟩));have H16:J.dk l.prog w K mg base 2 "parts_of" 1 bT:=J.hdg kb nb d16 (J.tk (c:=B3) TB ⟨H15.mo,trivial⟩);have H17:J.dk l.prog w K mg base 3 "level_below" 1 f_:=J.hdg kb nb d17 (J.tk (c:=vT) TB ⟨H16.mo,trivial⟩);have H18:J.dk l.prog w K mg base 1 "has_area" 1 bU:=J.hdg kb nb d18 (J.tk (c:=B4) TB (hc:=⟨⟨_,[.str "sum",.str "count",.str "least",.str "greatest",.str "find"],_,_,_,V0,w0,rfl,rfl,(show(5:Nat)<=aj4 by decide),(.cons ⟨_,rfl⟩ (.cons ⟨_,rfl⟩ (.cons ⟨_,rfl⟩ (.cons ⟨_,rfl⟩ (.cons ⟨_,rfl⟩ .nil))))),⟨⟨rfl,by decide+kernel⟩,⟨⟨rfl,by decide+kernel⟩,⟨⟨rfl,by decide+kernel⟩,⟨⟨rfl,by decide+kernel⟩,⟨⟨rfl,by decide+kernel⟩,trivial⟩⟩⟩⟩⟩⟩,trivial⟩));have H19:J.dk l.prog w K mg base 1 "is_whole" 1 gN:=J.hdg kb nb d19 (J.tk (c:=B5) TB (hb:=⟨Z7,Z8,Z9,trivial⟩));have H20:J.dk l.prog w K mg base 1 "is_text_sign" 1 fq:=J.hdg kb nb d20 (J.tk (c:=uR) TB);have H21:J.dk l.prog w K mg base 2 "has_text_signs" 1 cE:=J.hdg kb nb d21 (J.tk (c:=qx) TB ⟨H20.mo,trivial⟩ (hb:=⟨Z10,Z11,trivial⟩));have H22:J.dk l.prog w K mg base 3 "is_text" 1 kH:=J.hdg kb nb d22 (J.tk (c:=FD) TB ⟨H21.mo,trivial⟩ (hc:=⟨⟨_,V1⟩,trivial⟩) (hb:=⟨Z7,Z5,Z3,trivial⟩));have H23:J.dk l.prog w K mg base 2 "is_number_row" 2 bG:=J.hdg kb nb d23 (J.tk (c:=sh) TB ⟨H19.mo,trivial⟩ (hb:=⟨Z7,Z1,Z10,Z3,trivial⟩));have H24:J.dk l.prog w K mg base 1 "is_place" 1 cP:=J.hdg kb nb d24 (J.tk (c:=B6) TB (hc:=⟨⟨_,V2⟩,⟨_,V3⟩,trivial⟩));have H25:J.dk l.prog w K mg base 3 "are_pins" 2 fF:=J.hdg kb nb d25 (J.tk (c:=B7) TB ⟨H23.mo,trivial⟩ (hb:=⟨Z10,trivial⟩));have H26:J.dk l.prog w K mg base 2 "has_corners" 1 dF:=J.hdg kb nb d26 (J.tk (c:=vU) TB ⟨H24.mo,trivial⟩);have H27:J.dk l.prog w K mg base 1 "area_many" 1 iN:=J.hdg kb nb d27 (J.tk (c:=Aa) TB);have H28:J.dk l.prog w K mg base 3 "is_area" 1 kI:=J.hdg kb nb d28 (J.tk (c:=FE) TB ⟨H26.mo,H27.mo,trivial⟩ (hc:=⟨⟨_,V4⟩,trivial⟩));have H29:J.dk l.prog w K mg base 4 "is_tail" 2 cO:=J.hdg kb nb d29 (J.tk (c:=FF) TB ⟨H18.mo,H19.mo,H22.mo,H23.mo,H24.mo,H25.mo,H28.mo,trivial⟩ (hb:=⟨Z3,trivial⟩));have H30:J.dk l.prog w K mg base 2 "tail_of" 1 dw:=J.hdg kb nb d30 (J.tk (c:=FG) TB ⟨H15.mo,trivial⟩);have H31:J.dk l.prog w K mg base 5 "is_piece" 1 jo:=J.hdg kb nb d31 (J.tk (c:=B8) TB ⟨H29.mo,H15.mo,H30.mo,H16.mo,trivial⟩ (hb:=⟨Z7,Z1,Z3,Z5,trivial⟩) (hd:=⟨DD0,trivial⟩));have H32:J.dk l.prog w K mg base 6 "made_formula" 1 fG:=J.hdg kb nb YZ (J.tk (c:=uX) TB ⟨H17.mo,H31.mo,trivial⟩ (hc:=⟨⟨_,V5⟩,⟨_,V6⟩,trivial⟩) (hb:=⟨Z3,Z10,trivial⟩));have H33:J.dk l.prog w K mg base 1 "is_name_sign" 1 dW:=J.hdg kb nb d33 (J.tk (c:=uY) TB (hc:=⟨⟨⟨_,V7⟩,by decide+kernel⟩,⟨⟨_,V8⟩,by decide+kernel⟩,trivial⟩));have H34:J.dk l.prog w K mg base 1 "closing_mark" 2 fH:=J.hdg kb nb d34 (J.tk (c:=uZ) TB);have H35:J.dk l.prog w K mg base 2 "word_end" 2 fI:=J.hdg kb nb d35 (J.tk (c:=B9) TB ⟨H33.mo,H34.mo,trivial⟩ (hc:=⟨⟨⟨_,V8⟩,by decide+kernel⟩,trivial⟩) (hb:=⟨Z12,Z3,trivial⟩));have H36:J.dk l.prog w K mg base 1 "is_row_number" 1 eO:=J.hdg kb nb d36 (J.tk (c:=si) TB (hc:=⟨⟨⟨_,V8⟩,by decide+kernel⟩,trivial⟩) (hb:=⟨Z10,trivial⟩));have H37:J.dk l.prog w K mg base 2 "is_name" 1 kJ:=J.hdg kb nb d37 (J.tk (c:=FH) TB ⟨H36.mo,trivial⟩ (hc:=⟨⟨⟨_,V7⟩,by decide+kernel⟩,trivial⟩) (hb:=⟨Z3,trivial⟩));have H38:J.dk l.prog w K mg base 3 "read_place" 1 fO:=J.hdg kb nb d38 (J.tk (c:=yF) TB ⟨H37.mo,trivial⟩ (hc:=⟨⟨⟨_,V7⟩,by decide+kernel⟩,trivial⟩) (hb:=⟨Z8,trivial⟩));have H39:J.dk l.prog w K mg base 4 "read_pinned" 1 cW:=J.hdg kb nb d39 (J.tk (c:=vV) TB ⟨H38.mo,trivial⟩);have H40:J.dk l.prog w K mg base 3 "read_quoted" 1 f':=J.hdg kb nb d40 (J.tk (c:=vW) TB ⟨H21.mo,trivial⟩);have H41:J.dk l.prog w K mg base 1 "read_number" 1 gf:=J.hdg kb nb d41 (J.tk (c:=vX) TB (hb:=⟨Z8,trivial⟩));have H42:J.dk l.prog w K mg base 3 "joined_corners" 2 dX:=J.hdg kb nb d42 (J.tk (c:=qz) TB ⟨H26.mo,trivial⟩);have H43:J.dk l.prog w K mg base 5 "read_pinned_area" 1 c_:=J.hdg kb nb d43 (J.tk (c:=oA) TB ⟨H39.mo,H42.mo,trivial⟩ (hb:=⟨Z3,trivial⟩));have H44:J.dk l.prog w K mg base 6 "read_word" 1 cg:=J.hdg kb nb d44 (J.tk (c:=Ab) TB ⟨H39.mo,H40.mo,H41.mo,H43.mo,trivial⟩ (hc:=⟨⟨⟨_,V8⟩,by decide+kernel⟩,⟨_,[.str "not",.str "rest",.str "if",.str "else",.str "sum",.str "count",.str "least",.str "greatest",.str "find"],_,_,_,V9,w9,rfl,rfl,(show(9:Nat)<=aj4 by decide),(.cons ⟨_,rfl⟩ (.cons ⟨_,rfl⟩ (.cons ⟨_,rfl⟩ (.cons ⟨_,rfl⟩ (.cons ⟨_,rfl⟩ (.cons ⟨_,rfl⟩ (.cons ⟨_,rfl⟩ (.cons ⟨_,rfl⟩ (.cons ⟨_,rfl⟩ .nil))))))))),⟨⟨rfl,by decide+kernel⟩,⟨⟨rfl,by decide+kernel⟩,⟨⟨rfl,by decide+kernel⟩,⟨⟨rfl,by decide+kernel⟩,⟨⟨rfl,by decide+kernel⟩,⟨⟨rfl,by decide+kernel⟩,⟨⟨rfl,by decide+kernel⟩,⟨⟨rfl,by decide+kernel⟩,⟨⟨rfl,by decide+kernel⟩,trivial⟩⟩⟩⟩⟩⟩⟩⟩⟩⟩,⟨_,[.str "+",.str "-",.str "*",.str "/",.str "&",.str "<",.str "=",.str "(",.str ")",.str ","],_,_,_,V10,w10,rfl,rfl,(show(10:Nat)<=aj4 by decide),(.cons ⟨_,rfl⟩ (.cons ⟨_,rfl⟩ (.cons ⟨_,rfl⟩ (.cons ⟨_,rfl⟩ (.cons ⟨_,rfl⟩ (.cons ⟨_,rfl⟩ (.cons ⟨_,rfl⟩ (.cons ⟨_,rfl⟩ (.cons ⟨_,rfl⟩ (.cons ⟨_,rfl⟩ .nil)))))))))),⟨⟨rfl,by decide+kernel⟩,⟨⟨rfl,by decide+kernel⟩,⟨⟨rfl,by decide+kernel⟩,⟨⟨rfl,by decide+kernel⟩,⟨⟨rfl,by decide+kernel⟩,⟨⟨rfl,by decide+kernel⟩,⟨⟨rfl,by decide+kernel⟩,⟨⟨rfl,by decide+kernel⟩,⟨⟨rfl,by decide+kernel⟩,⟨⟨rfl,by decide+kernel⟩,trivial⟩⟩⟩⟩⟩⟩⟩⟩⟩⟩⟩,trivial⟩));have H45:J.dk l.prog w K mg base 7 "words_of" 1 jv:=J.hdg kb nb d45 (J.tk (c:=B_) TB ⟨H35.mo,H44.mo,trivial⟩ (hb:=⟨Z3,trivial⟩));have H46:J.dk l.prog w K mg base 1 "check_brackets" 1 dY:=J.hdg kb nb d46 (J.tk (c:=qA) TB (hc:=⟨⟨_,V11⟩,trivial⟩));have H47:J.zJ l.prog w K mg base 2 "WordRow" 2 bI:=J.Oj (ps:=["self","words"]) kb nb d47 (J.ky (c:=f6) (k:=0) trivial trivial trivial TB trivial trivial trivial (hx:=J.md.no rfl rfl rfl rfl rfl rfl (J.j7 trivial trivial ⟨yo0,yo1,trivial⟩))) mE rfl nr (λ_ _ _ _ _ _ us hl=>J.ln2 us hl λ_ _=>rfl);have H48:J.dk l.prog w K mg base 1 "join_down" 3 gR:=J.hdg kb nb d48 (J.tk (c:=Ac) TB (hd:=⟨DD1,trivial⟩));have H49:J.sf l.prog w K mg base 1 "WordRow" "ahead" 1 aC:=J.yw (ps:=["self"]) d49 (J.ky (c:=iq) (k:=0) ⟨⟨_,[.str "end",.str ""],_,_,_,V12,w12,rfl,rfl,(show(2:Nat)<=aj4 by decide),(.cons ⟨_,rfl⟩ (.cons ⟨_,rfl⟩ .nil)),⟨⟨rfl,by decide+kernel⟩,⟨⟨rfl,by decide+kernel⟩,trivial⟩⟩⟩,trivial⟩ ⟨Z3,trivial⟩ trivial TB trivial trivial trivial (hx:=J.md.no rfl rfl rfl rfl rfl rfl (J.j7 trivial trivial ⟨yo0,yo1,trivial⟩))) pQ rfl qB (λ_ _ _ _ _ _ us hl=>J.Ov us hl λ_=>rfl);have H50:J.sf l.prog w K mg base 2 "WordRow" "taken" 1 aU:=J.yw (ps:=["self"]) d50 (J.ky (c:=iu) (k:=1) trivial trivial trivial TB trivial trivial trivial (hx:=J.md.no rfl rfl rfl rfl rfl rfl (J.j7 ⟨H49.mono (by decide),trivial⟩ trivial ⟨yo1,trivial⟩))) pR rfl qC (λ_ _ _ _ _ _ us hl=>J.Ov us hl λ_=>rfl);have H51:J.sf l.prog w K mg base 3 "WordRow" "pass_sign" 2 bb:=J.yw (ps:=["self","sign"]) d51 (J.ky (c:=fL) (k:=2) trivial trivial trivial TB trivial trivial trivial (hx:=J.md.no rfl rfl rfl rfl rfl rfl (J.j7 ⟨H50.mono (by decide),trivial⟩ trivial trivial))) lT rfl mF (λ_ _ _ _ _ _ us hl=>J.ln2 us hl λ_ _=>rfl);have H52:J.dk l.prog w K mg base 3 "read_area_word" 1 dZ:=J.hdg kb nb d52 (J.tk (c:=qD) TB (hx:=J.md.no rfl rfl rfl rfl rfl rfl (J.j7 ⟨H50.mono (by decide),trivial⟩ trivial trivial)));have G56:∀n:Nat,J.dk l.prog w K mg base (3+n) "read_call" 2 (cq n)/\J.dk l.prog w K mg base (3+n) "read_whole" 1 (bQ n)/\J.dk l.prog w K mg base (3+n) "read_operand" 1 (bB n)/\J.dk l.prog w K mg base (3+n) "read_part" 1 (cu n):=λn=>by
    induction n with
    |zero=>exact⟨J.gX (ps:=["row","word"]) kb nb d53 (λ_ _ _ _ _ _ us hl=>J.ln2 us hl λ_ _=>rfl),J.gX (ps:=["row"]) kb nb d54 (λ_ _ _ _ _ _ us hl=>J.Ov us hl λ_=>rfl),J.gX (ps:=["row"]) kb nb d55 (λ_ _ _ _ _ _ us hl=>J.Ov us hl λ_=>rfl),J.gX (ps:=["row"]) kb nb d56 (λ_ _ _ _ _ _ us hl=>J.Ov us hl λ_=>rfl)⟩
    |succ n ih=>exact⟨J.hdg kb nb d53 (J.tk (c:=(Ad (cq n) (bQ n) (bB n) (cu n))) TB ⟨H18.mo,H15.mo,ih.2.2.2,H52.mo,trivial⟩ (hb:=⟨Z2,Z1,trivial⟩) (hx:=J.md.no rfl rfl rfl rfl rfl rfl (J.j7 ⟨H51.mono (by omega),trivial⟩ trivial trivial))),J.hdg kb nb d54 (J.tk (c:=(yG (cq n) (bQ n) (bB n) (cu n))) TB ⟨ih.2.2.2,ih.1,trivial⟩ (hx:=J.md.no rfl rfl rfl rfl rfl rfl (J.j7 ⟨H50.mono (by omega),H51.mono (by omega),trivial⟩ trivial trivial))),J.hdg kb nb d55 (J.tk (c:=(u5 (cq n) (bQ n) (bB n) (cu n))) TB ⟨ih.2.1,trivial⟩ (hb:=⟨Z2,trivial⟩) (hx:=J.md.no rfl rfl rfl rfl rfl rfl (J.j7 ⟨H49.mono (by omega),H50.mono (by omega),trivial⟩ trivial trivial))),J.hdg kb nb d56 (J.tk (c:=(Ae (cq n) (bQ n) (bB n) (cu n))) TB ⟨H48.mo,ih.2.2.1,trivial⟩ (hd:=⟨DD1,trivial⟩) (hx:=J.md.no rfl rfl rfl rfl rfl rfl (J.j7 ⟨H50.mono (by omega),H49.mono (by omega),trivial⟩ trivial trivial)))⟩
  have H53:J.dk l.prog w K mg base 163 "read_call" 2 bp:=(G56 160).1;have H54:J.dk l.prog w K mg base 163 "read_whole" 1 ba:=(G56 160).2.1;have H55:J.dk l.prog w K mg base 163 "read_operand" 1 aJ:=(G56 160).2.2.1;have H56:J.dk l.prog w K mg base 163 "read_part" 1 aS:=(G56 160).2.2.2;have H57:J.dk l.prog w K mg base 164 "read_unlooked" 1 dy:=J.hdg kb nb d57 (J.tk (c:=sj) TB ⟨H45.mo,H46.mo,H56.mo,trivial⟩ (hc:=⟨⟨_,[.str "end",.str ""],_,_,_,V12,w12,rfl,rfl,(show(2:Nat)<=aj4 by decide),(.cons ⟨_,rfl⟩ (.cons ⟨_,rfl⟩ .nil)),⟨⟨rfl,by decide+kernel⟩,⟨⟨rfl,by decide+kernel⟩,trivial⟩⟩⟩,trivial⟩) (hx:=J.md.no rfl rfl rfl rfl rfl rfl (J.j7 ⟨H49.mono (by decide),trivial⟩ ⟨H47.mono (by decide),trivial⟩ trivial)));have H58:J.dk l.prog w K mg base 165 "read_formula" 1 cN:=J.hdg kb nb d58 (J.tk (c:=u6) TB ⟨H32.mo,H57.mo,trivial⟩);have H59:J.dk l.prog w K mg base 2 "made_place" 2 hG:=J.hdg kb nb d59 (J.tk (c:=yH) TB ⟨H24.mo,trivial⟩);have H60:J.dk l.prog w K mg base 3 "place_name" 1 hI:=J.hdg kb nb d60 (J.tk (c:=yI) TB ⟨H59.mo,trivial⟩ (hc:=⟨⟨⟨_,V7⟩,by decide+kernel⟩,trivial⟩) (hb:=⟨Z5,trivial⟩));have H61:J.dk l.prog w K mg base 4 "pinned_name" 2 cX:=J.hdg kb nb d61 (J.tk (c:=vY) TB ⟨H60.mo,trivial⟩);have H62:J.dk l.prog w K mg base 5 "pinned_area_name" 2 bV:=J.hdg kb nb d62 (J.tk (c:=oB) TB ⟨H61.mo,trivial⟩);have H63:J.dk l.prog w K mg base 1 "binding_of" 1 fR:=J.hdg kb nb d63 (J.tk (c:=yJ) TB (hc:=⟨⟨_,V13⟩,trivial⟩) (hd:=⟨DD1,trivial⟩));have G67:∀n:Nat,J.dk l.prog w K mg base (5+n) "call_text" 1 (bD n)/\J.dk l.prog w K mg base (5+n) "part_text" 2 (bK n)/\J.dk l.prog w K mg base (5+n) "op_text" 1 (cG n)/\J.dk l.prog w K mg base (5+n) "formula_text" 1 (aF n):=λn=>by
    induction n with
    |zero=>exact⟨J.gX (ps:=["formula"]) kb nb d64 (λ_ _ _ _ _ _ us hl=>J.Ov us hl λ_=>rfl),J.gX (ps:=["formula","least_binding"]) kb nb d65 (λ_ _ _ _ _ _ us hl=>J.ln2 us hl λ_ _=>rfl),J.gX (ps:=["formula"]) kb nb d66 (λ_ _ _ _ _ _ us hl=>J.Ov us hl λ_=>rfl),J.gX (ps:=["formula"]) kb nb d67 (λ_ _ _ _ _ _ us hl=>J.Ov us hl λ_=>rfl)⟩
    |succ n ih=>exact⟨J.hdg kb nb d64 (J.tk (c:=(Af (bD n) (bK n) (cG n) (aF n))) TB ⟨H18.mo,ih.2.2.2,H30.mo,H16.mo,H62.mo,trivial⟩),J.hdg kb nb d65 (J.tk (c:=(Ag (bD n) (bK n) (cG n) (aF n))) TB ⟨ih.2.2.2,H63.mo,trivial⟩),J.hdg kb nb d66 (J.tk (c:=(FI (bD n) (bK n) (cG n) (aF n))) TB ⟨ih.2.1,trivial⟩ (hd:=⟨DD1,trivial⟩)),J.hdg kb nb d67 (J.tk (c:=(u7 (bD n) (bK n) (cG n) (aF n))) TB ⟨ih.1,H61.mo,ih.2.2.1,ih.2.1,trivial⟩ (hc:=⟨⟨_,V13⟩,trivial⟩) (hb:=⟨Z5,trivial⟩) (hd:=⟨DD1,trivial⟩))⟩
  have H64:J.dk l.prog w K mg base 45 "call_text" 1 bF:=(G67 40).1;have H65:J.dk l.prog w K mg base 45 "part_text" 2 bu:=(G67 40).2.1;have H66:J.dk l.prog w K mg base 45 "op_text" 1 cF:=(G67 40).2.2.1;have H67:J.dk l.prog w K mg base 45 "formula_text" 1 aK:=(G67 40).2.2.2;exact J.T8 Fu (J.ky (c:=J4) (k:=165) trivial trivial ⟨H5.mono (by decide),H6.mono (by decide),H7.mono (by decide),H13.mono (by decide),H14.mono (by decide),H58.mono (by decide),H67.mono (by decide),trivial⟩ TB trivial trivial trivial) Uo rfl Ys
end K11
open PySem PySem.W PyProof.Rows
set_option maxRecDepth 100000 in
set_option maxHeartbeats 0 in
theorem PySem.Challenge.cw_onelook_k11_whole_formulas_read_back_holds : PySem.Challenge.rw_onelook_k11_whole_formulas_read_back.Holds := by
  refine K11.head ?_
  k_fill
  refine L2.walk_of (l:=PySem.Challenge.rw_onelook_k11_whole_formulas_read_back) (n:=63) (k:=166) (x:="script") (CX:=fun w => J.CXJ PySem.Challenge.rw_onelook_k11_whole_formulas_read_back.prog w) (sp:=fun w => J.spW _ 1 K11.F_law) rfl (by decide) rfl ⟨rfl,by decide,by decide⟩ (fun w h Y => PySem.W.kIn_of Y) ?F (fun w H a ns hl hO hS => J.law_sp K11.law_true H a ns hl (J.OnlyT.of hO) hS (J.tb_none ?Ta ?Tb ?Tc ?Td ?Te ?Tf ?Tg ?Th ?Ti)) (fun _ _ _ _ _ z => z.elim fun _ y => y.elim fun _ x => x.2)
  case F=>
    intro w mg fa h KX G hmg;refine' K11.all_mk KX G hmg ?d1 ?d2 ?d3 ?d4 ?d5 ?d6 ?d7 ?d8 ?d9 ?d10 ?d11 ?d12 ?d13 ?d14 ?d15 ?d16 ?d17 ?d18 ?d19 ?d20 ?d21 ?d22 ?d23 ?d24 ?d25 ?d26 ?d27 ?d28 ?d29 ?d30 ?d31 ?YZ ?d33 ?d34 ?d35 ?d36 ?d37 ?d38 ?d39 ?d40 ?d41 ?d42 ?d43 ?d44 ?d45 ?d46 ?d47 ?d48 ?d49 ?d50 ?d51 ?d52 ?d53 ?d54 ?d55 ?d56 ?d57 ?d58 ?d59 ?d60 ?d61 ?d62 ?d63 ?d64 ?d65 ?d66 ?d67 ?d68 ?yo0 ?yo1 ?z0 ?z1 ?z2 ?z3 ?z4 ?z5 ?z6 ?z7 ?z8 ?z9 ?z10 ?z11 ?z12 ?v0 ?w0 ?v1 ?v2 ?v3 ?v4 ?v5 ?v6 ?v7 ?v8 ?v9 ?w9 ?v10 ?w10 ?v11 ?v12 ?w12 ?v13 ?dv0 ?dw0 ?dm0 ?Lp ?Lq ?Lr ?Ls ?Lu ?Lv ?Lw ?Lx ?Ly ?Lz ?CF ?CG ?CH ?CI ?CJ ?CK ?CL ?CN ?CO ?CP ?CQ ?dv1 ?Ph ?dm1 ?LA ?LC ?LD ?LG ?LH ?LI ?LJ
    case d1 |d2 |d3 |d4 |d5 |d6 |d7 |d8 |d9 |d10 |d11 |d12 |d13 |d14 |d15 |d16 |d17 |d18 |d19 |d20 |d21 |d22 |d23 |d24 |d25 |d26 |d27 |d28 |d29 |d30 |d31 |YZ |d33 |d34 |d35 |d36 |d37 |d38 |d39 |d40 |d41 |d42 |d43 |d44 |d45 |d46=>refine' J.Bu ?a ?l ?c ?k;(case a=>k_is);(case l=>k_is);(case c=>k_is);(case k=>k_is)
    case d47=>refine' J.T_ ?a ?b ?e ?i ?l ?c ?k ?n;(case a=>k_is);(case b=>k_is);(case e=>k_is);(case i=>k_is);(case l=>k_is);(case c=>k_is);(case k=>k_is);(case n=>k_is)
    case d48=>refine' J.Bu ?a ?l ?c ?k;(case a=>k_is);(case l=>k_is);(case c=>k_is);(case k=>k_is)
    case d49 |d50 |d51=>refine' J.T9 ?a ⟨?p,?h,?o,?s⟩ ?i ?l ?c ?k ?n;(case a=>k_is);(case p=>k_is);(case h=>k_is);(case o=>k_is);(case s=>k_is);(case i=>k_is);(case l=>k_is);(case c=>k_is);(case k=>k_is);(case n=>k_is)
    case d52 |d53 |d54 |d55 |d56 |d57 |d58 |d59 |d60 |d61 |d62 |d63 |d64 |d65 |d66 |d67 |d68=>refine' J.Bu ?a ?l ?c ?k;(case a=>k_is);(case l=>k_is);(case c=>k_is);(case k=>k_is)
    case yo0 |yo1=>refine' J.T' ?a ⟨?p,?h,?o,?s⟩ ?n;(case a=>k_is);(case p=>k_is);(case h=>k_is);(case o=>k_is);(case s=>k_is);(case n=>k_is)
    case z0 |z1 |z2 |z3 |z4 |z5 |z6 |z7 |z8 |z9 |z10 |z11 |z12 |v0 |w0 |v1 |v2 |v3 |v4 |v5 |v6 |v7 |v8 |v9 |w9 |v10 |w10 |v11 |v12 |w12 |v13 |dv0 |dw0=>k_is
    case dm0 |Lp |Lq |Lr |Ls |Lu |Lv |Lw |Lx |Ly |Lz |CF |CG |CH |CI |CJ |CK |CL |CN |CO |CP |CQ=>rfl
    case dv1 |Ph=>k_is
    case dm1 |LA |LC |LD |LG |LH |LI |LJ=>rfl
  (case Ta=>k_is)
  (case Tb=>k_is)
  (case Tc=>k_is)
  (case Td=>k_is)
  (case Te=>k_is)
  (case Tf=>k_is)
  (case Tg=>k_is)
  (case Th=>k_is)
  (case Ti=>k_is)
