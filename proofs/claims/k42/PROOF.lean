import PyProof.Rows.All
import Wide.All
import OpenK.AllK
import Wide.FinOn
import Lean
import PyProof.EqAt
import PyProof.EqKinds
import PyProof.TupleCall
import PySem.Challenge.RW_passersby_k42_rules_made_fewer
noncomputable section
set_option Elab.async false
set_option linter.all false
set_option maxRecDepth 100000
noncomputable def zza:=@PySem.wpAny_bind
noncomputable def zzb:=@PySem.wpAny_pure
noncomputable def zzc:=@PySem.Heap.get?_push_of_some
noncomputable def zzd:=@List.length_map
noncomputable def zze:=@PySem.Heap.get?_push_size
noncomputable def zzf:=@List.length_append
noncomputable def zzg:=@List.mem_cons_of_mem
noncomputable def zzi:=@decide_eq_true_eq
abbrev zzj:=PySem.Value->PySem.Shared->Prop
abbrev zzk:=List (PySem.Addr×PySem.Obj)
abbrev zzl:=PySem.Str->Option PySem.Value
section
open PySem PySem.Spec PyProof.Rows
def ac:=@Bool.and_eq_true
def ai:=@Nat.le_refl
def ak:=@List.mem_cons_self
def am:=@Heap.lt_size
def ar:=@if_pos
def au:=@if_neg
def aw:=@Nat.zero_le
def ax:=@List.map_cons
def ay:=@List.size_toArray
def ba:=@List.length_range
def be:=@Array.length_toList
def bi:=@Nat.ne_of_lt
def bj:=@Array.getElem?_eq_getElem
def bo:=@Nat.lt_of_lt_of_le
def bu:=@decide_eq_false
def ce:=@Nat.le_trans
def de:=@List.getElem?_eq_getElem
def di:=@List.getElem?_append_left
def ef:=@decide_eq_true
def eg:=@List.map_append
def eh:=@List.length_cons
def ev:=@wpAny_holding
def eE:=@List.mem_cons
def fi:=@List.length_nil
def ge:=@PySem.boot_len
def gs:=@wpAny_call_entry
def gt:=@wpAny_callSpecial?_slot
def ib:=@List.map_map
def ic:=@Array.getElem?_toList
def ik:=@List.getElem?_map
def io:=@Obj.data_mapFields
def ir:=@List.all_eq_true
def ix:=@List.map_congr_left
def ke:=@List.getElem?_take_of_lt
def kw:=@decide_eq_false_iff_not
def li:=@Nat.ne_of_gt
def ll:=@PySem.W.mg_of
def ls:=@List.mem_append_right
def lu:=@Heap.get?_update_self
def mo:=@List.append_nil
def ng:=@List.filterMap_cons
def ni:=@PyProof.Rows.callWith_type1
def nu:=@Array.getD_eq_getD_getElem?
def ny:=@Around.under_plainId
def om:=@codeAny_builtin
def ou:=@List.getD_eq_getElem?_getD
def oz:=@Nat.lt_of_le_of_lt
def pi:=@Bool.false_ne_true
def py:=@wpS_bind
def pI:=@wpAny_field
def qu:=@PySem.F.slot_dict_get
def re:=@List.getElem?_append_right
def r0:=@Heap.size_push
def sd:=@wpAny_newObj_type
def se:=@Nat.lt_succ_of_lt
def ss:=@List.getElem?_set_ne
def tu:=@Bool.false_eq_true
def ua:=@Array.getElem?_eq_none
def ue:=@List.find?_cons
def ug:=@Nat.lt_irrefl
def ul:=@List.foldl_cons
def um:=@Bool.or_eq_true
def ur:=@PySem.F.entry_dict_get
def ut:=@List.getElem?_set_self
def u8:=@PySem.mem_of_lookup
def va:=@List.zip_cons_cons
def ve:=@Calls.spliced_cons
def we:=@List.not_mem_nil
def wn:=@List.mem_of_getElem?
def wE:=@List.mem_nil_iff
def wP:=@wpAny_seqItems
def wS:=@List.foldl_append
def wT:=@Bool.not_eq_true'
def xt:=@F.slot_zip_next
def xv:=@wpS_pure
def xz:=@or_false
def ye:=@Obj.isFreed_of_fields
def yi:=@wpAny_Call_Name_kw
def ze:=@tupleKind_room_in1
def zi:=@List.lookup_cons
def Ba:=@Heap.size_update
def Ch:=@List.map_nil
def Cn:=@if_false
def Db:=@List.append_assoc
def Er:=@Int.toNat_natCast
def Go:=@Heap.get?_push_ne
def Ix:=@wpAny_typeOf
def Kf:=@call_meetsIn
def Kg:=@Calls.callWith_builtin
def Kh:=@wpAny_isInstance
def Ki:=@List.length_take
def Kj:=@List.length_drop
def Kk:=@List.getElem_mem
def Kl:=@wpAny_setField
def Km:=@Bool.eq_iff_iff
def Kn:=@List.nodup_append
def Ko:=@Int.le_refl
def Kp:=@Calls.spliced_nil
def Kq:=@wpAny_rule
def Kr:=@wpAny_mono
def Ks:=@wpAny_attempt
def Kt:=@PyProof.Rows.slot_tuple_getitem
def Ku:=@Nat.lt_succ_self
def Kv:=@Bool.false_and
def Kw:=@Nat.le_of_lt
def Kx:=@Heap.get?_update_other
def Ky:=@wpAny_specialOf
def Kz:=@wpAny_passesOwn
def KA:=@plainId_quiet
def KB:=@builtinLookup_eq_fast
def KE:=@List.length_singleton
def KF:=@if_true
def KG:=@Obj.cls_mapFields
def KH:=@sizeLine_eq
def KI:=@Obj.data_mapDictKeys
def KJ:=@Nat.mul_le_mul
def KM:=@Calls.evalArgs_plain
def KN:=@wpAny_forIn_list
def KO:=@Nat.max_eq_right
def KP:=@List.drop_eq_getElem_cons
def KQ:=@List.getElem?_range
def KR:=@List.all_cons
def KU:=@Nat.max_eq_left
def KW:=@PySem.F.plainAttrs_dict
def KY:=@PySem.F.args_dict_get_3
def KZ:=@PySem.F.args_dict_get_2
def K3:=@decide_false
def K4:=@codeAny_mono
def K5:=@Nat.lt_trans
def K6:=@List.length_pos_of_mem
def K7:=@List.ext_getElem?
def K8:=@F.args_zip_next_1
def K9:=@wpAny_notOrdered_dict
def La:=@List.take_append_drop
def Lb:=@List.filterMap_append
def Lc:=@Nat.min_eq_right
def Ld:=@F.entry_zip_next
def Lf:=@wpAny_typeNameOfWhole_keyiter
def Lg:=@List.pairwise_append
def Lh:=@List.mem_append_left
def Li:=@List.exists_mem_of_length_pos
def Lj:=@typeLookup_type
def Lk:=@Nat.min_eq_left
def Ll:=@List.forIn_cons
def Lm:=@Heap.get?_update_ne
def Ln:=@wpS_forRange
def Lo:=@Nat.lt_or_ge
def Lp:=@wpAny_setField_rec
def Lq:=@wpAny_pyIter_tuple
def Lr:=@sub_AttributeError
def Ls:=@isSubtype_stop
def Lu:=@List.pairwise_cons
def Lw:=@List.nodup_nil
def Lx:=@List.mem_singleton
def Lz:=@List.drop_drop
def LA:=@Int.emod_lt_of_pos
def LB:=@Code.quiet_builtin
def LC:=@Array.size_map
def LD:=@Array.forIn_toList
def LF:=@List.mem_of_find?_eq_some
def LG:=@wpAny_setState_of
def LH:=@wpAny_pyIter_list
def LI:=@wpAny_dictEntries
def LJ:=@PySem.typeIs_bool
def LK:=@List.pairwise_map
def LL:=@listUpdate_at
def LM:=@SetTable.toList_insertAt
def LN:=@PySem.F.args_tuple_add_2
def LO:=@List.length_filterMap_le
def LP:=@List.any_cons
def LQ:=@PySem.F.plainAttrs_list
def LR:=@PySem.F.entry_tuple_add
def LS:=@List.getElem?_replicate
def LU:=@List.getElem?_cons_zero
def LV:=@wpAny_pyNext_list_item
def LW:=@size_push'
def LX:=@listItems_at
def LY:=@intKind_is
def LZ:=@call_meets
def L0:=@SetTable.insertAt_perm
def L5:=@PySem.F.slot_tuple_add
def L6:=@wpAny_execs_nil
def L7:=@get?_update_seq
def L8:=@Nat.not_lt_zero
def L9:=@List.mem_append
def Ma:=@Int.emod_nonneg
def Mb:=@wpAny_pyNext_list_end
def Mc:=@wpAny_callSpecialIfBoundUnlessNone?_slot
def Md:=@Classical.choose_spec
end
namespace L2
open PySem PySem.Spec PyProof.Rows
variable {pos p:Pos}{pins:zzk}{a b:Addr}{x:Str}{u:Value}{P:Program}{w:World}{h h':Heap}{A:Around}{t' i:Nat}{E:zzj}{e tg c:Expr}{o:Obj}{us:List Value}{es:List Expr}{f:Value->Value->Sem Value}{ch fp:List Addr}{Q:Unit->Shared->Prop}{body:List Stmt}
abbrev Key:=Sum Int Str
def qf:Key->Value->Bool
 | .inl k,v=>Value.isInt k v
 | .inr x,v=>Value.isStrOf x v
def JJ(w:World):Key->Int
 | .inl k=>hashInt k
 | .inr x=>hashStr w x
theorem bH:∀{k:Key} {v:Value},qf k v=true->(∃i t,k=Sum.inl i/\v=Value.int i t)\/(∃x t,k=Sum.inr x/\v=Value.str x t)
 | .inl i,v,h=>by
  obtain⟨t,e⟩:=Value.isInt_shape (k:=i) (v:=v) h
  exact .inl ⟨i,t,rfl,e⟩
 | .inr x,v,h=>by
  obtain⟨t,e⟩:=Value.isStrOf_shape (x:=x) (v:=v) h
  exact .inr ⟨x,t,rfl,e⟩
theorem yx(i:Int)(t:Tok):qf (.inl i) (.int i t)=true:=by simp[qf,Value.isInt]
theorem yw(x:Str)(t:Tok):qf (.inr x) (.str x t)=true:=by simp[qf,Value.isStrOf]
theorem Ga(a b:Int):decide ((Sum.inl a:Key)=Sum.inl b)=(a==b):=by
 by_cases e:a=b
 ·subst e;simp
 ·have h:¬ (Sum.inl a:Key)=Sum.inl b:=λq=>e (Sum.inl.inj q)
  rw[bu h]
  exact(beq_eq_false_iff_ne.mpr e).symm
theorem FW(a b:Str):decide ((Sum.inr a:Key)=Sum.inr b)=decide (a=b):=by
 by_cases e:a=b
 ·subst e;simp
 ·have h:¬ (Sum.inr a:Key)=Sum.inr b:=λq=>e (Sum.inr.inj q)
  rw[bu h,bu e]
theorem FZ(a:Int)(b:Str):decide ((Sum.inl a:Key)=Sum.inr b)=false:=bu (λq=>nomatch q)
theorem FY(a:Str)(b:Int):decide ((Sum.inr a:Key)=Sum.inl b)=false:=bu (λq=>nomatch q)
def aO(prog:Program)(w:World):PySem.KeyKind prog w Key where
 is:=qf
 hash:=JJ w
 inj:=λv a b ha hb=>by
  rcases bH ha with ⟨i,t,rfl,rfl⟩|⟨x,t,rfl,rfl⟩
  ·rcases bH hb with ⟨j,u,rfl,e⟩|⟨y,u,rfl,e⟩
   ·injection e with e1 _;rw[e1]
   ·exact nomatch e
  ·rcases bH hb with ⟨j,u,rfl,e⟩|⟨y,u,rfl,e⟩
   ·exact nomatch e
   ·injection e with e1 _;rw[e1]
 byValue:=λk v h=>by
  rcases bH h with ⟨i,t,rfl,rfl⟩|⟨x,t,rfl,rfl⟩<;>rfl
 pyHash:=λhv h=>by
  rcases bH hv with ⟨i,t,rfl,rfl⟩|⟨x,t,rfl,rfl⟩
  ·exact wpAny_pyHash_int h
  ·exact wpAny_pyHash_str h
 eqBool:=λhu hv h=>by
  rcases bH hu with ⟨i,t,rfl,rfl⟩|⟨x,t,rfl,rfl⟩
  ·rcases bH hv with ⟨j,u,rfl,rfl⟩|⟨y,u,rfl,rfl⟩
   ·rw[Ga]at h;exact wpAny_eqBool_int h
   ·rw[FZ]at h;exact SeqAt.EqAt.int_str i t y u _ _ _ _ h
  ·rcases bH hv with ⟨j,u,rfl,rfl⟩|⟨y,u,rfl,rfl⟩
   ·rw[FY]at h;exact SeqAt.EqAt.str_int x t j u _ _ _ _ h
   ·rw[FW]at h;exact wpAny_eqBool_str h
 «strs»:=λk x t v h=>by
  rcases bH h with ⟨i,u,rfl,e⟩|⟨y,u,rfl,e⟩
  ·exact nomatch e
  ·injection e with e1 _
   subst e1
   cases v<;>rfl
theorem tm(prog:Program)(w:World)(i:Int)(t:Tok):(aO prog w).is (.inl i) (.int i t)=true:=yx i t
theorem tj(prog:Program)(w:World)(x:Str)(t:Tok):(aO prog w).is (.inr x) (.str x t)=true:=yw x t
inductive V where
 | non|bl (b:Bool)|int (i:Int)|str (x:Str)|byt (b:Array UInt8)|flt (b:UInt64)|ref (a:Addr)|ty (n:String)
 deriving DecidableEq
def RelV:V->Value->Prop
 | .non,u=>u=Value.none
 | .bl b,u=>u=Value.bool b
 | .int i,u=>∃t,u=Value.int i t
 | .str x,u=>∃t,u=Value.str x t
 | .byt b,u=>∃t,u=Value.bytes b t
 | .flt b,u=>∃t,u=Value.float b t
 | .ref a,u=>u=Value.ref a
 | .ty n,u=>u=Value.type n
abbrev Vals:List V->List Value->Prop:=Paired RelV
theorem Vals.length{xs:List V}(r:Vals xs us):xs.length=us.length:=Paired.length r
theorem Vals.get:∀{xs:List V} {us:List Value} {i:Nat} {x:V},Vals xs us->xs[i]? = some x->∃u,us[i]? = some u/\RelV x u
 | _,_,_,_,.nil,e=>by simp at e
 | _,_,0,_,.cons r _,e=>by simp at e;subst e;exact⟨_,rfl,r⟩
 | _,_,i+1,x,.cons _ t,e=>by
  obtain⟨u,h1,h2⟩:=Vals.get (i:=i) (x:=x) t (by simpa using e)
  exact⟨u,by simpa using h1,h2⟩
theorem Vals.set{x:V}(r:RelV x u):∀{xs:List V} {us:List Value} (i:Nat),Vals xs us->Vals (xs.set i x) (us.set i u)
 | _,_,_,.nil=>.nil
 | _,_,0,.cons _ t=>.cons r t
 | _,_,i+1,.cons q t=>.cons q (Vals.set r i t)
theorem Vals.append:∀{xs ys:List V} {us ws:List Value},Vals xs us->Vals ys ws->Vals (xs++ys) (us++ws):=by
 intro xs ys us ws h s
 induction h with
 | nil=>exact s
 | cons r _ ih=>exact .cons r ih
theorem Vals.take:∀{xs:List V} {us:List Value} (n:Nat),Vals xs us->Vals (xs.take n) (us.take n)
 | _,_,0,_=>.nil
 | _,_,_+1,.nil=>.nil
 | _,_,n+1,.cons r t=>.cons r (Vals.take n t)
theorem Vals.drop:∀{xs:List V} {us:List Value} (n:Nat),Vals xs us->Vals (xs.drop n) (us.drop n)
 | _,_,0,r=>r
 | _,_,_+1,.nil=>.nil
 | _,_,n+1,.cons _ t=>Vals.drop n t
def RelO:Option V->Option Value->Prop
 | some v,some u=>RelV v u
 | none,none=>True
 | _,_=>False
def KV{κ:Type}:List (κ×V)->List (κ×Value)->Prop:=Paired λ(p:κ×V) (q:κ×Value)=>p.1=q.1/\RelV p.2 q.2
def kV:Key->V
 | .inl i=>.int i
 | .inr x=>.str x
inductive HO where
 | lst (xs:List V)
 | tup (xs:List V)
 | dK (kvs:List (Key×V))|dT (kvs:List (List Key×V))
 | set (S:Int->Bool) (n:Nat)
 | ins (C dx:Addr) (fs:List (Str×V))
 | own (x:Addr)
 | xd (fs:List (Str×V))
 | met (f x:Addr)
 | rng (lo hi:Int)
 | frz (o:Obj) (u:HO)
 | tbl (ps:Array Value)
 | obj (o:Obj)
 | ext (φ:Heap->Prop)
abbrev Hp:=Addr->Option HO
def upd(H:Hp)(a:Addr)(o:HO):Hp:=λb=>if b=a then some o else H b
theorem aS{H:Hp}{o:HO}:upd H a o a=some o:=by unfold upd;rw[ar rfl]
theorem aK{H:Hp}{o:HO}(h:b≠a):upd H a o b=H b:=by unfold upd;rw[au h]
theorem EC{H:Hp}{o u:HO}(h:H a=some o)(h':H b=some u)(d:o≠u):a≠b:=by
 intro e;subst e;rw[h]at h';exact d (Option.some.inj h')
theorem aU{H:Hp}{o:HO}(h:H a=some o)(h':H b=none):a≠b:=by
 intro e;subst e;rw[h]at h';cases h'
section
variable (P:Program) (w:World)
def _root_.L2.TupN(h:Heap)(a:Addr):Prop:=∃o,h.get? a=some o/\o.dict=none
theorem _root_.L2.TupN.new(h:Heap)(items:Array Value):TupN (h.push { cls:=.type "tuple",data:=.seq items }) h.objs.size:=⟨_,zze _ rfl,rfl⟩
def ObjOk(H:Hp)(h:Heap)(a:Addr):HO->Prop
 | .lst xs=>xs.length<=sizeLine/\∃(its:List Value) (n:Nat),Vals xs its/\h.get? a=some { cls:=.type "list",data:=.seq its.toArray n }
 | .tup xs=>xs.length<=sizeLine/\∃its:List Value,Vals xs its/\IsTup h a its.toArray/\TupN h a
 | .dK kvs=>kvs.length<=sizeLine/\(a==sysModules)=false/\∃vs,KV kvs vs/\h.DictOf (aO P w) a vs
 | .dT kvs=>kvs.length<=sizeLine/\(a==sysModules)=false/\∃xs:List (List Key×Addr×Value),
   Paired (λ(p:List Key×V) (q:List Key×Addr×Value)=>p.1=q.1/\H q.2.1=some (.tup (p.1.map kV))/\RelV p.2 q.2.2) kvs xs /\
   ∃o es ep,h.get? a=some o/\o.ExactDict/\o.data=.dict es ep/\es.toList=xs.map (entryOfKey (tupleKind (aO P w)))/\(xs.map (·.1)).Nodup
 | .set S n=>h.SetOf (intKind P w) a S n
 | .ins C dx fs=>H dx=some (.own a)/\fs.length<=1000/\dx≠a/\h.get? a=some (PySem.W.instObj C dx) /\
   ∃mA,h.Ns1 dx mA/\(∀f,RelO (fs.lookup f) (mA f))/\PySem.Within mA (fs.map (·.1))
 | .own _=>∃o,h.get? a=some o
 | .xd fs=>∃mA,h.Ns1 a mA/\∀f,RelO (fs.lookup f) (mA f)
 | .rng lo hi=>∃t u v,h.get? a=some { cls:=.type "range",data:=.fields #[.int lo t,.int hi u,.int 1 v] }
 | .frz o u=>h.get? a=some o/\ObjOk H h a u
 | .tbl ps=>h.get? a=some { cls:=.none,data:=.fields ps }
 | .obj o=>h.get? a=some o
 | .met f x=>h.get? a=some (PySem.W.methodObj (.ref f) (.ref x))
 | .ext φ=>φ h/\(∃o,h.get? a=some o)/\∀h1 h2:Heap,φ h1->(∀o,h1.get? a=some o->h2.get? a=some o)->φ h2
def HOk(H:Hp)(h:Heap):Prop:=∀a o,H a=some o->ObjOk P w H h a o
end
section
variable {H H':Hp} {o:HO}
theorem ObjOk.lt(x:ObjOk P w H h a o):a<h.objs.size:=by
 cases o with
 | lst xs=>obtain⟨_,_,_,_,e⟩:=x;exact am e
 | tup xs=>obtain⟨_,_,_,p⟩:=x;exact p.1.lt
 | dK kvs=>obtain⟨_,_,_,_,o,_,_,e,_⟩:=x;exact am e
 | dT kvs=>obtain⟨_,_,_,_,o,_,_,e,_⟩:=x;exact am e
 | set S n=>obtain⟨o,_,_,_,e,_⟩:=x;exact am e
 | ins C dx fs=>obtain⟨_,_,_,e,_⟩:=x;exact am e
 | own y=>obtain⟨_,e⟩:=x;exact am e
 | xd fs=>obtain⟨_,⟨_,_,_,e,_⟩,_⟩:=x;exact am e
 | rng lo hi=>obtain⟨_,_,_,e⟩:=x;exact am e
 | frz ob u=>obtain⟨e,_⟩:=x;exact am e
 | tbl ps=>exact am (show h.get? a=some _ from x)
 | obj ob=>exact am (show h.get? a=some _ from x)
 | met f y=>exact am (show h.get? a=some _ from x)
 | ext φ=>obtain⟨_,⟨_,e⟩,_⟩:=x;exact am e
theorem Paired.mapP{α β:Type}{F G:α->β->Prop}:∀{l₁:List α} {l₂:List β},Paired F l₁ l₂->(∀a b,F a b->G a b)->Paired G l₁ l₂:=by
 intro l₁ l₂ h f
 induction h with
 | nil=>exact .nil
 | cons r _ ih=>exact .cons (f _ _ r) ih
theorem ObjOk.stay(x:ObjOk P w H h a o)(k:∀b u,(b=a\/H b=some (.own a))->h.get? b=some u->h'.get? b=some u)
  (ho:∀b,H b=some (.own a)->H' b=some (.own a)) (ht:∀b xs,H b=some (.tup xs)->H' b=some (.tup xs)):ObjOk P w H' h' a o:=by
 induction o with
 | lst xs=>obtain⟨z,its,n,r,e⟩:=x;exact⟨z,its,n,r,k _ _ (.inl rfl) e⟩
 | tup xs=>obtain⟨z,its,r,⟨ob,e,c⟩,ob2,e2,c2⟩:=x;exact⟨z,its,r,⟨ob,k _ _ (.inl rfl) e,c⟩,ob2,k _ _ (.inl rfl) e2,c2⟩
 | dK kvs=>obtain⟨z,y,vs,r,ob,es,ep,e,c⟩:=x;exact⟨z,y,vs,r,ob,es,ep,k _ _ (.inl rfl) e,c⟩
 | dT kvs =>
  obtain⟨z,y,xs,r,ob,es,ep,e,c⟩:=x
  exact⟨z,y,xs,Paired.mapP r λp q z=>⟨z.1,ht _ _ z.2.1,z.2.2⟩,ob,es,ep,k _ _ (.inl rfl) e,c⟩
 | set S n=>obtain⟨ob,es,ep,t,e,c⟩:=x;exact⟨ob,es,ep,t,k _ _ (.inl rfl) e,c⟩
 | ins C dx fs =>
  obtain⟨d,z,ne,e,mA,⟨od,es,ep,e2,c⟩,r⟩:=x
  exact⟨ho _ d,z,ne,k _ _ (.inl rfl) e,mA,⟨od,es,ep,k _ _ (.inr d) e2,c⟩,r⟩
 | own y=>obtain⟨ob,e⟩:=x;exact⟨ob,k _ _ (.inl rfl) e⟩
 | xd fs=>obtain⟨mA,⟨od,es,ep,e,c⟩,r⟩:=x;exact⟨mA,⟨od,es,ep,k _ _ (.inl rfl) e,c⟩,r⟩
 | rng lo hi=>obtain⟨t,u,v,e⟩:=x;exact⟨t,u,v,k _ _ (.inl rfl) e⟩
 | frz ob u ih=>obtain⟨e,q⟩:=x;exact⟨k _ _ (.inl rfl) e,ih q⟩
 | tbl ps =>
  have e:h.get? a=some { cls:=.none,data:=.fields ps }:=x
  show h'.get? a=some { cls:=.none,data:=.fields ps }
  exact k a _ (.inl rfl) e
 | met f y =>
  have e:h.get? a=some (PySem.W.methodObj (.ref f) (.ref y)):=x
  show h'.get? a=some (PySem.W.methodObj (.ref f) (.ref y))
  exact k a _ (.inl rfl) e
 | obj ob=>exact k a _ (.inl rfl) (show h.get? a=some ob from x)
 | ext φ=>obtain⟨p,⟨o,e⟩,st⟩:=x;exact⟨st _ _ p λo q=>k _ _ (.inl rfl) q,⟨o,k _ _ (.inl rfl) e⟩,st⟩
theorem HOk.lt(x:HOk P w H h)(e:H a=some o):a<h.objs.size:=(x a o e).lt
theorem HOk.fresh(x:HOk P w H h)(e:h.objs.size<=a):H a=none:=by
 cases q:H a with
 | none=>rfl
 | some u=>exact absurd (bo (x.lt q) e) (ug _)
theorem HOk.kept(x:HOk P w H h)(k:∀b u,h.get? b=some u->h'.get? b=some u):HOk P w H h':=λa o e =>
 (x a o e).stay (λb u _ q=>k b u q) (λ_ q=>q) λ_ _ q=>q
theorem HOk.laid(x:HOk P w H h)(k:∀b u,h.get? b=some u->h'.get? b=some u)(hp:h.objs.size<=a)(new:ObjOk P w (upd H a o) h' a o):HOk P w (upd H a o) h':=λb u e=>by
 have hn:=x.fresh hp
 by_cases hb:b=a
 ·subst hb;rw[aS]at e;cases e;exact new
 ·rw[aK hb]at e
  exact(x b u e).stay (λc v _ q=>k c v q) (λc q=>by rw[aK (aU q hn)];exact q) λc xs q=>by rw[aK (aU q hn)];exact q
end
def Rd(H:Hp)(a:Addr)(u:HO):Prop:=H a=some u\/∃o,H a=some (.frz o u)
theorem Rd.ok{H:Hp}{u:HO}(r:Rd H a u)(x:HOk P w H h):ObjOk P w H h a u:=by
 rcases r with r|⟨o,r⟩
 ·exact x a u r
 ·obtain⟨_,q⟩:=x a _ r
  exact q
def Mut:Option HO->Prop
 | some (.lst _)=>True
 | some (.dK _)=>True
 | some (.dT _)=>True
 | some (.set _ _)=>True
 | some (.obj _)=>True
 | some (.ins _ _ _)=>True
 | some (.ext _)=>True
 | _=>False
section
variable {H:Hp} {x e:Addr} {o':HO}
theorem HOk.write(ok:HOk P w H h)(mu:Mut (H x))(he:e=x\/H e=some (.own x))(k:∀b u,b≠e->h.get? b=some u->h'.get? b=some u)(heo:∃u,h'.get? e=some u)
  (new:ObjOk P w (upd H x o') h' x o'):HOk P w (upd H x o') h':=λb u q=>by
 have nown:∀c y,H c=some (.own y)->c≠x:=λc y r z=>by subst z;rw[r]at mu;exact mu
 have ntup:∀c xs,H c=some (.tup xs)->c≠x:=λc xs r z=>by subst z;rw[r]at mu;exact mu
 by_cases hb:b=x
 ·subst hb;rw[aS]at q;cases q;exact new
 ·rw[aK hb]at q
  by_cases hbe:b=e
  ·have q':H b=some (.own x):=by
    rcases he with z|z
    ·exact absurd (hbe.trans z) hb
    ·rw[hbe];exact z
   rw[q]at q';cases q'
   obtain⟨v,hv⟩:=heo
   exact⟨v,by rw[hbe];exact hv⟩
  ·refine(ok b u q).stay (λc v hc r=>k c v ?_ r) (λc r=>by rw[aK (nown c b r)];exact r) λc xs r=>by rw[aK (ntup c xs r)];exact r
   rcases hc with rfl|hc
   ·exact hbe
   ·rintro rfl
    rcases he with z|z
    ·exact nown c b hc z
    ·rw[hc]at z;cases z;exact hb rfl
end
structure Un(fs ex:List Addr)(H H':Hp)(h h':Heap):Prop where
 keep:∀b o,h.get? b=some o->H b=none->b∉fs->b∉ex->h'.get? b=some o
 slot:∀b o,h.get? b=some o->H b=none->b∈fs->b∉ex->∃sl,h'.get? b=some { o with slots:=sl }
 free:∀b o,h.get? b=some o->H b=none->b∉ex->H' b=none
 there:∀b o,h.get? b=some o->b∉ex->∃o',h'.get? b=some o'
 tups:∀b xs,H b=some (.tup xs)->H' b=some (.tup xs)
 frzs:∀b o u,H b=some (.frz o u)->H' b=some (.frz o u)
 tbls:∀b ps,H b=some (.tbl ps)->∃more,H' b=some (.tbl (ps++more))
section
variable {fs fs' ex ex':List Addr} {H H1 H2:Hp} {h1 h2:Heap} {x e:Addr} {o:HO}
theorem Un.any(u:Un fs ex H H1 h h1){ob:Obj}(q:h.get? b=some ob)(n:H b=none)(hx:b∉ex):∃sl,h1.get? b=some { ob with slots:=sl }:=by
 by_cases hb:b∈fs
 ·exact u.slot b ob q n hb hx
 ·exact⟨ob.slots,u.keep b ob q n hb hx⟩
theorem Un.kept(k:∀b u,h.get? b=some u->h'.get? b=some u):Un fs ex H H h h' :=
 ⟨λb ob q _ _ _=>k b ob q,λb ob q _ _ _=>⟨ob.slots,k b ob q⟩,λ_ _ _ n _=>n,λb ob q _=>⟨ob,k b ob q⟩,λ_ _ q=>q,λ_ _ _ q=>q,λ_ ps q=>⟨#[],by rw[q];simp⟩⟩
theorem Un.refl:Un fs ex H H h h:=Un.kept λ_ _ q=>q
theorem Un.laid(k:∀b u,h.get? b=some u->h'.get? b=some u)(hp:h.objs.size<=a)(hn:H a=none):Un fs ex H (upd H a o) h h' where
 keep:=λb u q _ _ _=>k b u q
 slot:=λb u q _ _ _=>⟨u.slots,k b u q⟩
 free:=λb u q n _=>by rw[aK (bi (bo (am q) hp))];exact n
 there:=λb u q _=>⟨u,k b u q⟩
 tups:=λb xs q=>by rw[aK (aU q hn)];exact q
 frzs:=λb u xs q=>by rw[aK (aU q hn)];exact q
 tbls:=λb ps q=>⟨#[],by rw[aK (aU q hn),q];simp⟩
theorem Un.write(mu:Mut (H x))(he:e=x\/H e=some (.own x))(k:∀b u,b≠e->h.get? b=some u->h'.get? b=some u)(heo:∃u,h'.get? e=some u):Un fs ex H (upd H x o) h h':=by
 have hx:∀b,H b=none->b≠x:=λb n z=>by subst z;rw[n]at mu;exact mu
 have hb:∀b,H b=none->b≠e:=λb n z=>by
  subst z
  rcases he with r|r
  ·exact hx b n r
  ·rw[n]at r;cases r
 have hm:∀b u,H b=some u->¬ Mut (some u)->b≠x:=λb u q nm z=>by subst z;rw[q]at mu;exact nm mu
 refine⟨λb u q n _ _=>k b u (hb b n) q,λb u q n _ _=>⟨u.slots,k b u (hb b n) q⟩,λb u q n _=>by rw[aK (hx b n)];exact n,λb u q _=>?_,
  λb xs q=>by rw[aK (hm b _ q λz=>z)];exact q,λb u xs q=>by rw[aK (hm b _ q λz=>z)];exact q,λb ps q=>⟨#[],by rw[aK (hm b _ q λz=>z),q];simp⟩⟩
 by_cases hbe:b=e
 ·subst hbe;exact heo
 ·exact⟨u,k b u hbe q⟩
end
def trk(h:Heap)(H:Hp):List Addr:=(List.range h.objs.size).filter λa=>(H a).isSome
def rH(h:Heap)(H:Hp):Heap:=PySem.W.hideAll h (trk h H)
theorem yC(h:Heap)(H:Hp):(rH h H).objs.size=h.objs.size:=PySem.W.hideAll_size _ _
theorem Be{H:Hp}(e:h.get? b=some o)(n:H b=none):(rH h H).get? b=some o :=
 PySem.W.hideAll_get _ e λhm=>by
  have q:(H b).isSome=true:=(List.mem_filter.mp hm).2
  rw[n]at q;simp at q
theorem CP{H:Hp}(e:(rH h H).get? b=some o):h.get? b=some o/\H b=none:=by
 have e':h.get? b=some o:=PySem.W.of_hideAll (trk h H) e
 refine⟨e',?_⟩
 cases q:H b with
 | none=>rfl
 | some x =>
  have hm:b∈trk h H:=List.mem_filter.mpr ⟨List.mem_range.mpr (am e'),by simp[q]⟩
  have z:(rH h H).get? b=none:=PySem.W.hideAll_none (trk h H) hm
  rw[z]at e;cases e
structure Mod(K:PySem.W.Frag)(mg:zzl)(base:Heap):Prop where
 kin:K.In base
 glob:base.Ns mainGlobals mg
 blt:∃mb,base.Ns builtinsNs mb/\∀x:Str,x ≠ "__name__" -> mb x=bootBuiltins x
 nolimit:base.NoLimit
structure Cx where
 prog:Program
 w:World
 K:PySem.W.Frag
 mg:Str->Option Value
 base:Heap
 A:Around
 N:List Str
 s₀:Shared
 H₀:Hp
 env:Env
 outer:List Env
 stack:List Env
 ex:List Addr
 fn:Str->Bool
 calm:Bool
 pn:List (Addr×Obj)
 xe:Value->Shared->Prop
def frs(l:List Env):List Addr:=l.filterMap (·.frame)
abbrev Cx.fs(X:Cx):List Addr:=frs X.outer
def Vis(sc:Scope)(x:Str):Prop:=sc.names.lookup x=some .local\/sc.names.lookup x=some .cell\/sc.names.lookup x=some .free
def Loc(sc:Scope)(x:Str):Prop:=sc.names.lookup x=some .local\/sc.names.lookup x=some .cell
def Look(env:Env)(h:Heap)(m:zzl)(x:Str)(u:Value):Prop :=
 (env.kindOf x=some .local/\m x=some u)\/((env.kindOf x=some .cell\/env.kindOf x=some .free)/\∃c,env.cells.lookup x=some c/\h.IsCell c (some u))
structure Cx.Ok(X:Cx):Prop where
 mod:Mod X.K X.mg X.base
 kind:X.env.scope.kind=.function
 glob:X.env.globals=mainGlobals
 blt:X.env.builtins=builtinsNs
 above:X.s₀.heap.objs.size<=X.env.locals
 inj:∀x y c,X.env.cells.lookup x=some c->X.env.cells.lookup y=some c->x=y
 has:∀x,(X.env.kindOf x=some .cell\/X.env.kindOf x=some .free)->∃c,X.env.cells.lookup x=some c
 cab:∀x c,X.fn x=true->X.env.cells.lookup x=some c->X.s₀.heap.objs.size<=c
 hd:X.calm=true->X.A.handled=none
 frames:X.A.frames=some X.stack
 stk:X.stack=X.outer\/(X.stack=X.env::X.outer/\X.env.frame=some X.env.locals)
 exf:∀b∈X.ex,b≠X.env.locals/\∀x c,X.env.cells.lookup x=some c->c≠b
 bs:∀b o,X.base.get? b=some o->X.s₀.heap.get? b=some o/\X.H₀ b=none
 bsz:X.base.objs.size<=X.s₀.heap.objs.size
 noex:∀b o,X.base.get? b=some o->b∉X.ex
 exfs:∀b∈X.ex,b∉X.fs
 funs:X.s₀.heap.FunFrames X.base X.outer
 frf:∀b∈X.fs,X.H₀ b=none
structure Inv(X:Cx)(pins:zzk)(Z:List (Option V))(H:Hp)(s:Shared):Prop where
 ok:X.Ok
 os:s.os=X.s₀.os
 bare:AllBare s.gens
 base:Un X.fs X.ex X.H₀ H X.s₀.heap s.heap
 loc:∃m,s.heap.Ns X.env.locals m/\∀(i:Nat) (x:Str) (v:V),X.N[i]? = some x->Z[i]? = some (some v)->Vis X.env.scope x->∃u,RelV v u/\Look X.env s.heap m x u
 cell:∀x c,X.env.cells.lookup x=some c->∃v,s.heap.IsCell c v
 free:H X.env.locals=none
 freeC:∀x c,X.env.cells.lookup x=some c->H c=none
 pin:∀p∈X.pn++pins,s.heap.get? p.1=some p.2/\H p.1=none/\p.1≠X.env.locals/\p.1∉X.fs/\∀v,p.2.data≠.cell v
 hok:HOk X.prog X.w H s.heap
 len:Z.length=X.N.length
section
variable {X:Cx} {Z:List (Option V)} {H H':Hp} {s:Shared}
theorem Cx.Ok.nofr(ok:X.Ok)(e:X.base.get? b=some o):b∉X.fs:=λhb=>by
 have:=(ok.funs.mem hb).1
 rw[e]at this;cases this
theorem Inv.bs(I:Inv X pins Z H s):∀b o,X.base.get? b=some o->s.heap.get? b=some o/\H b=none:=λb o e =>
 ⟨I.base.keep b o (I.ok.bs b o e).1 (I.ok.bs b o e).2 (I.ok.nofr e) (I.ok.noex b o e),I.base.free b o (I.ok.bs b o e).1 (I.ok.bs b o e).2 (I.ok.noex b o e)⟩
theorem Inv.bk(I:Inv X pins Z H s):∀b o,X.base.get? b=some o->s.heap.get? b=some o:=λb o e=>(I.bs b o e).1
theorem Inv.mod(I:Inv X pins Z H s):Mod X.K X.mg X.base:=I.ok.mod
theorem Inv.kIn(I:Inv X pins Z H s):X.K.In s.heap:=I.ok.mod.kin.keeps I.bk
theorem Inv.lt(I:Inv X pins Z H s):X.env.locals<s.heap.objs.size:=let ⟨_,hn,_⟩:=I.loc;hn.lt
theorem Inv.sz(I:Inv X pins Z H s):X.s₀.heap.objs.size<=s.heap.objs.size:=ce I.ok.above (Kw I.lt)
theorem Inv.nofs(I:Inv X pins Z H s)(h:s.heap.objs.size<=a):a∉X.fs:=λhb=>by
 obtain⟨_,o,ho,_⟩:=I.ok.funs.mem hb
 exact absurd (bo (am ho) (ce I.sz h)) (ug _)
theorem Inv.cne(I:Inv X pins Z H s):∀x c,X.env.cells.lookup x=some c->c≠X.env.locals:=λx c e z=>by
 obtain⟨v,o,ho,hd⟩:=I.cell x c e
 obtain⟨m,⟨o',es,ep,ho',hd',_⟩,_⟩:=I.loc
 rw[z,ho']at ho;cases ho;rw[hd']at hd;cases hd
theorem Inv.funs(I:Inv X pins Z H s):s.heap.FunFrames X.base X.outer:=by
 have all:∀(l:List Env),(∀b∈frs l,b∈X.fs)->X.s₀.heap.FunFrames X.base l->s.heap.FunFrames X.base l:=by
  intro l
  induction l with
  | nil=>intro _ _;trivial
  | cons env r ih =>
   intro hs hl
   obtain⟨hk,⟨L,o,hf,hn,ho,hd⟩,hr⟩:=hl
   have hL:L∈X.fs:=hs L (by unfold frs;rw[ng,hf];exact ak)
   obtain⟨sl,e⟩:=I.base.slot L o ho (I.ok.frf L hL) hL λz=>I.ok.exfs L z hL
   exact⟨hk,⟨L,_,hf,hn,e,hd⟩,ih (λb hb=>hs b (by unfold frs;rw[ng,hf];exact zzg _ hb)) hr⟩
 exact all X.outer (λ_ hb=>hb) I.ok.funs
theorem Inv.stack(I:Inv X pins Z H s):s.heap.FunFrames X.base X.stack:=by
 rcases I.ok.stk with e|⟨e,hf⟩
 ·rw[e];exact I.funs
 ·rw[e]
  obtain⟨m,hn,_⟩:=I.loc
  refine .cons (by rw[I.ok.kind];decide) hf hn ?_ I.funs
  exact Heap.get?_none_of_le (ce I.ok.bsz I.ok.above)
theorem Inv.stkSub(I:Inv X pins Z H s):∀b∈frs X.stack,b∈X.env.locals::X.fs:=λb hb=>by
 rcases I.ok.stk with e|⟨e,hf⟩
 ·rw[e]at hb;exact zzg _ hb
 ·rw[e]at hb
  unfold frs at hb
  rw[ng,hf]at hb
  exact hb
theorem Inv.stkFree(I:Inv X pins Z H s):∀b∈frs X.stack,H b=none:=λb hb=>by
 rcases List.mem_cons.mp (I.stkSub b hb)with e|hb
 ·rw[e];exact I.free
 ·obtain⟨_,o,ho,_⟩:=I.ok.funs.mem hb
  exact I.base.free b o ho (I.ok.frf b hb) λz=>I.ok.exfs b z hb
theorem Inv.step{g':Array GenState}{d':Drawn}(I:Inv X pins Z H s)
  (hch:∀b∈ch,(b∈X.ex\/X.s₀.heap.objs.size<=b)/\b≠X.env.locals/\(∀x c,X.env.cells.lookup x=some c->c≠b)/\∀p∈X.pn++pins,p.1≠b)
  (keep:∀b o,b≠X.env.locals->b∉X.fs->b∉ch->s.heap.get? b=some o->H b=none->h'.get? b=some o)
  (slot:∀b o,b≠X.env.locals->b∈X.fs->b∉ch->s.heap.get? b=some o->H b=none->∃sl,h'.get? b=some { o with slots:=sl }) (free:∀b o,b∉ch->s.heap.get? b=some o->H b=none->H' b=none)
  (there:∀b o,b∉ch->s.heap.get? b=some o->∃o',h'.get? b=some o')
  (tups:∀b xs,H b=some (.tup xs)->H' b=some (.tup xs)) (frzs:∀b o u,H b=some (.frz o u)->H' b=some (.frz o u)) (tbls:∀b ps,H b=some (.tbl ps)->∃more,H' b=some (.tbl (ps++more)))
  (ns:∀m,s.heap.Ns X.env.locals m->h'.Ns X.env.locals m) (hok:HOk X.prog X.w H' h') (hg:AllBare g') :
  Inv X pins Z H' { s with heap:=h',gens:=g',drawn:=d',toks:=t' }:=by
 have neL:∀b o,X.s₀.heap.get? b=some o->b≠X.env.locals:=λb o e=>bi (bo (am e) I.ok.above)
 have neC:∀b o,X.s₀.heap.get? b=some o->b∉X.ex->b∉ch:=λb o e hx hb=>by
  rcases(hch b hb).1 with z|z
  ·exact hx z
  ·exact absurd (bo (am e) z) (ug _)
 have cellK:∀x c,X.env.cells.lookup x=some c->∀v,s.heap.IsCell c v->h'.IsCell c v:=λx c e v ⟨o,ho,hd⟩=>by
  have nch:c∉ch:=λz=>(hch c z).2.2.1 x c e rfl
  by_cases hc:c∈X.fs
  ·obtain⟨sl,q⟩:=slot c o (I.cne x c e) hc nch ho (I.freeC x c e)
   exact⟨_,q,hd⟩
  ·exact⟨o,keep c o (I.cne x c e) hc nch ho (I.freeC x c e),hd⟩
 refine⟨I.ok,I.os,hg,⟨λb o e n hb hx=>?_,λb o e n hb hx=>?_,λb o e n hx=>?_,λb o e hx=>?_,λb xs e=>tups b xs (I.base.tups b xs e),λb o xs e=>frzs b o xs (I.base.frzs b o xs e),λb ps e=>?_⟩,?_,λx c e=>?_,?_,λx c e=>?_,λp hp=>?_,hok,I.len⟩
 ·exact keep b o (neL b o e) hb (neC b o e hx) (I.base.keep b o e n hb hx) (I.base.free b o e n hx)
 ·obtain⟨sl,e1⟩:=I.base.slot b o e n hb hx
  obtain⟨sl',e2⟩:=slot b _ (neL b o e) hb (neC b o e hx) e1 (I.base.free b o e n hx)
  exact⟨sl',e2⟩
 ·obtain⟨o',e1⟩:=I.base.there b o e hx
  exact free b o' (neC b o e hx) e1 (I.base.free b o e n hx)
 ·obtain⟨o',e1⟩:=I.base.there b o e hx
  exact there b o' (neC b o e hx) e1
 ·obtain⟨m1,e1⟩:=I.base.tbls b ps e
  obtain⟨m2,e2⟩:=tbls b _ e1
  exact⟨m1++m2,by rw[e2,Array.append_assoc]⟩
 ·obtain⟨m,hn,hl⟩:=I.loc
  refine⟨m,ns m hn,λi x v e1 e2 e3=>?_⟩
  obtain⟨u,r,l⟩:=hl i x v e1 e2 e3
  refine⟨u,r,?_⟩
  rcases l with l|⟨k,c,e,z⟩
  ·exact .inl l
  ·exact .inr ⟨k,c,e,cellK x c e _ z⟩
 ·obtain⟨v,z⟩:=I.cell x c e
  exact⟨v,cellK x c e v z⟩
 ·obtain⟨m,⟨o,_,_,ho,_⟩,_⟩:=I.loc
  exact free _ o (λz=>(hch _ z).2.1 rfl) ho I.free
 ·obtain⟨v,o,ho,hd⟩:=I.cell x c e
  exact free c o (λz=>(hch c z).2.2.1 x c e rfl) ho (I.freeC x c e)
 ·obtain⟨e,n,ne,nf,d⟩:=I.pin p hp
  have nch:p.1∉ch:=λz=>(hch p.1 z).2.2.2 p hp rfl
  exact⟨keep p.1 p.2 ne nf nch e n,free p.1 p.2 nch e n,ne,nf,d⟩
theorem Inv.un(I:Inv X pins Z H s)(u:Un X.fs [] H H' s.heap h')(hok:HOk X.prog X.w H' h'):Inv X pins Z H' { s with heap:=h',toks:=t' }:=by
 obtain⟨m,⟨o,es,ep,ho,r⟩,_⟩:=id I.loc
 obtain⟨sl,hL⟩:=u.any ho I.free (by simp)
 exact I.step (g':=s.gens) (d':=s.drawn) (ch:=[]) (λ_ z=>nomatch z) (λb o _ hb _ e n=>u.keep b o e n hb (by simp)) (λb o _ hb _ e n=>u.slot b o e n hb (by simp)) (λb o _ e n=>u.free b o e n (by simp)) (λb o _ e=>u.there b o e (by simp)) u.tups u.frzs u.tbls (λm' hm=>by
  obtain⟨o',es',ep',ho',r'⟩:=hm
  rw[ho]at ho';cases ho'
  exact⟨_,es',ep',hL,r'⟩) hok I.bare
theorem Inv.call{g':Array GenState}{d':Drawn}(I:Inv X pins Z H s)(u:Un (frs X.stack) ch H H' s.heap h')(hok:HOk X.prog X.w H' h')(hg:AllBare g')
  (hch:∀b∈ch,(b∈X.ex\/X.s₀.heap.objs.size<=b)/\b≠X.env.locals/\(∀x c,X.env.cells.lookup x=some c->c≠b)/\∀p∈X.pn++pins,p.1≠b) :
  Inv X pins Z H' { s with heap:=h',gens:=g',drawn:=d',toks:=t' }:=by
 obtain⟨m,⟨o,es,ep,ho,r⟩,_⟩:=id I.loc
 obtain⟨sl,hL⟩:=u.any ho I.free λz=>(hch _ z).2.1 rfl
 exact I.step (ch:=ch) hch (λb o hL hb hc e n=>u.keep b o e n (λz=>(List.mem_cons.mp (I.stkSub b z)).elim hL hb) hc) (λb o _ _ hc e n=>u.any e n hc) (λb o hc e n=>u.free b o e n hc) (λb o hc e=>u.there b o e hc) u.tups u.frzs u.tbls (λm' hm=>by
  obtain⟨o',es',ep',ho',r'⟩:=hm
  rw[ho]at ho';cases ho'
  exact⟨_,es',ep',hL,r'⟩) hok hg
theorem Inv.turned{it:Addr}(I:Inv X pins Z H s)(k:∀b o,b≠it->s.heap.get? b=some o->h'.get? b=some o)(hn:H it=none)(hL:it≠X.env.locals)
  (h1:it∈X.ex\/X.s₀.heap.objs.size<=it) (h2:∀x c,X.env.cells.lookup x=some c->c≠it) (h3:∀p∈X.pn++pins,p.1≠it):Inv X pins Z H { s with heap:=h',toks:=t' }:=by
 have nit:∀b u,H b=some u->b≠it:=λb u e z=>by rw[z,hn]at e;cases e
 refine I.step (g':=s.gens) (d':=s.drawn) (ch:=[it]) (λb hb=>?_) (λb o _ _ hc e _=>k b o (λz=>hc (by simp[z])) e) (λb o _ _ hc e _=>⟨o.slots,k b o (λz=>hc (by simp[z])) e⟩) (λ_ _ _ _ n=>n)
  (λb o hc e=>⟨o,k b o (λz=>hc (by simp[z])) e⟩) (λ_ _ e=>e) (λ_ _ _ e=>e) (λb ps e=>⟨#[],by rw[e];simp⟩) (λm hm=>?_) (λb u e=>?_) I.bare
 ·have e:b=it:=by simpa using hb
  subst e
  exact⟨h1,hL,h2,h3⟩
 ·obtain⟨o,es,ep,ho,r⟩:=hm
  exact⟨o,es,ep,k _ o (Ne.symm hL) ho,r⟩
 ·refine(I.hok b u e).stay (λc v hc q=>k c v ?_ q) (λ_ q=>q) λ_ _ q=>q
  rcases hc with z|z
  ·rw[z];exact nit b u e
  ·exact nit c _ z
theorem Inv.tok(I:Inv X pins Z H s)(t:Nat):Inv X pins Z H { s with toks:=t }:=I.un (h':=s.heap) (t':=t) Un.refl I.hok
theorem Inv.kept(I:Inv X pins Z H s)(k:∀b u,s.heap.get? b=some u->h'.get? b=some u):Inv X pins Z H { s with heap:=h',toks:=t' }:=I.un (Un.kept k) (I.hok.kept k)
theorem Inv.laid{o:HO}(I:Inv X pins Z H s)(k:∀b u,s.heap.get? b=some u->h'.get? b=some u)(hp:s.heap.objs.size<=a)(new:ObjOk X.prog X.w (upd H a o) h' a o) :
  Inv X pins Z (upd H a o) { s with heap:=h',toks:=t' }:=I.un (Un.laid k hp (I.hok.fresh hp)) (I.hok.laid k hp new)
theorem Inv.write{x e:Addr}{o:HO}(I:Inv X pins Z H s)(mu:Mut (H x))(he:e=x\/H e=some (.own x))(k:∀b u,b≠e->s.heap.get? b=some u->h'.get? b=some u)(heo:∃u,h'.get? e=some u)
  (new:ObjOk X.prog X.w (upd H x o) h' x o):Inv X pins Z (upd H x o) { s with heap:=h',toks:=t' }:=I.un (Un.write mu he k heo) (I.hok.write mu he k heo new)
theorem Inv.pins_of{pins':zzk}(I:Inv X pins Z H s)(h:∀p∈pins',s.heap.get? p.1=some p.2/\H p.1=none/\p.1≠X.env.locals/\p.1∉X.fs/\∀v,p.2.data≠.cell v):Inv X pins' Z H s :=
 ⟨I.ok,I.os,I.bare,I.base,I.loc,I.cell,I.free,I.freeC,λp hp=>(List.mem_append.mp hp).elim (λz=>I.pin p (Lh _ z)) (h p),I.hok,I.len⟩
theorem tf{N:List Str}(hN:N.Nodup){j:Nat}(a:N[i]? = some x)(b:N[j]? = some x):i=j:=by
 obtain⟨h1,e1⟩:=List.getElem?_eq_some_iff.mp a
 obtain⟨h2,e2⟩:=List.getElem?_eq_some_iff.mp b
 exact(List.getElem_inj hN).mp (e1.trans e2.symm)
theorem pT{M:Model}{v:V}(I:Inv X pins Z H s)(hN:X.N.Nodup)(hi:X.N[i]? = some x)(hx:Loc X.env.scope x)(r:RelV v u)
  (h:∀s',Inv X pins (Z.set i (some v)) H s'->(∃a,Heap.SameBut a s.heap s'.heap/\(a=X.env.locals\/X.env.cells.lookup x=some a))->Q () s') (hf:X.fn x=true\/X.env.scope.names.lookup x=some .local:=by first|exact .inl rfl|exact .inr rfl|assumption):wpAny M A (storeName X.env x u) Q E s:=by
 obtain⟨m,hn,hl⟩:=id I.loc
 have hcls:(X.env.scope.kind==.class||(X.env.scope.kind==.module&&X.env.locals != X.env.globals))=false:=by rw[I.ok.kind];rfl
 have hiσ:i<Z.length:=by rw[I.len];exact(List.getElem?_eq_some_iff.mp hi).1
 have cne:=I.cne
 have tracked:∀{a:Addr} {h':Heap},(∃o,s.heap.get? a=some o/\H a=none)->Heap.SameBut a s.heap h'->HOk X.prog X.w H h':=λ{a h'} ha hs b ob e=>by
  obtain⟨_,_,hfree⟩:=ha
  refine(I.hok b ob e).stay (λc w' hc q=>(hs.2 c ?_).trans q) (λ_ q=>q) λ_ _ q=>q
  rintro rfl
  rcases hc with rfl|hc
  ·rw[hfree]at e;cases e
  ·rw[hfree]at hc;cases hc
 rcases hx with hk|hk
 ·refine wpAny_storeName_local hk hn (λh' hn' hs=>?_) hcls
  obtain⟨oL,_,_,hoL,_⟩:=id hn
  refine h _ ⟨I.ok,I.os,I.bare,⟨λb o e n hb hx=>?_,λb o e n hb hx=>?_,I.base.free,λb o e hx=>?_,I.base.tups,I.base.frzs,I.base.tbls⟩,⟨_,hn',λj y v' e1 e2 e3=>?_⟩,λy c e=>?_,I.free,I.freeC,λp hp=>?_,tracked ⟨oL,hoL,I.free⟩ hs,by simpa using I.len⟩ ⟨_,hs,.inl rfl⟩
  ·exact(hs.2 b (bi (bo (am e) I.ok.above))).trans (I.base.keep b o e n hb hx)
  ·obtain⟨sl,e1⟩:=I.base.slot b o e n hb hx
   exact⟨sl,(hs.2 b (bi (bo (am e) I.ok.above))).trans e1⟩
  ·obtain⟨o',e1⟩:=I.base.there b o e hx
   exact⟨o',(hs.2 b (bi (bo (am e) I.ok.above))).trans e1⟩
  ·by_cases hj:j=i
   ·subst hj
    rw[hi]at e1;cases e1
    rw[ut hiσ]at e2
    cases e2
    exact⟨u,r,.inl ⟨hk,by simp⟩⟩
   ·rw[ss (Ne.symm hj)]at e2
    obtain⟨u',r',q⟩:=hl j y v' e1 e2 e3
    refine⟨u',r',?_⟩
    rcases q with ⟨k,e⟩|⟨k,c,e,z⟩
    ·refine .inl ⟨k,?_⟩
     have:y≠x:=λe=>hj (tf hN e1 (e▸hi))
     simp[this,e]
    ·exact .inr ⟨k,c,e,z.sameBut hs (cne y c e)⟩
  ·obtain⟨w',z⟩:=I.cell y c e
   exact⟨w',z.sameBut hs (cne y c e)⟩
  ·obtain⟨e,n,ne,nf,d⟩:=I.pin p hp
   exact⟨(hs.2 p.1 ne).trans e,n,ne,nf,d⟩
 ·have hfn:X.fn x=true:=by
   rcases hf with z|z
   ·exact z
   ·rw[z]at hk;cases hk
  obtain⟨c,hc⟩:=I.ok.has x (.inl hk)
  obtain⟨w',z⟩:=I.cell x c hc
  refine wpAny_storeName_cell I.ok.kind hk hc z (λh' hc' hs=>?_)
  obtain⟨oc,hoc,hocd⟩:=id z
  refine h { s with heap:=h' } ⟨I.ok,I.os,I.bare,⟨λb o e n hb hx=>?_,λb o e n hb hx=>?_,I.base.free,λb o e hx=>?_,I.base.tups,I.base.frzs,I.base.tbls⟩,⟨m,hn.sameBut hs (Ne.symm (cne x c hc)),λj y v' e1 e2 e3=>?_⟩,λy c' e=>?_,I.free,I.freeC,λp hp=>?_,tracked ⟨oc,hoc,I.freeC x c hc⟩ hs,by simpa using I.len⟩ ⟨c,hs,.inr hc⟩
  ·exact(hs.2 b (bi (bo (am e) (I.ok.cab x c hfn hc)))).trans (I.base.keep b o e n hb hx)
  ·obtain⟨sl,e1⟩:=I.base.slot b o e n hb hx
   exact⟨sl,(hs.2 b (bi (bo (am e) (I.ok.cab x c hfn hc)))).trans e1⟩
  ·obtain⟨o',e1⟩:=I.base.there b o e hx
   exact⟨o',(hs.2 b (bi (bo (am e) (I.ok.cab x c hfn hc)))).trans e1⟩
  ·by_cases hj:j=i
   ·subst hj
    rw[hi]at e1;cases e1
    rw[ut hiσ]at e2
    cases e2
    exact⟨u,r,.inr ⟨.inl hk,c,hc,hc'⟩⟩
   ·rw[ss (Ne.symm hj)]at e2
    obtain⟨u',r',q⟩:=hl j y v' e1 e2 e3
    refine⟨u',r',?_⟩
    rcases q with q|⟨k,c',e,z'⟩
    ·exact .inl q
    ·refine .inr ⟨k,c',e,z'.sameBut hs ?_⟩
     rintro rfl
     exact hj (tf hN e1 (I.ok.inj _ _ _ e hc▸hi))
  ·by_cases hcc:c'=c
   ·subst hcc;exact⟨_,hc'⟩
   ·obtain⟨w2,z2⟩:=I.cell y c' e
    exact⟨w2,z2.sameBut hs hcc⟩
  ·obtain⟨e,n,ne,nf,d⟩:=I.pin p hp
   refine⟨(hs.2 p.1 ?_).trans e,n,ne,nf,d⟩
   intro q
   rw[q,hoc]at e
   have q':oc=p.2:=Option.some.inj e
   exact d w' (by rw[<-q'];exact hocd)
theorem sB{M:Model}{v:V}(I:Inv X pins Z H s)(hN:X.N.Nodup)(hi:X.N[i]? = some x)(hx:Loc X.env.scope x)(r:RelV v u)
  (h:∀s',Inv X pins (Z.set i (some v)) H s'->Q () s') (hf:X.fn x=true\/X.env.scope.names.lookup x=some .local:=by first|exact .inl rfl|exact .inr rfl|assumption):wpAny M A (storeName X.env x u) Q E s :=
 pT I hN hi hx r (λs' I' _=>h s' I') hf
theorem Inv.call'{s':Shared}(I:Inv X pins Z H s)(ho:s'.os=s.os)(u:Un (frs X.stack) ch H H' s.heap s'.heap)(hok:HOk X.prog X.w H' s'.heap)(hg:AllBare s'.gens)
  (hch:∀b∈ch,(b∈X.ex\/X.s₀.heap.objs.size<=b)/\b≠X.env.locals/\(∀x c,X.env.cells.lookup x=some c->c≠b)/\∀p∈X.pn++pins,p.1≠b):Inv X pins Z H' s':=by
 obtain⟨h',g',d',t',o'⟩:=s'
 have e:o'=s.os:=ho
 subst e
 exact I.call (g':=g') (t':=t') (d':=d') u hok hg hch
end
abbrev XK:=Value->Option Addr->Hp->Prop
abbrev St:=List (Option V)
abbrev VK:=V->Hp->Prop
abbrev TE:=St->Hp->VK->Prop
abbrev TT:=St->Hp->(Bool->Hp->Prop)->Prop
abbrev TA:=St->Hp->(List V->Hp->Prop)->Prop
structure Ends where
 nx:St->Hp->Prop
 rt:VK
 bk:St->Hp->Prop:=λ_ _=>False
 ct:St->Hp->Prop:=λ_ _=>False
abbrev TS:=Ends->St->Hp->Prop
def EP(X:Cx)(pins:zzk)(Z:St)(Q:VK)(u:Value)(s':Shared):Prop:=∃v H',Inv X pins Z H' s'/\RelV v u/\Q v H'
def TP(X:Cx)(pins:zzk)(Z:St)(Q:Bool->Hp->Prop)(b:Bool)(s':Shared):Prop:=∃H',Inv X pins Z H' s'/\Q b H'
def AP(X:Cx)(pins:zzk)(Z:St)(Q:List V->Hp->Prop)(us:List Value)(s':Shared):Prop:=∃vs H',Inv X pins Z H' s'/\Vals vs us/\Q vs H'
def SP(X:Cx)(pins:zzk)(D:Ends)(f:Flow)(s':Shared):Prop :=
 match f with
 | .next=>∃σ' H',Inv X pins σ' H' s'/\D.nx σ' H'
 | .brk=>∃σ' H',Inv X pins σ' H' s'/\D.bk σ' H'
 | .cont=>∃σ' H',Inv X pins σ' H' s'/\D.ct σ' H'
 | .ret u=>∃v σ' H',Inv X pins σ' H' s'/\RelV v u/\D.rt v H'
def PE(X:Cx)(e:Expr)(t:TE):Prop :=
 ∀(pins:zzk) (s:Shared) (Z:St) (H:Hp) (Q:VK),Inv X pins Z H s->t Z H Q->wpAny (model X.prog X.w) X.A (eval e X.env) (EP X pins Z Q) X.xe s
def PT(X:Cx)(e:Expr)(t:TT):Prop :=
 ∀(pins:zzk) (s:Shared) (Z:St) (H:Hp) (Q:Bool->Hp->Prop),Inv X pins Z H s->t Z H Q->wpAny (model X.prog X.w) X.A (isTrue e X.env (eval e X.env)) (TP X pins Z Q) X.xe s
def PW(X:Cx)(e:Expr)(t:TT):Prop :=
 ∀(whole:Sem Value) (pins:zzk) (s:Shared) (Z:St) (H:Hp) (Q:Bool->Hp->Prop),Inv X pins Z H s->t Z H Q->wpAny (model X.prog X.w) X.A (isTrue e X.env whole) (TP X pins Z Q) X.xe s
def PA(X:Cx)(es:List Expr)(t:TA):Prop :=
 ∀(pos:Pos) (pins:zzk) (s:Shared) (Z:St) (H:Hp) (Q:List V->Hp->Prop),Inv X pins Z H s->t Z H Q->wpAny (model X.prog X.w) X.A (spliced (backTo pos (starEach es X.env))) (AP X pins Z Q) X.xe s
def PS(X:Cx)(st:Stmt)(t:TS):Prop :=
 ∀(pins:zzk) (s:Shared) (Z:St) (H:Hp) (D:Ends),Inv X pins Z H s->t D Z H->wpAny (model X.prog X.w) X.A (exec st X.env) (SP X pins D) X.xe s
def PSs(X:Cx)(st:List Stmt)(t:TS):Prop :=
 ∀(pins:zzk) (s:Shared) (Z:St) (H:Hp) (D:Ends),Inv X pins Z H s->t D Z H->wpAny (model X.prog X.w) X.A (execs st X.env) (SP X pins D) X.xe s
theorem thn{α:Type}{t:Sem α}{Q Q':α->Shared->Prop}{M:Model}{s:Shared}(h:wpAny M A t Q E s)(hQ:∀a s,Q a s->Q' a s):wpAny M A t Q' E s:=Kr h hQ λ_ _ x=>x
section
variable {X:Cx}
def G7(i:Nat):TE:=λZ H Q=>∃v,Z[i]? = some (some v)/\Q v H
def tC(v:V):TE:=λ_ H Q=>Q v H
theorem dH(hN:X.N[i]? = some x)(hv:Vis X.env.scope x)(hd:(x==("__debug__" : Str))=false:=by decide)(hcd:(x==("__classdict__" : Str))=false:=by decide):PE X (.Name x pos) (G7 i):=by
 intro pins s Z H Q I h
 obtain⟨v,e,h⟩:=h
 obtain⟨m,hn,hl⟩:=I.loc
 obtain⟨u,r,l⟩:=hl i x v hN e hv
 have fin:EP X pins Z Q u s:=⟨v,H,I,r,h⟩
 rcases l with ⟨hk,hm⟩|⟨hk,c,hc,hcell⟩
 ·exact wpAny_Name (wpAny_loadName_local I.ok.kind hk hn hm fin) hd
 ·rcases hk with hk|hk
  ·exact wpAny_Name (wpAny_loadName_cell I.ok.kind hk hc hcell fin) hd
  ·exact wpAny_Name (wpAny_loadName_free I.ok.kind hk hc hcell fin hcd) hd
theorem Fx{i j pos}:PE X (.Constant (.int i) j pos) (tC (.int i)):=λ_ _ _ H _ I h=>wpAny_Constant_int ⟨.int i,H,I.tok _,⟨_,rfl⟩,h⟩
theorem HL{b j pos}:PE X (.Constant (.bool b) j pos) (tC (.bl b)):=λ_ _ _ H _ I h=>Constant_bool ⟨.bl b,H,I,rfl,h⟩
theorem Fv{j pos}:PE X (.Constant .none j pos) (tC .non):=λ_ _ _ H _ I h=>Constant_none ⟨.non,H,I,rfl,h⟩
def Gl(X:Cx)(x:Str):Prop:=X.env.kindOf x=some .globalImplicit
theorem C5{s:Shared}{Z:St}{H:Hp}{Q:zzj}(I:Inv X pins Z H s)(hg:Gl X x)(hm:X.mg x=some u)(h:Q u s)
  (hd:(x==("__debug__" : Str))=false:=by decide):wpAny (model X.prog X.w) X.A (eval (.Name x pos) X.env) Q E s :=
 Calls.Name_function_global I.ok.kind hg (Calls.loadGlobal_global (by rw[I.ok.glob];exact I.mod.glob.keeps I.bk) hm h) hd
theorem fH{s:Shared}{Z:St}{H:Hp}{Q:zzj}(I:Inv X pins Z H s)(hg:Gl X x)(hm:X.mg x=none)(hv:bootBuiltins x=some u)(h:Q u s)
  (hn:x ≠ "__name__":=by decide) (hd:(x==("__debug__" : Str))=false:=by decide):wpAny (model X.prog X.w) X.A (eval (.Name x pos) X.env) Q E s:=by
 obtain⟨mb,h1,h2⟩:=I.mod.blt
 exact Calls.Name_function_global I.ok.kind hg (Calls.loadGlobal_builtin (by rw[I.ok.glob];exact I.mod.glob.keeps I.bk) hm (by rw[I.ok.blt];exact h1.keeps I.bk) ((h2 x hn).trans hv) h) hd
variable {a b:Expr} {ta tb:TE}
variable {tA tB':TT} {rest:List Expr}
def Jm(t u:TT):TT:=λZ H Q=>t Z H λc H1=>if c=true then u Z H1 Q else Q false H1
def tOr(t u:TT):TT:=λZ H Q=>t Z H λc H1=>if c=true then Q true H1 else u Z H1 Q
theorem wb(ha:PT X a tA):PW X (.BoolOp .And [a] pos) tA:=by
 intro wh pins s Z H Q I h
 refine isTrue_and (thn (ha pins s Z H Q I h) λc s1 e=>?_)
 cases c with
 | true=>exact isTrue_and_nil e
 | false=>exact e
theorem zS(ha:PT X a tA):PW X (.BoolOp .Or [a] pos) tA:=by
 intro wh pins s Z H Q I h
 refine isTrue_or (thn (ha pins s Z H Q I h) λc s1 e=>?_)
 cases c with
 | false=>exact isTrue_or_nil e
 | true=>exact e
theorem zT(ha:PT X a tA)(hb:PW X (.BoolOp .And (b::rest) pos) tB'):PW X (.BoolOp .And (a::b::rest) pos) (Jm tA tB'):=by
 intro wh pins s Z H Q I h
 refine isTrue_and (thn (ha pins s Z H _ I h) λc s1 ⟨H1,I1,q1⟩=>?_)
 cases c with
 | true=>exact hb wh pins s1 Z H1 Q I1 q1
 | false=>exact⟨H1,I1,q1⟩
theorem Ei(ha:PT X a tA)(hb:PW X (.BoolOp .Or (b::rest) pos) tB'):PW X (.BoolOp .Or (a::b::rest) pos) (tOr tA tB'):=by
 intro wh pins s Z H Q I h
 refine isTrue_or (thn (ha pins s Z H _ I h) λc s1 ⟨H1,I1,q1⟩=>?_)
 cases c with
 | true=>exact⟨H1,I1,q1⟩
 | false=>exact hb wh pins s1 Z H1 Q I1 q1
def tIf(t:TT)(ta tb:TE):TE:=λZ H Q=>t Z H λc H1=>if c=true then ta Z H1 Q else tb Z H1 Q
theorem Ag(hc:PT X c tA)(ha:PE X a ta)(hb:PE X b tb):PE X (.IfExp c a b pos) (tIf tA ta tb):=by
 intro pins s Z H Q I h
 refine wpAny_IfExp (thn (hc pins s Z H _ I h) λd s1 ⟨H1,I1,q1⟩=>?_)
 cases d with
 | true=>exact ha pins s1 Z H1 Q I1 q1
 | false=>exact hb pins s1 Z H1 Q I1 q1
end
def SqL(K:PySem.W.Frag)(H:Hp)(a:Addr)(xs:List V):Prop :=
 Rd H a (.lst xs) \/
  ∃(o:Obj) (its:Array Value) (n:Nat),K.lookup a=some o/\o.cls=.type "list" /\ o.dict=none/\o.data=.seq its n/\its.size<=sizeLine/\Vals xs its.toList
def SqT(K:PySem.W.Frag)(H:Hp)(a:Addr)(xs:List V):Prop :=
 Rd H a (.tup xs) \/
  ∃(o:Obj) (its:Array Value) (n:Nat),K.lookup a=some o/\o.cls=.type "tuple" /\ o.data=.seq its n/\its.size<=sizeLine/\Vals xs its.toList
def JY:Value->Option V
 | .none=>some .non
 | .bool b=>some (.bl b)
 | .int i _=>some (.int i)
 | .str x _=>some (.str x)
 | .bytes b _=>some (.byt b)
 | .float b _=>some (.flt b)
 | .ref a=>some (.ref a)
 | .type n=>some (.ty n)
 | _=>none
theorem RelV.abs{x:V}(r:RelV x u):JY u=some x:=by
 cases x with
 | non=>cases r;rfl
 | bl _=>cases r;rfl
 | int _=>obtain⟨t,rfl⟩:=r;rfl
 | str _=>obtain⟨t,rfl⟩:=r;rfl
 | byt _=>obtain⟨t,rfl⟩:=r;rfl
 | flt _=>obtain⟨t,rfl⟩:=r;rfl
 | ref _=>cases r;rfl
 | ty _=>cases r;rfl
theorem RelV.inj{x y:V}(r:RelV x u)(q:RelV y u):x=y:=Option.some.inj (r.abs.symm.trans q.abs)
theorem Vals.inj:∀{xs ys:List V} {us:List Value},Vals xs us->Vals ys us->xs=ys:=by
 intro xs ys us h
 induction h generalizing ys with
 | nil=>intro h2;cases h2;rfl
 | cons r _ ih =>
  intro h2
  cases h2 with
  | cons r' t'=>rw[r.inj r',ih t']
section
variable {X:Cx} {Z:St} {H:Hp} {s:Shared} {xs ys:List V}
theorem SqT.of{K:PySem.W.Frag}(h:H a=some (.tup xs)):SqT K H a xs:=.inl (.inl h)
theorem Inv.list(I:Inv X pins Z H s)(h:SqL X.K H a xs):∃its:List Value,Vals xs its/\PlainL s.heap a its.toArray/\xs.length<=sizeLine:=by
 rcases h with h|⟨o,its,n,hk,hc,hd,hs,hz,r⟩
 ·obtain⟨z,its,n,r,e⟩:=h.ok I.hok
  exact⟨its,r,⟨_,n,e,rfl,rfl,rfl⟩,z⟩
 ·refine⟨its.toList,r,⟨o,n,I.kIn a o hk,hc,hd,by simpa using hs⟩,?_⟩
  have e:=r.length
  simp only[be]at e
  lia
theorem Inv.tuple(I:Inv X pins Z H s)(h:SqT X.K H a xs):∃its:List Value,Vals xs its/\IsTup s.heap a its.toArray/\xs.length<=sizeLine:=by
 rcases h with h|⟨o,its,n,hk,hc,hs,hz,r⟩
 ·obtain⟨z,its,r,p⟩:=h.ok I.hok
  exact⟨its,r,p.1,z⟩
 ·refine⟨its.toList,r,⟨o,I.kIn a o hk,hc,n,by simpa using hs⟩,?_⟩
  have e:=r.length
  simp only[be]at e
  lia
theorem Inv.list_inj(I:Inv X pins Z H s)(h:SqL X.K H a xs)(h':SqL X.K H a ys):xs=ys:=by
 obtain⟨its,r,⟨o,n,e,_,_,d⟩,_⟩:=I.list h
 obtain⟨its',r',⟨o',n',e',_,_,d'⟩,_⟩:=I.list h'
 rw[e]at e';cases e'
 rw[d]at d'
 injection d' with d1 _
 have:its=its':=by simpa using congrArg Array.toList d1
 subst this
 exact r.inj r'
theorem Inv.tuple_inj(I:Inv X pins Z H s)(h:SqT X.K H a xs)(h':SqT X.K H a ys):xs=ys:=by
 obtain⟨its,r,⟨o,e,_,n,d⟩,_⟩:=I.tuple h
 obtain⟨its',r',⟨o',e',_,n',d'⟩,_⟩:=I.tuple h'
 rw[e]at e';cases e'
 rw[d]at d'
 injection d' with d1 _
 have:its=its':=by simpa using congrArg Array.toList d1
 subst this
 exact r.inj r'
end
section
variable {X:Cx} {st:Stmt} {rest:List Stmt} {t u:TS} {te:TE}
def Hd:TS:=λD Z H=>D.nx Z H
def Jg(t u:TS):TS:=λD Z H=>t { D with nx:=u D } Z H
theorem Cp:PSs X [] Hd:=λ_ _ Z H _ I h=>L6 ⟨Z,H,I,h⟩
theorem zV(h1:PS X st t)(h2:PSs X rest u):PSs X (st::rest) (Jg t u):=by
 intro pins s Z H D I h
 refine wpAny_execs_cons (thn (h1 pins s Z H { D with nx:=u D } I h) λf s1 q=>?_)
 cases f with
 | next =>
  obtain⟨σ',H',I',q⟩:=q
  exact h2 pins s1 σ' H' D I' q
 | ret v=>exact q
 | brk=>exact q
 | cont=>exact q
theorem Co(h1:PS X st t):PSs X [st] t:=by
 intro pins s Z H D I h
 refine wpAny_execs_cons (thn (h1 pins s Z H D I h) λf s1 q=>?_)
 cases f with
 | next=>exact L6 q
 | ret v=>exact q
 | brk=>exact q
 | cont=>exact q
theorem Inv.quiet{Z:St}{H:Hp}{s:Shared}(I:Inv X pins Z H s):interactive X.env=false:=by simp[interactive,I.ok.kind]
def He(te:TE):TS:=λD Z H=>te Z H λ_ H1=>D.nx Z H1
theorem mw(he:PE X e te)(hs:swapsWith e none pos.line X.env=pure false:=by rfl):PS X (.Expr e pos) (He te):=by
 intro pins s Z H D I h
 exact wpAny_Expr_any (thn (he pins s Z H _ I h) λv s1 ⟨x,H1,I1,r1,q1⟩=>⟨Z,H1,I1,q1⟩) I.quiet hs
def Jh(te:TE):TS:=λD Z H=>te Z H D.rt
theorem zY(he:PE X e te):PS X (.Return (some e) pos) (Jh te):=by
 intro pins s Z H D I h
 exact wpAny_Return_some (thn (he pins s Z H _ I h) λv s1 ⟨x,H1,I1,r1,q1⟩=>⟨x,Z,H1,I1,r1,q1⟩)
def Jj(c:TT)(t u:TS):TS:=λD Z H=>c Z H λb H1=>if b=true then t D Z H1 else u D Z H1
theorem HK{a b:List Stmt}{tc:TT}(hc:PT X c tc)(ha:PSs X a t)(hb:PSs X b u):PS X (.If c a b pos) (Jj tc t u):=by
 intro pins s Z H D I h
 refine wpAny_If (thn (hc pins s Z H _ I h) λd s1 ⟨H1,I1,q1⟩=>?_)
 cases d with
 | true=>exact ha pins s1 Z H1 D I1 q1
 | false=>exact hb pins s1 Z H1 D I1 q1
end
abbrev TG:=V->St->Hp->(St->Hp->Prop)->Prop
abbrev TGs:=List V->St->Hp->(St->Hp->Prop)->Prop
def PG(X:Cx)(target:Expr)(t:TG):Prop :=
 ∀(pins:zzk) (s:Shared) (Z:St) (H:Hp) (v:V) (u:Value) (Q:St->Hp->Prop),Inv X pins Z H s->RelV v u->t v Z H Q ->
  wpAny (model X.prog X.w) X.A (assign target X.env u) (λ_ s'=>∃σ' H',Inv X pins σ' H' s'/\Q σ' H') X.xe s
def PGs(X:Cx)(ts:List Expr)(t:TGs):Prop :=
 ∀(pins:zzk) (s:Shared) (Z:St) (H:Hp) (vs:List V) (us:List Value) (Q:St->Hp->Prop),Inv X pins Z H s->Vals vs us->t vs Z H Q ->
  wpAny (model X.prog X.w) X.A (assignInOrder ((assignEach ts X.env).map (·.2)) us) (λ_ s'=>∃σ' H',Inv X pins σ' H' s'/\Q σ' H') X.xe s
abbrev GW:=V->V->V->Hp->(Hp->Prop)->Prop
def IZ(X:Cx)(t:GW):Prop :=
 ∀(pins:zzk) (s:Shared) (Z:St) (H:Hp) (o i v:V) (ov iv u:Value) (Q:Hp->Prop),Inv X pins Z H s->RelV o ov->RelV i iv->RelV v u->t o i v H Q ->
  wpAny (model X.prog X.w) X.A (setItem ov iv u) (λ_ s'=>∃H',Inv X pins Z H' s'/\Q H') X.xe s
section
variable {X:Cx}
def tV(i:Nat):TG:=λv Z H Q=>Q (Z.set i (some v)) H
theorem Cw(hN:X.N.Nodup)(hi:X.N[i]? = some x)(hx:Loc X.env.scope x)(hf:X.fn x=true\/X.env.scope.names.lookup x=some .local:=by first|exact .inl rfl|exact .inr rfl|assumption):PG X (.Name x pos) (tV i):=by
 intro pins s Z H v u Q I r h
 exact wpAny_assign_Name (sB I hN hi hx r (λs' I'=>⟨_,H,I',h⟩) hf)
def JN:TGs:=λvs Z H Q=>vs=[]/\Q Z H
def II(t:TG)(u:TGs):TGs:=λvs Z H Q=>∃v r,vs=v::r/\t v Z H λσ' H'=>u r σ' H' Q
theorem Cv:PGs X [] JN:=by
 intro pins s Z H vs us Q I r h
 obtain⟨e,h⟩:=h
 subst e
 cases r
 exact assignInOrder_nil ⟨Z,H,I,h⟩
theorem Ac{t:TG}{u:TGs}(h1:PG X e t)(h2:PGs X es u)
  (hs:(assignEach (e::es) X.env).map (·.2)=assign e X.env::(assignEach es X.env).map (·.2):=by rfl):PGs X (e::es) (II t u):=by
 intro pins s Z H vs us Q I r h
 obtain⟨v,vr,e1,h⟩:=h
 subst e1
 cases r with
 | cons r rr =>
  rw[hs]
  refine assignInOrder_cons (thn (h1 pins s Z H _ _ _ I r h) λ_ s1 ⟨σ1,H1,I1,q1⟩=>?_)
  exact h2 pins s1 σ1 H1 _ _ Q I1 rr q1
def JL(K:PySem.W.Frag)(n:Nat)(t:TGs):TG:=λv Z H Q=>∃a xs,v=.ref a/\SqT K H a xs/\xs.length=n/\t xs Z H Q
theorem Fq{k:Nat}{t:TGs}{n:Nat}(hc:X.calm=true)(h:PGs X es t)
  (hn:(assignEach es X.env).length=n:=by rfl) (hst:(assignEach es X.env).findIdx? (·.1)=none:=by rfl):PG X (.Tuple es k pos) (JL X.K n t):=by
 intro pins s Z H v u Q I r hw
 obtain⟨a,xs,e1,hq,hl,hw⟩:=hw
 subst e1
 cases r
 obtain⟨its,rv,ht,hz⟩:=I.tuple hq
 refine assign_Tuple_tuple (I.ok.hd hc) ht (by simp[hn,<-hl,rv.length]) hst λh' hx=>?_
 have I1:Inv X pins Z H { s with heap:=h' }:=I.kept (t':=s.toks) λb o e=>hx b o (bi (am e)) e
 exact h pins _ Z H xs _ Q I1 (by simpa using rv) hw
def JM(to ti:TE)(t:GW):TG:=λv Z H Q=>to Z H λo H1=>ti Z H1 λi H2=>t o i v H2 λH3=>Q Z H3
theorem Fs{o i:Expr}{to ti:TE}{t:GW}(ho:PE X o to)(hi:PE X i ti)(hs:IZ X t)
  (ha:∀v,assign (.Subscript o i pos) X.env v=(do
   let ov <-holding [v] (eval o X.env)
   let iv <-holding [v,ov] (eval i X.env)
   standAt pos
   holding [v,ov,iv] (setItem ov iv v)
   release [v,ov,iv] []):=by intro _;rfl):PG X (.Subscript o i pos) (JM to ti t):=by
 intro pins s Z H v u Q I r h
 rw[ha]
 refine zza (ev (thn (ho pins s Z H _ I h) λov s1 ⟨x,H1,I1,r1,q1⟩=>?_))
 refine zza (ev (thn (hi pins s1 Z H1 _ I1 q1) λiv s2 ⟨y,H2,I2,r2,q2⟩=>?_))
 refine zza (wpAny_standAt (zza (ev (thn (hs pins s2 Z H2 x y v ov iv u _ I2 r1 r2 r q2) λ_ s3 ⟨H3,I3,q3⟩=>?_))))
 exact wpAny_release ⟨Z,H3,I3,q3⟩
def E4(te:TE)(g:TG):TS:=λD Z H=>te Z H λx H1=>g x Z H1 D.nx
theorem zZ{te:TE}{g:TG}(he:PE X e te)(hg:PG X tg g)(hs:swapsWithSole [tg] e pos.line X.env=pure false:=by rfl)(hw:swappedStores [tg] e X.env=pure none:=by rfl)
  (h1:(assignEach [tg] X.env).map (·.2)=[assign tg X.env]:=by rfl):PS X (.Assign [tg] e pos) (E4 te g):=by
 intro pins s Z H D I h
 refine wpAny_Assign_stores (thn (he pins s Z H _ I h) λv s1 ⟨x,H1,I1,r1,q1⟩=>?_) hs hw
 rw[h1]
 exact thn (hg pins s1 Z H1 x v _ I1 r1 q1) λ_ s2 q=>q
theorem jw{te:TE}{pos':Pos}(hN:X.N.Nodup)(hi:X.N[i]? = some x)(hx:Loc X.env.scope x)(he:PE X e te)(hs:swapsWith e (some (.Name x pos')) pos.line X.env=pure false:=by rfl)(hf:X.fn x=true\/X.env.scope.names.lookup x=some .local:=by first|exact .inl rfl|exact .inr rfl|assumption) :
  PS X (.Assign [.Name x pos'] e pos) (E4 te (tV i)):=by
 intro pins s Z H D I h
 refine wpAny_Assign_Name (thn (he pins s Z H _ I h) λv s1 ⟨y,H1,I1,r1,q1⟩=>?_) hs
 exact sB I1 hN hi hx r1 (λs2 I2=>⟨_,H1,I2,q1⟩) hf
end
section
variable {X:Cx}
def E0(c:TT)(tb:TS):TS:=λD Z H=>∃W:Nat->St->Hp->Prop,(∃m,W m Z H)/\∀m Z H,W m Z H ->
 c Z H λb H1=>if b=true then ∃N:St->Hp->Prop,(∀σ' H',N σ' H'->∃m',m'<m/\W m' σ' H')/\tb { D with nx:=N,ct:=N,bk:=D.nx } Z H1 else D.nx Z H1
theorem zW{tc:TT}{tb:TS}(hp:PassesOwn (model X.prog X.w) X.A X.env X.xe)(hc:PT X c tc)(hb:PSs X body tb):PS X (.While c body [] pos) (E0 tc tb):=by
 intro pins s Z H D I h
 obtain⟨W,⟨m0,w0⟩,turn⟩:=h
 refine wpAny_While (codeAny_whileLoop (λn s'=>∃σ' H',Inv X pins σ' H' s'/\W n σ' H') ?_ m0 ⟨Z,H,I,w0⟩)
 rintro n s1 ⟨σ1,H1,I1,w1⟩
 refine Kz hp (thn (hc pins s1 σ1 H1 _ I1 (turn n σ1 H1 w1)) λb s2 ⟨H2,I2,q2⟩=>?_)
 cases b with
 | true =>
  obtain⟨N,hN,q2⟩:=q2
  rw[ar rfl]
  refine Kz hp (thn (hb pins s2 σ1 H2 _ I2 q2) λf s3 q3=>?_)
  cases f with
  | next =>
   obtain⟨σ3,H3,I3,n3⟩:=q3
   obtain⟨m',hm,w3⟩:=hN σ3 H3 n3
   exact⟨m',hm,σ3,H3,I3,w3⟩
  | cont =>
   obtain⟨σ3,H3,I3,n3⟩:=q3
   obtain⟨m',hm,w3⟩:=hN σ3 H3 n3
   exact⟨m',hm,σ3,H3,I3,w3⟩
  | brk=>exact q3
  | ret v=>exact q3
 | false =>
  rw[au pi]
  exact L6 ⟨σ1,H2,I2,q2⟩
end
structure It where
 go:Nat->Hp->Prop
 yld:Nat->Hp->V->Hp->Prop
 stop:Nat->Hp->Prop
def g6(X:Cx)(pins:zzk)(H:Hp)(b:Addr):Prop :=
 H b=none/\b≠X.env.locals/\b∉X.fs/\(b∈X.ex\/X.s₀.heap.objs.size<=b)/\(∀x c,X.env.cells.lookup x=some c->c≠b)/\∀p∈X.pn++pins,p.1≠b
theorem Inv.fpOk{X:Cx}{Z:St}{H H':Hp}{s:Shared}(I:Inv X pins Z H s)(hb:s.heap.objs.size<=b)(hn:H' b=none):g6 X pins H' b:=by
 refine⟨hn,li (bo I.lt hb),I.nofs hb,.inr (ce I.sz hb),λx c e z=>?_,λp hp z=>?_⟩
 ·obtain⟨v,q⟩:=I.cell x c e
  exact absurd (bo q.lt (by rw[z];exact hb)) (ug _)
 ·exact absurd (bo (am (I.pin p hp).1) (by rw[z];exact hb)) (ug _)
structure Turn(P:Program)(w:World)(K:PySem.W.Frag)(tg:Expr)(J:It)(fp:List Addr)(it:Addr)(tn:Nat->Heap->Prop):Prop where
 mem:it∈fp
 obj:∀i h,tn i h->∀b∈fp,∃o,h.get? b=some o/\∀v,o.data≠.cell v
 keep:∀i h h',tn i h->(∀b∈fp,∀o,h.get? b=some o->h'.get? b=some o)->tn i h'
 item:∀(X:Cx),X.prog=P->X.w=w->X.K=K->X.calm=true->∀(i:Nat) (pins:zzk) (s:Shared) (Z:St) (H:Hp) (E:zzj),Inv X pins Z H s->(∀b∈fp,g6 X pins H b)->tn i s.heap->J.go i H ->
  wpAny (model P w) X.A (pyNext (.ref it)) (λr s1=>∃u,r=some u /\
   wpAny (model P w) X.A (letOwnedTupleGo tg (.ref it) u) (λ_ s2=>∃x H',Inv X pins Z H' s2/\RelV x u/\J.yld i H x H'/\tn (i+1) s2.heap/\∀b∈fp,H' b=none) E s1) E s
 done:∀(X:Cx),X.prog=P->X.w=w->X.K=K->X.calm=true->∀(i:Nat) (pins:zzk) (s:Shared) (Z:St) (H:Hp) (E:zzj),Inv X pins Z H s->(∀b∈fp,g6 X pins H b)->tn i s.heap->J.stop i H ->
  wpAny (model P w) X.A (pyNext (.ref it)) (λr s1=>r=none/\Inv X pins Z H s1) E s
 self:∀(A:Around) (i:Nat) (s:Shared) (Q:zzj) (E:zzj),tn i s.heap->Q (.ref it) s->wpAny (model P w) A (pyIter (.ref it)) Q E s
abbrev TI:=St->Hp->(It->Hp->Prop)->Prop
def PIE(X:Cx)(pins:zzk)(Z:St)(tg:Expr)(R:It->Hp->Prop)(itv:Value)(s2:Shared):Prop :=
 ∃(it:Addr) (fp:List Addr) (tn:Nat->Heap->Prop) (J:It) (H':Hp),itv=.ref it/\Inv X pins Z H' s2/\Turn X.prog X.w X.K tg J fp it tn/\tn 0 s2.heap/\(∀b∈fp,g6 X pins H' b)/\R J H'
def PI(X:Cx)(tg iter:Expr)(wi:TI):Prop :=
 ∀(pins:zzk) (s:Shared) (Z:St) (H:Hp) (R:It->Hp->Prop),Inv X pins Z H s->wi Z H R ->
  wpAny (model X.prog X.w) X.A (eval iter X.env) (λv s1=>wpAny (model X.prog X.w) X.A (pyIter v) (PIE X pins Z tg R) X.xe s1) X.xe s
theorem Bf{M:Model}{s:Shared}{it:Addr}{n:String}{vs:Array Value}(ho:s.heap.get? it=some o)(hc:o.cls=.type n)(hd:o.data=.fields vs)
  (hn:["enumerate", "zip", "dict_itemiterator", "dict_reverseitemiterator", "odict_iterator", "itertools.zip_longest", "itertools.pairwise"].contains n=false) (hQ:Q () s):wpAny M A (letOwnedTupleGo tg (.ref it) u) Q E s:=by
 unfold letOwnedTupleGo
 cases tg<;>first
  | exact zzb hQ
  | (cases u<;>first
     | exact zzb hQ
     | (refine zza (wpAny_load ho ?_)
        rw[hc,hd]
        show wpAny M A (if(["enumerate", "zip", "dict_itemiterator", "dict_reverseitemiterator", "odict_iterator", "itertools.zip_longest", "itertools.pairwise"].contains n&&vs[0]? == some (rawInt _))=true then _ else _) Q E s
        rw[au (by intro h;rw[hn,Kv]at h;cases h)]
        exact zzb hQ))
def Itl(K:PySem.W.Frag)(a:Addr):It :=
 ⟨λi H=>∃xs x,SqL K H a xs/\xs[i]? = some x,λi H x H'=>H'=H/\∀xs,SqL K H a xs->xs[i]? = some x,λi H=>∃xs,SqL K H a xs/\xs.length<=i⟩
def Itt(K:PySem.W.Frag)(a:Addr):It :=
 ⟨λi H=>∃xs x,SqT K H a xs/\xs[i]? = some x,λi H x H'=>H'=H/\∀xs,SqT K H a xs->xs[i]? = some x,λi H=>∃xs,SqT K H a xs/\xs.length<=i⟩
def Itr(lo:Int)(n:Nat):It:=⟨λi _=>i<n,λi H x H'=>H'=H/\x=.int (lo+i),λi _=>n<=i⟩
theorem xO{K:PySem.W.Frag}(a it:Addr):Turn P w K tg (Itl K a) [it] it (λi h=>h.IsListIter it a i) where
 mem:=by simp
 obj:=λi h st b hb=>by
  have e:b=it:=by simpa using hb
  subst e
  obtain⟨o,e,c,d⟩:=st
  exact⟨o,e,λv z=>by rw[d]at z;cases z⟩
 keep:=λi h h' st k=>st.at λo e=>k it (by simp) o e
 item:=by
  intro X hP hw hK hc i pins s Z H E I hf st hg
  subst hP hw hK
  obtain⟨xs,x,hq,hx⟩:=hg
  obtain⟨its,rv,p,hz⟩:=I.list hq
  obtain⟨u,hu,ru⟩:=rv.get hx
  obtain⟨f0,f1,f2,f3,f4,f5⟩:=hf it (by simp)
  refine LV st p.isList (x:=u) (by simpa using hu) λh' st' sb=>?_
  have I1:Inv X pins Z H { s with heap:=h' }:=I.turned (t':=s.toks) (λb o hb e=>(sb.2 b hb).trans e) f0 f1 f3 f4 f5
  obtain⟨o,e,c,d⟩:=id st'
  exact⟨u,rfl,Bf (s:={ s with heap:=h' }) e c d (by decide) ⟨x,H,I1,ru,⟨rfl,λys hy=>by rw[I.list_inj hy hq];exact hx⟩,st',λb hb=>(hf b hb).1⟩⟩
 done:=by
  intro X hP hw hK hc i pins s Z H E I hf st hg
  subst hP hw hK
  obtain⟨xs,hq,hx⟩:=hg
  obtain⟨its,rv,p,hz⟩:=I.list hq
  obtain⟨f0,f1,f2,f3,f4,f5⟩:=hf it (by simp)
  have hl:=rv.length
  exact Mb (I.ok.hd hc) st p.isList (by simp;lia) λh' eb=>⟨rfl,I.turned (t':=s.toks) (λb o hb e=>eb b o hb e) f0 f1 f3 f4 f5⟩
 self:=λ_ _ _ _ _ st h=>wpAny_pyIter_listiter st h
theorem uE{K:PySem.W.Frag}(a it:Addr):Turn P w K tg (Itt K a) [it] it (λi h=>h.IsTupleIter it a i) where
 mem:=by simp
 obj:=λi h st b hb=>by
  have e:b=it:=by simpa using hb
  subst e
  obtain⟨o,e,c,d⟩:=st
  exact⟨o,e,λv z=>by rw[d]at z;cases z⟩
 keep:=λi h h' st k=>st.at λo e=>k it (by simp) o e
 item:=by
  intro X hP hw hK hc i pins s Z H E I hf st hg
  subst hP hw hK
  obtain⟨xs,x,hq,hx⟩:=hg
  obtain⟨its,rv,p,hz⟩:=I.tuple hq
  obtain⟨u,hu,ru⟩:=rv.get hx
  obtain⟨f0,f1,f2,f3,f4,f5⟩:=hf it (by simp)
  refine wpAny_pyNext_tuple_item st (show s.heap.IsTuple a its.toArray from p) (x:=u) (by simpa using hu) λh' st' sb=>?_
  have I1:Inv X pins Z H { s with heap:=h' }:=I.turned (t':=s.toks) (λb o hb e=>(sb.2 b hb).trans e) f0 f1 f3 f4 f5
  obtain⟨o,e,c,d⟩:=id st'
  exact⟨u,rfl,Bf (s:={ s with heap:=h' }) e c d (by decide) ⟨x,H,I1,ru,⟨rfl,λys hy=>by rw[I.tuple_inj hy hq];exact hx⟩,st',λb hb=>(hf b hb).1⟩⟩
 done:=by
  intro X hP hw hK hc i pins s Z H E I hf st hg
  subst hP hw hK
  obtain⟨xs,hq,hx⟩:=hg
  obtain⟨its,rv,p,hz⟩:=I.tuple hq
  obtain⟨f0,f1,f2,f3,f4,f5⟩:=hf it (by simp)
  have hl:=rv.length
  exact wpAny_pyNext_tuple_end (I.ok.hd hc) st (show s.heap.IsTuple a its.toArray from p) (by simp;lia) λh' eb=>⟨rfl,I.turned (t':=s.toks) (λb o hb e=>eb b o hb e) f0 f1 f3 f4 f5⟩
 self:=λ_ _ _ _ _ st h=>wpAny_pyIter_tupleiter st h
theorem uF{K:PySem.W.Frag}(it:Addr)(lo:Int)(n:Nat):Turn P w K tg (Itr lo n) [it] it (λi h=>IsRangeIter h it (lo+(i:Nat)*1) ((n:Int) - (i:Nat)) 1) where
 mem:=by simp
 obj:=λi h st b hb=>by
  have e:b=it:=by simpa using hb
  subst e
  exact⟨_,st,λv z=>by
   have z':Data.fields _=Data.cell v:=z
   cases z'⟩
 keep:=λi h h' st k=>k it (by simp) _ st
 item:=by
  intro X hP hw hK hc i pins s Z H E I hf st hg
  subst hP hw hK
  obtain⟨f0,f1,f2,f3,f4,f5⟩:=hf it (by simp)
  have W:=Walks.range (prog:=X.prog) (w:=X.w) (I.ok.hd hc) it lo 1 n
  refine W.item i s _ _ hg st λv h' tk hv st' kk=>?_
  obtain⟨t,rfl⟩:=hv
  have I1:Inv X pins Z H { s with heap:=h',toks:=tk }:=I.turned (λb o hb e=>kk b o (by simpa using hb) e) f0 f1 f3 f4 f5
  refine⟨_,rfl,Bf (s:={ s with heap:=h',toks:=tk }) (n := "range_iterator") st' rfl rfl (by decide) ⟨.int (lo+i),H,I1,⟨t,?_⟩,⟨rfl,rfl⟩,st',λb hb=>(hf b hb).1⟩⟩
  rw[Int.mul_one]
 done:=by
  intro X hP hw hK hc i pins s Z H E I hf st hg
  subst hP hw hK
  obtain⟨f0,f1,f2,f3,f4,f5⟩:=hf it (by simp)
  exact wpAny_pyNext_range_end (I.ok.hd hc) st (by have:n<=i:=hg;lia) λh' eb=>⟨rfl,I.turned (t':=s.toks) (λb o hb e=>eb b o hb e) f0 f1 f3 f4 f5⟩
 self:=λ_ _ _ _ _ st h=>wpAny_pyIter_rangeiter st h
section
variable {X:Cx}
theorem sJ{Z:St}{H:Hp}{s:Shared}{R:It->Hp->Prop}{lo hi:Int}{t u v:Tok}{tk:Nat}(I:Inv X pins Z H s)(h1 : -(2^62)<=lo)(h2:lo<2^62)(h3 : -(2^62)<=hi)(h4:hi<2^62)
  (q:R (Itr lo (hi - lo).toNat) H):wpAny (model X.prog X.w) X.A (pyIter (.ref s.heap.objs.size)) (PIE X pins Z tg R) E { s with heap:=s.heap.push { cls:=.type "range",data:=.fields #[.int lo t,.int hi u,.int 1 v] },toks:=tk }:=by
 refine wpAny_pyIter_range (IsRange.new ..) (small_one h1 h2 h3 h4) ?_
 have I1:Inv X pins Z H { s with heap:=s.heap.push { cls:=.type "range",data:=.fields #[.int lo t,.int hi u,.int 1 v] },toks:=tk }:=I.kept λb o e=>zzc _ e
 refine⟨(s.heap.push { cls:=.type "range",data:=.fields #[.int lo t,.int hi u,.int 1 v] }).objs.size,[(s.heap.push { cls:=.type "range",data:=.fields #[.int lo t,.int hi u,.int 1 v] }).objs.size],_,_,H,rfl,
  I1.kept (t':=tk) λb o e=>zzc _ e,uF _ lo (hi - lo).toNat,?_,λb hb=>?_,q⟩
 ·have e1:lo+((0:Nat):Int)*1=lo:=by simp
  have e2:(((hi - lo).toNat:Nat):Int) - ((0:Nat):Int)=Builtin.Range.rangeSize lo hi 1:=by rw[rangeSize_one];split<;>lia
  show IsRangeIter _ _ (lo+((0:Nat):Int)*1) ((((hi - lo).toNat:Nat):Int) - ((0:Nat):Int)) 1
  rw[e1,e2]
  exact zze _ rfl
 ·have e:b=(s.heap.push { cls:=.type "range",data:=.fields #[.int lo t,.int hi u,.int 1 v] }).objs.size:=by simpa using hb
  subst e
  exact I1.fpOk (ai _) (I1.hok.fresh (ai _))
def IF(ta:TA):TI:=λZ H R=>ta Z H λvs H1=>∃j:Int,vs=[.int j] /\ -(2^62)<=j/\j<2^62/\R (Itr 0 j.toNat) H1
def IE(ta:TA):TI:=λZ H R=>ta Z H λvs H1=>∃i j:Int,vs=[.int i,.int j]/\(-(2^62)<=i/\i<2^62 /\ -(2^62)<=j/\j<2^62)/\R (Itr i (j - i).toNat) H1
theorem pY{a:Expr}{ta:TA}(hg:Gl X "range")(hm:X.mg "range" = none)(ha:PA X [a] ta)(hs:starEach [a] X.env=[(false,eval a X.env)]:=by rfl):PI X tg (.Call (.Name "range" p) [a] [] pos) (IF ta):=by
 intro pins s Z H R I h
 refine Call_ (fH I hg hm boot_range (ni (thn (ha pos pins s Z H _ I h) λus s1 ⟨vs,H1,I1,r1,q1⟩=>?_) hs rfl))
 obtain⟨j,e,q1,q2,q⟩:=q1
 subst e
 cases r1 with
 | cons r rr =>
  cases rr
  obtain⟨t,rfl⟩:=r
  exact call_range_1 (sJ I1 (by lia) (by lia) q1 q2 (by simpa using q))
theorem yb{a b:Expr}{ta:TA}(hg:Gl X "range")(hm:X.mg "range" = none)(ha:PA X [a,b] ta)(hs:starEach [a,b] X.env=[(false,eval a X.env),(false,eval b X.env)]:=by rfl)(hs2:starEach [b] X.env=[(false,eval b X.env)]:=by rfl) :
  PI X tg (.Call (.Name "range" p) [a,b] [] pos) (IE ta):=by
 intro pins s Z H R I h
 refine Call_ (fH I hg hm boot_range (ni (thn (ha pos pins s Z H _ I h) λus s1 ⟨vs,H1,I1,r1,q1⟩=>?_) (by rw[hs,hs2]) (by rw[hs2];rfl)))
 obtain⟨i,j,e,⟨q1,q2,q3,q4⟩,q⟩:=q1
 subst e
 cases r1 with
 | cons r rr =>
  cases rr with
  | cons r' rr =>
   cases rr
   obtain⟨t,rfl⟩:=r
   obtain⟨t',rfl⟩:=r'
   exact call_range_2 (sJ I1 q1 q2 q3 q4 q)
def Jk(wi:TI)(g:TG)(tb:TS):TS:=λD Z H=>wi Z H λJ H1=>∃W:Nat->Nat->St->Hp->Prop,(∃m,W 0 m Z H1)/\∀i m Z H,W i m Z H ->
 (J.stop i H/\D.nx Z H)\/(J.go i H/\∃N:St->Hp->Prop,(∀σ' H',N σ' H'->∃m',m'<m/\W (i+1) m' σ' H')/\∀x H',J.yld i H x H'->g x Z H' λσ2 H2=>tb { D with nx:=N,ct:=N,bk:=D.nx } σ2 H2)
def nz(fp:List Addr)(h:Heap):List (Addr×Obj):=fp.filterMap λb=>(h.get? b).map λo=>(b,o)
theorem gF(hb:b∈fp)(e:h.get? b=some o):(b,o)∈nz fp h:=List.mem_filterMap.mpr ⟨b,hb,by rw[e];rfl⟩
theorem yk{p:Addr×Obj}(hp:p∈nz fp h):p.1∈fp/\h.get? p.1=some p.2:=by
 obtain⟨b,hb,e⟩:=List.mem_filterMap.mp hp
 cases q:h.get? b with
 | none=>rw[q]at e;cases e
 | some o =>
  rw[q]at e
  have e':(b,o)=p:=Option.some.inj e
  subst e'
  exact⟨hb,q⟩
theorem Inv.pinned{Z:St}{H:Hp}{s:Shared}(I:Inv X pins Z H s)(hf:∀b∈fp,g6 X pins H b)(ho:∀b∈fp,∃o,s.heap.get? b=some o/\∀v,o.data≠.cell v):Inv X (pins++nz fp s.heap) Z H s :=
 I.pins_of λp hp=>(List.mem_append.mp hp).elim (λz=>I.pin p (ls _ z)) λz=>by
  obtain⟨hb,e⟩:=yk z
  obtain⟨f0,f1,f2,_⟩:=hf p.1 hb
  obtain⟨o,e',d⟩:=ho p.1 hb
  rw[e]at e';cases e'
  exact⟨e,f0,f1,f2,d⟩
theorem Inv.unpinned{pl:zzk}{Z:St}{H:Hp}{s:Shared}(I:Inv X (pins++pl) Z H s):Inv X pins Z H s:=I.pins_of λp hp=>I.pin p (ls _ (Lh _ hp))
theorem Fp{iter:Expr}{wi:TI}{g:TG}{tb:TS}(hp:PassesOwn (model X.prog X.w) X.A X.env X.xe)(hc:X.calm=true)(hi:PI X tg iter wi)(hg:PG X tg g)(hb:PSs X body tb)
  (hs:∀x,foldedSetIterable iter X.env x=pure x:=by intro _;rfl):PS X (.For tg iter body [] pos) (Jk wi g tb):=by
 intro pins s Z H D I h
 refine wpAny_For (thn (hi pins s Z H _ I h) λv s1 h1=>thn h1 λitv s2 h2=>?_) hs
 obtain⟨it,fp,tn,J,H2,e,I2,T,st2,f2,W,⟨m0,w0⟩,turn⟩:=h2
 subst e
 have stat:∀{H':Hp},(∀b∈fp,H' b=none)->∀b∈fp,g6 X pins H' b:=λhn b hb=>⟨hn b hb,(f2 b hb).2⟩
 refine codeAny_forLoop_any (λn s'=>∃i σ' H',Inv X pins σ' H' s'/\tn i s'.heap/\(∀b∈fp,H' b=none)/\W i n σ' H') ?_ m0 ⟨0,Z,H2,I2,st2,λb hb=>(f2 b hb).1,w0⟩
 rintro n s3 ⟨i,σ3,H3,I3,st3,fr3,w3⟩
 rcases turn i n σ3 H3 w3 with ⟨stop,qn⟩|⟨go,N,hN,step⟩
 ·refine Kz hp (thn (T.done X rfl rfl rfl hc i pins s3 σ3 H3 X.xe I3 (stat fr3) st3 stop) λr s4 ⟨hr,I4⟩=>?_)
  subst hr
  exact L6 ⟨σ3,H3,I4,qn⟩
 ·refine Kz hp (thn (T.item X rfl rfl rfl hc i pins s3 σ3 H3 X.xe I3 (stat fr3) st3 go) λr s4 ⟨u,hr,h4⟩=>?_)
  subst hr
  refine Kz hp (thn h4 λ_ s5 ⟨x,H5,I5,r5,y5,st5,fr5⟩=>?_)
  have I5':=I5.pinned (stat fr5) (T.obj _ _ st5)
  refine Kz hp (thn (hg _ s5 σ3 H5 x u _ I5' r5 (step x H5 y5)) λ_ s6 ⟨σ6,H6,I6,q6⟩=>?_)
  refine Kz hp (thn (hb _ s6 σ6 H6 _ I6 q6) λf s7 q7=>?_)
  have again:∀{σ7:St} {H7:Hp},Inv X (pins++nz fp s5.heap) σ7 H7 s7->N σ7 H7->∃m,m<n/\∃i σ' H',Inv X pins σ' H' s7/\tn i s7.heap/\(∀b∈fp,H' b=none)/\W i m σ' H':=λ{σ7 H7} I7 n7=>by
   obtain⟨m',hm,w7⟩:=hN σ7 H7 n7
   refine⟨m',hm,i+1,σ7,H7,I7.unpinned,T.keep _ _ _ st5 λb hb o e=>(I7.pin (b,o) (ls _ (ls _ (gF hb e)))).1,λb hb=>?_,w7⟩
   obtain⟨o,e,d⟩:=T.obj _ _ st5 b hb
   exact(I7.pin (b,o) (ls _ (ls _ (gF hb e)))).2.1
  cases f with
  | next=>obtain⟨σ7,H7,I7,n7⟩:=q7;exact again I7 n7
  | cont=>obtain⟨σ7,H7,I7,n7⟩:=q7;exact again I7 n7
  | brk=>obtain⟨σ7,H7,I7,q7⟩:=q7;exact⟨σ7,H7,I7.unpinned,q7⟩
  | ret v=>obtain⟨x7,σ7,H7,I7,r7,q7⟩:=q7;exact⟨x7,σ7,H7,I7.unpinned,r7,q7⟩
end
abbrev R2:=V->V->Hp->VK->Prop
def OpR(X:Cx)(f:Value->Value->Sem Value)(r:R2):Prop :=
 ∀(pins:zzk) (s:Shared) (Z:St) (H:Hp) (x y:V) (v u:Value) (Q:VK),Inv X pins Z H s->RelV x v->RelV y u->r x y H Q ->
  wpAny (model X.prog X.w) X.A (f v u) (EP X pins Z Q) X.xe s
def CallR(X:Cx)(f:Value)(r:List V->Hp->VK->Prop):Prop :=
 ∀(pins:zzk) (s:Shared) (Z:St) (H:Hp) (xs:List V) (us:List Value) (Q:VK),Inv X pins Z H s->Vals xs us->r xs H Q ->
  wpAny (model X.prog X.w) X.A (call f us) (EP X pins Z Q) X.xe s
def J0(X:Cx)(r:V->Hp->(Bool->Hp->Prop)->Prop):Prop :=
 ∀(pins:zzk) (s:Shared) (Z:St) (H:Hp) (x:V) (v:Value) (Q:Bool->Hp->Prop),Inv X pins Z H s->RelV x v->r x H Q ->
  wpAny (model X.prog X.w) X.A (truthy v) (TP X pins Z Q) X.xe s
def tOp(r:R2)(ta tb:TE):TE:=λZ H Q=>ta Z H λx H1=>tb Z H1 λy H2=>r x y H2 Q
def rI(C:Int->Int->Prop)(g:Int->Int->V):R2:=λx y H Q=>∃i j,x=.int i/\y=.int j/\C i j/\Q (g i j) H
def rI0(g:Int->Int->V):R2:=λx y H Q=>∃i j,x=.int i/\y=.int j/\Q (g i j) H
section
variable {X:Cx} {a b:Expr} {ta tb tc:TE}
theorem GJ(ha:PE X a ta)(hb:PE X b tb){s:Shared}{Z:St}{H:Hp}{R:V->V->Hp->Prop}(I:Inv X pins Z H s)
  (h:ta Z H λx H1=>tb Z H1 λy H2=>R x y H2) {Q:zzj} {f:Value->Value->Sem Value}
  (hf:∀v u s2 x y H2,Inv X pins Z H2 s2->RelV x v->RelV y u->R x y H2->wpAny (model X.prog X.w) X.A (f v u) Q X.xe s2) :
  wpAny (model X.prog X.w) X.A (eval a X.env) (λv s₁=>wpAny (model X.prog X.w) X.A (eval b X.env) (λu s₂=>wpAny (model X.prog X.w) X.A (f v u) Q X.xe s₂) X.xe s₁) X.xe s:=by
 refine thn (ha pins s Z H _ I h) λv s1 ⟨x,H1,I1,r1,q1⟩=>?_
 refine thn (hb pins s1 Z H1 _ I1 q1) λu s2 ⟨y,H2,I2,r2,q2⟩=>?_
 exact hf v u s2 x y H2 I2 r1 r2 q2
theorem El{op:Operator}{r:R2}(ho:OpR X (binaryOp op) r)(ha:PE X a ta)(hb:PE X b tb):PE X (.BinOp a op b pos) (tOp r ta tb):=by
 intro pins s Z H Q I h
 exact wpAny_BinOp (GJ ha hb I h λv u s2 x y H2 I2 rx ry q=>ho pins s2 Z H2 x y v u Q I2 rx ry q)
theorem opI{C:Int->Int->Prop}{g:Int->Int->Int}
  (rule:∀(i j:Int) (t u:Tok) (s:Shared) (Q:zzj) (E:zzj),C i j->Q (.int (g i j) s.toks) { s with toks:=s.toks+1 }->wpAny (model X.prog X.w) X.A (f (.int i t) (.int j u)) Q E s) :
  OpR X f (rI C λi j=>.int (g i j)):=by
 intro pins s Z H x y v u Q I rx ry h
 obtain⟨i,j,rfl,rfl,hc,q⟩:=h
 obtain⟨t,rfl⟩:=rx
 obtain⟨t',rfl⟩:=ry
 exact rule i j t t' s _ _ hc ⟨.int (g i j),H,I.tok _,⟨_,rfl⟩,q⟩
theorem JG{g:Int->Int->Int}
  (rule:∀(i j:Int) (t u:Tok) (s:Shared) (Q:zzj) (E:zzj),Q (.int (g i j) s.toks) { s with toks:=s.toks+1 }->wpAny (model X.prog X.w) X.A (f (.int i t) (.int j u)) Q E s) :
  OpR X f (rI0 λi j=>.int (g i j)):=by
 intro pins s Z H x y v u Q I rx ry h
 obtain⟨i,j,rfl,rfl,q⟩:=h
 obtain⟨t,rfl⟩:=rx
 obtain⟨t',rfl⟩:=ry
 exact rule i j t t' s _ _ ⟨.int (g i j),H,I.tok _,⟨_,rfl⟩,q⟩
theorem CL{g:Int->Int->Bool}
  (rule:∀(i j:Int) (t u:Tok) (s:Shared) (Q:zzj) (E:zzj),Q (.bool (g i j)) s->wpAny (model X.prog X.w) X.A (f (.int i t) (.int j u)) Q E s) :
  OpR X f (rI0 λi j=>.bl (g i j)):=by
 intro pins s Z H x y v u Q I rx ry h
 obtain⟨i,j,rfl,rfl,q⟩:=h
 obtain⟨t,rfl⟩:=rx
 obtain⟨t',rfl⟩:=ry
 exact rule i j t t' s _ _ ⟨.bl (g i j),H,I,rfl,q⟩
def Jc(i j:Int):Prop:=0<j/\j<1073741824
def Jb(i j:Int):Prop:=0<=j/\j<=1000000/\i.natAbs<2^64
def CMul(i j:Int):Prop:=(-(2^64)<i/\i<2^64)\/(-(2^64)<j/\j<2^64)
theorem CMul.ok{i j:Int}(h:CMul i j):IntMulOk i j:=by
 rcases h with ⟨h1,h2⟩|⟨h1,h2⟩
 ·exact .of_left (intBits_le_64 h1 h2)
 ·exact .of_right (intBits_le_64 h1 h2)
theorem op_add:OpR X (binaryOp .Add) (rI0 λi j=>.int (i+j)):=JG λ_ _ _ _ _ _ _ q=>add_int q
theorem iu:OpR X (binaryOp .Mult) (rI CMul λi j=>.int (i*j)):=opI λ_ _ _ _ _ _ _ hc q=>mul_int q hc.ok
theorem mB:OpR X (binaryOp .FloorDiv) (rI Jc λi j=>.int (i / j)):=opI λi j _ _ _ _ _ hc q=>by
 have h1:(0:Int)<j:=hc.1
 have h2:j<1073741824:=hc.2
 exact floordiv_int (by lia) (by rw[Int.fdiv_eq_ediv_of_nonneg i (by lia)];exact q) (.inl (PyProof.noPylong_small (by lia)))
theorem kR:OpR X (binaryOp .Mod) (rI (λ_ j=>0<j) λi j=>.int (i % j)):=opI λi j _ _ _ _ _ hc q=>by
 have h1:(0:Int)<j:=hc
 exact mod_int' (by lia) (by rw[Int.fmod_eq_emod_of_nonneg i (by lia)];exact q)
theorem FC:OpR X (binaryOp .Pow) (rI Jb λi j=>.int (i^j.toNat)):=opI λ_ _ _ _ _ _ _ hc q=>pow_int_small hc.1 hc.2.1 hc.2.2 q
end
section
variable {X:Cx} {a b:Expr} {ta tb tc:TE}
theorem Bh{Z:St}{H:Hp}{s:Shared}{Q:VK}{k k':Bool}(I:Inv X pins Z H s)(q:Q (.bl k) H)(e:k=k'):EP X pins Z Q (.bool k') s:=by
 subst e
 exact⟨.bl k,H,I,rfl,q⟩
theorem HS:OpR X (compareOp .Lt) (rI0 λi j=>.bl (decide (i<j))):=CL λ_ _ _ _ _ _ _ q=>lt_int q
theorem HU:OpR X (compareOp .LtE) (rI0 λi j=>.bl (decide (i<=j))):=CL λ_ _ _ _ _ _ _ q=>le_int q
theorem Ew:OpR X (compareOp .Gt) (rI0 λi j=>.bl (decide (j<i))):=CL λ_ _ _ _ _ _ _ q=>gt_int q
theorem HV:OpR X (compareOp .GtE) (rI0 λi j=>.bl (decide (j<=i))):=CL λ_ _ _ _ _ _ _ q=>ge_int q
theorem yf:OpR X (compareOp .In) (λx y H Q=>∃i j,x=.str i/\y=.str j/\Q (.bl (!(Builtin.Str.occurrences j i 0 j.length 1).isEmpty)) H):=by
 intro pins s Z H x y v u Q I rx ry h
 obtain⟨i,j,rfl,rfl,q⟩:=h
 obtain⟨t,rfl⟩:=rx
 obtain⟨t',rfl⟩:=ry
 exact in_str (Bh I q rfl)
theorem FG:OpR X (compareOp .Is) (λx y H Q=>y=.non/\Q (.bl (decide (x=.non))) H):=by
 intro pins s Z H x y v u Q I rx ry h
 obtain⟨rfl,q⟩:=h
 cases ry
 refine is_none_gen (Bh I q ?_)
 cases x<;>first
  | (cases rx;rfl)
  | (obtain⟨t,rfl⟩:=rx;rfl)
theorem OpR.or{r r':R2}(h:OpR X f r)(h':OpR X f r'):OpR X f (λx y H Q=>r x y H Q\/r' x y H Q):=by
 intro pins s Z H x y v u Q I rx ry q
 rcases q with q|q
 ·exact h pins s Z H x y v u Q I rx ry q
 ·exact h' pins s Z H x y v u Q I rx ry q
theorem wt{op:CmpOp}{r:R2}(ho:OpR X (compareOp op) r)(ha:PE X a ta)(hb:PE X b tb)(hm:behindInMarks op b=false):PE X (.Compare a [op] [b] pos) (tOp r ta tb):=by
 intro pins s Z H Q I h
 exact wpAny_Compare1 (GJ ha hb I h λv u s2 x y H2 I2 rx ry q=>ho pins s2 Z H2 x y v u Q I2 rx ry q) hm
def G9(t:TE):TT:=λZ H Q=>t Z H λx H'=>∃k,x=.bl k/\Q k H'
theorem wj{op:CmpOp}{r:R2}(ho:OpR X (compareOp op) r)(ha:PE X a ta)(hb:PE X b tb)(hm:behindInMarks op b=false):PT X (.Compare a [op] [b] pos) (G9 (tOp r ta tb)):=by
 intro pins s Z H Q I h
 refine wpAny_isTrue_Compare1 (thn (ha pins s Z H _ I h) λv s1 ⟨x,H1,I1,r1,q1⟩=>thn (hb pins s1 Z H1 _ I1 q1) λu s2 ⟨y,H2,I2,r2,q2⟩ =>
  thn (ho pins s2 Z H2 x y v u _ I2 r1 r2 q2) λc s3 ⟨z,H3,I3,r3,k,e,q3⟩=>?_) hm
 subst e
 cases r3
 exact wpAny_truthy_bool ⟨H3,I3,q3⟩
def IY(K:PySem.W.Frag)(x:V)(H:Hp)(k:Bool):Prop :=
 match x with
 | .non=>k=false
 | .bl b=>k=b
 | .int i=>k=(i != 0)
 | .str y=>y.length<=sizeLine/\k=((y.length:Int) != 0)
 | .byt y=>y.size<=sizeLine/\k=((y.size:Int) != 0)
 | .ref p=>(∃xs,SqL K H p xs/\k = !xs.isEmpty)\/(∃xs,SqT K H p xs/\k = !xs.isEmpty)\/∃kvs,H p=some (.dK kvs)/\k = !kvs.isEmpty
 | _=>False
theorem vq{κ:Type}{kvs:List (κ×V)}{vs:List (κ×Value)}(r:KV kvs vs):(!vs.isEmpty) = !kvs.isEmpty:=by
 cases r<;>rfl
theorem nW{xs:List V}{its:List Value}(r:Vals xs its):(!its.toArray.isEmpty) = !xs.isEmpty:=by
 cases r<;>simp
theorem jy:(sizeLine:Nat)<2^63:=by rw[KH];decide
theorem EZ:J0 X (λx H Q=>∃k,IY X.K x H k/\Q k H):=by
 intro pins s Z H x v Q I rx h
 obtain⟨k,e,q⟩:=h
 have hl:=jy
 have hs:sizeLine=16777216:=KH
 cases x with
 | non =>
  cases rx
  have e':k=false:=e
  subst e'
  exact truthy_none ⟨H,I,q⟩
 | bl b =>
  cases rx
  have e':k=b:=e
  subst e'
  exact wpAny_truthy_bool ⟨H,I,q⟩
 | int i =>
  obtain⟨t,rfl⟩:=rx
  have e':k=(i != 0):=e
  subst e'
  exact PySem.P.truthy_int ⟨H,I,q⟩
 | str y =>
  obtain⟨t,rfl⟩:=rx
  obtain⟨hy,e'⟩:y.length<=sizeLine/\k=((y.length:Int) != 0):=e
  subst e'
  exact PySem.P.truthy_str (by lia) ⟨H,I.tok _,q⟩
 | byt y =>
  obtain⟨t,rfl⟩:=rx
  obtain⟨hy,e'⟩:y.size<=sizeLine/\k=((y.size:Int) != 0):=e
  subst e'
  exact PySem.W.truthy_bytes (by lia) ⟨H,I.tok _,q⟩
 | ref p =>
  cases rx
  have e':(∃xs,SqL X.K H p xs/\k = !xs.isEmpty)\/(∃xs,SqT X.K H p xs/\k = !xs.isEmpty)\/∃kvs,H p=some (.dK kvs)/\k = !kvs.isEmpty:=e
  rcases e' with ⟨xs,hx,e'⟩|⟨xs,hx,e'⟩|⟨kvs,hx,e'⟩
  ·subst e'
   obtain⟨its,r,pl,hz⟩:=I.list hx
   have hlen:=r.length
   exact wpAny_truthy_list pl.isList (by simp only[ay];lia) ⟨H,I.tok _,by rw[nW r];exact q⟩
  ·subst e'
   obtain⟨its,r,pl,hz⟩:=I.tuple hx
   have hlen:=r.length
   exact truthy_tuple pl (by simp only[ay];lia) ⟨H,I.tok _,by rw[nW r];exact q⟩
  ·subst e'
   obtain⟨hz,hS,vs,r,m⟩:kvs.length<=sizeLine/\(p==sysModules)=false/\∃vs,KV kvs vs/\s.heap.DictOf (aO X.prog X.w) p vs:=I.hok p _ hx
   have hlen:kvs.length=vs.length:=Paired.length r
   exact wpAny_truthy_dict hS m (by lia) ⟨H,I.tok _,by rw[vq r];exact q⟩
 | _=>exact(show False from e).elim
theorem zU(ha:PE X a ta)(he:∀whole,isTrue a X.env whole=(do let v <-whole;standAt a.pos;holding [v] (truthy v))) :
  PT X a (λZ H Q=>ta Z H λx H'=>∃k,IY X.K x H' k/\Q k H'):=by
 intro pins s Z H Q I h
 exact isTrue_plain (thn (ha pins s Z H _ I h) λv s1 ⟨x,H1,I1,r1,q1⟩=>EZ pins s1 Z H1 x v Q I1 r1 q1) (he _)
theorem uY:OpR X (binaryOp .Add) (λx y H Q=>∃i j,x=.str i/\y=.str j/\i.length+j.length<=sizeLine/\Q (.str (i++j)) H):=by
 intro pins s Z H x y v u Q I rx ry h
 obtain⟨i,j,rfl,rfl,hz,q⟩:=h
 obtain⟨t,rfl⟩:=rx
 obtain⟨t',rfl⟩:=ry
 exact add_str (λt' tk=>⟨.str (i++j),H,I.tok _,⟨_,rfl⟩,q⟩) hz
theorem vals1{x:V}(r:Vals [x] us):∃u,us=[u]/\RelV x u:=by
 cases r with
 | cons r1 r2=>cases r2;exact⟨_,rfl,r1⟩
theorem vals2{x y:V}(r:Vals [x,y] us):∃u w',us=[u,w']/\RelV x u/\RelV y w':=by
 cases r with
 | cons r1 r2 =>
  cases r2 with
  | cons r3 r4=>cases r4;exact⟨_,_,rfl,r1,r3⟩
theorem yT(hc:X.calm=true):CallR X (.builtin "max") (λxs H Q=>∃i j,xs=[.int i,.int j]/\Q (.int (if j>i then j else i)) H):=by
 intro pins s Z H xs us Q I r h
 obtain⟨i,j,rfl,q⟩:=h
 obtain⟨u,w',rfl,⟨t,rfl⟩,⟨t',rfl⟩⟩:=vals2 r
 refine max_two_ints (I.ok.hd hc) λh' tk k=>⟨_,H,I.kept k,?_,q⟩
 by_cases hj:j>i
 ·rw[ar hj,ar hj];exact⟨_,rfl⟩
 ·rw[au hj,au hj];exact⟨_,rfl⟩
theorem yW:CallR X (.type "int") (λxs H Q=>(∃i,xs=[.int i]/\Q (.int i) H)\/∃k,xs=[.bl k]/\Q (.int (if k then 1 else 0)) H):=by
 intro pins s Z H xs us Q I r h
 rcases h with ⟨i,rfl,q⟩|⟨k,rfl,q⟩
 ·obtain⟨u,rfl,t,rfl⟩:=vals1 r
  exact call_int_int ⟨.int i,H,I,⟨_,rfl⟩,q⟩
 ·obtain⟨u,rfl,r1⟩:=vals1 r
  cases r1
  exact call_int_bool ⟨.int (if k then 1 else 0),H,I.tok _,⟨_,rfl⟩,q⟩
end
theorem RelO.some_of{v:V}{o:Option Value}(r:RelO (some v) o):∃u,o=some u/\RelV v u:=by
 cases o with
 | none=>exact(show False from r).elim
 | some u=>exact⟨u,rfl,r⟩
structure Room(k:Nat)(A:Around):Prop where
 hd:A.handled=none
 dp:A.depth+3*k+5<recursionLimit
 un:A.units+16*k+1200<cLine
 gd:A.guards=some []
theorem Room.mono{j k:Nat}(r:Room k A)(h:j<=k):Room j A:=⟨r.hd,by have:=r.dp;lia,by have:=r.un;lia,r.gd⟩
theorem Room.deeper{k:Nat}(r:Room (k+1) A)(env:Env):Room k (A.deeper env) :=
 ⟨r.hd,by have:=r.dp;show A.depth+1+3*k+5<_;lia,by have:=r.un;show A.units+3+16*k+1200<_;lia,r.gd⟩
theorem Room.depth{k:Nat}(r:Room k A):A.depth<recursionLimit:=by have:=r.dp;lia
def Hc:TA:=λ_ H Q=>Q [] H
def Hg(ta:TE)(tr:TA):TA:=λZ H Q=>ta Z H λx H1=>tr Z H1 λxs H2=>Q (x::xs) H2
section
variable {X:Cx} {te:TE} {t:TA}
theorem kQ:PA X [] Hc:=λ_ _ _ _ H Q I h=>Kp ⟨[],H,I,.nil,h⟩
theorem gz(ha:PE X e te)(hr:PA X es t)(hs:starEach (e::es) X.env=(false,eval e X.env)::starEach es X.env:=by rfl):PA X (e::es) (Hg te t):=by
 intro pos pins s Z H Q I h
 rw[hs]
 show wpAny _ _ (spliced ((false,eval e X.env)::backTo pos (starEach es X.env))) _ _ s
 refine ve (thn (ha pins s Z H _ I h) λu s1 ⟨x,H1,I1,r1,q1⟩=>?_)
 exact thn (hr pos pins s1 Z H1 _ I1 q1) λus s2 ⟨xs,H2,I2,r2,q2⟩=>⟨x::xs,H2,I2,.cons r1 r2,q2⟩
def Jf(t:TA):TE:=λZ H Q=>t Z H λxs H1=>xs.length<=sizeLine/\∀p,H1 p=none->Q (.ref p) (upd H1 p (.tup xs))
def Ji(t:TA):TE:=λZ H Q=>t Z H λxs H1=>xs.length<=sizeLine/\∀p,H1 p=none->Q (.ref p) (upd H1 p (.lst xs))
theorem Fu{x1}(h:PA X es t):PE X (.Tuple es x1 pos) (Jf t):=by
 intro pins s Z H Q I hq
 refine wpAny_Tuple_spliced (thn (h pos pins s Z H _ I hq) λus s1 ⟨xs,H1,I1,r,z,q⟩=>⟨by rw[<-r.length];exact z,?_⟩)
 have hf:H1 s1.heap.objs.size=none:=I1.hok.fresh (ai _)
 refine⟨.ref s1.heap.objs.size,upd H1 s1.heap.objs.size (.tup xs),I1.laid (t':=s1.toks) (λb u e=>zzc _ e) (ai _) ?_,rfl,q _ hf⟩
 exact⟨z,us,r,⟨_,zze _ rfl,rfl,_,rfl⟩,⟨_,zze _ rfl,rfl⟩⟩
theorem Af(h:PA X es t):PE X (.List es pos) (Ji t):=by
 intro pins s Z H Q I hq
 refine wpAny_List_spliced (thn (h pos pins s Z H _ I hq) λus s1 ⟨xs,H1,I1,r,z,q⟩=>⟨by rw[<-r.length];exact z,?_⟩)
 have hf:H1 s1.heap.objs.size=none:=I1.hok.fresh (ai _)
 refine⟨.ref s1.heap.objs.size,upd H1 s1.heap.objs.size (.lst xs),I1.laid (t':=s1.toks) (λb u e=>zzc _ e) (ai _) ?_,rfl,q _ hf⟩
 exact⟨z,us,0,r,zze _ rfl⟩
end
abbrev Sp:=List V->Hp->VK->XK->Prop
abbrev CXT:=List Env->Hp->Shared->XK->Value->Shared->Prop
structure Env0(P:Program)(w:World)(K:PySem.W.Frag)(mg:zzl)(base:Heap)(A:Around)(outer:List Env)(s:Shared)(H:Hp):Prop where
 frames:A.frames=some outer
 mod:Mod K mg base
 bs:∀b o,base.get? b=some o->s.heap.get? b=some o/\H b=none
 bsz:base.objs.size<=s.heap.objs.size
 funs:s.heap.FunFrames base outer
 frf:∀b∈frs outer,H b=none
 hok:HOk P w H s.heap
 bare:AllBare s.gens
def CE(outer:List Env)(P:Program)(w:World)(H:Hp)(s:Shared)(Q:VK)(u:Value)(s':Shared):Prop :=
 ∃v H',s'.os=s.os/\AllBare s'.gens/\Un (frs outer) [] H H' s.heap s'.heap/\HOk P w H' s'.heap/\RelV v u/\Q v H'
def CR(CX:CXT)(outer:List Env)(P:Program)(w:World)(H:Hp)(s:Shared)(Q:VK)(E:XK)(r:Result)(s':Shared):Prop :=
 match r with
 | .ok (.ret u)=>CE outer P w H s Q u s'
 | .ok _=>False
 | .error e=>CX outer H s E e s'
structure FnOk(P:Program)(w:World)(K:PySem.W.Frag)(mg:zzl)(base:Heap)(CX:CXT)(k:Nat)(f:Addr)(fd:FuncData)(ps:List Str)(sp:Sp):Prop where
 len:∀vs H Q E,sp vs H Q E->vs.length=ps.length
 run:∀(A:Around) (outer:List Env) (s:Shared) (H:Hp) (args:Args) (us:List Value) (vs:List V) (Q:VK) (E:XK),Room k A->Env0 P w K mg base A outer s H->BindsTo s fd args (ps.zip us)->Vals vs us->sp vs H Q E ->
  codeAny (model P w) A (.call (.ref f) args) (CR CX outer P w H s Q E) s
section
variable {X:Cx} {Z:St} {H:Hp} {s s':Shared}
theorem Inv.env0(I:Inv X pins Z H s):Env0 X.prog X.w X.K X.mg X.base X.A X.stack s H :=
 ⟨I.ok.frames,I.ok.mod,I.bs,ce I.ok.bsz I.sz,I.stack,I.stkFree,I.hok,I.bare⟩
theorem Inv.after{Q:VK}(I:Inv X pins Z H s)(h:CE X.stack X.prog X.w H s Q u s'):EP X pins Z Q u s':=by
 obtain⟨v,H',os,bare,un,hok,r,q⟩:=h
 obtain⟨hh,g,d,t,os'⟩:=s'
 obtain rfl:os'=s.os:=os
 exact⟨v,H',I.call (h':=hh) (g':=g) (d':=d) (t':=t) (ch:=[]) un hok bare (λb z=>absurd z (by simp)),r,q⟩
end
def Binds(K:PySem.W.Frag)(fd:FuncData)(ps:List Str)(ds:List Value):Prop :=
 ∀(s:Shared) (us:List Value),K.In s.heap->(us++ds).length=ps.length->BindsTo s fd ⟨us,[]⟩ (ps.zip (us++ds))
theorem Binds.all{K:PySem.W.Frag}{fd:FuncData}{ps:List Str}(h:∀us:List Value,us.length=ps.length->bindArgs fd ⟨us,[]⟩=pure (ps.zip us)):Binds K fd ps []:=λs us _ hl=>by
 rw[mo]at hl ⊢
 exact .of_eq (h us hl)
structure FnScope(N P:List Str)(sc:Scope):Prop where
 kind:sc.kind=.function
 co:sc.isCoroutine=false
 gen:sc.isGenerator=false
 nd:N.Nodup
 pre:N.take P.length=P
 par:∀x∈P,sc.names.lookup x=some .local\/sc.names.lookup x=some .cell
 nofree:∀y∈sc.names,y.2≠.free
theorem qC{kindOf:Str->Option NameKind}{x:Str}:∀{binds:List (Str×Value)} {m:zzl},(∀v,(x,v)∉binds)->bindL kindOf binds m x=m x
 | [],_,_=>rfl
 | (n,v)::r,m,h=>by
  unfold bindL
  rw[qC λw hw=>h w (zzg _ hw)]
  split
  ·have:x≠n:=by rintro rfl;exact h v ak
   simp[this]
  ·rfl
theorem qE{kindOf:Str->Option NameKind}{x:Str}:∀{binds:List (Str×Value)} {m:zzl},(∀v,(x,v)∉binds)->bindC kindOf binds m x=m x
 | [],_,_=>rfl
 | (n,v)::r,m,h=>by
  unfold bindC
  rw[qE λw hw=>h w (zzg _ hw)]
  split
  ·rfl
  ·have:x≠n:=by rintro rfl;exact h v ak
   simp[this]
theorem qD{kindOf:Str->Option NameKind}{x:Str}{v:Value}:∀{P:List Str} {vs:List Value} {i:Nat} {m:zzl},P.Nodup->P[i]? = some x->vs[i]? = some v->kindOf x=some .local ->
  bindL kindOf (P.zip vs) m x=some v
 | [],_,_,_,_,h,_,_=>by simp at h
 | _::_,[],_,_,_,_,h,_=>by simp at h
 | p::P,w::vs,0,m,nd,h1,h2,hk=>by
  simp at h1 h2;subst h1;subst h2
  show bindL kindOf ((p,w)::P.zip vs) m p=_
  unfold bindL
  rw[qC λv hv=>(List.nodup_cons.mp nd).1 (List.of_mem_zip hv).1,ar hk]
  simp
 | p::P,w::vs,i+1,m,nd,h1,h2,hk=>by
  show bindL kindOf ((p,w)::P.zip vs) m x=_
  unfold bindL
  exact qD (i:=i) (List.nodup_cons.mp nd).2 (by simpa using h1) (by simpa using h2) hk
theorem qF{kindOf:Str->Option NameKind}{x:Str}{v:Value}:∀{P:List Str} {vs:List Value} {i:Nat} {m:zzl},P.Nodup->P[i]? = some x->vs[i]? = some v->kindOf x≠some .local ->
  bindC kindOf (P.zip vs) m x=some v
 | [],_,_,_,_,h,_,_=>by simp at h
 | _::_,[],_,_,_,_,h,_=>by simp at h
 | p::P,w::vs,0,m,nd,h1,h2,hk=>by
  simp at h1 h2;subst h1;subst h2
  show bindC kindOf ((p,w)::P.zip vs) m p=_
  unfold bindC
  rw[qE λv hv=>(List.nodup_cons.mp nd).1 (List.of_mem_zip hv).1,au hk]
  simp
 | p::P,w::vs,i+1,m,nd,h1,h2,hk=>by
  show bindC kindOf ((p,w)::P.zip vs) m x=_
  unfold bindC
  exact qF (i:=i) (List.nodup_cons.mp nd).2 (by simpa using h1) (by simpa using h2) hk
def start(N:List Str)(vs:List V):St:=vs.map some++List.replicate (N.length - vs.length) none
def mh(CX:CXT)(P:Program)(w:World)(K:PySem.W.Frag)(mg:zzl)(base:Heap)(N:List Str)(qual:Str)(scope:Scope)(f:Addr)(cd:Value)(A:Around)(outer:List Env)(s:Shared)(H:Hp)(E:XK):Cx where
 prog:=P
 w:=w
 K:=K
 mg:=mg
 base:=base
 A:=A.deeper (envOfC qual scope s.heap.objs.size f cd)
 N:=N
 s₀:=s
 H₀:=H
 env:=envOfC qual scope s.heap.objs.size f cd
 outer:=outer
 stack:=envOfC qual scope s.heap.objs.size f cd::outer
 ex:=[]
 calm:=true
 fn:=λ_=>true
 pn:=[]
 xe:=λe s'=>wpAny (model P w) (A.deeper (envOfC qual scope s.heap.objs.size f cd)) (leaving (envOfC qual scope s.heap.objs.size f cd) e) (λ_ s''=>CX outer H s E e s'') (λe' s''=>CX outer H s E e' s'') s'
theorem oG{sc:Scope}{n:Nat}(h:sc.names.lookup x=some .cell):∃c,(cellsFrom n sc.names []).lookup x=some c:=by
 have q:=PySem.W.cellsFrom_some sc.names n [] (.inl h)
 exact Option.isSome_iff_exists.mp q
theorem yA{CX:CXT}{K:PySem.W.Frag}{mg:zzl}{base:Heap}{N ps:List Str}{qual:Str}{scope:Scope}{f:Addr}{cd:Value}{outer:List Env}{s s1:Shared}{H:Hp}{E:XK}{vs:List V}
  (S:FnScope N ps scope) (hd:A.handled=none) (e0:Env0 P w K mg base A outer s H) (hl:vs.length=ps.length) (r:Vals vs us)
  (x:InCallC s s.heap.objs.size (bindL (envOfC qual scope s.heap.objs.size f cd).kindOf (ps.zip us) λ_=>none) (cellsFrom (s.heap.objs.size+1) scope.names []) (bindC (envOfC qual scope s.heap.objs.size f cd).kindOf (ps.zip us) λ_=>none) s1) :
  Inv (mh CX P w K mg base N qual scope f cd A outer s H E) [] (start N vs) H s1:=by
 have hpl:ps.length<=N.length:=by have:=congrArg List.length S.pre;rw[Ki]at this;lia
 obtain⟨h1,tk,rfl,hk⟩:=x.done
 have noA:∀b:Addr,b∉(mh CX P w K mg base N qual scope f cd A outer s H E).ex:=λb z=>absurd (show b∈([]:List Addr)from z) (by simp)
 refine⟨⟨e0.mod,S.kind,rfl,rfl,ai _,λy z c h1 h2=>?_,λy hy=>?_,λy c _ h=>?_,λ_=>hd,Around.frames_deeper e0.frames,.inr ⟨rfl,rfl⟩,λb z=>absurd z (noA b),e0.bs,e0.bsz,λb _ _=>noA b,λb z=>absurd z (noA b),e0.funs,e0.frf⟩,
  rfl,e0.bare,Un.kept hk,⟨_,x.toInCall.ns,λi y v h1 h2 h3=>?_⟩,λy c h=>⟨_,x.cell y c h⟩,e0.hok.fresh (ai _),λy c h=>?_,λp hp=>absurd (show p∈([]:zzk)from hp) (by simp),e0.hok.kept hk,?_⟩
 ·exact name_of_addr x.apart (u8 h1) (u8 h2)
 ·have hy:scope.names.lookup y=some .cell\/scope.names.lookup y=some .free:=hy
  rcases hy with hy|hy
  ·exact oG hy
  ·exact absurd rfl (S.nofree _ (u8 hy))
 ·exact Kw (x.above y c (u8 h))
 ·have hi:i<vs.length:=by
   unfold start at h2
   by_cases hi:i<vs.length
   ·exact hi
   ·rw[re (by simpa using hi)]at h2
    rw[LS]at h2
    split at h2<;>cases h2
  have ha:vs[i]? = some v:=by
   unfold start at h2
   rw[di (by simpa using hi),ik]at h2
   cases e:vs[i]? with
   | none=>rw[e]at h2;cases h2
   | some a=>rw[e]at h2;cases h2;rfl
  obtain⟨u,hu,rv⟩:=r.get ha
  have hp:ps[i]? = some y:=by
   rw[<-S.pre,ke (by lia)];exact h1
  have ndP:ps.Nodup:=by rw[<-S.pre];exact S.nd.sublist (List.take_sublist _ _)
  refine⟨u,rv,?_⟩
  rcases S.par y (wn hp)with k|k
  ·exact .inl ⟨k,qD ndP hp hu k⟩
  ·obtain⟨c,e⟩:=oG (n:=s.heap.objs.size+1) k
   refine .inr ⟨.inl k,c,e,?_⟩
   have q:=x.cell y c e
   rw[qF ndP hp hu (by show scope.names.lookup y≠_;rw[k];decide)]at q
   exact q
 ·exact e0.hok.fresh (Kw (x.above y c (u8 h)))
 ·unfold start
  show _=N.length
  rw[zzf,zzd,List.length_replicate]
  lia
theorem IJ{CX:CXT}{K:PySem.W.Frag}{mg:zzl}{base:Heap}{k:Nat}{f:Addr}{name qual:Str}{params:Arguments}{scope:Scope}{dV kV doc pm cdv ct oc:Value}{an od:Option Addr}
  {osl:Array (Option Value)} {N ps:List Str} {sp:Sp} (lk:K.lookup f=some ⟨oc,od,.func (PySem.W.fnOf name qual params body scope dV kV doc pm an cdv ct),osl⟩) (hcd:PySem.W.codeIn K cdv qual=true) (S:FnScope N ps scope)
  (len:∀vs H Q E,sp vs H Q E->vs.length=ps.length)
  (hbody:∀(A:Around) (outer:List Env) (s:Shared) (H:Hp) (vs:List V) (Q:VK) (E:XK),Room k (A.deeper (envOfC qual scope s.heap.objs.size f cdv))->sp vs H Q E ->
   ∃t,PSs (mh CX P w K mg base N qual scope f cdv A outer s H E) body t/\t { nx:=λ_ H'=>Q .non H',rt:=Q } (start N vs) H) :
  FnOk P w K mg base CX (k+1) f (PySem.W.fnOf name qual params body scope dV kV doc pm an cdv ct) ps sp:=by
 refine⟨len,λA outer s H args us vs Q E hr e0 hb r hsp=>?_⟩
 have hl:=len _ _ _ _ hsp
 have KX:K.In s.heap:=e0.mod.kin.keeps λb o e=>(e0.bs b o e).1
 have lim:s.heap.NoLimit:=e0.mod.nolimit.keeps λb o e=>(e0.bs b o e).1
 have hkind:∀y∈ps.zip us,scope.names.lookup y.1=some .local\/(scope.names.lookup y.1=some .cell/\((cellsFrom (s.heap.objs.size+1) scope.names []).lookup y.1).isSome=true):=λ⟨n,v⟩ hy=>by
  rcases S.par n (List.of_mem_zip hy).1 with q|q
  ·exact .inl q
  ·exact .inr ⟨q,PySem.W.cellsFrom_some _ _ _ (.inl q)⟩
 refine codeAny_call_function hr.depth (KX _ _ lk) rfl S.co S.gen rfl (PySem.W.codeRec_of KX hcd) (hb _ _ _ _ ?_)
 refine wpAny_newFunctionEnv_cells S.kind hkind λenv he s1 x=>?_
 subst he
 refine⟨lim.keeps x.toInCall.keep,codeAny_func ?_⟩
 obtain⟨t,ht,hq⟩:=hbody A outer s H vs Q E (hr.deeper _) hsp
 have I:Inv (mh CX P w K mg base N qual scope f cdv A outer s H E) [] (start N vs) H s1:=yA S hr.hd e0 hl r x
 refine Kr (ht [] s1 (start N vs) H _ I hq) (λfl s' hs=>?_) λe s' hs=>hs
 have fin:∀{σ':St} {H':Hp} {v:V} {u:Value},Inv (mh CX P w K mg base N qual scope f cdv A outer s H E) [] σ' H' s'->RelV v u->Q v H'->CE outer P w H s Q u s' :=
  λ{σ' H' v u} J rv q=>⟨v,H',J.os,J.bare,J.base,J.hok,rv,q⟩
 cases fl with
 | ret u =>
  obtain⟨v,σ',H',J,rv,q⟩:=hs
  exact fin J rv q
 | next =>
  obtain⟨σ',H',J,q⟩:=hs
  exact fin (v:=V.non) (u:=Value.none) J rfl q
 | brk =>
  obtain⟨_,_,_,q⟩:=hs
  exact False.elim q
 | cont =>
  obtain⟨_,_,_,q⟩:=hs
  exact False.elim q
section
variable {X:Cx} {t:TA} {id T:String} {r:List V->Hp->VK->Prop}
def tCB(r:List V->Hp->VK->Prop)(t:TA):TE:=λZ H Q=>t Z H λvs H1=>r vs H1 Q
theorem jM(hc:CallR X (.builtin id) r)(hg:Gl X x)(hm:X.mg x=none)(hv:bootBuiltins x=some (.builtin id))(ha:PA X (e::es) t)(hn:x ≠ "__name__":=by decide)(hdb:(x==("__debug__" : Str))=false:=by decide)
  (he:starEach (e::es) X.env=(false,eval e X.env)::starEach es X.env:=by rfl) (hpl:(backTo pos (starEach es X.env)).any (·.1)=false:=by rfl):PE X (.Call (.Name x p) (e::es) [] pos) (tCB r t):=by
 intro pins s Z H Q I h
 refine yi (fH I hg hm hv ?_ hn hdb)
 exact PyProof.Rows.callWith_builtin1 (thn (ha pos pins s Z H _ I h) λus s1 ⟨vs,H1,I1,r1,q1⟩=>hc pins s1 Z H1 vs us Q I1 r1 q1) he hpl
theorem iR(hc:CallR X (.type T) r)(hg:Gl X x)(hm:X.mg x=none)(hv:bootBuiltins x=some (.type T))(ha:PA X (e::es) t)(hn:x ≠ "__name__":=by decide)(hdb:(x==("__debug__" : Str))=false:=by decide)
  (he:starEach (e::es) X.env=(false,eval e X.env)::starEach es X.env:=by rfl) (hpl:(backTo pos (starEach es X.env)).any (·.1)=false:=by rfl):PE X (.Call (.Name x p) (e::es) [] pos) (tCB r t):=by
 intro pins s Z H Q I h
 refine yi (fH I hg hm hv ?_ hn hdb)
 exact ni (thn (ha pos pins s Z H _ I h) λus s1 ⟨vs,H1,I1,r1,q1⟩=>hc pins s1 Z H1 vs us Q I1 r1 q1) he hpl
end
end L2
namespace HT
open PySem PyProof.Rows
variable {Q:zzj}
def lexLt:List Int->List Int->Bool
 | [],[]=>false
 | [],_::_=>true
 | _::_,[]=>false
 | x::xs,y::ys=>if x=y then lexLt xs ys else decide (x<y)
theorem lexLt_cons(x y:Int)(xs ys:List Int):lexLt (x::xs) (y::ys)=if x=y then lexLt xs ys else decide (x<y):=rfl
theorem lexLt_nil_nil:lexLt [] []=false:=rfl
theorem nN(y:Int)(ys:List Int):lexLt [] (y::ys)=true:=rfl
theorem nO(x:Int)(xs:List Int):lexLt (x::xs) []=false:=rfl
theorem t7(A:Around)(s:Shared)(a:Int)(t:Tok)(c:Int)(u:Tok):∃e,SeqAt.EqAt A s (.int a t) (.int c u) e/\(e=true↔a=c) :=
 ⟨(a==c),SeqAt.EqAt.int_int a t c u,by simp⟩
theorem zN(A:Around)(s:Shared)(a:Int)(t:Tok)(c:Int)(u:Tok)(prog:Program)(w:World)(E:zzj)(Q:zzj)(h:Q (.bool (decide (a<c))) s) :
  wpAny (model prog w) A (richCompare .Lt (.int a t) (.int c u)) Q E s :=
 (PyProof.Rows.lt_int h:wpAny (model prog w) A (compareOp .Lt (.int a t) (.int c u)) Q E s)
section
open PySem.SeqAt
open PySem.AutoSeq1 (wpAny_loadPart')
open PySem.MeetsSeq PySem.MeetsSeq2 PySem.MeetsSeq3
theorem o7(l b:Addr)(items items2:Array Value)(n n2:Nat)(dd dd2:Option Addr)(sl sl2:Array (Option Value))(ns ms:List Int)(hi:IntsAre items.toList ns)(hj:IntsAre items2.toList ms) :
  Meets (Builtin.«tuple.__lt__» ⟨[.ref l,.ref b],[]⟩)
   (λ_ R s=>s.heap.get? l=some { cls:=.type "tuple",dict:=dd,data:=.seq items n,slots:=sl }/\s.heap.get? b=some { cls:=.type "tuple",dict:=dd2,data:=.seq items2 n2,slots:=sl2 } /\
    R (.ok (.ret (.bool (lexLt ns ms)))) s) :=
 .of_wp λprog w A R s h=>by
  obtain⟨hp,g,d,tk,os⟩:=s;obtain⟨hl,hb,h⟩:=h
  have f2:=AutoSeq1.sub_tuple_tuple
  have z1:items.size=ns.length:=by rw[<-hi.length];simp
  have z2:items2.size=ms.length:=by rw[<-hj.length];simp
  wp_walk using wpAny_loadPart' hl,wpAny_loadPart' hb,KN _ (λrest b s'=>b.1=none/\s'=⟨hp,g,d,tk,os⟩/\∃(vs ws:List Value) (ns' ms':List Int),rest=vs.zip ws /\
   IntsAre vs ns'/\IntsAre ws ms'/\ns'.length+items2.size=ms'.length+items.size/\R (.ok (.ret (.bool (lexLt ns' ms')))) ⟨hp,g,d,tk,os⟩) _
  case turn =>
   rintro⟨y,x⟩ rest b s' ⟨hb',rfl,vs,ws,ns',ms',hz,hvi,hwi,hlen,hR⟩
   cases hvi with
   | nil=>rw[List.zip_nil_left]at hz;cases hz
   | cons a t hvi' =>
    cases hwi with
    | nil=>rw[List.zip_nil_right]at hz;cases hz
    | cons c u hwi' =>
     rw[va]at hz
     injection hz with hyx hrest
     injection hyx with hy hx
     subst hy hx
     rw[lexLt_cons]at hR
     simp only[eh]at hlen
     obtain⟨e,he,hiff⟩:=t7 A.in1 ⟨hp,g,d,tk,os⟩ a t c u
     refine zza (he prog w _ _ ?_)
     cases e with
     | true =>
      rw[ar (hiff.mp rfl)]at hR
      wp_walk
      exact⟨rfl,rfl,_,_,_,_,hrest,hvi',hwi',by lia,hR⟩
     | false =>
      rw[au (λq=>absurd (hiff.mpr q) pi)]at hR
      have hri:=zN A.in1 ⟨hp,g,d,tk,os⟩ a t c u prog w
      wp_walk using hri
      exact⟨_,rfl,by simpa using hR⟩
  case fin =>
   rintro⟨b1,b2⟩ s' ⟨hb',rfl,vs,ws,ns',ms',hz,hvi,hwi,hlen,hR⟩
   simp only at hb'
   subst hb'
   have hv:lexLt ns' ms'=decide (items.size<items2.size):=by
    cases hvi with
    | nil =>
     cases hwi with
     | nil =>
      simp only[fi]at hlen
      rw[lexLt_nil_nil]
      exact(bu (by lia)).symm
     | cons c u hw =>
      simp only[fi,eh]at hlen
      rw[nN]
      exact(ef (by lia)).symm
    | cons a t hv =>
     cases hwi with
     | nil =>
      simp only[fi,eh]at hlen
      rw[nO]
      exact(bu (by lia)).symm
     | cons c u hw =>
      rw[va]at hz
      cases hz
   rw[hv]at hR
   wp_walk
   exact⟨_,rfl,by simpa[Builtin.Tuple.tupleCompareSizes]using hR⟩
  case h =>
   exact⟨rfl,rfl,items.toList,items2.toList,ns,ms,rfl,hi,hj,by lia,h⟩
end
section
variable {prog:Program} {w:World} {A:Around} {E:zzj} {s:Shared}
theorem lt_tupInts{l b:Addr}{items items2:Array Value}{ns ms:List Int}(hl:IsTup s.heap l items)(hb:IsTup s.heap b items2)(hi:IntsAre items.toList ns)(hj:IntsAre items2.toList ms)
  (hu:A.units<cLine) (h:Q (.bool (lexLt ns ms)) s):wpAny (model prog w) A (compareOp .Lt (.ref l) (.ref b)) Q E s:=by
 obtain⟨⟨cls,dd,data,sl⟩,ho,hc,n,hd⟩:=id hl
 obtain⟨⟨cls2,dd2,data2,sl2⟩,ho2,hc2,n2,hd2⟩:=id hb
 simp only at hc hd hc2 hd2
 subst hc hd hc2 hd2
 exact richCompare_meets_room (op:=.Lt) ⟨_,ho,rfl⟩ ⟨_,ho2,rfl⟩ PySem.F.slot_tuple_lt PySem.F.entry_tuple_lt (PySem.F.args_tuple_lt_2 _ _) (o7 l b items items2 n n2 dd dd2 sl sl2 ns ms hi hj)
  ⟨ho,ho2,show Value.bool (lexLt ns ms)≠Value.notImplemented/\Q (.bool (lexLt ns ms)) s from⟨(λx=>nomatch x),h⟩⟩ hu
theorem cat_tup{t b:Addr}{vs ws:List Value}(ht:IsTup s.heap t vs.toArray)(hb:IsTup s.heap b ws.toArray)(hv:vs≠[])
  (h1:ws=[]->Q (.ref t) s) (h2:ws≠[]->Q (.ref s.heap.objs.size) { s with heap:=s.heap.push { cls:=.type "tuple",data:=.seq (vs++ws).toArray } })
  (hsz:vs.length+ws.length<=sizeLine):wpAny (model prog w) A (binaryOp .Add (.ref t) (.ref b)) Q E s:=by
 obtain⟨⟨cls,dd,data,sl⟩,ho,hc,n,hd⟩:=id ht
 obtain⟨⟨cls2,dd2,data2,sl2⟩,ho2,hc2,n2,hd2⟩:=id hb
 simp only at hc hd hc2 hd2
 subst hc hd hc2 hd2
 have e:vs.toArray++ws.toArray=(vs++ws).toArray:=by simp
 by_cases hw:ws=[]
 ·exact concat_meets ⟨_,ho,rfl⟩ ⟨_,ho2,rfl⟩ noFill_tuple_add seq_tuple_add L5 LR (LN _ _)
   (tuple_addW1 t b vs.toArray ws.toArray n n2 dd dd2 sl sl2 (by simpa using hv) (by simp[hw])) ⟨ho,ho2,h1 hw⟩
 ·refine concat_meets ⟨_,ho,rfl⟩ ⟨_,ho2,rfl⟩ noFill_tuple_add seq_tuple_add L5 LR (LN _ _)
   (tuple_addW2 t b vs.toArray ws.toArray n n2 dd dd2 sl sl2 (by simpa using hv) (by simpa using hw) (by rw[ay,ay];exact hsz)) ⟨ho,ho2,?_⟩
  rw[e]
  exact h2 hw
def sIx(n d:Nat):Option Int->Nat
 | none=>d
 | some v=>if v<0 then(v+(n:Int)).toNat else min v.toNat n
theorem Fe(n d:Nat)(hd:d<=n)(o:Option Int):sIx n d o<=n:=by
 cases o with
 | none=>exact hd
 | some v =>
  show(if v<0 then(v+(n:Int)).toNat else min v.toNat n)<=n
  by_cases hv:v<0
  ·rw[ar hv];lia
  ·rw[au hv];exact Nat.min_le_right _ _
theorem xf(v:Int)(n d:Nat):(if v<0 then max (v+(n:Int)) 0 else min v (n:Int))=((sIx n d (some v):Nat):Int):=by
 show(if v<0 then max (v+(n:Int)) 0 else min v (n:Int))=(((if v<0 then(v+(n:Int)).toNat else min v.toNat n):Nat):Int)
 by_cases hv:v<0
 ·simp only[ar hv];lia
 ·simp only[au hv];lia
theorem vX(lo hi:Option Int)(n:Nat):Builtin.Slice.sliceAdjust lo hi 1 (n:Int)=(((sIx n 0 lo:Nat):Int),((sIx n n hi:Nat):Int)):=by
 have h1:¬ ((1:Int)<0):=by lia
 unfold Builtin.Slice.sliceAdjust
 simp only[h1,Cn]
 refine Prod.ext ?_ ?_
 ·cases lo with
  | none=>rfl
  | some v=>exact xf v n 0
 ·cases hi with
  | none=>rfl
  | some v=>exact xf v n n
theorem uV(i j:Nat):Builtin.Slice.slicePlaces (i:Int) (j:Int) 1=j - i:=by
 unfold Builtin.Slice.slicePlaces
 have h1:(1:Int)>0:=by lia
 simp only[h1,KF,Int.ediv_one]
 split<;>lia
theorem mZ{v:Value}{o:Option Int}{Q:Option Int->Shared->Prop}(p:IsPart v o)(h:Q o s):wpAny (model prog w) A (Builtin.Slice.slicePartIndex v) Q E s:=by
 cases p with
 | none=>exact slicePart_none h
 | int i t=>exact slicePart_int h
theorem fT{sl:Addr}{vl vu:Value}{lo hi:Option Int}{n:Nat}{Q:Int×Int×Nat->Shared->Prop}(hs:s.heap.IsSliceOf sl vl vu .none)(pl:IsPart vl lo)(pu:IsPart vu hi)
  (h:Q (((sIx n 0 lo:Nat):Int),1,sIx n n hi - sIx n 0 lo) s):wpAny (model prog w) A (Builtin.Slice.sliceApplied (.ref sl) (pure (n:Int))) Q E s:=by
 obtain⟨os,hos,hcs,hds⟩:=id hs
 unfold Builtin.Slice.sliceApplied Builtin.Slice.sliceFields
 refine zza (zza (pI hos hds (x:=vl) rfl (zza (pI hos hds (x:=vu) rfl (zza (pI hos hds (x:=.none) rfl (zzb ?_)))))))
 refine zza (slicePart_none ?_)
 show wpAny _ _ (if((1:Int)==0)=true then _ else _) _ _ s
 rw[au (by decide)]
 refine zza (mZ pl (zza (mZ pu (zza (zzb ?_)))))
 show wpAny _ _ (match Builtin.Slice.sliceAdjust lo hi 1 (n:Int)with|(lo,hi)=>pure (lo,(1:Int),Builtin.Slice.slicePlaces lo hi 1)) _ _ s
 rw[vX lo hi n]
 show wpAny _ _ (pure (((sIx n 0 lo:Nat):Int),(1:Int),Builtin.Slice.slicePlaces ((sIx n 0 lo:Nat):Int) ((sIx n n hi:Nat):Int) 1)) _ _ s
 rw[uV]
 exact zzb h
theorem z9(xs:Array Value)(i k:Nat):((List.range k).filterMap λ(m:Nat)=>xs[((i:Int)+(m:Int)*1).toNat]?).toArray=((xs.toList.drop i).take k).toArray:=by
 have e:(λ(m:Nat)=>xs[((i:Int)+(m:Int)*1).toNat]?)=λm=>xs[i+m]?:=by
  funext m
  have:((i:Int)+(m:Int)*1).toNat=i+m:=by lia
  rw[this]
 rw[e]
 have:=pick_run xs i k
 rw[List.filterMap_map]at this
 have e2:((λx=>xs[x]?)∘λx=>i+x)=λm=>xs[i+m]?:=rfl
 rw[e2]at this
 rw[this]
theorem getItem_tuple_cut{t sl:Addr}{items:Array Value}{vl vu:Value}{lo hi:Option Int}(ht:IsTup s.heap t items)(hs:s.heap.IsSliceOf sl vl vu .none)(pl:IsPart vl lo)(pu:IsPart vu hi)
  (hw:¬ (sIx items.size 0 lo=0/\sIx items.size items.size hi=items.size))
  (h:Q (.ref s.heap.objs.size) { s with heap:=s.heap.push { cls:=.type "tuple",data:=.seq ((items.toList.drop (sIx items.size 0 lo)).take (sIx items.size items.size hi - sIx items.size 0 lo)).toArray } })
  (hsz:items.size<=sizeLine):wpAny (model prog w) A (getItem (.ref t) (.ref sl)) Q E s:=by
 have htake:sizeOk (.seq ((items.toList.drop (sIx items.size 0 lo)).take (sIx items.size items.size hi - sIx items.size 0 lo)).toArray):=by
  show((items.toList.drop (sIx items.size 0 lo)).take (sIx items.size items.size hi - sIx items.size 0 lo)).toArray.size<=sizeLine
  rw[ay,Ki,Kj,be]
  lia
 have hj:sIx items.size items.size hi<=items.size:=Fe _ _ (ai _) hi
 obtain⟨os,hos,hcs,hds⟩:=id hs
 have hTs:s.TypeIs (.ref sl) "slice":=⟨os,hos,hcs⟩
 unfold getItem
 try with_reducible refine ev ?_
 first|refine zza (zzb ?_)|skip
 refine zza (wpAny_sequenceKey ht.typeIs (by decide) ?_)
 refine zza (gt (name:=Str.ofString "__getitem__") ht.typeIs Kt
  (gs Kt ht.typeIs entry_tuple_getitem ?_ (args_tuple_getitem _ _)))
 show wpAny _ _ (Builtin.Tuple.tupleItemsOf (.ref t) >>= _) _ _ s
 refine zza (tupleItemsOf_ ht ?_)
 refine zza (Ix hTs ?_)
 rw[ar (by decide)]
 refine zza (fT hs pl pu ?_)
 have hno:¬ ((((sIx items.size 0 lo:Nat):Int)==0&&(1:Int)==1&&(sIx items.size items.size hi - sIx items.size 0 lo)==items.size)=true):=by
  intro q
  rw[ac,ac]at q
  have q1:((sIx items.size 0 lo:Nat):Int)=0:=eq_of_beq q.1.1
  have q2:sIx items.size items.size hi - sIx items.size 0 lo=items.size:=eq_of_beq q.2
  exact hw ⟨by lia,by lia⟩
 show wpAny _ _ (if(((sIx items.size 0 lo:Nat):Int)==0&&(1:Int)==1&&(sIx items.size items.size hi - sIx items.size 0 lo)==items.size)=true then _ else _) _ _ s
 rw[au hno,z9]
 first
  | exact zza (m:=Builtin.Tuple.tupleExact _) (sd (zzb ⟨_,rfl,zzb h⟩) htake)
  | exact zza (m:=Builtin.Tuple.tupleExact _) (sd (zza (zzb (zzb ⟨_,rfl,zzb h⟩))) htake)
  | exact zza (zza (m:=Builtin.Tuple.tupleExact _) (sd (zzb (zzb ⟨_,rfl,zzb h⟩)) htake))
  | exact zza (zza (m:=Builtin.Tuple.tupleExact _) (sd (zzb ⟨_,rfl,zzb h⟩) htake))
end
end HT
namespace L2
open PySem PySem.Spec PyProof.Rows
variable {X:Cx}{xs:List V}{n:Nat}{pins:zzk}{Z:St}{H:Hp}
abbrev TO:=St->Hp->(Option Int->Hp->Prop)->Prop
def PO(X:Cx)(e:Option Expr)(t:TO):Prop :=
 ∀(pins:zzk) (s:Shared) (Z:St) (H:Hp) (Q:Option Int->Hp->Prop),Inv X pins Z H s->t Z H Q ->
  wpAny (model X.prog X.w) X.A (evalPart e X.env) (λu s'=>∃o H',Inv X pins Z H' s'/\IsPart u o/\Q o H') X.xe s
def B4:TO:=λ_ H Q=>Q none H
def Hb(t:TE):TO:=λZ H Q=>t Z H λx H1=>∃i,x=.int i/\Q (some i) H1
theorem intsAre_of{ns:List Int}:∀{us:List Value},Vals (ns.map V.int) us->IntsAre us ns:=by
 induction ns with
 | nil=>intro us r;rw[Ch]at r;cases r;exact .nil
 | cons n ns ih =>
  intro us r
  rw[ax]at r
  cases r with
  | cons r1 r2 =>
   obtain⟨t,e⟩:=r1
   subst e
   exact .cons n t (ih r2)
section
variable {e:Expr} {te:TE} {lo hi:Option Expr} {tl th:TO} {pos p2:Pos}
theorem Cs:PO X none B4:=by
 intro pins s Z H Q I h
 rw[evalPart_none]
 exact zzb ⟨none,H,I,.none,h⟩
theorem Cr(h:PE X e te):PO X (some e) (Hb te):=by
 intro pins s Z H Q I hw
 rw[evalPart_some]
 refine thn (h pins s Z H _ I hw) λu s1 ⟨x,H1,I1,r1,q1⟩=>?_
 obtain⟨i,rfl,q⟩:=q1
 obtain⟨t,rfl⟩:=r1
 exact⟨some i,H1,I1,.int i t,q⟩
def SlR(X:Cx)(r:V->Option Int->Option Int->Hp->VK->Prop):Prop :=
 ∀(pins:zzk) (s:Shared) (Z:St) (H:Hp) (x:V) (v vl vu:Value) (lo hi:Option Int) (sl:Addr) (Q:VK),Inv X pins Z H s->RelV x v->s.heap.IsSliceOf sl vl vu .none->IsPart vl lo->IsPart vu hi->r x lo hi H Q ->
  ∃T id,typeLookup (.type T) "__getitem__" = pure (some (.builtin id))/\s.TypeIs v T/\wpAny (model X.prog X.w) X.A (getItem v (.ref sl)) (EP X pins Z Q) X.xe s
theorem SlR.or{r r':V->Option Int->Option Int->Hp->VK->Prop}(h:SlR X r)(h':SlR X r'):SlR X (λx lo hi H Q=>r x lo hi H Q\/r' x lo hi H Q):=by
 intro pins s Z H x v vl vu lo hi sl Q I rx hs pl pu q
 rcases q with q|q
 ·exact h pins s Z H x v vl vu lo hi sl Q I rx hs pl pu q
 ·exact h' pins s Z H x v vl vu lo hi sl Q I rx hs pl pu q
def tSl(r:V->Option Int->Option Int->Hp->VK->Prop)(te:TE)(tl th:TO):TE:=λZ H Q=>te Z H λx H1=>tl Z H1 λl H2=>th Z H2 λu H3=>r x l u H3 Q
theorem Ae{r:V->Option Int->Option Int->Hp->VK->Prop}(hr:SlR X r)(he:PE X e te)(hl:PO X lo tl)(hu:PO X hi th):PE X (.Subscript e (.Slice lo hi none p2) pos) (tSl r te tl th):=by
 intro pins s Z H Q I h
 refine Subscript_ (thn (he pins s Z H _ I h) λv s1 ⟨x,H1,I1,r1,q1⟩=>?_)
 refine wpAny_Slice (thn (hl pins s1 Z H1 _ I1 q1) λvl s2 ⟨l,H2,I2,pl,q2⟩=>thn (hu pins s2 Z H2 _ I2 q2) λvu s3 ⟨u,H3,I3,pu,q3⟩=>?_)
 rw[evalPart_none]
 refine zzb ?_
 have I4:Inv X pins Z H3 { s3 with heap:=s3.heap.push { cls:=.type "slice",data:=.fields #[vl,vu,.none] } }:=I3.kept (t':=s3.toks) λb ob q=>zzc _ q
 obtain⟨T,id,hT,ht,hg⟩:=hr pins { s3 with heap:=s3.heap.push { cls:=.type "slice",data:=.fields #[vl,vu,.none] } } Z H3 x v vl vu l u s3.heap.objs.size Q I4 r1 (Heap.IsSliceOf.new ..) pl pu q3
 show wpAny (model X.prog X.w) X.A (subscriptTail e (.Slice lo hi none p2) v (.ref s3.heap.objs.size)) (EP X pins Z Q) X.xe { s3 with heap:=s3.heap.push { cls:=.type "slice",data:=.fields #[vl,vu,.none] } }
 exact tail_any (ops:=[.ref s3.heap.objs.size,v]) ht hT hg (by with_unfolding_all rfl)
def ud(xs:List V)(lo hi:Option Int):List V:=(xs.drop (HT.sIx xs.length 0 lo)).take (HT.sIx xs.length xs.length hi - HT.sIx xs.length 0 lo)
theorem lL(xs:List V)(lo hi:Option Int):(ud xs lo hi).length<=xs.length:=by
 unfold ud
 rw[Ki,Kj]
 lia
def Js(K:PySem.W.Frag):V->Option Int->Option Int->Hp->VK->Prop:=λx lo hi H Q=>∃a xs,x=.ref a/\SqT K H a xs /\
 ¬ (HT.sIx xs.length 0 lo=0/\HT.sIx xs.length xs.length hi=xs.length)/\∀p,H p=none->Q (.ref p) (upd H p (.tup (ud xs lo hi)))
theorem sl_tup:SlR X (Js X.K):=by
 intro pins s Z H x v vl vu lo hi sl Q I rx hs pl pu h
 obtain⟨a,xs,rfl,hx,hw,q⟩:=h
 cases rx
 obtain⟨its,r,ht,hz⟩:=I.tuple hx
 have hlen:its.toArray.size=xs.length:=by rw[ay];exact r.length.symm
 refine⟨"tuple",_,PyProof.Rows.slot_tuple_getitem.lookup,ht.typeIs,?_⟩
 refine HT.getItem_tuple_cut ht hs pl pu (by rw[hlen];exact hw) ?_ (by rw[hlen];exact hz)
 rw[hlen]
 refine⟨.ref s.heap.objs.size,_,I.laid (t':=s.toks) (o:=.tup (ud xs lo hi)) (λb ob q=>zzc _ q) (ai _) ?_,rfl,q _ (I.hok.fresh (ai _))⟩
 exact⟨ce (lL xs lo hi) hz,_,(r.drop (HT.sIx xs.length 0 lo)).take (HT.sIx xs.length xs.length hi - HT.sIx xs.length 0 lo),IsTup.new _ _,TupN.new _ _⟩
def Hx(K:PySem.W.Frag):R2:=λx y H Q=>∃a b ns ms,x=.ref a/\y=.ref b/\SqT K H a (ns.map V.int)/\SqT K H b (ms.map V.int)/\Q (.bl (HT.lexLt ns ms)) H
theorem FD(hu:X.A.units<cLine):OpR X (compareOp .Lt) (Hx X.K):=by
 intro pins s Z H x y v u Q I rx ry h
 obtain⟨a,b,ns,ms,rfl,rfl,ha,hb,q⟩:=h
 cases rx
 cases ry
 obtain⟨its,r1,p1,_⟩:=I.tuple ha
 obtain⟨its2,r2,p2,_⟩:=I.tuple hb
 have i1:IntsAre its.toArray.toList ns:=intsAre_of r1
 have i2:IntsAre its2.toArray.toList ms:=intsAre_of r2
 exact HT.lt_tupInts p1 p2 i1 i2 hu ⟨.bl (HT.lexLt ns ms),H,I,rfl,q⟩
def HI(K:PySem.W.Frag):R2:=λx y H Q=>∃a b xs ys,x=.ref a/\y=.ref b/\SqT K H a xs/\SqT K H b ys/\xs≠[]/\xs.length+ys.length<=sizeLine /\
 (ys=[]->Q (.ref a) H)/\(ys≠[]->∀p,H p=none->Q (.ref p) (upd H p (.tup (xs++ys))))
theorem Vals.nil_iff{us:List Value}(r:Vals xs us):us=[]↔xs=[]:=by
 cases r with
 | nil=>simp
 | cons _ _=>simp
theorem CI:OpR X (binaryOp .Add) (HI X.K):=by
 intro pins s Z H x y v u Q I rx ry h
 obtain⟨a,b,xs,ys,rfl,rfl,ha,hb,hx,hz,q1,q2⟩:=h
 cases rx
 cases ry
 obtain⟨its,r1,p1,_⟩:=I.tuple ha
 obtain⟨its2,r2,p2,_⟩:=I.tuple hb
 refine HT.cat_tup p1 p2 (λz=>hx (r1.nil_iff.mp z)) (λz=>⟨.ref a,H,I,rfl,q1 (r2.nil_iff.mp z)⟩) (λz=>?_) (by rw[<-r1.length,<-r2.length];exact hz)
 refine⟨.ref s.heap.objs.size,_,I.laid (t':=s.toks) (o:=.tup (xs++ys)) (λb ob q=>zzc _ q) (ai _) ?_,rfl,q2 (λw=>z (r2.nil_iff.mpr w)) _ (I.hok.fresh (ai _))⟩
 exact⟨by rw[zzf];exact hz,_,r1.append r2,IsTup.new _ _,TupN.new _ _⟩
end
def ixN(n:Nat)(i:Int):Option Nat:=if 0<=i then(if i<n then some i.toNat else none)else if -(n:Int)<=i then some (i+n).toNat else none
def atI{α:Type}(xs:List α)(i:Int):Option α:=(ixN xs.length i).bind λj=>xs[j]?
theorem wJ{i:Int}{j:Nat}(h:ixN n i=some j):seqIndex? i n=some j/\j<n /\ -(n:Int)<=i/\i<n:=by
 unfold ixN at h
 by_cases h0:0<=i
 ·rw[ar h0]at h
  by_cases h1:i<n
  ·rw[ar h1]at h
   have e:i.toNat=j:=Option.some.inj h
   exact⟨by rw[seqIndex_of h0 h1,e],by lia,by lia,h1⟩
  ·rw[au h1]at h;cases h
 ·rw[au h0]at h
  by_cases h1 : -(n:Int)<=i
  ·rw[ar h1]at h
   have e:(i+n).toNat=j:=Option.some.inj h
   exact⟨by rw[seqIndex_neg (by lia) h1,e],by lia,h1,by lia⟩
  ·rw[au h1]at h;cases h
theorem rV{α:Type}{xs:List α}{i:Int}{v:α}(h:atI xs i=some v):∃j,seqIndex? i xs.length=some j/\xs[j]? = some v/\j<xs.length /\ -(xs.length:Int)<=i/\i<xs.length:=by
 unfold atI at h
 cases e:ixN xs.length i with
 | none=>rw[e]at h;cases h
 | some j =>
  rw[e]at h
  obtain⟨h1,h2,h3,h4⟩:=wJ e
  exact⟨j,h1,h,h2,h3,h4⟩
def sg(b:Expr):Prop:=∀o i,subscripted b false o i=operate [o,i] (getItem o i)
def IxR(X:Cx)(r:R2):Prop :=
 ∀(value slice:Expr) (pins:zzk) (s:Shared) (Z:St) (H:Hp) (x y:V) (v u:Value) (Q:VK),Inv X pins Z H s->RelV x v->RelV y u->r x y H Q ->
  subscripted slice false v u=operate [v,u] (getItem v u)->wpAny (model X.prog X.w) X.A (subscriptTail value slice v u) (EP X pins Z Q) X.xe s
def MtR(X:Cx)(id:String)(r:V->List V->Hp->VK->Prop):Prop :=
 ∀(pins:zzk) (s:Shared) (Z:St) (H:Hp) (x:V) (xs:List V) (v:Value) (us:List Value) (Q:VK),Inv X pins Z H s->RelV x v->Vals xs us->r x xs H Q ->
  wpAny (model X.prog X.w) X.A (call (.builtin id) (v::us)) (EP X pins Z Q) X.xe s
section
variable {a b:Expr} {ta tb:TE} {pos:Pos}
theorem IxR.or{r r':R2}(h:IxR X r)(h':IxR X r'):IxR X (λx y H Q=>r x y H Q\/r' x y H Q):=by
 intro value slice pins s Z H x y v u Q I rx ry q hs
 rcases q with q|q
 ·exact h value slice pins s Z H x y v u Q I rx ry q hs
 ·exact h' value slice pins s Z H x y v u Q I rx ry q hs
theorem Em{r:R2}(hr:IxR X r)(ha:PE X a ta)(hb:PE X b tb)(hs:sg b):PE X (.Subscript a b pos) (tOp r ta tb):=by
 intro pins s Z H Q I h
 exact Subscript_ (GJ ha hb I h λv u s2 x y H2 I2 rx ry q=>hr a b pins s2 Z H2 x y v u Q I2 rx ry q (hs _ _))
def HE(K:PySem.W.Frag):R2:=λx y H Q=>∃p xs i v,x=.ref p/\y=.int i/\SqL K H p xs/\atI xs i=some v/\Q v H
def HC(K:PySem.W.Frag):R2:=λx y H Q=>∃p xs i v,x=.ref p/\y=.int i/\SqT K H p xs/\atI xs i=some v/\Q v H
def HD:R2:=λx y H Q=>∃z i c,x=.str z/\y=.int i/\z.length<=sizeLine/\atI z.cps.toList i=some c/\Q (.str ⟨#[c]⟩) H
theorem ix_list:IxR X (HE X.K):=by
 intro value slice pins s Z H x y v u Q I rx ry h hs
 obtain⟨p,xs,i,z,rfl,rfl,hq,he,q⟩:=h
 cases rx
 obtain⟨t,rfl⟩:=ry
 obtain⟨its,r,pl,hz⟩:=I.list hq
 obtain⟨j,h1,h2,h3,h4,h5⟩:=rV he
 obtain⟨w,ew,rw'⟩:=r.get h2
 have hl:=r.length
 have hn:=jy
 have fin:EP X pins Z Q w s:=⟨z,H,I,rw',q⟩
 by_cases h0:0<=i
 ·have hj:i.toNat=j:=by
   rw[seqIndex_of h0 h5]at h1
   exact Option.some.inj h1
  exact item_listR pl.isList h0 (by lia) (by rw[hj];simpa using ew) fin hs
 ·have hj:(i+(its.toArray.size:Int)).toNat=j:=by
   rw[seqIndex_neg (by lia) h4]at h1
   rw[ay,<-hl]
   exact Option.some.inj h1
  exact subscriptTail_builtinR (x:=w) pl.isList.typeIs slot_list_getitem.lookup
   (wpAny_getItem_list_neg (Q:=λr s'=>r=w/\EP X pins Z Q r s') pl.isList (by lia) (by rw[ay]<;>lia) (by lia) (by rw[hj];simpa using ew) ⟨rfl,fin⟩) hs
theorem ix_tup:IxR X (HC X.K):=by
 intro value slice pins s Z H x y v u Q I rx ry h hs
 obtain⟨p,xs,i,z,rfl,rfl,hq,he,q⟩:=h
 cases rx
 obtain⟨t,rfl⟩:=ry
 obtain⟨its,r,pl,hz⟩:=I.tuple hq
 obtain⟨j,h1,h2,h3,h4,h5⟩:=rV he
 obtain⟨w,ew,rw'⟩:=r.get h2
 have hl:=r.length
 have hn:=jy
 have fin:EP X pins Z Q w s:=⟨z,H,I,rw',q⟩
 exact subscriptTail_builtinR (x:=w) pl.typeIs slot_tuple_getitem.lookup
  (getItem_tuple (j:=j) (Q:=λr s'=>r=w/\EP X pins Z Q r s') pl (by lia) (by lia) (by rw[ay,<-hl];exact h1) (by simpa using ew) ⟨rfl,fin⟩) hs
theorem Gb:IxR X HD:=by
 intro value slice pins s Z H x y v u Q I rx ry h hs
 obtain⟨z,i,c,rfl,rfl,hz,he,q⟩:=h
 obtain⟨t,rfl⟩:=rx
 obtain⟨t',rfl⟩:=ry
 obtain⟨j,h1,h2,h3,h4,h5⟩:=rV he
 have hl:z.cps.toList.length=z.length:=by simp[Str.length]
 rw[hl]at h1 h4 h5
 have hn:=jy
 exact tail_any (typeIs_str s z t) slot_str_getitem.lookup (getItem_str (c:=c) (by
  have e1:decide (i < -(2^63:Int))=false:=bu (by lia)
  have e2:decide (i>=2^63)=false:=bu (by lia)
  rw[e1,e2,Bool.or_false]) (by rw[h1];simpa using h2) ⟨.str ⟨#[c]⟩,H,I.tok _,⟨_,rfl⟩,q⟩) hs
def rIx(K:PySem.W.Frag):R2:=λx y H Q=>HE K x y H Q\/HC K x y H Q\/HD x y H Q
theorem Gc:IxR X (rIx X.K):=ix_list.or (ix_tup.or Gb)
theorem vb(its:List Value)(n j:Nat)(u:Value):Obj.mapSeq (·.setIfInBounds j u) { cls:=.type "list",data:=.seq its.toArray n }={ cls:=.type "list",data:=.seq (its.set j u).toArray n }:=by
 simp[Obj.mapSeq]
theorem Inv.lst{s:Shared}{p:Addr}(I:Inv X pins Z H s)(h:H p=some (.lst xs)) :
  ∃(its:List Value) (n:Nat),Vals xs its/\s.heap.get? p=some { cls:=.type "list",data:=.seq its.toArray n }/\xs.length<=sizeLine:=by
 obtain⟨z,its,n,r,e⟩:=I.hok p _ h
 exact⟨its,n,r,e,z⟩
theorem Inv.lstUpd{s:Shared}{p:Addr}{ys:List V}{its its':List Value}{n':Nat}{f:Obj->Obj}(I:Inv X pins Z H s)(h:H p=some (.lst xs))
  (ho:s.heap.get? p=some { cls:=.type "list",data:=.seq its.toArray n }) (hf:f { cls:=.type "list",data:=.seq its.toArray n }={ cls:=.type "list",data:=.seq its'.toArray n' }) (r:Vals ys its') (hz:ys.length<=sizeLine) (t:Nat) :
  Inv X pins Z (upd H p (.lst ys)) { s with heap:=s.heap.update p f,toks:=t }:=by
 have e:(s.heap.update p f).get? p=some { cls:=.type "list",data:=.seq its'.toArray n' }:=by
  rw[lu f ho (by rw[hf]<;>rfl),hf]
 refine I.write (x:=p) (e:=p) (by rw[h];trivial) (.inl rfl) (λb u hb q=>(Kx _ _ (Ne.symm hb)).trans q) ⟨_,e⟩ ?_
 exact⟨hz,its',n',r,e⟩
def Hv:V->V->V->Hp->(Hp->Prop)->Prop:=λo i v H Q=>∃p xs k j,o=.ref p/\i=.int k/\H p=some (.lst xs)/\ixN xs.length k=some j/\Q (upd H p (.lst (xs.set j v)))
theorem set_list:IZ X Hv:=by
 intro pins s Z H o i v ov iv u Q I ro ri rv h
 obtain⟨p,xs,k,j,rfl,rfl,hp,hj,q⟩:=h
 cases ro
 obtain⟨t,rfl⟩:=ri
 obtain⟨its,n,r,ho,hz⟩:=I.lst hp
 obtain⟨h1,h2,h3,h4⟩:=wJ hj
 have hl:=r.length
 have hn:=jy
 have I':Inv X pins Z (upd H p (.lst (xs.set j v))) { s with heap:=s.heap.update p (Obj.mapSeq (·.setIfInBounds j u)) } :=
  I.lstUpd hp ho (vb its n j u) (r.set rv j) (by rw[List.length_set];exact hz) s.toks
 by_cases h0:0<=k
 ·have hk:k.toNat=j:=by
   rw[seqIndex_of h0 h4]at h1
   exact Option.some.inj h1
  exact PySem.W.ki_setAt ho h0 (by lia) (by rw[ay,<-hl];exact h4) (by rw[hk];exact⟨_,I',q⟩)
 ·have hk:(k+(its.toArray.size:Int)).toNat=j:=by
   rw[seqIndex_neg (by lia) h3]at h1
   rw[ay,<-hl]
   exact Option.some.inj h1
  exact PySem.W.ki_setBack ho (by lia) (by rw[ay,<-hl];exact h3) (by lia) (by rw[hk];exact⟨_,I',q⟩)
theorem qR(lo hi:Option Int)(n:Nat):(sliceBounds lo hi none n).1=((HT.sIx n 0 lo:Nat):Int)/\(sliceBounds lo hi none n).2.1=((HT.sIx n n hi:Nat):Int)/\(sliceBounds lo hi none n).2.2=1:=by
 refine⟨?_,?_,rfl⟩
 ·cases lo with
  | none=>simp[sliceBounds,HT.sIx]
  | some i =>
   simp only[sliceBounds,HT.sIx,Option.getD_none,show(1:Int)>0 by decide,KF]
   by_cases h:i<0
   ·simp only[h,KF]<;>lia
   ·simp only[h,Cn]<;>lia
 ·cases hi with
  | none=>simp[sliceBounds,HT.sIx]
  | some i =>
   simp only[sliceBounds,HT.sIx,Option.getD_none,show(1:Int)>0 by decide,KF]
   by_cases h:i<0
   ·simp only[h,KF]<;>lia
   ·simp only[h,Cn]<;>lia
theorem o9(its:List Value)(lo hi:Option Int):slicePick its.toArray lo hi none=((its.drop (HT.sIx its.length 0 lo)).take (HT.sIx its.length its.length hi - HT.sIx its.length 0 lo)).toArray:=by
 obtain⟨h1,h2,h3⟩:=qR lo hi its.toArray.size
 unfold slicePick
 rw[h1,h2,h3]
 simp only[sliceRange_one,pick_run,ay]<;>rfl
def Jt(K:PySem.W.Frag):V->Option Int->Option Int->Hp->VK->Prop:=λx lo hi H Q=>∃a xs,x=.ref a/\SqL K H a xs/\∀p,H p=none->Q (.ref p) (upd H p (.lst (ud xs lo hi)))
theorem Ca:SlR X (Jt X.K):=by
 intro pins s Z H x v vl vu lo hi sl Q I rx hs pl pu h
 obtain⟨a,xs,rfl,hx,q⟩:=h
 cases rx
 obtain⟨its,r,ht,hz⟩:=I.list hx
 have hlen:=r.length
 refine⟨"list",_,slot_list_getitem.lookup,ht.isList.typeIs,?_⟩
 refine wpAny_getItem_list_slice ht.isList hs pl pu .none (by simp) ?_ (by rw[ay]<;>lia)
 rw[o9,<-hlen]
 refine⟨.ref s.heap.objs.size,_,I.laid (t':=s.toks) (o:=.lst (ud xs lo hi)) (λb ob q=>zzc _ q) (ai _) ?_,rfl,q _ (I.hok.fresh (ai _))⟩
 exact⟨ce (lL xs lo hi) hz,_,0,(r.drop (HT.sIx xs.length 0 lo)).take (HT.sIx xs.length xs.length hi - HT.sIx xs.length 0 lo),zze _ rfl⟩
theorem rS:CallR X (.builtin "len") (λxs H Q=>∃p ys,xs=[.ref p]/\(SqL X.K H p ys\/SqT X.K H p ys)/\Q (.int ys.length) H):=by
 intro pins s Z H xs us Q I r h
 obtain⟨p,ys,rfl,hq,q⟩:=h
 obtain⟨u,rfl,rx⟩:=vals1 r
 cases rx
 have hn:=jy
 rcases hq with hq|hq
 ·obtain⟨its,r',pl,hz⟩:=I.list hq
  have hlen:=r'.length
  exact Calls.call_len_list pl.isList (by simp only[ay]<;>lia) ⟨.int ys.length,H,I.tok _,⟨s.toks+1,by rw[ay,hlen]⟩,q⟩
 ·obtain⟨its,r',pl,hz⟩:=I.tuple hq
  have hlen:=r'.length
  exact len_tuple pl (by simp only[ay]<;>lia) ⟨.int ys.length,H,I.tok _,⟨s.toks+1,by rw[ay,hlen]⟩,q⟩
theorem rR:CallR X (.builtin "len") (λxs H Q=>∃z,xs=[.str z]/\z.length<=sizeLine/\Q (.int z.length) H):=by
 intro pins s Z H xs us Q I r h
 obtain⟨z,rfl,hz,q⟩:=h
 obtain⟨u,rfl,t,rfl⟩:=vals1 r
 have hn:=jy
 exact len_str (by lia) ⟨.int z.length,H,I.tok _,⟨_,rfl⟩,q⟩
theorem CallR.or{f:Value}{r r':List V->Hp->VK->Prop}(h:CallR X f r)(h':CallR X f r'):CallR X f (λxs H Q=>r xs H Q\/r' xs H Q):=by
 intro pins s Z H xs us Q I rs q
 rcases q with q|q
 ·exact h pins s Z H xs us Q I rs q
 ·exact h' pins s Z H xs us Q I rs q
theorem rQ:CallR X (.type "list") (λxs H Q=>∃p ys,xs=[.ref p]/\(SqL X.K H p ys\/SqT X.K H p ys)/\∀l,H l=none->Q (.ref l) (upd H l (.lst ys))):=by
 intro pins s Z H xs us Q I r h
 obtain⟨p,ys,rfl,hq,q⟩:=h
 obtain⟨u,rfl,rx⟩:=vals1 r
 cases rx
 have fin:∀(its:List Value),Vals ys its->ys.length<=sizeLine->∀(h':Heap) (c':Nat),(∀b o',s.heap.get? b=some o'->h'.get? b=some o') ->
   h'.get? s.heap.objs.size=some { cls:=.type "list",dict:=none,data:=.seq its.toArray c',slots:=#[] }->EP X pins Z Q (.ref s.heap.objs.size) { s with heap:=h' }:=λits r' hz h' c' kp e =>
  ⟨.ref s.heap.objs.size,_,I.laid (t':=s.toks) kp (ai _) (show ObjOk X.prog X.w _ h' _ (.lst ys)from⟨hz,its,c',r',e⟩),rfl,q _ (I.hok.fresh (ai _))⟩
 rcases hq with hq|hq
 ·obtain⟨its,r',pl,hz⟩:=I.list hq
  have hlen:=r'.length
  obtain⟨o,ho,hc,n,hd⟩:=pl.isList
  exact call_list_seq p (.inl rfl) ho hc hd (λh' c' kp e=>fin its r' hz h' c' kp e) (by simp only[ay]<;>lia)
 ·obtain⟨its,r',pl,hz⟩:=I.tuple hq
  have hlen:=r'.length
  obtain⟨o,ho,hc,n,hd⟩:=pl
  exact call_list_seq p (.inr rfl) ho hc hd (λh' c' kp e=>fin its r' hz h' c' kp e) (by simp only[ay]<;>lia)
theorem aP:CallR X (.type "tuple") (λxs H Q=>∃p ys,xs=[.ref p]/\((SqL X.K H p ys/\∀l,H l=none->Q (.ref l) (upd H l (.tup ys)))\/(SqT X.K H p ys/\Q (.ref p) H))):=by
 intro pins s Z H xs us Q I r h
 obtain⟨p,ys,rfl,h⟩:=h
 obtain⟨u,rfl,rx⟩:=vals1 r
 cases rx
 rcases h with ⟨hq,q⟩|⟨hq,q⟩
 ·obtain⟨its,r',pl,hz⟩:=I.list hq
  have hlen:=r'.length
  refine call_tuple_list pl.isList (λh' kp=>?_) (by simp only[ay]<;>lia)
  have I1:Inv X pins Z H { s with heap:=h' }:=I.kept (t':=s.toks) kp
  have I2:Inv X pins Z (upd H h'.objs.size (.tup ys)) { s with heap:=h'.push { cls:=.type "tuple",data:=.seq its.toArray } } :=
   I1.laid (t':=s.toks) (λb o e=>zzc _ e) (ai _) (show ObjOk X.prog X.w _ _ _ (.tup ys)from⟨hz,its,r',IsTup.new _ _,TupN.new _ _⟩)
  exact⟨.ref h'.objs.size,_,I2,rfl,q _ (I1.hok.fresh (ai _))⟩
 ·obtain⟨its,r',pl,hz⟩:=I.tuple hq
  exact call_tuple_same pl ⟨.ref p,H,I,rfl,q⟩
def tyV(K:PySem.W.Frag)(T:String)(x:V)(H:Hp):Prop:=match x with
 | .str _=>T = "str"
 | .int _=>T = "int"
 | .ref p=>(T = "list" /\ ∃xs,SqL K H p xs)\/(T = "tuple" /\ ∃o,K.lookup p=some o/\o.cls=.type "tuple" /\ o.dict=none) \/
   (T = "dict" /\ ((∃kvs,H p=some (.dK kvs))\/∃kvs,H p=some (.dT kvs)))\/(T = "set" /\ ∃S n,H p=some (.set S n))
 | _=>False
theorem zm{s:Shared}{T:String}{x:V}{v:Value}(I:Inv X pins Z H s)(r:RelV x v)(ty:tyV X.K T x H) :
  s.TypeIs v T/\∀a,v=.ref a->∃ob,s.heap.get? a=some ob/\ob.dict=none:=by
 cases x with
 | str z =>
  obtain⟨t,rfl⟩:=r
  cases (show T = "str" from ty)
  exact⟨typeIs_str s z t,λ_ e=>nomatch e⟩
 | int i =>
  obtain⟨t,rfl⟩:=r
  cases (show T = "int" from ty)
  exact⟨typeIs_int s i t,λ_ e=>nomatch e⟩
 | ref p =>
  cases r
  rcases ty with ⟨rfl,xs,hq⟩|⟨rfl,o,hk,hc,hd⟩|⟨rfl,hk⟩|⟨rfl,S,n,hk⟩
  ·obtain⟨its,_,pl,_⟩:=I.list hq
   refine⟨pl.isList.typeIs,λa e=>?_⟩
   cases e
   obtain⟨o,n,e,c,hd,_⟩:=pl
   exact⟨o,e,hd⟩
  ·refine⟨⟨o,I.kIn p o hk,hc⟩,λa e=>?_⟩
   cases e
   exact⟨o,I.kIn _ o hk,hd⟩
  ·have z:∃o,s.heap.get? p=some o/\o.ExactDict:=by
    rcases hk with ⟨kvs,hk⟩|⟨kvs,hk⟩
    ·obtain⟨_,_,_,_,o,_,_,e,ex,_⟩:=I.hok p _ hk
     exact⟨o,e,ex⟩
    ·obtain⟨_,_,_,_,o,_,_,e,ex,_⟩:=I.hok p _ hk
     exact⟨o,e,ex⟩
   obtain⟨o,e,ex⟩:=z
   refine⟨⟨o,e,ex.1⟩,λa e2=>?_⟩
   cases e2
   exact⟨o,e,ex.2.1⟩
  ·obtain⟨o,_,_,_,e,ex,_⟩:=I.hok p _ hk
   refine⟨⟨o,e,ex.1⟩,λa e2=>?_⟩
   cases e2
   exact⟨o,e,ex.2.1⟩
 | _=>exact False.elim ty
def tBM(K:PySem.W.Frag)(T:String)(r:V->List V->Hp->VK->Prop)(to:TE)(t:TA):TE:=λZ H Q=>to Z H λx H1=>tyV K T x H1/\t Z H1 λxs H2=>r x xs H2 Q
variable {o e:Expr} {es:List Expr} {to:TE} {t:TA} {name:Str} {apos cpos:Pos} {T id:String} {r:V->List V->Hp->VK->Prop}
theorem Ak(pa:PlainAttrs T)(slot:Slot T name id)(hty:typeOf (.builtin id)=pure (.type "method_descriptor"))(hm:MtR X id r)(ho:PE X o to)(ha:PA X (e::es) t)
  (hbase:attributeBase o name X.env (eval o X.env)=eval o X.env:=by rfl)
  (hfew:((backTo cpos (starEach (e::es) X.env)).all (λx=>!x.1)&&(backToKw cpos (keywordEach [] X.env)).all (λx=>x.1.isSome)
   && decide ((e::es).length+([]:List Keyword).length+(if([]:List Keyword).isEmpty then 0 else 1)<30))=true:=by rfl)
  (hline:(apos.endLine==cpos.line)=true:=by rfl) (hs:starEach (e::es) X.env=(false,eval e X.env)::starEach es X.env:=by rfl) (hplain:(backTo cpos (starEach es X.env)).any (·.1)=false:=by rfl) :
  PE X (.Call (.Attribute o name apos) (e::es) [] cpos) (tBM X.K T r to t):=by
 intro pins s Z H Q I h
 refine wpAny_Call_method_late hbase hfew hline rfl (thn (ho pins s Z H _ I h) λv s1 ⟨x,H1,I1,r1,ty,q1⟩=>?_)
 obtain⟨h1,h2⟩:=zm I1 r1 ty
 refine⟨T,id,pa,slot,hty,h1,h2,?_⟩
 have hA:=ha cpos pins s1 Z H1 _ I1 q1
 rw[hs]at hA ⊢
 refine Kg (by show(false||(backTo cpos (starEach es X.env)).any (·.1))=false;rw[hplain]<;>rfl) (KM ?_)
 exact thn hA λus s2 ⟨vs,H2,I2,r2,q2⟩=>hm pins s2 Z H2 x vs v us Q I2 r1 r2 q2
end
def MtM(X:Cx)(id:String)(r:V->List V->Hp->VK->Prop):Prop :=
 ∀(pins:zzk) (s:Shared) (Z:St) (H:Hp) (x:V) (xs:List V) (v:Value) (us:List Value) (Q:VK),Inv X pins Z H s->RelV x v->Vals xs us->r x xs H Q ->
  wpAny (model X.prog X.w) X.A (call (.builtin id) (v::us)) (EP X pins Z Q) X.xe s
theorem Vals.one:∀{x:V} {us:List Value},Vals [x] us->∃u,us=[u]/\RelV x u:=by
 intro x us h
 cases h with
 | cons r t=>cases t;exact⟨_,rfl,r⟩
theorem Vals.two:∀{x y:V} {us:List Value},Vals [x,y] us->∃u v,us=[u,v]/\RelV x u/\RelV y v:=by
 intro x y us h
 cases h with
 | cons r t =>
  obtain⟨v,rfl,q⟩:=Vals.one t
  exact⟨_,_,rfl,r,q⟩
section
variable {s:Shared} {l b:Addr} {ys zs:List V}
theorem Inv.lset{its its':List Value}{f:Array Value->Array Value}{t':Nat}(I:Inv X pins Z H s)(hH:H l=some (.lst xs))
  (e:s.heap.get? l=some { cls:=.type "list",data:=.seq its.toArray n }) (hf:f its.toArray=its'.toArray) (hv:Vals ys its') (hz:ys.length<=sizeLine) :
  Inv X pins Z (upd H l (.lst ys)) { s with heap:=s.heap.update l (Obj.mapSeq f),toks:=t' }:=by
 have q:=PySem.IsL.update e f
 rw[hf]at q
 refine I.write (x:=l) (e:=l) (by rw[hH];exact trivial) (.inl rfl) (λb' u hb hu=>(Kx s.heap (Obj.mapSeq f) (Ne.symm hb)).trans hu) ⟨_,q⟩ ?_
 exact⟨hz,its',_,hv,q⟩
theorem Inv.fresh(I:Inv X pins Z H s):H s.heap.objs.size=none:=I.hok.fresh (ai _)
theorem Inv.lstM(I:Inv X pins Z H s)(hH:H l=some (.lst xs)):xs.length<=sizeLine/\∃(its:List Value) (n:Nat),Vals xs its/\xs.length=its.length/\s.heap.get? l=some { cls:=.type "list",data:=.seq its.toArray n }:=by
 obtain⟨z,its,n,r,e⟩:=I.hok l _ hH
 exact⟨z,its,n,r,r.length,e⟩
theorem Ay(h:n<=sizeLine):Builtin.List.listTooLong n=false:=by
 unfold Builtin.List.listTooLong
 exact bu (by lia)
end
section
def Cg:V->List V->Hp->VK->Prop:=λx vs H Q=>∃l xs y,x=.ref l/\vs=[y]/\H l=some (.lst xs)/\xs.length<sizeLine/\Q .non (upd H l (.lst (xs++[y])))
theorem yo:MtM X "list.append" Cg:=by
 intro pins s Z H x vs v us Q I rx rv h
 obtain⟨l,xs,y,rfl,rfl,hH,hz,q⟩:=h
 cases rx
 obtain⟨u,rfl,ru⟩:=rv.one
 obtain⟨z,its,n,r,hl,e⟩:=I.lstM hH
 refine LZ F.slot_list_append ⟨_,e,rfl⟩ F.entry_list_append (F.args_list_append_2 _ _) (PySem.list_append l its.toArray n u (by rw[ay];lia)) ⟨e,?_⟩
 refine⟨.non,_,I.lset (its':=its++[u]) hH e (by simp) (r.append (.cons ru .nil)) ?_,rfl,q⟩
 rw[zzf,KE]
 lia
def Cf:V->List V->Hp->VK->Prop:=λx vs H Q=>∃l b xs zs,x=.ref l/\vs=[.ref b]/\H l=some (.lst xs)/\H b=some (.lst zs)/\xs.length+zs.length<=sizeLine/\Q .non (upd H l (.lst (xs++zs)))
theorem yn:MtM X "list.extend" Cf:=by
 intro pins s Z H x vs v us Q I rx rv h
 obtain⟨l,b,xs,zs,rfl,rfl,hH,hB,hz,q⟩:=h
 cases rx
 obtain⟨u,rfl,ru⟩:=rv.one
 cases ru
 obtain⟨z,its,n,r,hl,e⟩:=I.lstM hH
 obtain⟨z2,its2,n2,r2,hl2,e2⟩:=I.lstM hB
 have hsz:its.toArray.size+its2.toArray.size<=sizeLine:=by rw[ay,ay];lia
 have hlong:¬ (!its.toArray.isEmpty&&Builtin.List.listTooLong (its.toArray.size+its2.toArray.size))=true:=by
  rw[Ay hsz,Bool.and_false]
  exact pi
 refine LZ F.slot_list_extend ⟨_,e,rfl⟩ F.entry_list_extend (F.args_list_extend_2 _ _)
  (AutoSeq1.list_extend_list_list_0 l its.toArray n b its2.toArray n2 hlong (by rw[ay];lia) (by lia)) ⟨e,e2,?_⟩
 refine⟨.non,_,I.lset (its':=its++its2) hH e (by simp) (r.append r2) ?_,rfl,q⟩
 rw[zzf]
 lia
end
end L2
namespace Att
open PySem PySem.W PySem.Calls PyProof.Rows
theorem lY{P:Params}{h:Heap}:∀(ns:List Int) (vs:List Value),WellAll P h vs (ns.map WData.int)->IntsAre vs ns:=by
 intro ns
 induction ns with
 | nil =>
  intro vs w
  rw[Ch]at w
  cases w
  exact .nil
 | cons n ns ih =>
  intro vs w
  rw[ax]at w
  cases w with
  | cons a b =>
   cases a
   exact .cons _ _ (ih _ b)
theorem xT{l:OpenLaw}{n:Nat}(hn:l.most=some n){P:Params}{h:Heap}{args:List WData}{vals:List Value}
  (hpre:l.row.toRowW.claim.pre args=true) (hwl:WellAll P h vals args) :
  ∃a vs ns,vals=[Value.ref a]/\args=[WData.list (ns.map WData.int)]/\h.get? a=some { cls:=.type "list",data:=.seq vs.toArray }/\IntsAre vs ns/\ns.length<=n:=by
 have hsh:WShape.hasAll [] args [.list .int]=true:=(pre_splitW hpre).1
 have hc:l.pre.holds [] { args:=args }=true:=(pre_splitW hpre).2
 obtain⟨d,r,rfl,h1,h2⟩:=hasAllW_cons hsh
 obtain rfl:=hasAllW_nil h2
 obtain⟨xs,rfl,h3⟩:=hasW_list h1
 obtain⟨ns,rfl⟩:=items_int h3
 have hlen:ns.length<=n:=by
  unfold OpenLaw.pre at hc
  have h4:(WTm.not (.lt (.lit (.int (n:Int))) (.len (.arg 0)))).holds [] { args:=[.list (ns.map .int)] }=true:=by
   have h4:=(holds_andW hc).1
   rw[hn]at h4
   exact h4
  have h5:=condW_of h4 (w_not (w_lt w_lit (w_len_list (w_arg rfl))))
  rw[zzd]at h5
  refine Nat.le_of_not_lt λq=>?_
  have q':(n:Int)<((ns.length:Nat):Int):=by lia
  first
   | (rw[ef q']at h5;exact absurd h5 (by decide))
   | (simp at h5;lia)
 cases hwl with
 | cons w1 w2 =>
  cases w2
  cases w1 with
  | list ho hall=>exact⟨_,_,ns,rfl,rfl,ho,lY ns _ hall,hlen⟩
theorem x0(l:OpenLaw)(args:List WData):l.row.toRowW.claim.post args (.bool true) args=true :=
 postW_of (r:=l.row.toRowW) (X:=(true==true))
  (show WShape.has [] (.bool true) .bool=true by first|rfl|decide|simp[WShape.has,WShape.arms,WShape.armsAll])
  (show(WTm.eq .res (.lit (.bool true))).value [] { args:=args,res:=some (.bool true),after:=args }=some (.bool (true==true))from w_eq_bool (w_res rfl) w_lit) rfl
theorem attach_call{l:OpenLaw}{n:Nat}{q:Program}{loose:List Str}{XP:(Str->Option Value)->Heap->Prop}{YP:World->Heap->Prop}{d:DefRec}
  (hn:l.most=some n) (hdf:d.params.defaults=[])
  (call:∀(w:World) (s₀ s₁:Shared) (mg mb:zzl) (fa:Addr) (o:Obj) (pm cd doc:Value) (a:Addr) (vs:List Value) (ns:List Int),
   Ground q loose [] XP w s₀ mg mb s₁.heap->YP w s₁.heap ->
   s₁.heap.get? fa=some o->o.data=.func (docDef d.name d.params d.body d.scope pm cd doc)->s₁.heap.CodeRec cd d.name->mg d.name=some (.ref fa) ->
   s₁.heap.get? a=some { cls:=.type "list",data:=.seq vs.toArray }->IntsAre vs ns->ns.length<=n->s₁.gens = #[] ->
   codeAny (model l.prog w) callerA (.call (.ref fa) ⟨[.ref a],[]⟩) (λr s'=>r=.ok (.ret (.bool true))/\OldK s₁.heap s'.heap/\s'.os=s₁.os/\AllBare s'.gens) s₁) :
  WalkO q loose XP YP l.row.toRowW d [] (λf vs=>PySem.call f vs):=by
 intro w s₀ s₁ mg mb G Y fa o pm cd doc dV kV ho hd hcd hD hmg hg args vals as hpre hlay hrd hwl hlo
 obtain rfl:dV=.none:=Dflts.none hD hdf
 obtain rfl:kV=.none:=Dflts.noKw hD
 obtain⟨a,vs,ns,rfl,rfl,hobj,hints,hlen⟩:=xT hn hpre hwl
 refine enter_call (K4 (call w s₀ s₁ mg mb fa o pm cd doc a vs ns G Y ho (fd_plain hd) hcd hmg hobj hints hlen hg) λr s' hq=>?_)
 obtain⟨rfl,h2,h3,h4⟩:=hq
 exact⟨.inl ⟨.bool true,.bool true,[],rfl,λ_=>rfl,.bool true,x0 l _,λ_=>⟨List.Pairwise.nil,λ_ hm=>(nomatch hm)⟩⟩,h2,h3,h4⟩
end Att
namespace L2
open PySem PySem.Spec PyProof.Rows
variable {H H':Hp}{X:Cx}{a b:Addr}{w:World}{P:Program}{u:Value}{kvs:List (List Key×V)}{y:V}{scope:Scope}{pos:Pos}{pins:zzk}{Z:St}{A:Around}{E Q:zzj}{o:Option V}{x qual:Str}{elt iter tg:Expr}{ifs:List Expr}{xs:List (List Key×Addr×Value)}{env:Env}{N':List Str}{g:TG}{tc:TT}{te:TE}
theorem pO:∀{vs:List Value} {ns:List Int},IntsAre vs ns->Vals (ns.map V.int) vs
 | _,_,.nil=>.nil
 | _,_,.cons n t h=>.cons ⟨t,rfl⟩ (pO h)
def GX(H:Hp):Prop:=∀b,H b=none\/∃o xs,H b=some (.frz o (.lst xs))
theorem AY{K:PySem.W.Frag}{mg mb:zzl}{CX:CXT}{k:Nat}{fa:Addr}{fd:FuncData}{sp:Sp}{s₁:Shared}{vs:List Value}{ns:List Int}
  (KX:K.In s₁.heap) (hns:s₁.heap.Ns mainGlobals mg) (hb:s₁.heap.Ns builtinsNs mb) (hbb:∀x:Str,x ≠ "__name__" -> mb x=bootBuiltins x) (hlim:s₁.heap.NoLimit) (hg:s₁.gens = #[])
  (ha:s₁.heap.get? a=some { cls:=.type "list",data:=.seq vs.toArray }) (hi:IntsAre vs ns) (hl:ns.length<=sizeLine) (hr:Room k callerA)
  (F:∀base:Heap,K.In base->base.Ns mainGlobals mg->FnOk P w K mg base CX k fa fd [x] sp) (hbind:∀(s:Shared) (u:Value),BindsTo s fd ⟨[u],[]⟩ [(x,u)])
  (hsp:∀H:Hp,GX H->SqL K H a (ns.map V.int)->sp [.ref a] H (λv _=>v=.bl true) λ_ _ _=>False)
  (hCX:∀H e s',CX [] H s₁ (λ_ _ _=>False) e s'->False) :
  codeAny (model P w) callerA (.call (.ref fa) ⟨[.ref a],[]⟩) (λr s'=>r=.ok (.ret (.bool true))/\OldK s₁.heap s'.heap/\s'.os=s₁.os/\AllBare s'.gens) s₁:=by
 have rv:=pO hi
 have lenV:=hi.length
 have core:∀H:Hp,GX H->SqL K H a (ns.map V.int)->HOk P w H s₁.heap->(∀b,H b≠none->b=a)->(H a≠none->K.lookup a=none) ->
   codeAny (model P w) callerA (.call (.ref fa) ⟨[.ref a],[]⟩) (λr s'=>r=.ok (.ret (.bool true))/\OldK s₁.heap s'.heap/\s'.os=s₁.os/\AllBare s'.gens) s₁:=by
  intro H hO hS hok hA hK
  have base_of:∀{b:Addr} {o:Obj},s₁.heap.get? b=some o->H b=none->(rH s₁.heap H).get? b=some o:=λe n=>Be e n
  have noA:∀{b:Addr} {o:Obj} {es:Array DictEntry} {ep:Nat},s₁.heap.get? b=some o->o.data=.dict es ep->H b=none:=λ{b o es ep} e d=>by
   cases q:H b with
   | none=>rfl
   | some u =>
    have e':b=a:=hA b (by rw[q];simp)
    subst e'
    rw[ha]at e;cases e
    have d':Data.seq vs.toArray _=Data.dict es ep:=d
    cases d'
  have nsK:∀{b:Addr} {m:zzl},s₁.heap.Ns b m->(rH s₁.heap H).Ns b m:=λ{b m} ⟨o,es,ep,e,d,r⟩=>⟨o,es,ep,base_of e (noA e d),d,r⟩
  have hKb:K.In (rH s₁.heap H):=λb o e=>base_of (KX b o e) (by
   cases q:H b with
   | none=>rfl
   | some u =>
    have e':b=a:=hA b (by rw[q];simp)
    subst e'
    rw[hK (by rw[q];simp)]at e;cases e)
  have hM:Mod K mg (rH s₁.heap H):=⟨hKb,nsK hns,⟨mb,nsK hb,hbb⟩,let ⟨mc,h1,h2⟩:=hlim;⟨mc,nsK h1,h2⟩⟩
  have e0:Env0 P w K mg (rH s₁.heap H) callerA [] s₁ H:=⟨rfl,hM,λb o e=>CP e,Nat.le_of_eq (yC _ _),trivial,λb hb=>absurd (show b∈([]:List Addr)from hb) (by simp),hok,.of_eq hg⟩
  refine K4 ((F _ hKb (nsK hns)).run callerA [] s₁ H ⟨[.ref a],[]⟩ [.ref a] [.ref a] _ _ hr e0 (hbind s₁ (.ref a)) (.cons rfl .nil) (hsp H hO hS)) λr s' h=>?_
  cases r with
  | error e=>exact(hCX H e s' h).elim
  | ok fl =>
   cases fl with
   | next=>exact False.elim h
   | brk=>exact False.elim h
   | cont=>exact False.elim h
   | ret u =>
    obtain⟨v,H',os,bare,un,hok',r',q⟩:=h
    have q':v=.bl true:=q
    subst q'
    obtain rfl:u=Value.bool true:=r'
    refine⟨rfl,OldK.of_keep λb o e=>?_,os,bare⟩
    cases q:H b with
    | none=>exact un.keep b o e q (by intro z;exact absurd (show b∈([]:List Addr)from z) (by simp)) (by simp)
    | some u =>
     rcases hO b with z|⟨ob,xs,z⟩
     ·rw[q]at z;cases z
     ·have z2:=un.frzs b ob _ z
      obtain⟨e1,_⟩:=hok b _ z
      obtain⟨e2,_⟩:=hok' b _ z2
      rw[e]at e1;cases e1
      exact e2
 cases hk:K.lookup a with
 | some o =>
  have e:=KX a o hk
  rw[ha]at e
  cases e
  refine core (λ_=>none) (λ_=>.inl rfl) (.inr ⟨_,vs.toArray,_,hk,rfl,rfl,rfl,by rw[ay,lenV];exact hl,by simpa using rv⟩) (λb u z=>by have z':(none:Option HO)=some u:=z;cases z') (λb z=>absurd rfl z) λz=>absurd rfl z
 | none =>
  refine core (λb=>if b=a then some (.frz { cls:=.type "list",data:=.seq vs.toArray } (.lst (ns.map V.int)))else none) (λb=>?_) (.inl (.inr ⟨{ cls:=.type "list",data:=.seq vs.toArray },ar rfl⟩)) (λb u z=>?_) (λb z=>?_) λ_=>hk
  ·by_cases hb:b=a
   ·exact .inr ⟨_,_,ar hb⟩
   ·exact .inl (au hb)
  ·by_cases hb:b=a
   ·have z':=(ar hb).symm.trans z
    cases z'
    subst hb
    exact⟨ha,by rw[zzd];exact hl,vs,_,rv,ha⟩
   ·have z':=(au hb).symm.trans z
    cases z'
  ·by_cases hb:b=a
   ·exact hb
   ·exact absurd (au hb) z
theorem walk_of{l:PySem.W.OpenLaw}{n k:Nat}{q:Program}{loose:List Str}{XP:(Str->Option Value)->Heap->Prop}{YP:World->Heap->Prop}{d:DefRec}{K:Params->PySem.W.Frag}{CX:World->CXT}{sp:World->Sp}
  (hn:l.most=some n) (hn2:n<=sizeLine) (hdf:d.params.defaults=[]) (hr:Room k callerA)
  (hY:∀(w:World) (h:Heap),YP w h->(K w.params).In h)
  (F:∀(w:World) (mg:zzl) (fa:Addr) (h:Heap),(K w.params).In h->h.Ns mainGlobals mg->mg d.name=some (.ref fa) ->
   ∃fd:FuncData,(∀(s:Shared) (u:Value),BindsTo s fd ⟨[u],[]⟩ [(x,u)]) /\
    ∀base:Heap,(K w.params).In base->base.Ns mainGlobals mg->FnOk l.prog w (K w.params) mg base (CX w) k fa fd [x] (sp w))
  (hsp:∀(w:World) (H:Hp) (a:Addr) (ns:List Int),ns.length<=n->GX H->SqL (K w.params) H a (ns.map V.int)->sp w [.ref a] H (λv _=>v=.bl true) λ_ _ _=>False)
  (hCX:∀(w:World) (H:Hp) (s:Shared) (e:Value) (s':Shared),CX w [] H s (λ_ _ _=>False) e s'->False) :
  PySem.W.WalkO q loose XP YP l.row.toRowW d [] (λf vs=>PySem.call f vs):=by
 refine Att.attach_call hn hdf λw s₀ s₁ mg mb fa o pm cd doc a vs ns G Y ho hd hcd hmg hobj hints hlen hg=>?_
 have KX:=hY w _ Y
 obtain⟨fd,hb,hF⟩:=F w mg fa _ KX G.T.g hmg
 exact AY KX G.T.g G.T.b G.T.builtins G.T.nolimit hg hobj hints (ce hlen hn2) hr hF hb (λH hO hS=>hsp w H a ns hlen hO hS) λH e s'=>hCX w H s₁ e s'
def dY(s:Stmt):Arguments:=match s with
 | .FunctionDef _ a _ _ _ _ _ _ _ _=>a
 | _=>{ posonlyargs:=[],args:=[],vararg:=none,kwonlyargs:=[],kw_defaults:=[],kwarg:=none,defaults:=[] }
def cp(s:Stmt):List Stmt:=match s with
 | .FunctionDef _ _ b _ _ _ _ _ _ _=>b
 | _=>[]
def aI(s:Stmt):Scope:=match s with
 | .FunctionDef _ _ _ _ _ _ sc _ _ _=>sc
 | _=>{ kind:=.function,names:=[],isGenerator:=false,isCoroutine:=false }
structure Fun(K:PySem.W.Frag)(x qual:Str)(st:Stmt)(f:Addr)(fd:FuncData):Prop where
 ex:∃(oc:Value) (od:Option Addr) (kV doc pm:Value) (an:Option Addr) (cdv ct:Value) (osl:Array (Option Value)),
  fd=PySem.W.fnOf x qual (dY st) (cp st) (aI st) .none kV doc pm an cdv ct/\K.lookup f=some ⟨oc,od,.func fd,osl⟩/\PySem.W.codeIn K cdv qual=true
 kp:PySem.W.keepIn K (.ref f)=true
section
variable {K:PySem.W.Frag} {mg:zzl} {base:Heap}
theorem Fun.binds{st:Stmt}{f:Addr}{fd:FuncData}{ps:List Str}(F:Fun K x qual st f fd)
  (h:∀(kV doc pm:Value) (an:Option Addr) (cdv ct:Value) (us:List Value),us.length=ps.length->bindArgs (PySem.W.fnOf x qual (dY st) (cp st) (aI st) .none kV doc pm an cdv ct) ⟨us,[]⟩=pure (ps.zip us)):Binds K fd ps []:=by
 obtain⟨oc,od,kV,doc,pm,an,cdv,ct,osl,rfl,lk,hcd⟩:=F.ex
 exact .all (h kV doc pm an cdv ct)
theorem Gk{st:Stmt}{f:Addr}{oc:Value}{od an:Option Addr}{osl:Array (Option Value)}{kV doc pm cdv ct:Value}(l:K.lookup f=some ⟨oc,od,.func (PySem.W.fnOf x qual (dY st) (cp st) (aI st) .none kV doc pm an cdv ct),osl⟩)
  (c:PySem.W.codeIn K cdv qual=true) (k:PySem.W.keepIn K (.ref f)=true):Fun K x qual st f (PySem.W.fnOf x qual (dY st) (cp st) (aI st) .none kV doc pm an cdv ct):=⟨⟨oc,od,kV,doc,pm,an,cdv,ct,osl,rfl,l,c⟩,k⟩
end
theorem vm{A B:Prop}(h:B):if false=true then A else B:=by
 rw[au pi]
 exact h
theorem tR{A B:Prop}(h:A):if true=true then A else B:=by
 rw[ar rfl]
 exact h
def Same(H H':Hp):Prop:=∀b o,H b=some o->H' b=some o
theorem Same.refl(H:Hp):Same H H:=λ_ _ h=>h
theorem Same.trans{H1 H2:Hp}(a:Same H H1)(b:Same H1 H2):Same H H2:=λc o h=>b c o (a c o h)
theorem Same.free(e:Same H H'){l:Addr}(h:H' l=Option.none):H l=Option.none:=by
 cases q:H l with
 | none=>rfl
 | some o =>
  rw[e l o q]at h
  cases h
theorem Same.seq{K:PySem.W.Frag}{xs:List V}(e:Same H H')(h:SqL K H a xs):SqL K H' a xs:=by
 rcases h with (h|⟨o,h⟩)|h
 ·exact .inl (.inl (e _ _ h))
 ·exact .inl (.inr ⟨o,e _ _ h⟩)
 ·exact .inr h
def fnB:Option NameKind->Bool
 | some .cell=>true
 | _=>false
theorem Gq{o:Option NameKind}(h:fnB o=true):o=some .cell:=by
 unfold fnB at h
 split at h
 ·rfl
 ·cases h
def bc(X:Cx)(N':List Str)(scope:Scope)(cl:List (Str×Addr))(s₂:Shared)(H₂:Hp)(fp:List Addr)(C:Addr):Cx :=
 { X with N:=N',s₀:=s₂,H₀:=H₂,env:=compEnvC scope cl C X.env,outer:=X.stack,ex:=fp,fn:=λy=>fnB (scope.names.lookup y),pn:=[],xe:=λ_ _=>False }
def lobj(ys:List Value)(k:Nat):Obj:={ cls:=.type "list",data:=.seq ys.toArray k }
section
variable {prog:Program} {R:Result->Shared->Prop} {s:Shared}
theorem iE{target:Expr}{it acc:Value}(I:Nat->Shared->Prop)
  (turn:∀n s,I n s->wpAny (model prog w) A (pyNext it) (λr s₁=>match r with
   | none=>R (.ok .next) s₁
   | some v=>wpAny (model prog w) A (letOwnedTupleGo target it v) (λ_ s₁'=>wpAny (model prog w) A (assign target env v) (λ_ s₂ =>
     wpAny (model prog w) A (forIn ifs true λc r=>if r=true then do let ok <-isTrue c env (eval c env);pure (ForInStep.yield ok)else pure (ForInStep.yield r)) (λok s₃ =>
      if ok=true then wpAny (model prog w) A (eval elt env) (λx s₄ =>
       wpAny (model prog w) A (call (.builtin "list.append") [acc,x]) (λ_ s₅=>∃m,m<n/\I m s₅) (λ_ _=>False) s₄) (λ_ _=>False) s₃
      else ∃m,m<n/\I m s₃) (λ_ _=>False) s₂) (λ_ _=>False) s₁') (λ_ _=>False) s₁) (λ_ _=>False) s)
  (n:Nat) (h:I n s) :
  codeAny (model prog w) A (.compLoop (.ListComp elt [⟨target,iter,ifs,0⟩] scope pos) 0 it acc env) R s:=by
 refine codeAny_loop rfl I (λn s hI=>?_) n h
 show wpAny _ A ((compTurn (.ListComp elt [⟨target,iter,ifs,0⟩] scope pos) 0 it acc env).onRaise (λx=>do noteFrame x env;theTreesLotGoes x)) _ _ s
 refine wpAny_noted ?_
 rw[compTurn_list]
 refine zza (wpAny_standAt (zza (Kr (turn n s hI) (λr s₁ h₁=>?_) λ_ _ h'=>h'.elim)))
 cases r with
 | none=>exact zzb h₁
 | some v =>
  refine zza (Kr h₁ (λ_ s₁' h₁'=>?_) λ_ _ h'=>h'.elim)
  refine zza (Kr h₁' (λ_ s₂ h₂=>zza (Kr h₂ (λok s₃ h₃=>?_) λ_ _ h'=>h'.elim)) λ_ _ h'=>h'.elim)
  cases ok with
  | false=>exact zzb ⟨rfl,h₃⟩
  | true =>
   exact zza (zza (Kr h₃ (λx s₄ h₄=>zza (Kr h₄ (λ_ s₅ h₅=>zzb (zzb ⟨rfl,h₅⟩)) λ_ _ h'=>h'.elim)) λ_ _ h'=>h'.elim))
end
def PTs(X:Cx)(ifs:List Expr)(t:TT):Prop :=
 ∀(pins:zzk) (s:Shared) (Z:St) (H:Hp) (Q:Bool->Hp->Prop),Inv X pins Z H s->t Z H Q ->
  wpAny (model X.prog X.w) X.A (forIn ifs true λc r=>if r=true then do let ok <-isTrue c X.env (eval c X.env);pure (ForInStep.yield ok)else pure (ForInStep.yield r)) (TP X pins Z Q) X.xe s
theorem Cm:PTs X [] (λ_ H Q=>Q true H):=λ_ _ _ H _ I h=>wpAny_tests_nil ⟨H,I,h⟩
theorem Ck{c:Expr}{t:TT}(h:PT X c t):PTs X [c] t:=λpins s Z H Q I q=>wpAny_tests_one (h pins s Z H Q I q)
theorem cR{env:Env}:∀{names:List (Str×NameKind)} {x:Str},
  (names.map λ(n,k)=>if(k==NameKind.free&&env.scope.kind==.function&&env.kindOf n==some .cell)then(n,NameKind.cell)else(n,k)).lookup x
   = (names.lookup x).map λk=>if(k==NameKind.free&&env.scope.kind==.function&&env.kindOf x==some .cell)then NameKind.cell else k
 | [],_=>rfl
 | (n,k)::r,x=>by
  have ih:=@cR env r x
  show List.lookup x ((if(k==NameKind.free&&env.scope.kind==.function&&env.kindOf n==some .cell)=true then(n,NameKind.cell)else(n,k))::_)=_
  cases hx:x==n with
  | true =>
   have e:x=n:=by simpa using hx
   subst e
   by_cases hc:(k==NameKind.free&&env.scope.kind==.function&&env.kindOf x==some .cell)=true
   ·rw[ar hc];simp only[zi,hx,Option.map_some,ar hc]
   ·rw[au hc];simp only[zi,hx,Option.map_some,au hc]
  | false =>
   by_cases hc:(k==NameKind.free&&env.scope.kind==.function&&env.kindOf n==some .cell)=true
   ·rw[ar hc];simp only[zi,hx];exact ih
   ·rw[au hc];simp only[zi,hx];exact ih
theorem jE{env:Env}:∀(names:List (Str×NameKind)) (acc:List (Str×Addr)),(∀x∈names,x.2=.free->∃c,env.cells.lookup x.1=some c) ->
  (∀x c,acc.lookup x=some c->env.cells.lookup x=some c) ->
  ∃cl,(forIn names acc λ(x:Str×NameKind) (cs:List (Str×Addr))=>(if(x.2==NameKind.free)=true then(do let c <-cellOf env x.1;pure (ForInStep.yield ((x.1,c)::cs)))else pure (ForInStep.yield cs):Sem (ForInStep (List (Str×Addr)))))=pure cl /\
   (∀x c,cl.lookup x=some c->env.cells.lookup x=some c)/\(∀x,(acc.lookup x).isSome->(cl.lookup x).isSome)/\∀x∈names,x.2=.free->(cl.lookup x.1).isSome
 | [],acc,_,ha=>⟨acc,rfl,ha,λ_ h=>h,λ_ h=>nomatch h⟩
 | (n,k)::r,acc,hn,ha=>by
  cases hk:(k==NameKind.free)with
  | true =>
   obtain⟨c,hc⟩:=hn (n,k) ak (by simpa using hk)
   have ha':∀x d,((n,c)::acc).lookup x=some d->env.cells.lookup x=some d:=λx d e=>by
    rw[zi]at e
    cases q:x==n with
    | true =>
     rw[q]at e
     have:x=n:=by simpa using q
     subst this
     exact hc.trans e
    | false=>rw[q]at e;exact ha x d e
   obtain⟨cl,e,h1,h2,h3⟩:=jE r ((n,c)::acc) (λx hx=>hn x (zzg _ hx)) ha'
   have grow:∀x,(acc.lookup x).isSome->(((n,c)::acc).lookup x).isSome:=λx hx=>by
    rw[zi]
    cases q:x==n with
    | true=>rfl
    | false=>exact hx
   refine⟨cl,?_,h1,λx hx=>h2 x (grow x hx),λx hx hf=>?_⟩
   ·rw[Ll]
    have q:cellOf env n=pure c:=by
     unfold cellOf
     rw[hc]
    simp only[hk,KF,q]
    exact e
   ·rcases List.mem_cons.mp hx with rfl|hx
    ·exact h2 _ (by simp[zi])
    ·exact h3 x hx hf
  | false =>
   obtain⟨cl,e,h1,h2,h3⟩:=jE r acc (λx hx=>hn x (zzg _ hx)) ha
   refine⟨cl,?_,h1,h2,λx hx hf=>?_⟩
   ·rw[Ll]
    simp only[hk,tu,Cn]
    exact e
   ·rcases List.mem_cons.mp hx with rfl|hx
    ·exfalso;have:k=.free:=hf;subst this;simp at hk
    ·exact h3 x hx hf
theorem oF(h:∀x∈scope.names,x.2=.free->∃c,env.cells.lookup x.1=some c) :
  ∃cl,closureFor scope env=pure cl/\(∀x c,cl.lookup x=some c->env.cells.lookup x=some c)/\∀x∈scope.names,x.2=.free->(cl.lookup x.1).isSome:=by
 obtain⟨cl,e,h1,_,h3⟩:=jE (env:=env) scope.names [] h (λx c e=>by simp at e)
 refine⟨cl,?_,h1,h3⟩
 unfold closureFor
 have q:(forIn scope.names [] λ(x:Str×NameKind) (cs:List (Str×Addr))=>(match x with|(name,kind)=>if(kind==NameKind.free)=true then(do let c <-cellOf env name;pure (ForInStep.yield ((name,c)::cs)))else pure (ForInStep.yield cs):Sem (ForInStep (List (Str×Addr)))))=pure cl:=e
 first
  | (simp only[];rw[q];rfl)
  | (show(do let cs <-_;pure cs)=_;rw[q];rfl)
  | (rw[show(forIn scope.names [] _)=pure cl from q];rfl)
theorem i3:∀(names:List (Str×NameKind)) (n:Nat) (acc:List (Str×Addr)),cellsFrom n names acc=cellsFrom n names []++acc
 | [],_,_=>rfl
 | (x,k)::r,n,acc=>by
  unfold cellsFrom
  split
  ·rw[i3 r (n+1) ((x,n)::acc),i3 r (n+1) [(x,n)],Db];rfl
  ·exact i3 r n acc
theorem lw:∀{names:List (Str×NameKind)} {n:Nat} {acc:List (Str×Addr)} {x:Str} {c:Addr},(x,c)∈cellsFrom n names acc->(x,NameKind.cell)∈names\/(x,c)∈acc
 | [],_,_,_,_,h=>.inr h
 | (y,k)::r,n,acc,x,c,h=>by
  unfold cellsFrom at h
  split at h
  ·rename_i hk
   have hk':k=.cell:=by simpa using hk
   rcases lw h with z|z
   ·exact .inl (zzg _ z)
   ·rcases List.mem_cons.mp z with e|z
    ·cases e;subst hk';exact .inl ak
    ·exact .inr z
  ·rcases lw h with z|z
   ·exact .inl (zzg _ z)
   ·exact .inr z
theorem gG{α:Type}:∀{l r:List (Str×α)} {x:Str},(l++r).lookup x=match l.lookup x with|some c=>some c|none=>r.lookup x
 | [],_,_=>rfl
 | (n,c)::l,r,x=>by
  rw[List.cons_append,zi,zi]
  cases x==n with
  | true=>rfl
  | false=>exact gG
structure CompOk(X:Cx)(N':List Str)(k:Nat)(scope:Scope):Prop where
 kind:scope.kind=.function
 len:N'.length=X.N.length+k
 cells:∀y∈scope.names,y.2=.cell->scope.names.lookup y.1=some .cell
 names:∀y∈scope.names,y.2=.local->scope.names.lookup y.1=some .local
 outer:∀(i:Nat) x,i<X.N.length->N'[i]? = some x->(scope.names.lookup x).isSome->(scope.names.lookup x=some .free\/scope.names.lookup x=some .local\/scope.names.lookup x=some .cell)->X.N[i]? = some x/\scope.names.lookup x=some .free
 free:∀y∈scope.names,y.2=.free->X.env.kindOf y.1=some .cell\/X.env.kindOf y.1=some .free
def v6(wi:TI)(k:Nat)(g:TG)(tc:TT)(te:TE):TE:=λZ H Q=>wi Z H λJ H1=>∃W:Nat->Nat->List V->St->Hp->Prop,(∃m,W 0 m [] (Z++List.replicate k none) H1) /\
 ∀i m vs σ' H',W i m vs σ' H'->vs.length<=sizeLine /\
  ((J.stop i H'/\∀p,H' p=none->Q (.ref p) (upd H' p (.lst vs))) \/
   (J.go i H'/\∀x H2,J.yld i H' x H2->g x σ' H2 λσ3 H3=>tc σ3 H3 λb H4=>if b=true then te σ3 H4 λy H5=>∃m',m'<m/\W (i+1) m' (vs++[y]) σ3 H5 else ∃m',m'<m/\W (i+1) m' vs σ3 H4))
section
variable {H2:Hp} {s2:Shared}
theorem HOk.track{h:Heap}{D:Addr}{vs:List V}{ys:List Value}{k:Nat}(x:HOk P w H h)(hn:H D=none)(hl:vs.length<=sizeLine)(r:Vals vs ys)(e:h.get? D=some (lobj ys k)) :
  HOk P w (upd H D (.lst vs)) h:=λb u q=>by
 by_cases hb:b=D
 ·subst hb
  rw[aS]at q
  cases q
  exact⟨hl,ys,k,r,e⟩
 ·rw[aK hb]at q
  exact(x b u q).stay (λ_ _ _ z=>z) (λc z=>by rw[aK (aU z hn)];exact z) λc xs z=>by rw[aK (aU z hn)];exact z
theorem yF{globals:Addr}{cl:List (Str×Addr)}{M:Model}{Q:Env->Shared->Prop}{s:Shared}
  (h:Q (newEnv scope s.heap.objs.size globals (cellsFrom (s.heap.objs.size+1) scope.names cl) qual none .none (some env) builtinsNs) { s with heap:=pushCells (s.heap.push { cls:=.type "dict",data:=.dict #[] }) scope.names }) :
  wpAny M A (newFunctionEnv scope globals cl [] qual none .none (some env)) Q E s:=by
 simp only[newFunctionEnv,Option.isSome_some,KF]
 refine zza (wpAny_alloc ?_)
 refine zza (wpAny_layCells _ (λname kind cells=>by cases hkc:kind==NameKind.cell<;>simp[hkc]) _ _ _ _ ?_)
 rw[show({ s with heap:=s.heap.push { cls:=.type "dict",data:=.dict #[] } }:Shared).heap.objs.size=s.heap.objs.size+1 from r0 ..]
 refine zza ?_
 rw[List.forIn_nil]
 exact zzb (zzb h)
theorem qw{k:Nat}{cl:List (Str×Addr)}{J:It}{fp:List Addr}{it:Addr}{tn:Nat->Heap->Prop}
  {RR:Value->Addr->Result->Shared->Prop} {Q:VK}
  (hc:X.calm=true) (S:CompOk X N' k scope) (hcl:∀x c,cl.lookup x=some c->X.env.cells.lookup x=some c) (hcf:∀x∈scope.names,x.2=.free->(cl.lookup x.1).isSome)
  (I:Inv X pins Z H2 s2) (T:Turn X.prog X.w X.K tg J fp it tn) (st:tn 0 s2.heap) (ff:∀b∈fp,g6 X pins H2 b)
  (hg:∀cl C,PG (bc X N' scope cl s2 H2 fp C) tg g) (ht:∀cl C,PTs (bc X N' scope cl s2 H2 fp C) ifs tc) (he:∀cl C,PE (bc X N' scope cl s2 H2 fp C) elt te)
  (rd:∃W:Nat->Nat->List V->St->Hp->Prop,(∃m,W 0 m [] (Z++List.replicate k none) H2) /\
   ∀i m vs σ' H',W i m vs σ' H'->vs.length<=sizeLine /\
    ((J.stop i H'/\∀p,H' p=none->Q (.ref p) (upd H' p (.lst vs))) \/
     (J.go i H'/\∀x H2,J.yld i H' x H2->g x σ' H2 λσ3 H3=>tc σ3 H3 λb H4=>if b=true then te σ3 H4 λy H5=>∃m',m'<m/\W (i+1) m' (vs++[y]) σ3 H5 else ∃m',m'<m/\W (i+1) m' vs σ3 H4)))
  (hRR:∀D C s' H',Inv X pins Z H' s'->(∃m,s'.heap.Ns C m)->g6 X pins H' C->Q (.ref D) H'->RR (.ref D) C (.ok .next) s') :
  wpAny (model X.prog X.w) X.A (newList []) (λacc s₃=>wpAny (model X.prog X.w) X.A (newFunctionEnv scope X.env.globals cl [] X.env.qual none .none (some X.env)) (λcenv s₄ =>
   codeAny (model X.prog X.w) X.A (.compStart (.ListComp elt [⟨tg,iter,ifs,0⟩] scope pos) 0 (.ref it) acc { cenv with scope:=relabel scope X.env }) (RR acc cenv.locals) s₄) E s₃) E s2:=by
 obtain⟨W,⟨m0,w0⟩,turn⟩:=rd
 refine sd (yF ?_)
 dsimp only
 generalize hH2:s2.heap.push { cls:=.type "list",dict:=none,data:=.seq ([]:List Value).toArray }=G2
 have hCs:G2.objs.size=s2.heap.objs.size+1:=by rw[<-hH2,r0]
 have hDC:s2.heap.objs.size≠G2.objs.size:=by rw[hCs];exact bi (Ku _)
 have hCle:s2.heap.objs.size<=G2.objs.size:=by rw[hCs];exact Nat.le_succ _
 have hok0:=cellsFrom_ok scope.names (G2.push { cls:=.type "dict",data:=.dict #[] }) (G2.objs.size+1) [] ⟨λ_ _ hm=>(nomatch hm),List.Pairwise.nil⟩ (by rw[r0];exact ai _)
 rw[r0]at hok0
 have hns₁:(pushCells (G2.push { cls:=.type "dict",data:=.dict #[] }) scope.names).Ns G2.objs.size (λ_=>none):=(Heap.Ns.new G2 (.type "dict")).keeps (pushCells_keeps _ _)
 have old:∀b o,s2.heap.get? b=some o->(pushCells (G2.push { cls:=.type "dict",data:=.dict #[] }) scope.names).get? b=some o:=λb o e=>pushCells_keeps _ _ b o (zzc _ (hH2▸zzc _ e))
 have hacc:(pushCells (G2.push { cls:=.type "dict",data:=.dict #[] }) scope.names).get? s2.heap.objs.size=some (lobj [] 0):=pushCells_keeps _ _ _ _ (zzc _ (hH2▸zze _ rfl))
 rw[i3 scope.names (G2.objs.size+1) cl]
 generalize pushCells (G2.push { cls:=.type "dict",data:=.dict #[] }) scope.names=h₁ at *
 have own:∀x c,(x,c)∈cellsFrom (G2.objs.size+1) scope.names []->(x,NameKind.cell)∈scope.names:=λx c h=>(lw h).elim id λz=>nomatch z
 have ownHas:∀x,scope.names.lookup x=some .cell->∃c,(cellsFrom (G2.objs.size+1) scope.names []).lookup x=some c:=λx h=>oG h
 generalize cellsFrom (G2.objs.size+1) scope.names []=oc at *
 generalize hDe:s2.heap.objs.size=D at *
 generalize hCe:G2.objs.size=C at *
 have fpD:g6 X pins H2 D:=I.fpOk (by rw[hDe];exact ai _) (I.hok.fresh (by rw[hDe];exact ai _))
 have fpC:∀H',H' C=none->g6 X pins H' C:=λH' hn=>I.fpOk (by rw[hDe];exact hCle) hn
 have hfpD:∀b∈fp,b<D:=λb hb=>by
  obtain⟨o,e,_⟩:=T.obj _ _ st b hb
  rw[<-hDe];exact am e
 have nofr:∀b,D<=b->b∉frs X.stack:=λb hb hm=>by
  rcases List.mem_cons.mp (I.stkSub b hm)with e|hm
  ·have:=I.lt;rw[hDe]at this;rw[e]at hb;exact absurd (bo this hb) (ug _)
  ·exact I.nofs (by rw[hDe];exact hb) hm
 let X':=bc X N' scope (oc++cl) s2 H2 fp C
 have cellLt:∀x c,cl.lookup x=some c->c<D:=λx c e=>by
  obtain⟨v,z⟩:=I.cell x c (hcl x c e)
  rw[<-hDe];exact z.lt
 have hCD:D<=C:=hCle
 have cell2:∀x c,(oc++cl).lookup x=some c->((x,c)∈oc/\D<c/\h₁.IsCell c none)\/(oc.lookup x=none/\cl.lookup x=some c):=λx c e=>by
  rw[gG]at e
  cases q:oc.lookup x with
  | some c' =>
   rw[q]at e;cases e
   have hm:=u8 q
   obtain⟨z1,z2⟩:=hok0.empty x _ hm
   exact .inl ⟨hm,oz hCD z2,z1⟩
  | none=>rw[q]at e;exact .inr ⟨rfl,e⟩
 have ok':X'.Ok:=by
  refine⟨I.ok.mod,S.kind,I.ok.glob,I.ok.blt,?_,λx y c e1 e2=>?_,λx hx=>?_,λx c hf e=>?_,I.ok.hd,I.ok.frames,.inl rfl,λb hb=>⟨?_,λx c e z=>?_⟩,I.bs,?_,λb o e hb=>?_,λb hb hm=>?_,I.stack,I.stkFree⟩
  ·show s2.heap.objs.size<=C
   rw[hDe];exact hCle
  ·rcases cell2 x c e1 with ⟨m1,l1,_⟩|⟨_,e1⟩<;>rcases cell2 y c e2 with ⟨m2,l2,_⟩|⟨_,e2⟩
   ·exact name_of_addr hok0.apart m1 m2
   ·exact absurd (K5 l1 (cellLt _ _ e2)) (ug _)
   ·exact absurd (K5 l2 (cellLt _ _ e1)) (ug _)
   ·exact I.ok.inj x y c (hcl _ _ e1) (hcl _ _ e2)
  ·have hx':(relabel scope X.env).names.lookup x=some .cell\/(relabel scope X.env).names.lookup x=some .free:=hx
   have e:=cR (env:=X.env) (names:=scope.names) (x:=x)
   have e':(relabel scope X.env).names.lookup x=(scope.names.lookup x).map λk=>if(k==NameKind.free&&X.env.scope.kind==.function&&X.env.kindOf x==some .cell)then NameKind.cell else k:=e
   rw[e']at hx'
   cases q:scope.names.lookup x with
   | none=>rw[q]at hx';rcases hx' with z|z<;>cases z
   | some kd =>
    have hmem:=u8 q
    rw[q]at hx'
    have hkd:kd=.free\/kd=.cell:=by
     by_cases hz:kd=.free
     ·exact .inl hz
     ·have hb:(kd==NameKind.free)=false:=by simpa using hz
      simp only[hb,Kv,tu,Cn,Option.map_some]at hx'
      rcases hx' with z|z
      ·exact .inr (Option.some.inj z)
      ·exact absurd (Option.some.inj z) hz
    show ∃c,(oc++cl).lookup x=some c
    rw[gG]
    cases qo:oc.lookup x with
    | some c=>exact⟨c,rfl⟩
    | none =>
     rcases hkd with hkd|hkd
     ·exact Option.isSome_iff_exists.mp (hcf _ hmem hkd)
     ·subst hkd
      obtain⟨c,e⟩:=ownHas x q
      rw[qo]at e;cases e
  ·have hq:scope.names.lookup x=some .cell:=Gq hf
   obtain⟨c',ec⟩:=ownHas x hq
   rcases cell2 x c e with ⟨_,l,_⟩|⟨z,_⟩
   ·show s2.heap.objs.size<=c
    rw[hDe];exact Kw l
   ·rw[z]at ec;cases ec
  ·exact bi (bo (hfpD b hb) hCle)
  ·rcases cell2 x c e with ⟨_,l,_⟩|⟨_,e⟩
   ·exact li (K5 (hfpD b hb) l) z
   ·exact(ff b hb).2.2.2.2.1 x c (hcl x c e) z
  ·exact ce I.ok.bsz I.sz
  ·obtain⟨_,_,_,hx,_⟩:=ff b hb
   rcases hx with hx|hx
   ·exact I.ok.noex b o e hx
   ·exact absurd (bo (am (I.ok.bs b o e).1) hx) (ug _)
  ·obtain⟨_,hl,hfs,_⟩:=ff b hb
   rcases List.mem_cons.mp (I.stkSub b hm)with e|hm
   ·exact hl e
   ·exact hfs hm
 have lenσ:(Z++List.replicate k none).length=N'.length:=by rw[zzf,List.length_replicate,I.len,S.len]
 have I0:Inv X' [(D,lobj [] 0)] (Z++List.replicate k none) H2 { s2 with heap:=h₁ }:=by
  refine⟨ok',rfl,I.bare,Un.kept old,⟨_,hns₁,λi x v e1 e2 e3=>?_⟩,λx c e=>?_,I.hok.fresh (by rw[hDe];exact hCle),λx c e=>?_,λp hp=>?_,I.hok.kept old,lenσ⟩
  ·have hi:i<Z.length:=by
    by_cases hi:i<Z.length
    ·exact hi
    ·rw[re (Nat.not_lt.mp hi),LS]at e2
     split at e2<;>cases e2
   rw[di hi]at e2
   have e':(relabel scope X.env).names.lookup x=(scope.names.lookup x).map λk=>if(k==NameKind.free&&X.env.scope.kind==.function&&X.env.kindOf x==some .cell)then NameKind.cell else k:=cR (env:=X.env) (names:=scope.names) (x:=x)
   have hsome:∃kd,scope.names.lookup x=some kd/\(kd=.free\/kd=.local\/kd=.cell):=by
    have e3':(relabel scope X.env).names.lookup x=some .local\/(relabel scope X.env).names.lookup x=some .cell\/(relabel scope X.env).names.lookup x=some .free:=e3
    rw[e']at e3'
    cases q:scope.names.lookup x with
    | none=>rw[q]at e3';rcases e3' with z|z|z<;>cases z
    | some kd =>
     refine⟨kd,rfl,?_⟩
     rw[q]at e3'
     by_cases hz:kd=.free
     ·exact .inl hz
     ·have hb:(kd==NameKind.free)=false:=by simpa using hz
      simp only[hb,Kv,tu,Cn,Option.map_some,Option.some.injEq]at e3'
      rcases e3' with z|z|z
      ·exact .inr (.inl z)
      ·exact .inr (.inr z)
      ·exact .inl z
   obtain⟨kd,hk1,hk2⟩:=hsome
   obtain⟨hN,hfree⟩:=S.outer i x (by rw[<-I.len];exact hi) e1 (by rw[hk1];rfl) (by rcases hk2 with z|z|z<;>subst z<;>simp[hk1])
   have hmem:=u8 hfree
   have hko:=S.free _ hmem rfl
   have hkx:X.env.kindOf x=some .cell\/X.env.kindOf x=some .free:=hko
   obtain⟨m,hn,hl⟩:=I.loc
   obtain⟨u,r,lk⟩:=hl i x v hN e2 (by rcases hkx with z|z;exact .inr (.inl z);exact .inr (.inr z))
   refine⟨u,r,.inr ⟨?_,?_⟩⟩
   ·show(relabel scope X.env).names.lookup x=some .cell\/(relabel scope X.env).names.lookup x=some .free
    rw[e',hfree,Option.map_some]
    split
    ·exact .inl rfl
    ·exact .inr rfl
   ·rcases lk with ⟨kl,_⟩|⟨_,c,ec,hcell⟩
    ·rcases hkx with z|z<;>(rw[z]at kl;cases kl)
    ·obtain⟨c',ec'⟩:=Option.isSome_iff_exists.mp (hcf _ hmem rfl)
     have q:=hcl _ _ ec'
     rw[ec]at q
     cases q
     have hno:oc.lookup x=none:=by
      cases qo:oc.lookup x with
      | none=>rfl
      | some c2 =>
       have:=S.cells _ (own _ _ (u8 qo)) rfl
       rw[hfree]at this;cases this
     exact⟨c,by show(oc++cl).lookup x=some c;rw[gG,hno];exact ec',hcell.keeps old⟩
  ·rcases cell2 x c e with ⟨_,_,z⟩|⟨_,e⟩
   ·exact⟨_,z⟩
   ·obtain⟨v,z⟩:=I.cell x c (hcl x c e)
    exact⟨v,z.keeps old⟩
  ·rcases cell2 x c e with ⟨_,l,_⟩|⟨_,e⟩
   ·exact I.hok.fresh (by rw[hDe];exact Kw l)
   ·exact I.freeC x c (hcl x c e)
  ·have hp':p∈([]:zzk)++[(D,lobj [] 0)]:=hp
   have ep:p=(D,lobj [] 0):=by simpa using hp'
   subst ep
   exact⟨hacc,fpD.1,hDC,nofr D (ai _),λv z=>nomatch z⟩
 have stat:∀{H':Hp} {o:Obj},(∀b∈fp,H' b=none)->∀b∈fp,g6 X' [(D,o)] H' b:=λ{H' o} hn b hb=>by
  refine⟨hn b hb,bi (bo (hfpD b hb) hCle),ok'.exfs b hb,.inl hb,λx c e z=>?_,λp hp=>?_⟩
  ·rcases cell2 x c e with ⟨_,l,_⟩|⟨_,e⟩
   ·exact li (K5 (hfpD b hb) l) z
   ·exact(ff b hb).2.2.2.2.1 x c (hcl x c e) z
  have hp':p∈([]:zzk)++[(D,o)]:=hp
  have ep:p=(D,o):=by simpa using hp'
  subst ep
  exact li (hfpD b hb)
 have loop:∀s₃:Shared,s₃={ s2 with heap:=h₁ } ->
   codeAny (model X.prog X.w) X.A (.compLoop (.ListComp elt [⟨tg,iter,ifs,0⟩] scope pos) 0 (.ref it) (.ref D) (compEnvC scope (oc++cl) C X.env)) (RR (.ref D) C) s₃:=by
  rintro s₃ rfl
  refine iE (λn s'=>∃i vs ys kk σ' H',Inv X' [(D,lobj ys kk)] σ' H' s'/\tn i s'.heap/\(∀b∈fp,H' b=none)/\Vals vs ys/\W i n vs σ' H') ?_ m0
   ⟨0,[],[],0,_,H2,I0,T.keep _ _ _ st λb _ o e=>old b o e,λb hb=>(ff b hb).1,.nil,w0⟩
  rintro n s3 ⟨i,vs,ys,kk,σ3,H3,I3,st3,fr3,rv,w3⟩
  obtain⟨hvl,hcase⟩:=turn i n vs σ3 H3 w3
  have pinD:∀{o:Obj} {σ' H' s'},Inv X' [(D,o)] σ' H' s'->s'.heap.get? D=some o/\H' D=none:=λJ=>⟨(J.pin _ (ls _ ak)).1,(J.pin _ (ls _ ak)).2.1⟩
  rcases hcase with ⟨stop,qn⟩|⟨go,step⟩
  ·refine thn (T.done X' rfl rfl rfl hc i _ s3 σ3 H3 (λ_ _=>False) I3 (stat fr3) st3 stop) λr s4 ⟨hr,I4⟩=>?_
   subst hr
   obtain⟨gD,nD⟩:=pinD I4
   obtain⟨m',hm',_⟩:=I4.loc
   have hC4:H3 C=none:=I4.free
   have u0:Un (frs X.stack) fp H2 H3 s2.heap s4.heap:=I4.base
   have neD:∀b o,s2.heap.get? b=some o->b≠D:=λb o e=>by rw[<-hDe];exact bi (am e)
   have u1:Un (frs X.stack) fp H2 (upd H3 D (.lst vs)) s2.heap s4.heap :=
    ⟨u0.keep,u0.slot,λb o e n hx=>by rw[aK (neD b o e)];exact u0.free b o e n hx,u0.there,
     λb xs e=>by have q:=u0.tups b xs e;rw[aK (aU q nD)];exact q,
     λb o u e=>by have q:=u0.frzs b o u e;rw[aK (aU q nD)];exact q,
     λb ps e=>by obtain⟨more,q⟩:=u0.tbls b ps e;exact⟨more,by rw[aK (aU q nD)];exact q⟩⟩
   have I5:Inv X pins Z (upd H3 D (.lst vs)) s4:=I.call' I4.os u1 (I4.hok.track nD hvl rv gD) I4.bare λb hb=>⟨(ff b hb).2.2.2.1,(ff b hb).2.1,(ff b hb).2.2.2.2.1,(ff b hb).2.2.2.2.2⟩
   exact hRR D C s4 _ I5 ⟨m',hm'⟩ (fpC _ (by rw[aK (Ne.symm hDC)];exact hC4)) (qn D nD)
  ·refine thn (T.item X' rfl rfl rfl hc i _ s3 σ3 H3 (λ_ _=>False) I3 (stat fr3) st3 go) λr s4 ⟨u,hr,h4⟩=>?_
   subst hr
   refine thn h4 λ_ s5 ⟨x,H5,I5,r5,y5,st5,fr5⟩=>?_
   have I5':=I5.pinned (stat fr5) (T.obj _ _ st5)
   refine thn (hg _ C _ s5 σ3 H5 x u _ I5' r5 (step x H5 y5)) λ_ s6 ⟨σ6,H6,I6,q6⟩=>?_
   refine thn (ht _ C _ s6 σ6 H6 _ I6 q6) λok s7 ⟨H7,I7,q7⟩=>?_
   have unpin:∀{σ' H' s'},Inv X' ([(D,lobj ys kk)]++nz fp s5.heap) σ' H' s'->Inv X' [(D,lobj ys kk)] σ' H' s'/\tn (i+1) s'.heap/\∀b∈fp,H' b=none:=λ{σ' H' s'} J =>
    ⟨J.unpinned,T.keep _ _ _ st5 λb hb o e=>(J.pin (b,o) (ls _ (ls _ (gF hb e)))).1,λb hb=>by
     obtain⟨o,e,d⟩:=T.obj _ _ st5 b hb
     exact(J.pin (b,o) (ls _ (ls _ (gF hb e)))).2.1⟩
   cases ok with
   | false =>
    rw[au pi]
    rw[au pi]at q7
    obtain⟨m',hm',w7⟩:=q7
    obtain⟨J1,J2,J3⟩:=unpin I7
    exact⟨m',hm',i+1,vs,ys,kk,σ6,H7,J1,J2,J3,rv,w7⟩
   | true =>
    rw[ar rfl]
    rw[ar rfl]at q7
    refine thn (he _ C _ s7 σ6 H7 _ I7 q7) λuy s8 ⟨y,H8,I8,r8,m',hm',w8⟩=>?_
    obtain⟨J1,J2,J3⟩:=unpin I8
    obtain⟨gD,nD⟩:=pinD J1
    refine append_at (hsz:=by show ys.toArray.size<=sizeLine;rw[ay,<-rv.length];exact hvl) gD λh9 hs9 hD9=>?_
    have J1':Inv X' [] σ6 H8 s8:=J1.pins_of λp hp=>nomatch hp
    have J9:Inv X' [] σ6 H8 { s8 with heap:=h9 }:=J1'.turned (t':=s8.toks) (it:=D) (λb o hb e=>hs9.extBut b o hb e) nD hDC (.inr (by show s2.heap.objs.size<=D;rw[hDe];exact ai _)) (λx c e=>(cell2 x c e).elim (λz=>li z.2.1) λz=>bi (cellLt x c z.2)) λp hp=>nomatch hp
    have eo:({ cls:=.type "list",data:=.seq (ys.toArray.push uy) (kk+1) }:Obj)=lobj (ys++[uy]) (kk+1):=by
     unfold lobj
     rw[List.push_toArray]
    refine⟨m',hm',i+1,vs++[y],ys++[uy],kk+1,σ6,H8,J9.pins_of λp hp=>?_,T.keep _ _ _ J2 λb hb o e=>hs9.extBut b o (bi (hfpD b hb)) e,J3,rv.append (.cons r8 .nil),w8⟩
    have ep:p=(D,lobj (ys++[uy]) (kk+1)):=by simpa using hp
    subst ep
    exact⟨by show h9.get? D=_;rw[hD9,eo],nD,hDC,nofr D (ai _),λv z=>nomatch z⟩
 exact codeAny_compStart_list (loop _ rfl) (T.self _ 0 _ _ _ (T.keep _ _ _ st λb _ o e=>old b o e) (loop _ rfl))
end
section
theorem wo{k:Nat}{wi:TI}
  (hc:X.calm=true) (S:CompOk X N' k scope) (hcells:∀x∈scope.names,x.2=.free->∃c,X.env.cells.lookup x.1=some c) (hi:PI X tg iter wi)
  (hg:∀cl s H fp C,PG (bc X N' scope cl s H fp C) tg g) (ht:∀cl s H fp C,PTs (bc X N' scope cl s H fp C) ifs tc) (he:∀cl s H fp C,PE (bc X N' scope cl s H fp C) elt te)
  (hs:∀x,foldedSetIterable iter X.env x=pure x:=by intro _;rfl) :
  PE X (.ListComp elt [⟨tg,iter,ifs,0⟩] scope pos) (v6 wi k g tc te):=by
 intro pins s Z H Q I h
 obtain⟨cl,hclos,h1,h2⟩:=oF (env:=X.env) (scope:=scope) hcells
 rw[eval_ListComp]
 refine wpAny_comprehension_free (use:=none) rfl hs hclos S.kind S.names (thn (hi pins s Z H _ I h) λxv s1 h1'=>thn h1' λitv s2 h2'=>?_)
 obtain⟨it,fp,tn,J,H2,e,I2,T,st2,f2,rd⟩:=h2'
 subst e
 refine qw hc S h1 h2 I2 T st2 f2 (λcl C=>hg cl _ _ _ C) (λcl C=>ht cl _ _ _ C) (λcl C=>he cl _ _ _ C) rd λD C s' H' I' ⟨m,hm⟩ fC q=>?_
 refine⟨m,hm,λh' hs'=>⟨.ref D,H',?_,rfl,q⟩⟩
 exact I'.turned (t':=s'.toks) (it:=C) (λb o hb e=>hs'.extBut b o hb e) fC.1 fC.2.1 fC.2.2.2.1 fC.2.2.2.2.1 fC.2.2.2.2.2
theorem uU{pos' spos:Pos}{k i:Nat}{y:Str}{wi:TI}
  (hN:X.N.Nodup) (hy:X.N[i]? = some y) (hly:Loc X.env.scope y) (hfn:X.fn y=true\/X.env.scope.names.lookup y=some .local)
  (hc:X.calm=true) (S:CompOk X N' k scope) (hcells:∀x∈scope.names,x.2=.free->∃c,X.env.cells.lookup x.1=some c) (hi:PI X tg iter wi)
  (hg:∀cl s H fp C,PG (bc X N' scope cl s H fp C) tg g) (ht:∀cl s H fp C,PTs (bc X N' scope cl s H fp C) ifs tc) (he:∀cl s H fp C,PE (bc X N' scope cl s H fp C) elt te)
  (hsw:swapsWith (.ListComp elt [⟨tg,iter,ifs,0⟩] scope pos) (some (.Name y pos')) spos.line X.env=pure true)
  (hs:∀x,foldedSetIterable iter X.env x=pure x:=by intro _;rfl) :
  PS X (.Assign [.Name y pos'] (.ListComp elt [⟨tg,iter,ifs,0⟩] scope pos) spos) (E4 (v6 wi k g tc te) (tV i)):=by
 intro pins s Z H D₀ I h
 obtain⟨cl,hclos,h1,h2⟩:=oF (env:=X.env) (scope:=scope) hcells
 rw[exec_Assign_Name_used _ _ _ _ hsw]
 refine zza (wpAny_standAt (zza ?_))
 show wpAny _ X.A (do let _ <-comprehension (.ListComp elt [⟨tg,iter,ifs,0⟩] scope pos) scope X.env _ (newList []) false (eval iter X.env) (some (assign (.Name y pos') X.env))) _ _ s
 refine zza (Kr (wpAny_comprehension_free (use:=some (assign (.Name y pos') X.env)) (Q:=λ_ s'=>SP X pins D₀ .next s') rfl hs hclos S.kind S.names
  (thn (hi pins s Z H _ I h) λxv s1 h1'=>thn h1' λitv s2 h2'=>?_)) (λ_ s' hq=>zzb (zzb hq)) λ_ _ e=>e)
 obtain⟨it,fp,tn,J,H2,e,I2,T,st2,f2,rd⟩:=h2'
 subst e
 refine qw (Q:=λx H1=>tV i x Z H1 D₀.nx) hc S h1 h2 I2 T st2 f2 (λcl C=>hg cl _ _ _ C) (λcl C=>ht cl _ _ _ C) (λcl C=>he cl _ _ _ C) rd λD C s' H' I' ⟨m,hm⟩ fC q=>?_
 show wpAny _ X.A (assign (.Name y pos') X.env (.ref D)) _ _ _
 refine wpAny_assign_Name (pT I' hN hy hly (show RelV (.ref D) (.ref D)from rfl) (λs'' I'' ⟨a,hsb,ha⟩=>?_) hfn)
 have hCa:C≠a:=by
  rcases ha with rfl|ha
  ·exact fC.2.1
  ·exact λz=>fC.2.2.2.2.1 y a ha z.symm
 refine⟨m,hm.sameBut hsb hCa,λh' hs'=>⟨_,H',?_,q⟩⟩
 exact I''.turned (t':=s''.toks) (it:=C) (λb o hb e=>hs'.extBut b o hb e) fC.1 fC.2.1 fC.2.2.2.1 fC.2.2.2.2.1 fC.2.2.2.2.2
end
section
variable {κ:Type} [DecidableEq κ]
def eX(kvs:List (κ×V))(k:κ):Option V:=(kvs.find? λkv=>decide (kv.1=k)).map (·.2)
def putK(kvs:List (κ×V))(k:κ)(v:V):List (κ×V) :=
 if(kvs.any λkv=>decide (kv.1=k))=true then kvs.map (λkv=>if kv.1=k then(kv.1,v)else kv)else kvs++[(k,v)]
theorem mQ{p:κ×V}{r:List (κ×V)}{k:κ}(e:p.1=k):eX (p::r) k=some p.2:=by simp[eX,ue,e]
theorem mR{p:κ×V}{r:List (κ×V)}{k:κ}(e:¬ p.1=k):eX (p::r) k=eX r k:=by simp[eX,ue,e]
theorem mS(k:κ):∀kvs:List (κ×V),(kvs.any λkv=>decide (kv.1=k))=(eX kvs k).isSome
 | []=>rfl
 | p::r=>by
  rw[LP]
  by_cases e:p.1=k
  ·simp only[mQ e,ef e,Bool.true_or,Option.isSome_some]
  ·rw[mR e,bu e,Bool.false_or];exact mS k r
theorem dw(kvs:List (κ×V))(k:κ)(v:V):(putK kvs k v).length<=kvs.length+1:=by
 unfold putK
 split
 ·rw[zzd];lia
 ·rw[zzf,eh,fi];lia
theorem RelO.isSome_eq{u:Option Value}(r:RelO o u):o.isSome=u.isSome:=by
 cases o with
 | none=>cases u with
  | none=>rfl
  | some _=>exact(show False from r).elim
 | some _=>cases u with
  | none=>exact(show False from r).elim
  | some _=>rfl
theorem RelO.getD{u:Option Value}{d:V}{d':Value}(r:RelO o u)(rd:RelV d d'):RelV (o.getD d) (u.getD d'):=by
 cases o with
 | none=>cases u with
  | none=>exact rd
  | some _=>exact(show False from r).elim
 | some _=>cases u with
  | none=>exact(show False from r).elim
  | some _=>exact r
theorem KV.val{kvs:List (κ×V)}{vs:List (κ×Value)}(r:KV kvs vs)(k:κ):RelO (eX kvs k) (valueAt vs k):=by
 unfold KV at r
 induction r with
 | nil=>exact True.intro
 | @cons p q ps qs h t ih =>
  obtain⟨h1,h2⟩:=h
  by_cases e:p.1=k
  ·have e':q.1=k:=h1.symm.trans e
   have b:valueAt (q::qs) k=some q.2:=by simp[valueAt,ue,e']
   rw[mQ e,b];exact h2
  ·have e':¬ q.1=k:=λz=>e (h1.trans z)
   have b:valueAt (q::qs) k=valueAt qs k:=by simp[valueAt,ue,e']
   rw[mR e,b];exact ih
theorem KV.any{kvs:List (κ×V)}{vs:List (κ×Value)}(r:KV kvs vs)(k:κ):(kvs.any λkv=>decide (kv.1=k))=vs.any λkv=>decide (kv.1=k):=by
 unfold KV at r
 induction r with
 | nil=>rfl
 | cons h t ih=>rw[LP,LP,ih,h.1]
theorem KV.repl{kvs:List (κ×V)}{vs:List (κ×Value)}(r:KV kvs vs)(k:κ)(ry:RelV y u) :
  KV (kvs.map λkv=>if kv.1=k then(kv.1,y)else kv) (vs.map λkv=>if kv.1=k then(kv.1,u)else kv):=by
 unfold KV at r ⊢
 induction r with
 | nil=>exact .nil
 | @cons p q ps qs h t ih =>
  rw[ax,ax]
  refine .cons ?_ ih
  obtain⟨h1,h2⟩:=h
  by_cases e:p.1=k
  ·rw[ar e,ar (h1.symm.trans e)];exact⟨h1,ry⟩
  ·rw[au e,au (λz=>e (h1.trans z))];exact⟨h1,h2⟩
theorem KV.put{kvs:List (κ×V)}{vs:List (κ×Value)}(r:KV kvs vs)(k:κ)(ry:RelV y u):KV (putK kvs k y) (stored vs k u):=by
 unfold putK stored
 rw[r.any k]
 by_cases e:(vs.any λkv=>decide (kv.1=k))=true
 ·rw[ar e,ar e];exact r.repl k ry
 ·rw[au e,au e];exact Paired.snoc r ⟨rfl,ry⟩
theorem KV.length{kvs:List (κ×V)}{vs:List (κ×Value)}(r:KV kvs vs):kvs.length=vs.length:=Paired.length r
end
theorem fg{k:Key}(r:RelV (kV k) u):(aO P w).is k u=true:=by
 cases k with
 | inl i=>obtain⟨t,e⟩:=(show ∃t,u=Value.int i t from r);subst e;exact tm P w i t
 | inr x=>obtain⟨t,e⟩:=(show ∃t,u=Value.str x t from r);subst e;exact tj P w x t
theorem qg{P:Program}{w:World}:∀{ks:List Key} {us:List Value},Vals (ks.map kV) us->ItemsAre (aO P w) ks us
 | [],_,r=>by rw[Ch]at r;cases r;exact .nil
 | k::ks,_,r=>by
  rw[ax]at r
  cases r with
  | cons h t=>exact .cons (fg h) (qg t)
abbrev KT(H:Hp):List (List Key×V)->List (List Key×Addr×Value)->Prop:=Paired λp q=>p.1=q.1/\H q.2.1=some (.tup (p.1.map kV))/\RelV p.2 q.2.2
theorem KT.val(r:KT H kvs xs)(k:List Key):RelO (eX kvs k) ((atKey xs k).map (·.2)):=by
 induction r with
 | nil=>exact True.intro
 | @cons p q ps qs h t ih =>
  obtain⟨h1,_,h2⟩:=h
  by_cases e:p.1=k
  ·have e':q.1=k:=h1.symm.trans e
   have b:atKey (q::qs) k=some q.2:=by simp[atKey,ue,e']
   rw[mQ e,b];exact h2
  ·have e':¬ q.1=k:=λz=>e (h1.trans z)
   have b:atKey (q::qs) k=atKey qs k:=by simp[atKey,ue,e']
   rw[mR e,b];exact ih
theorem KT.repl(r:KT H kvs xs)(k:List Key)(ry:RelV y u) :
  KT H (kvs.map λkv=>if kv.1=k then(kv.1,y)else kv) (xs.map (putAt k u)):=by
 induction r with
 | nil=>exact .nil
 | @cons p q ps qs h t ih =>
  rw[ax,ax]
  refine .cons ?_ ih
  obtain⟨h1,h2,h3⟩:=h
  unfold putAt
  by_cases e:p.1=k
  ·rw[ar e,ar (h1.symm.trans e)];exact⟨h1,h2,ry⟩
  ·rw[au e,au (λz=>e (h1.trans z))];exact⟨h1,h2,h3⟩
theorem KT.put(r:KT H kvs xs)(k:List Key)(hb:H b=some (.tup (k.map kV)))(ry:RelV y u) :
  KT H (putK kvs k y) (storedH xs k b u):=by
 have e:(kvs.any λkv=>decide (kv.1=k))=(atKey xs k).isSome:=by
  rw[mS,(r.val k).isSome_eq,Option.isSome_map]
 unfold putK storedH
 rw[e]
 by_cases q:(atKey xs k).isSome=true
 ·rw[ar q,ar q];exact r.repl k ry
 ·rw[au q,au q];exact Paired.snoc r ⟨rfl,hb,ry⟩
theorem KT.keeps(r:KT H kvs xs)(ht:∀b ys,H b=some (.tup ys)->H' b=some (.tup ys)):KT H' kvs xs :=
 Paired.mapP r λ_ _ z=>⟨z.1,ht _ _ z.2.1,z.2.2⟩
section
variable {h:Heap}
theorem D8{u:HO}(ok:HOk P w H h)(e:Rd H a u):ObjOk P w H h a u:=e.ok ok
theorem lK{kvs:List (Key×V)}(ok:HOk P w H h)(e:Rd H a (.dK kvs)):kvs.length<=sizeLine/\(a==sysModules)=false/\∃vs,KV kvs vs/\h.DictOf (aO P w) a vs :=
 show ObjOk P w H h a (.dK kvs)from D8 ok e
theorem qq{kvs:List (Key×V)}(ok:HOk P w H h)(e:H a=some (.dK kvs)):kvs.length<=sizeLine/\(a==sysModules)=false/\∃vs,KV kvs vs/\h.DictOf (aO P w) a vs:=lK ok (.inl e)
theorem fJ{ks:List Key}(ok:HOk P w H h)(e:H a=some (.tup (ks.map kV))):(tupleKind (aO P w)).is h ks a:=by
 obtain⟨_,its,r,⟨o,h1,h2,n,h3⟩,_⟩:=(show ObjOk P w H h a (.tup (ks.map kV))from ok a _ e)
 exact⟨o,its.toArray,n,h1,h2,h3,by simpa using qg r⟩
theorem oq(ok:HOk P w H h)(e:Rd H a (.dT kvs)):kvs.length<=sizeLine/\(a==sysModules)=false /\
  ∃xs,KT H kvs xs/\h.DictOfH (tupleKind (aO P w)) a xs:=by
 obtain⟨z,y,xs,r,o,es,ep,h1,h2,h3,h4,h5⟩:=(show ObjOk P w H h a (.dT kvs)from D8 ok e)
 refine⟨z,y,xs,r,o,es,ep,h1,h2,h3,h4,λx hx=>?_,h5⟩
 have all:∀{l:List (List Key×V)} {m:List (List Key×Addr×Value)},KT H l m->∀x∈m,(tupleKind (aO P w)).is h x.1 x.2.1:=by
  intro l m q
  induction q with
  | nil=>intro x hx;exact nomatch hx
  | @cons p q ps qs hq t ih =>
   intro x hx
   rcases List.mem_cons.mp hx with e|hx
   ·subst e
    exact fJ ok (by rw[<-hq.1];exact hq.2.1)
   ·exact ih x hx
 exact all r x hx
theorem t9(ok:HOk P w H h)(e:H a=some (.dT kvs)):kvs.length<=sizeLine/\(a==sysModules)=false /\
  ∃xs,KT H kvs xs/\h.DictOfH (tupleKind (aO P w)) a xs:=oq ok (.inl e)
end
def DGet(H:Hp)(a:Addr)(y:V)(r:Option V):Prop :=
 (∃kvs k,Rd H a (.dK kvs)/\y=kV k/\r=eX kvs k)\/∃kvs k b,Rd H a (.dT kvs)/\y=.ref b/\H b=some (.tup (k.map kV))/\r=eX kvs k
def DPut(H:Hp)(a:Addr)(y v:V)(H':Hp):Prop :=
 (∃kvs k,H a=some (.dK kvs)/\y=kV k/\kvs.length<sizeLine/\H'=upd H a (.dK (putK kvs k v))) \/
 ∃kvs k b,H a=some (.dT kvs)/\y=.ref b/\H b=some (.tup (k.map kV))/\kvs.length<sizeLine/\H'=upd H a (.dT (putK kvs k v))
theorem DGet.k{H:Hp}{a:Addr}{kvs:List (Key×V)}{k:Key}(e:H a=some (.dK kvs)):DGet H a (kV k) (eX kvs k):=.inl ⟨kvs,k,.inl e,rfl,rfl⟩
theorem DGet.t{k:List Key}(e:H a=some (.dT kvs))(eb:H b=some (.tup (k.map kV))):DGet H a (.ref b) (eX kvs k):=.inr ⟨kvs,k,b,.inl e,rfl,eb,rfl⟩
theorem DPut.k{H:Hp}{a:Addr}{kvs:List (Key×V)}{k:Key}{v:V}(e:H a=some (.dK kvs))(hl:kvs.length<sizeLine):DPut H a (kV k) v (upd H a (.dK (putK kvs k v))):=.inl ⟨kvs,k,e,rfl,hl,rfl⟩
theorem DPut.t{k:List Key}{v:V}(e:H a=some (.dT kvs))(eb:H b=some (.tup (k.map kV)))(hl:kvs.length<sizeLine) :
  DPut H a (.ref b) v (upd H a (.dT (putK kvs k v))):=.inr ⟨kvs,k,b,e,rfl,eb,hl,rfl⟩
section
variable {s:Shared} {v:V} {r:Value}
theorem Inv.big(I:Inv X pins Z H s):sysModules<s.heap.objs.size:=by
 have h:mainGlobals<s.heap.objs.size:=(I.mod.glob.keeps I.bk).lt
 exact K5 (by decide) h
theorem yI(hu:A.units+1<cLine)(I:Inv X pins Z H s)(g:DGet H a y (some v))(ry:RelV y u)(h:∀w' s',Inv X pins Z H s'->RelV v w'->Q w' s') :
  wpAny (model X.prog X.w) A (getItem (.ref a) u) Q E s:=by
 rcases g with ⟨kvs,k,e,ey,l⟩|⟨kvs,k,b,e,ey,eb,l⟩
 ·subst ey
  obtain⟨z,hd,vs,rel,dd⟩:=lK I.hok e
  obtain⟨w',hw,rw'⟩:=RelO.some_of (v:=v) (o:=valueAt vs k) (by rw[l];exact rel.val k)
  exact wpAny_getItem_of (fg ry) dd.mapOf hw (h w' _ (I.tok _) rw')
 ·subst ey
  cases (show u=Value.ref b from ry)
  obtain⟨z,hd,xs,rel,dd⟩:=oq I.hok e
  obtain⟨w',hw,rw'⟩:=RelO.some_of (v:=v) (o:=(atKey xs k).map (·.2)) (by rw[l];exact rel.val k)
  obtain⟨p,hp,hp2⟩:=Option.map_eq_some_iff.mp hw
  refine wpAny_getItem_heap (ze hu) (fJ I.hok eb) dd hp ?_
  rw[hp2]
  exact h w' _ (I.tok _) rw'
theorem JT(hu:A.units+1<cLine)(I:Inv X pins Z H s)(g:DGet H a y o)(ry:RelV y u)(h:∀s',Inv X pins Z H s'->Q (.bool o.isSome) s') :
  wpAny (model X.prog X.w) A (compareOp .In u (.ref a)) Q E s:=by
 rcases g with ⟨kvs,k,e,ey,l⟩|⟨kvs,k,b,e,ey,eb,l⟩
 ·subst ey
  obtain⟨z,hd,vs,rel,dd⟩:=lK I.hok e
  refine wpAny_in_of (fg ry) hd dd.mapOf ?_
  rw[<-(rel.val k).isSome_eq,<-l]
  exact h _ (I.tok _)
 ·subst ey
  cases (show u=Value.ref b from ry)
  obtain⟨z,hd,xs,rel,dd⟩:=oq I.hok e
  refine wpAny_in_heap (ze hu) (fJ I.hok eb) hd dd ?_
  have q:=(rel.val k).isSome_eq
  rw[Option.isSome_map]at q
  rw[<-q,<-l]
  exact h _ (I.tok _)
theorem iZ{h':Heap}{t':Nat}{ob:HO}(I:Inv X pins Z H s)(mu:Mut (H a))(hs:Heap.SameBut a s.heap h')(he:∃q,h'.get? a=some q)(new:ObjOk X.prog X.w (upd H a ob) h' a ob) :
  Inv X pins Z (upd H a ob) { s with heap:=h',toks:=t' } :=
 I.write (x:=a) (e:=a) mu (.inl rfl) (λb q hb z=>(hs.2 b hb).trans z) he new
theorem vC{h':Heap}{kvs:List (Key×V)}{vs:List (Key×Value)}(z:kvs.length<=sizeLine)(hd:(a==sysModules)=false)(rel:KV kvs vs)(dd:h'.DictOf (aO P w) a vs) :
  ObjOk P w H' h' a (.dK kvs):=⟨z,hd,vs,rel,dd⟩
theorem yH{Q:Unit->Shared->Prop}(hu:A.units+1<cLine)(I:Inv X pins Z H s)(g:DPut H a y v H')(ry:RelV y u)(rv:RelV v r)(h:∀s',Inv X pins Z H' s'->Q () s') :
  wpAny (model X.prog X.w) A (setItem (.ref a) u r) Q E s:=by
 rcases g with ⟨kvs,k,e,ey,l,eH⟩|⟨kvs,k,b,e,ey,eb,l,eH⟩
 ·subst ey eH
  obtain⟨z,hd,vs,rel,dd⟩:=qq I.hok e
  have hz:vs.length<=sizeLine:=by rw[<-rel.length];exact z
  have hl:(putK kvs k v).length<=sizeLine:=by have:=dw kvs k v;lia
  refine wpAny_setItem_pairs (hsz:=hz) (fg ry) dd λh' dd' hs=>h _ ?_
  have he:∃q,h'.get? a=some q:=let ⟨q,_,_,hq,_⟩:=dd';⟨q,hq⟩
  exact iZ I (by rw[e];exact True.intro) hs he (vC hl hd (rel.put k rv) dd')
 ·subst ey eH
  cases (show u=Value.ref b from ry)
  obtain⟨z,hd,xs,rel,dd⟩:=t9 I.hok e
  have hz:xs.length<=sizeLine:=by rw[<-Paired.length rel];exact z
  have hl:(putK kvs k v).length<=sizeLine:=by have:=dw kvs k v;lia
  refine wpAny_setItem_heap (hsz:=hz) (ze hu) (fJ I.hok eb) dd λh' dd' hs=>h _ ?_
  obtain⟨q,es,ep,hq,h2,h3,h4,_,h5⟩:=dd'
  refine iZ I (by rw[e];exact True.intro) hs ⟨q,hq⟩ ⟨hl,hd,_,(rel.put k eb rv).keeps λc ys ec=>?_,q,es,ep,hq,h2,h3,h4,h5⟩
  rw[aK (EC ec e (λz=>nomatch z))]
  exact ec
end
section
variable {s:Shared} {kvs:List (Key×V)} {k:Key}
theorem IS(I:Inv X pins Z H s)(e:Rd H a (.dK kvs))(h:∀t s',Inv X pins Z H s'->Q (.int kvs.length t) s'):wpAny (model X.prog X.w) A (call (.builtin "len") [.ref a]) Q E s:=by
 obtain⟨z,hd,vs,rel,dd⟩:=lK I.hok e
 refine call_len_dict hd dd (by rw[<-rel.length];rw[KH]at z;lia) ?_
 rw[<-rel.length]
 exact h _ _ (I.tok _)
end
theorem ub{s:Shared}(I:Inv X pins Z H s)(g:DGet H a y o):s.TypeIs (.ref a) "dict":=by
 rcases g with ⟨kvs,k,e,_,_⟩|⟨kvs,k,b,e,_,_,_⟩
 ·obtain⟨_,_,vs,_,dd⟩:=lK I.hok e
  exact dd.typeIs
 ·obtain⟨_,_,xs,_,dd⟩:=oq I.hok e
  exact dd.typeIs
def Hq(td ty tv:TE):TS:=λD Z H=>tv Z H λv H1=>td Z H1 λx H2=>ty Z H2 λy H3=>∃a H4,x=.ref a/\DPut H3 a y v H4/\D.nx Z H4
section
variable {o i e value:Expr} {pos' tpos:Pos} {td ty tv:TE}
theorem Cq(hu:X.A.units+1<cLine)(ho:PE X o td)(hi:PE X i ty)(hv:PE X value tv)(hs:swapsWith value (some (.Subscript o i pos')) pos.line X.env=pure false) :
  PS X (.Assign [.Subscript o i pos'] value pos) (Hq td ty tv):=by
 intro pins s Z H D I h
 refine wpAny_Assign_Subscript (thn (hv pins s Z H _ I h) λr s1 ⟨v,H1,I1,rv,q1⟩=>thn (ho pins s1 Z H1 _ I1 q1) λu s2 ⟨x,H2,I2,rx,q2⟩=>thn (hi pins s2 Z H2 _ I2 q2) λiv s3 ⟨y,H3,I3,ry,a,H4,ex,g,q3⟩=>?_) hs
 subst ex
 obtain rfl:u=Value.ref a:=rx
 exact yH hu I3 g ry rv λs4 I4=>⟨Z,H4,I4,q3⟩
end
theorem oB(h:Heap)(hb:sysModules<h.objs.size):ObjOk P w H (h.push { cls:=.type "dict",data:=.dict #[] }) h.objs.size (.dK []) :=
 ⟨aw _,beq_eq_false_iff_ne.mpr (Ne.symm (bi hb)),[],.nil,Heap.DictOf.new h⟩
theorem oA(h:Heap)(hb:sysModules<h.objs.size):ObjOk P w H (h.push { cls:=.type "dict",data:=.dict #[] }) h.objs.size (.dT []) :=
 ⟨aw _,beq_eq_false_iff_ne.mpr (Ne.symm (bi hb)),[],.nil,_,#[],0,zze _ rfl,⟨rfl,rfl,rfl⟩,rfl,rfl,Lw⟩
def E3:TE:=λ_ H Q=>∀p,H p=none->Q (.ref p) (upd H p (.dK []))
def E1:TE:=λ_ H Q=>∀p,H p=none->Q (.ref p) (upd H p (.dT []))
section
theorem Aj:PE X (.Dict [] [] pos) E3:=λpins s Z H Q I h =>
 wpAny_Dict_empty ⟨.ref s.heap.objs.size,_,I.laid (a:=s.heap.objs.size) (o:=.dK []) (t':=s.toks) (λ_ _ q=>zzc _ q) (ai _) (oB s.heap I.big),rfl,h _ (I.hok.fresh (ai _))⟩
theorem Ah:PE X (.Dict [] [] pos) E1:=λpins s Z H Q I h =>
 wpAny_Dict_empty ⟨.ref s.heap.objs.size,_,I.laid (a:=s.heap.objs.size) (o:=.dT []) (t':=s.toks) (λ_ _ q=>zzc _ q) (ai _) (oA s.heap I.big),rfl,h _ (I.hok.fresh (ai _))⟩
end
structure M1(X:Cx)(o:Expr)(m:Str)(apos:Pos)(e:Expr)(cpos:Pos):Prop where
 base:attributeBase o m X.env (eval o X.env)=eval o X.env
 few:((backTo cpos (starEach [e] X.env)).all (λx=>!x.1)&&(backToKw cpos (keywordEach [] X.env)).all (λx=>x.1.isSome)
  && decide (([e]:List Expr).length+([]:List Keyword).length+(if([]:List Keyword).isEmpty then 0 else 1)<30))=true
 line:(apos.endLine==cpos.line)=true
 trees:backTo cpos (starEach [e] X.env)=[(false,eval e X.env)]
structure M2(X:Cx)(o:Expr)(m:Str)(apos:Pos)(e f:Expr)(cpos:Pos):Prop where
 base:attributeBase o m X.env (eval o X.env)=eval o X.env
 few:((backTo cpos (starEach [e,f] X.env)).all (λx=>!x.1)&&(backToKw cpos (keywordEach [] X.env)).all (λx=>x.1.isSome)
  && decide (([e,f]:List Expr).length+([]:List Keyword).length+(if([]:List Keyword).isEmpty then 0 else 1)<30))=true
 line:(apos.endLine==cpos.line)=true
 trees:backTo cpos (starEach [e,f] X.env)=[(false,eval e X.env),(false,eval f X.env)]
def IsD(H:Hp)(a:Addr):Prop:=(∃kvs,Rd H a (.dK kvs))\/∃kvs,Rd H a (.dT kvs)
theorem vv{s:Shared}(I:Inv X pins Z H s)(d:IsD H a) :
  s.TypeIs (.ref a) "dict" /\ (∀b,Value.ref a=.ref b->∃ob,s.heap.get? b=some ob/\ob.dict=none)/\(a==sysModules)=false:=by
 rcases d with ⟨kvs,e⟩|⟨kvs,e⟩
 ·obtain⟨_,hd,vs,_,dd⟩:=lK I.hok e
  refine⟨dd.typeIs,λb q=>?_,hd⟩
  cases q
  obtain⟨ob,_,_,h1,h2,_⟩:=dd
  exact⟨ob,h1,h2.2.1⟩
 ·obtain⟨_,hd,xs,_,dd⟩:=oq I.hok e
  refine⟨dd.typeIs,λb q=>?_,hd⟩
  cases q
  obtain⟨ob,_,_,h1,h2,_⟩:=dd
  exact⟨ob,h1,h2.2.1⟩
section
variable {s:Shared} {d:V} {r:Value}
theorem GF(hu:A.units+1<cLine)(I:Inv X pins Z H s)(g:DGet H a y o)(ry:RelV y u)(h:∀w' s',Inv X pins Z H s'->RelV (o.getD .non) w'->Q w' s') :
  wpAny (model X.prog X.w) A (call (.builtin "dict.get") [.ref a,u]) Q E s:=by
 rcases g with ⟨kvs,k,e,ey,l⟩|⟨kvs,k,b,e,ey,eb,l⟩
 ·subst ey
  obtain⟨z,hd,vs,rel,dd⟩:=lK I.hok e
  refine Kf qu dd.typeIs ur (KZ _ _) (meets_dict_get (aO X.prog X.w) a (fg ry) hd) ⟨_,dd.mapOf,h _ _ (I.tok _) ?_⟩
  rw[l]
  exact(rel.val k).getD rfl
 ·subst ey
  cases (show u=Value.ref b from ry)
  obtain⟨z,hd,xs,rel,dd⟩:=oq I.hok e
  refine Kf qu dd.typeIs ur (KZ _ _) (meetsH_dict_get (tupleKind (aO X.prog X.w)) a b hd) ⟨ze hu,k,xs,fJ I.hok eb,dd,h _ _ (I.tok _) ?_⟩
  rw[l]
  exact(rel.val k).getD rfl
theorem GE(hu:A.units+1<cLine)(I:Inv X pins Z H s)(g:DGet H a y o)(ry:RelV y u)(rd:RelV d r)(h:∀w' s',Inv X pins Z H s'->RelV (o.getD d) w'->Q w' s') :
  wpAny (model X.prog X.w) A (call (.builtin "dict.get") [.ref a,u,r]) Q E s:=by
 rcases g with ⟨kvs,k,e,ey,l⟩|⟨kvs,k,b,e,ey,eb,l⟩
 ·subst ey
  obtain⟨z,hd,vs,rel,dd⟩:=lK I.hok e
  refine Kf qu dd.typeIs ur (KY _ _ _) (meets_dict_get_default (aO X.prog X.w) a (fg ry) hd r) ⟨_,dd.mapOf,h _ _ (I.tok _) ?_⟩
  rw[l]
  exact(rel.val k).getD rd
 ·subst ey
  cases (show u=Value.ref b from ry)
  obtain⟨z,hd,xs,rel,dd⟩:=oq I.hok e
  refine Kf qu dd.typeIs ur (KY _ _ _) (meetsH_dict_get_default (tupleKind (aO X.prog X.w)) a b hd r) ⟨ze hu,k,xs,fJ I.hok eb,dd,h _ _ (I.tok _) ?_⟩
  rw[l]
  exact(rel.val k).getD rd
end
end L2
namespace L4
open PySem PySem.Spec PyProof.Rows L2 PySem.W
def XO(e C:Addr)(dd:Option Addr):Heap->Prop:=λh=>∃oe,h.get? e=some oe/\oe.cls=.ref C/\oe.dict=dd/\PySem.W.notCls oe=true
def XD(dx:Addr)(fs:List (Str×V)):Heap->Prop:=λh=>∃mA,h.Ns1 dx mA/\PySem.Within mA (fs.map (·.1))/\∀f,RelO (fs.lookup f) (mA f)
abbrev bmV:List Value:=[.type "ValueError",.type "Exception",.type "BaseException",.type "object"]
structure XC(K:Frag)(C D fI:Addr):Prop where
 obj:∃nm q N bs sn sub ab col dd k0 k1 k2 k3 k5,K.lookup C=some (excClassObj nm q C N bs (.ref D::bmV) true sn sub ab col dd k0 k1 k2 k3 k5 "ValueError.__new__")
 tl:tailIn K bmV (.ref D::bmV)=true
 ini:findIn K (.ref C) "__init__" = some (some (.ref fI))
 fn:typeIn K (.ref fI)=some (.type "function")
 sa:findIn K (.ref C) "__setattr__" = some (some (.builtin "object.__setattr__"))
 ga:findIn K (.ref C) "__getattribute__" = some (some (.builtin "BaseException.__getattribute__"))
 gr:findIn K (.ref C) "__getattr__" = some none
structure KC(K:Frag)(C:Addr):Prop where
 ha:findIn K (.ref C) "__class__" = some (some (.builtin "object.__class__"))
 hn:specialIn K (.builtin "object.__class__") "__get__" = some (some (.builtin "getset_descriptor.__get__"))
 htk:takesIn K (.builtin "object.__class__")=some true
def Je(T:String):Bool:=T == "bool" || T == "int" || T == "str" || T == "list" || T == "tuple" || T == "dict"
structure XQ(K:Frag)(C:Addr)(x:Str):Prop where
 ns:nsIn K mainGlobals x=some (some (.ref C))
 xc:∃D fI,XC K C D fI
 kc:KC K C
 no:∀T,Je T=true->kitOne K (.ref C) (.type T)=some false
def FX(F:Hp)(dd:Option Addr)(fv:List (Str×V)):Prop:=(dd=none/\fv=[])\/∃dx,dd=some dx/\F dx=some (.ext (XD dx fv))
theorem FX.mono{F F':Hp}{dd:Option Addr}{fv:List (Str×V)}(e:Same F F')(h:FX F dd fv):FX F' dd fv:=h.imp id λ⟨dx,h1,h2⟩=>⟨dx,h1,e _ _ h2⟩
end L4
namespace L3
open PySem PySem.Spec PyProof.Rows L2
variable {F H F':Hp}{v:V}{vs:List V}{a p:Addr}{o:HO}{Z:L2.St}
abbrev D:=PyData
abbrev Fg:=PySem.W.Frag
def keyD:Key->D
 | .inl i=>.int i
 | .inr x=>.str x
def nR(k:List Key):D:=.tuple (k.map keyD)
mutual
inductive Rep(K:Fg)(F:Hp):V->D->Prop
 | non:Rep K F .non .none
 | bl (b):Rep K F (.bl b) (.bool b)
 | int (i):Rep K F (.int i) (.int i)
 | str (x):Rep K F (.str x) (.str x)
 | tup {a vs ds}:F a=some (.tup vs)->RepL K F vs ds->Rep K F (.ref a) (.tuple ds)
 | lst {a vs ds}:SqL K F a vs->RepL K F vs ds->Rep K F (.ref a) (.list ds)
 | dct {a kvs es}:F a=some (.dT kvs)->es.map (·.1)=kvs.map (λp=>nR p.1)->RepL K F (kvs.map (·.2)) (es.map (·.2))->Rep K F (.ref a) (.dict es)
 | dck {a kvs es}:F a=some (.dK kvs)->es.map (·.1)=kvs.map (λp=>keyD p.1)->RepL K F (kvs.map (·.2)) (es.map (·.2))->Rep K F (.ref a) (.dict es)
 | exc {a C dd cl fv es}:F a=some (.ext (L4.XO a C dd))->L4.XQ K C cl->L4.FX F dd fv->es.map (·.1)=fv.map (λp=>.str p.1)->RepL K F (fv.map (·.2)) (es.map (·.2))->Rep K F (.ref a) (.dict ((.none,.str cl)::es))
 | fn {a f}:PySem.W.nsIn K mainGlobals f=some (some (.ref a))->Rep K F (.ref a) (.dict [(.bool true,.str f)])
inductive RepL(K:Fg)(F:Hp):List V->List D->Prop
 | nil:RepL K F [] []
 | cons {v d vs ds}:Rep K F v d->RepL K F vs ds->RepL K F (v::vs) (d::ds)
end
theorem fR{K:Fg}{xs:List V}(e:Same F F')(h:SqT K F a xs):SqT K F' a xs:=by
 rcases h with (h|⟨o,h⟩)|h
 ·exact .inl (.inl (e _ _ h))
 ·exact .inl (.inr ⟨o,e _ _ h⟩)
 ·exact .inr h
theorem Rep.mono{K:Fg}(e:Same F F'){d:D}(h:Rep K F v d):Rep K F' v d :=
 Rep.rec (motive_1:=λv d _=>Rep K F' v d) (motive_2:=λvs ds _=>RepL K F' vs ds) .non .bl .int .str (λh _ r=>.tup (e _ _ h) r) (λh _ r=>.lst (e.seq h) r) (λh k _ r=>.dct (e _ _ h) k r) (λh k _ r=>.dck (e _ _ h) k r) (λh q f k _ r=>.exc (e _ _ h) q (f.mono e) k r) (λh=>.fn h) .nil (λ_ _ a b=>.cons a b) h
theorem RepL.mono{K:Fg}(e:Same F F'){ds:List D}(h:RepL K F vs ds):RepL K F' vs ds:=by
 induction vs generalizing ds with
 | nil=>cases h;exact .nil
 | cons v vs ih=>cases h with
  | cons a b=>exact .cons (a.mono e) (ih b)
def Hs(K:Fg)(F:Hp):D->V->Prop
 | .none,v=>v=.non
 | .bool b,v=>v=.bl b
 | .int i,v=>v=.int i
 | .str x,v=>v=.str x
 | .tuple ds,v=>∃a vs,v=.ref a/\F a=some (.tup vs)/\RepL K F vs ds
 | .list ds,v=>∃a vs,v=.ref a/\SqL K F a vs/\RepL K F vs ds
 | _,_=>True
theorem Rep.inv{K:Fg}{d:D}(h:Rep K F v d):Hs K F d v :=
 Rep.casesOn (motive_1:=λv d _=>Hs K F d v) h rfl (λ_=>rfl) (λ_=>rfl) (λ_=>rfl) (λh r=>⟨_,_,rfl,h,r⟩) (λh r=>⟨_,_,rfl,h,r⟩) (λ_ _ _=>True.intro) (λ_ _ _=>True.intro) (λ_ _ _ _ _=>True.intro) (λ_=>True.intro)
theorem Rep.int_inv{K:Fg}{i:Int}(h:Rep K F v (.int i)):v=.int i:=h.inv
theorem Rep.bool_inv{K:Fg}{i:Bool}(h:Rep K F v (.bool i)):v=.bl i:=h.inv
theorem Rep.str_inv{K:Fg}{i:Str}(h:Rep K F v (.str i)):v=.str i:=h.inv
theorem Rep.tup_inv{K:Fg}{ds:List D}(h:Rep K F v (.tuple ds)):∃a vs,v=.ref a/\F a=some (.tup vs)/\RepL K F vs ds:=h.inv
theorem Rep.lst_inv{K:Fg}{ds:List D}(h:Rep K F v (.list ds)):∃a vs,v=.ref a/\SqL K F a vs/\RepL K F vs ds:=h.inv
def D7(K:Fg)(F:Hp):List D->List V->Prop
 | [],vs=>vs=[]
 | d::ds,vs=>∃v us,vs=v::us/\Rep K F v d/\RepL K F us ds
theorem RepL.inv{K:Fg}{ds:List D}(h:RepL K F vs ds):D7 K F ds vs :=
 RepL.casesOn (motive_2:=λvs ds _=>D7 K F ds vs) h rfl (λa b=>⟨_,_,rfl,a,b⟩)
theorem RepL.one_inv{K:Fg}{d:D}(h:RepL K F vs [d]):∃v,vs=[v]/\Rep K F v d:=by
 obtain⟨v,us,rfl,a,b⟩:=(h.inv:∃v us,vs=v::us/\Rep K F v d/\RepL K F us [])
 obtain rfl:us=[]:=b.inv
 exact⟨v,rfl,a⟩
theorem RepL.two_inv{K:Fg}{d e:D}(h:RepL K F vs [d,e]):∃v u,vs=[v,u]/\Rep K F v d/\Rep K F u e:=by
 obtain⟨v,us,rfl,a,b⟩:=(h.inv:∃v us,vs=v::us/\Rep K F v d/\RepL K F us [e])
 obtain⟨u,rfl,c⟩:=b.one_inv
 exact⟨v,u,rfl,a,c⟩
theorem RepL.length{K:Fg}:∀{vs ds},RepL K F vs ds->vs.length=ds.length
 | _,_,.nil=>rfl
 | _,_,.cons _ r=>by simp[RepL.length r]
theorem RepL.get{K:Fg}:∀{vs ds} {i:Nat} {d:D},RepL K F vs ds->ds[i]? = some d->∃v,vs[i]? = some v/\Rep K F v d
 | _,_,_,_,.nil,e=>by simp at e
 | _,_,0,_,.cons h _,e=>by simp at e;subst e;exact⟨_,rfl,h⟩
 | _,_,i+1,d,.cons _ r,e=>by
  obtain⟨v,h1,h2⟩:=RepL.get (i:=i) (d:=d) r (by simpa using e)
  exact⟨v,by simpa using h1,h2⟩
theorem RepL.append{K:Fg}{ds:List D}{us:List V}{es:List D}(h:RepL K F vs ds)(s:RepL K F us es):RepL K F (vs++us) (ds++es):=by
 induction vs generalizing ds with
 | nil=>cases h;exact s
 | cons v vs ih=>cases h with
  | cons a b=>exact .cons a (ih b)
theorem RepL.take{K:Fg}:∀{vs ds} (n:Nat),RepL K F vs ds->RepL K F (vs.take n) (ds.take n)
 | _,_,0,_=>.nil
 | _,_,_+1,.nil=>.nil
 | _,_,n+1,.cons h r=>.cons h (RepL.take n r)
theorem RepL.drop{K:Fg}:∀{vs ds} (n:Nat),RepL K F vs ds->RepL K F (vs.drop n) (ds.drop n)
 | _,_,0,r=>r
 | _,_,_+1,.nil=>.nil
 | _,_,n+1,.cons _ r=>RepL.drop n r
theorem RepL.set{K:Fg}{d:D}(h:Rep K F v d):∀{vs ds} (i:Nat),RepL K F vs ds->RepL K F (vs.set i v) (ds.set i d)
 | _,_,_,.nil=>.nil
 | _,_,0,.cons _ r=>.cons h r
 | _,_,i+1,.cons q r=>.cons q (RepL.set h i r)
theorem RepL.ints{K:Fg}:∀(ns:List Int),RepL K F (ns.map V.int) (ns.map PyData.int)
 | []=>.nil
 | n::r=>.cons (.int n) (RepL.ints r)
section
variable {X:Cx} {pins:zzk} {s:Shared}
theorem pW{u:List Value}(r:Vals [] u):∃as,ReadsAll s.heap u [] as:=by cases r;exact⟨_,.nil⟩
theorem nq{d:D}{ds:List D}(h:d.canLay0=true->∀{u},RelV v u->∃as,Reads s.heap u d as)(t:PyData.canLayAll0 ds=true->∀{us},Vals vs us->∃as,ReadsAll s.heap us ds as)(c:PyData.canLayAll0 (d::ds)=true){us:List Value}(r:Vals (v::vs) us):∃as,ReadsAll s.heap us (d::ds) as:=by
 simp only[PyData.canLayAll0,ac]at c
 cases r with
 | cons r rr =>
  obtain⟨as,ra⟩:=h c.1 r
  obtain⟨bs,rb⟩:=t c.2 rr
  exact⟨_,.cons ra rb⟩
theorem xX(I:Inv X pins Z H s){ds:List D}(hq:H a=some (.tup vs))(ih:PyData.canLayAll0 ds=true->∀{us},Vals vs us->∃as,ReadsAll s.heap us ds as)(c:(PyData.tuple ds).canLay0=true){u:Value}(r:RelV (.ref a) u):∃as,Reads s.heap u (.tuple ds) as:=by
 cases r
 obtain⟨its,rv,⟨o,e1,e2,n',e3⟩,hz⟩:=I.tuple (SqT.of hq)
 obtain⟨as,ra⟩:=ih (by simpa[PyData.canLay0]using c) rv
 exact⟨_,.tuple e1 e2 e3 (by simpa using ra)⟩
theorem xY(I:Inv X pins Z H s){ds:List D}(hq:SqL X.K H a vs)(ih:PyData.canLayAll0 ds=true->∀{us},Vals vs us->∃as,ReadsAll s.heap us ds as)(c:(PyData.list ds).canLay0=true){u:Value}(r:RelV (.ref a) u):∃as,Reads s.heap u (.list ds) as:=by
 cases r
 obtain⟨its,rv,⟨o,n',e1,e2,e3,e4⟩,hz⟩:=I.list hq
 obtain⟨as,ra⟩:=ih (by simpa[PyData.canLay0]using c) rv
 exact⟨_,.list e1 e2 e4 (by simpa using ra)⟩
theorem iQ{es:List (D×D)}{P:Prop}(c:(PyData.dict es).canLay0=true):P:=by simp[PyData.canLay0]at c
theorem zL(I:Inv X pins Z H s){d:D}(h:Rep X.K H v d):d.canLay0=true->∀{u},RelV v u->∃as,Reads s.heap u d as :=
 Rep.rec (motive_1:=λv d _=>d.canLay0=true->∀{u},RelV v u->∃as,Reads s.heap u d as) (motive_2:=λvs ds _=>PyData.canLayAll0 ds=true->∀{us},Vals vs us->∃as,ReadsAll s.heap us ds as)
  (λ_ {_} r=>by cases r;exact⟨_,.none⟩) (λb _ {_} r=>by cases r;exact⟨_,.bool b⟩) (λi _ {_} r=>by obtain⟨t,rfl⟩:=r;exact⟨_,.int i t⟩) (λx _ {_} r=>by obtain⟨t,rfl⟩:=r;exact⟨_,.str x t⟩)
  (λhq _ ih=>xX I hq ih) (λhq _ ih=>xY I hq ih) (λ_ _ _ _ c=>iQ c) (λ_ _ _ _ c=>iQ c) (λ_ _ _ _ _ _ c=>iQ c) (λ_ c=>iQ c)
  (λ_ {_} r=>pW r) (λ_ _ a b=>nq a b) h
theorem Fl(I:Inv X pins Z H s){ds:List D}(h:RepL X.K H vs ds):PyData.canLayAll0 ds=true->∀{us},Vals vs us->∃as,ReadsAll s.heap us ds as:=by
 induction vs generalizing ds with
 | nil=>cases h;exact λ_ _ r=>pW r
 | cons v vs ih=>cases h with
  | cons a b=>exact nq (zL I a) (ih b)
end
theorem ca{X:Cx}{pins:zzk}{s:Shared}(I:Inv X pins Z H s) :
  (∀{v d},Rep X.K H v d->d.canLay0=true->∀{u},RelV v u->∃as,Reads s.heap u d as)/\(∀{vs ds},RepL X.K H vs ds->PyData.canLayAll0 ds=true->∀{us},Vals vs us->∃as,ReadsAll s.heap us ds as) :=
 ⟨λ{v d} h c {u} r=>zL I h c r,λ{vs ds} h c {us} r=>Fl I h c r⟩
def ja:List (D×D)->Bool
 | (.none,_)::_=>true
 | (.bool _,_)::_=>true
 | _=>false
inductive NK where
 | b (b:Bool)
 | t (p:Int) (rs:List (List Int))
deriving DecidableEq
def EY(l:List Int):Int:=PySem.reduceHash (PySem.Builtin.Tuple.tupleHashOf l)
def NK.hash:NK->Int
 | .b x=>PySem.hashInt (if x then 1 else 0)
 | .t p rs=>EY [PySem.hashInt p,EY (rs.map λr=>EY (r.map PySem.hashInt))]
def KeyAt(F:Hp):NK->Value->Prop
 | .b b,v=>v=.bool b
 | .t p rs,v=>∃c e bs,v=.ref c/\F c=some (.tup [.int p,.ref e])/\F e=some (.tup (bs.map V.ref))/\Paired (λr b=>F b=some (.tup (r.map V.int))) rs bs
theorem KeyAt.mono{n:NK}{v:Value}(s:Same F F')(h:KeyAt F n v):KeyAt F' n v:=by
 cases n with
 | b b=>exact h
 | t p rs=>obtain⟨c,e,bs,h1,h2,h3,h4⟩:=h;exact⟨c,e,bs,h1,s _ _ h2,s _ _ h3,Paired.mapP h4 λr b q=>s _ _ q⟩
def nkE(x:NK×Value×Value):DictEntry:=⟨x.1.hash,x.2.1,x.2.2⟩
def NumO(a:Addr)(o:Obj)(xs:List (NK×Value×Value)):Prop:=(a==sysModules)=false/\o.ExactDict/\(∃es ep,o.data=.dict es ep/\es.toList=xs.map nkE)/\(xs.map (·.1)).Nodup/\xs.length<=sizeLine/\∀(i:Nat) x,xs[i]? = some x->∃t,x.2.2=.int i t
inductive OC where
 | l (ds:List D)
 | t (es:List (D×D))
 | k (es:List (D×D))
 | i (x:Str) (ns:List Str) (ds:List D)
 | n (ns:List NK)
def OC.isI:OC->Bool
 | .i _ _ _=>true
 | .n _=>true
 | _=>false
inductive AV where
 | fz (d:D)
 | ol (c:OC)
 | op (c:OC)
abbrev En:=List (Option AV)
inductive RV where
 | fz (d:D)
 | fr (c:OC)
 | bor (i:Nat)
def DS:HO->Prop
 | .tup _=>False
 | .ext _=>False
 | _=>True
structure Gh where
 P:Nat->Option Addr
 O:Hp
 B:Hp
def Held(K:Fg)(F H:Hp)(a:Addr):OC->Prop
 | .l ds=>∃vs,H a=some (.lst vs)/\RepL K F vs ds
 | .t es=>∃kvs,H a=some (.dT kvs)/\es.map (·.1)=kvs.map (λp=>nR p.1)/\RepL K F (kvs.map (·.2)) (es.map (·.2))
 | .k es=>∃kvs,H a=some (.dK kvs)/\es.map (·.1)=kvs.map (λp=>keyD p.1)/\RepL K F (kvs.map (·.2)) (es.map (·.2))
 | .i x ns ds=>∃C dx fs,H a=some (.ins C dx fs)/\PySem.W.nsIn K mainGlobals x=some (some (.ref C))/\fs.map (·.1)=ns/\RepL K F (fs.map (·.2)) ds
 | .n ns=>∃o xs,H a=some (.obj o)/\NumO a o xs/\xs.map (·.1)=ns/\∀x∈xs,KeyAt F x.1 x.2.1
structure OwnAt(K:Fg)(G:Gh)(F H:Hp)(a:Addr)(c:OC):Prop where
 nf:F a=none
 no:G.O a=none
 he:Held K F H a c
def own(ρ:En)(i:Nat)(c:OC):Prop:=ρ[i]? = some (some (.ol c))\/ρ[i]? = some (some (.op c))
structure StOk(K:Fg)(G:Gh)(F:Hp)(Z:L2.St)(H:Hp)(ρ:En):Prop where
 fh:Same F H
 oh:Same G.O H
 fo:∀b o,G.O b=some o->F b=none/\DS o
 ln:Z.length=ρ.length
 fz:∀(i:Nat) (d:D),ρ[i]? = some (some (AV.fz d))->∃v,Z[i]? = some (some v)/\Rep K F v d
 ow:∀(i:Nat) (c:OC),own ρ i c->∃a:Addr,Z[i]? = some (some (V.ref a))/\OwnAt K G F H a c
 dj:∀(i j:Nat) (c e:OC) (a:Addr),own ρ i c->own ρ j e->Z[i]? = some (some (V.ref a))->Z[j]? = some (some (V.ref a))->i=j
 pp:∀(i:Nat) (a:Addr),G.P i=some a->Z[i]? = some (some (V.ref a))/\∃c,ρ[i]? = some (some (AV.op c))
 pq:∀(i:Nat) (c:OC),ρ[i]? = some (some (AV.op c))->∃a,G.P i=some a
 fb:Same G.B F
def RVR(K:Fg)(G:Gh)(F:Hp)(Z:L2.St)(H:Hp)(ρ:En)(v:V):RV->Prop
 | .fz d=>Rep K F v d
 | .fr c=>∃a,v=.ref a/\OwnAt K G F H a c/\∀(i:Nat) (e:OC),own ρ i e->Z[i]? ≠ some (some (V.ref a))
 | .bor i=>∃c,own ρ i c/\Z[i]? = some (some v)
theorem Held.mono{K:Fg}{c:OC}(e:Same F F')(h:Held K F H a c):Held K F' H a c:=by
 cases c with
 | l ds=>obtain⟨vs,h1,h2⟩:=h;exact⟨vs,h1,h2.mono e⟩
 | t es=>obtain⟨vs,h1,h2,h3⟩:=h;exact⟨vs,h1,h2,h3.mono e⟩
 | k es=>obtain⟨vs,h1,h2,h3⟩:=h;exact⟨vs,h1,h2,h3.mono e⟩
 | i x ns ds=>obtain⟨C,dx,fs,h1,h2,h3,h4⟩:=h;exact⟨C,dx,fs,h1,h2,h3,h4.mono e⟩
 | n ns=>obtain⟨o,xs,h1,h2,h3,h4⟩:=h;exact⟨o,xs,h1,h2,h3,λx m=>(h4 x m).mono e⟩
theorem Held.some{K:Fg}{c:OC}(h:Held K F H a c):∃o,H a=some o:=by
 cases c with
 | l ds=>obtain⟨vs,h1,h2⟩:=h;exact⟨_,h1⟩
 | t es=>obtain⟨vs,h1,h2⟩:=h;exact⟨_,h1⟩
 | k es=>obtain⟨vs,h1,h2⟩:=h;exact⟨_,h1⟩
 | i x ns ds=>obtain⟨C,dx,fs,h1,_⟩:=h;exact⟨_,h1⟩
 | n ns=>obtain⟨o,xs,h1,_⟩:=h;exact⟨_,h1⟩
theorem Held.at{K:Fg}{H':Hp}{c:OC}(h:Held K F H a c)(e:H' a=H a):Held K F H' a c:=by
 cases c with
 | l ds=>obtain⟨vs,h1,h2⟩:=h;exact⟨vs,e.trans h1,h2⟩
 | t es=>obtain⟨vs,h1,h2⟩:=h;exact⟨vs,e.trans h1,h2⟩
 | k es=>obtain⟨vs,h1,h2⟩:=h;exact⟨vs,e.trans h1,h2⟩
 | i x ns ds=>obtain⟨C,dx,fs,h1,h2⟩:=h;exact⟨C,dx,fs,e.trans h1,h2⟩
 | n ns=>obtain⟨o,xs,h1,h2⟩:=h;exact⟨o,xs,e.trans h1,h2⟩
theorem dm(h:F p=none):Same F (upd F p o):=λb u e=>by
 rw[aK (aU e h)]
 exact e
theorem iP(s:Same F H)(h:F p=none):Same F (upd H p o):=λb u e=>by
 rw[aK (aU e h)]
 exact s b u e
section
variable {K:Fg} {G:Gh} {ρ:En}
theorem StOk.lay(S:StOk K G F Z H ρ)(hp:H p=none):StOk K G F Z (upd H p o) ρ:=by
 have fp:F p=none:=S.fh.free hp
 have op:G.O p=none:=S.oh.free hp
 refine⟨iP S.fh fp,iP S.oh op,S.fo,S.ln,S.fz,λi c h=>?_,S.dj,S.pp,S.pq,S.fb⟩
 obtain⟨a,e,oa⟩:=S.ow i c h
 refine⟨a,e,oa.nf,oa.no,oa.he.at ?_⟩
 obtain⟨u,hu⟩:=oa.he.some
 exact aK (aU hu hp)
theorem StOk.fresh_ne(S:StOk K G F Z H ρ)(hp:H p=none):∀(i:Nat) (e:OC),own ρ i e->Z[i]? ≠ some (some (V.ref p)):=λi e h q=>by
 obtain⟨a,e1,oa⟩:=S.ow i e h
 rw[e1]at q
 injection q with q;injection q with q;injection q with q
 subst q
 obtain⟨u,hu⟩:=oa.he.some
 rw[hp]at hu;cases hu
theorem StOk.freeze(S:StOk K G F Z H ρ)(ha:H a=some o)(fa:F a=none)(oa:G.O a=none)(ne:∀(i:Nat) (e:OC),own ρ i e->Z[i]? ≠ some (some (V.ref a))):StOk K G (upd F a o) Z H ρ:=by
 have sm:Same F (upd F a o):=dm fa
 refine⟨λb u e=>?_,S.oh,λb u e=>?_,S.ln,λi d h=>?_,λi c h=>?_,S.dj,S.pp,S.pq,S.fb.trans sm⟩
 ·by_cases hb:b=a
  ·subst hb;rw[aS]at e;cases e;exact ha
  ·rw[aK hb]at e;exact S.fh b u e
 ·rw[aK (aU e oa)];exact S.fo b u e
 ·obtain⟨v,e,r⟩:=S.fz i d h;exact⟨v,e,r.mono sm⟩
 ·obtain⟨b,e,ob⟩:=S.ow i c h
  refine⟨b,e,?_,ob.no,ob.he.mono sm⟩
  rw[aK (λz=>ne i c h (by rw[e,z]))]
  exact ob.nf
theorem StOk.newTup(S:StOk K G F Z H ρ){ds:List D}(hp:H p=none)(r:RepL K F vs ds) :
  Same F (upd F p (.tup vs))/\StOk K G (upd F p (.tup vs)) Z (upd H p (.tup vs)) ρ/\Rep K (upd F p (.tup vs)) (.ref p) (.tuple ds):=by
 have fp:F p=none:=S.fh.free hp
 refine⟨dm fp,(S.lay hp).freeze aS fp (S.oh.free hp) (S.fresh_ne hp),?_⟩
 exact .tup aS (r.mono (dm fp))
theorem StOk.newLst(S:StOk K G F Z H ρ){ds:List D}(hp:H p=none)(r:RepL K F vs ds) :
  StOk K G F Z (upd H p (.lst vs)) ρ/\RVR K G F Z (upd H p (.lst vs)) ρ (.ref p) (.fr (.l ds)) :=
 ⟨S.lay hp,p,rfl,⟨S.fh.free hp,S.oh.free hp,vs,aS,r⟩,S.fresh_ne hp⟩
theorem StOk.settle(S:StOk K G F Z H ρ){ds:List D}(r:RVR K G F Z H ρ v (.fr (.l ds))) :
  ∃F',Same F F'/\StOk K G F' Z H ρ/\Rep K F' v (.list ds):=by
 obtain⟨a,rfl,oa,ne⟩:=r
 obtain⟨vs,h1,h2⟩:=oa.he
 exact⟨upd F a (.lst vs),dm oa.nf,S.freeze h1 oa.nf oa.no ne,.lst (.inl (.inl aS)) (h2.mono (dm oa.nf))⟩
theorem lZ{α:Type}(l:List α)(i:Nat)(x y:α)(h:l[i]? = some y):(l.set i x)[i]? = some x:=by
 rw[ut (List.getElem?_eq_some_iff.mp h).1]
def OC.d:OC->D
 | .l ds=>.list ds
 | .t es=>.dict es
 | .k es=>.dict es
 | .i _ _ _=>.none
 | .n _=>.none
theorem wQ{c:OC}(hI:c.isI=false)(h:Held K F H a c):∃o,H a=some o/\∀F',Same F F'->F' a=some o->Rep K F' (.ref a) c.d:=by
 cases c with
 | l ds=>obtain⟨vs,h1,h2⟩:=h;exact⟨_,h1,λF' s e=>.lst (.inl (.inl e)) (h2.mono s)⟩
 | t es=>obtain⟨vs,h1,h2,h3⟩:=h;exact⟨_,h1,λF' s e=>.dct e h2 (h3.mono s)⟩
 | k es=>obtain⟨vs,h1,h2,h3⟩:=h;exact⟨_,h1,λF' s e=>.dck e h2 (h3.mono s)⟩
 | i x ns ds=>cases hI
 | n ns=>cases hI
theorem StOk.settleE(S:StOk K G F Z H ρ){i:Nat}{oc:OC}(hI:oc.isI=false)(hi:ρ[i]? = some (some (.ol oc)))(hv:Z[i]? = some (some v)) :
  ∃F',Same F F'/\StOk K G F' Z H (ρ.set i (some (.fz oc.d)))/\Rep K F' v oc.d/\∀b,v=.ref b->F' b=H b:=by
 obtain⟨a,e,oa⟩:=S.ow i _ (.inl hi)
 rw[hv]at e
 injection e with e;injection e with e
 subst e
 obtain⟨vo,h1,hrep⟩:=wQ hI oa.he
 have sm:Same F (upd F a vo):=dm oa.nf
 have rp:Rep K (upd F a vo) (.ref a) oc.d:=hrep _ sm aS
 have ne:∀j,j≠i->(ρ.set i (some (.fz oc.d)))[j]? = ρ[j]?:=λj hj=>ss (Ne.symm hj)
 have at_i:(ρ.set i (some (.fz oc.d)))[i]? = some (some (.fz oc.d)):=lZ _ _ _ _ hi
 have ownj:∀j c,own (ρ.set i (some (.fz oc.d))) j c->j≠i/\own ρ j c:=λj c h=>by
  have hj:j≠i:=by
   rintro rfl
   rcases h with h|h<;>(rw[at_i]at h;cases h)
  refine⟨hj,?_⟩
  rcases h with h|h
  ·exact .inl (by rw[<-ne j hj];exact h)
  ·exact .inr (by rw[<-ne j hj];exact h)
 refine⟨upd F a vo,sm,⟨λb u e=>?_,S.oh,λb u e=>?_,by simpa using S.ln,λj d h=>?_,λj c h=>?_,λj k c e b h1 h2=>S.dj j k c e b (ownj j c h1).2 (ownj k e h2).2,λj b h=>?_,λj c h=>?_,S.fb.trans sm⟩,rp,λb e=>by cases e;rw[aS,h1]⟩
 ·by_cases hb:b=a
  ·subst hb;rw[aS]at e;cases e;exact h1
  ·rw[aK hb]at e;exact S.fh b u e
 ·rw[aK (aU e oa.no)];exact S.fo b u e
 ·by_cases hj:j=i
  ·subst hj
   rw[at_i]at h
   cases h
   exact⟨_,hv,rp⟩
  ·rw[ne j hj]at h
   obtain⟨w,e,r⟩:=S.fz j d h
   exact⟨w,e,r.mono sm⟩
 ·obtain⟨hj,h'⟩:=ownj j c h
  obtain⟨b,e,ob⟩:=S.ow j c h'
  refine⟨b,e,?_,ob.no,ob.he.mono sm⟩
  rw[aK (λz=>hj (S.dj j i _ _ a h' (.inl hi) (by rw[e,z]) hv))]
  exact ob.nf
 ·obtain⟨q,c,q'⟩:=S.pp j b h
  refine⟨q,c,?_⟩
  have hj:j≠i:=by rintro rfl;rw[hi]at q';cases q'
  rw[ne j hj];exact q'
 ·have hj:j≠i:=by rintro rfl;rw[at_i]at h;cases h
  rw[ne j hj]at h
  exact S.pq j c h
theorem StOk.settleC(S:StOk K G F Z H ρ){i:Nat}{oc:OC}(hI:oc.isI=false)(hi:ρ[i]? = some (some (.ol oc)))(hv:Z[i]? = some (some v)) :
  ∃F',Same F F'/\StOk K G F' Z H (ρ.set i (some (.fz oc.d)))/\Rep K F' v oc.d:=let ⟨F',a,b,c,_⟩:=S.settleE hI hi hv;⟨F',a,b,c⟩
theorem StOk.store(S:StOk K G F Z H ρ){j:Nat}{av:AV}(hj:∀c,ρ[j]? ≠ some (some (.op c)))(hl:j<ρ.length)
  (h:(∃d,av=.fz d/\Rep K F v d)\/∃c,av=.ol c/\RVR K G F Z H ρ v (.fr c)):StOk K G F (Z.set j (some v)) H (ρ.set j (some av)):=by
 have hls:j<Z.length:=by rw[S.ln];exact hl
 have ne:∀i,i≠j->(ρ.set j (some av))[i]? = ρ[i]?:=λi hi=>ss (Ne.symm hi)
 have nes:∀i,i≠j->(Z.set j (some v))[i]? = Z[i]?:=λi hi=>ss (Ne.symm hi)
 have atj:(ρ.set j (some av))[j]? = some (some av):=ut hl
 have atjs:(Z.set j (some v))[j]? = some (some v):=ut hls
 have owni:∀i c,i≠j->own (ρ.set j (some av)) i c->own ρ i c:=λi c hi h=>by
  unfold own at h ⊢
  rw[ne i hi]at h
  exact h
 refine⟨S.fh,S.oh,S.fo,by simpa using S.ln,λi d q=>?_,λi c q=>?_,λi k c e a q1 q2 e1 e2=>?_,λi a q=>?_,λi c q=>?_,S.fb⟩
 ·by_cases hi:i=j
  ·subst hi
   rw[atj]at q
   rcases h with ⟨d',rfl,r⟩|⟨c,rfl,_⟩
   ·cases q;exact⟨v,atjs,r⟩
   ·cases q
  ·rw[ne i hi]at q
   obtain⟨w,e,r⟩:=S.fz i d q
   exact⟨w,by rw[nes i hi];exact e,r⟩
 ·by_cases hi:i=j
  ·subst hi
   rcases h with ⟨d',rfl,r⟩|⟨c',rfl,a,rfl,oa,_⟩
   ·rcases q with q|q<;>(rw[atj]at q;cases q)
   ·rcases q with q|q
    ·rw[atj]at q;cases q;exact⟨a,atjs,oa⟩
    ·rw[atj]at q;cases q
  ·obtain⟨a,e,oa⟩:=S.ow i c (owni i c hi q)
   exact⟨a,by rw[nes i hi];exact e,oa⟩
 ·by_cases hi:i=j
  ·by_cases hk:k=j
   ·rw[hi,hk]
   ·exfalso
    subst hi
    rw[nes k hk]at e2
    rw[atjs]at e1
    injection e1 with e1;injection e1 with e1
    subst e1
    rcases h with ⟨d',rfl,r⟩|⟨c',rfl,a',e,oa,nn⟩
    ·rcases q1 with q|q<;>(rw[atj]at q;cases q)
    ·injection e with e;subst e
     exact nn k _ (owni k _ hk q2) e2
  ·by_cases hk:k=j
   ·exfalso
    subst hk
    rw[nes i hi]at e1
    rw[atjs]at e2
    injection e2 with e2;injection e2 with e2
    subst e2
    rcases h with ⟨d',rfl,r⟩|⟨c',rfl,a',e,oa,nn⟩
    ·rcases q2 with q|q<;>(rw[atj]at q;cases q)
    ·injection e with e;subst e
     exact nn i _ (owni i _ hi q1) e1
   ·rw[nes i hi]at e1
    rw[nes k hk]at e2
    exact S.dj i k _ _ a (owni i _ hi q1) (owni k _ hk q2) e1 e2
 ·obtain⟨q1,c,q2⟩:=S.pp i a q
  have hi:i≠j:=by rintro rfl;exact hj c q2
  exact⟨by rw[nes i hi];exact q1,c,by rw[ne i hi];exact q2⟩
 ·have hi:i≠j:=by
   rintro rfl
   rw[atj]at q
   rcases h with ⟨d',rfl,r⟩|⟨c',rfl,_⟩<;>cases q
  rw[ne i hi]at q
  exact S.pq i c q
theorem StOk.change(S:StOk K G F Z H ρ){j:Nat}{c c':OC}(hj:own ρ j c)(ha:Z[j]? = some (some (.ref a)))(hh:Held K F (upd H a o) a c') :
  StOk K G F Z (upd H a o) (ρ.set j ((ρ[j]?.join).map fun | .op _=>.op c'|_=>.ol c')):=by
 obtain⟨b,e,ob⟩:=S.ow j c hj
 rw[ha]at e
 injection e with e;injection e with e;injection e with e
 subst e
 have hl:j<ρ.length:=by rcases hj with h|h<;>exact(List.getElem?_eq_some_iff.mp h).1
 generalize hav:((ρ[j]?.join).map λ(x:AV)=>match x with | .op _=>AV.op c'|_=>AV.ol c')=av
 have ne:∀i,i≠j->(ρ.set j av)[i]? = ρ[i]?:=λi hi=>ss (Ne.symm hi)
 have atj:(ρ.set j av)[j]? = some av:=ut hl
 have owni:∀i e,i≠j->own (ρ.set j av) i e->own ρ i e:=λi c hi h=>by
  unfold own at h ⊢
  rw[ne i hi]at h
  exact h
 have kind:(ρ[j]? = some (some (.ol c))/\av=some (.ol c'))\/(ρ[j]? = some (some (.op c))/\av=some (.op c')):=by
  rcases hj with h|h
  ·exact .inl ⟨h,by rw[<-hav,h];rfl⟩
  ·exact .inr ⟨h,by rw[<-hav,h];rfl⟩
 have ownj:∀e,own (ρ.set j av) j e->e=c':=λe h=>by
  unfold own at h
  rw[atj]at h
  rcases kind with ⟨_,k⟩|⟨_,k⟩<;>rw[k]at h<;>rcases h with h|h<;>cases h<;>rfl
 refine⟨iP S.fh ob.nf,iP S.oh ob.no,S.fo,by simpa using S.ln,λi d q=>?_,λi e q=>?_,λi k c1 e1 b q1 q2=>?_,λi b q=>?_,λi e q=>?_,S.fb⟩
 ·by_cases hi:i=j
  ·subst hi
   rw[atj]at q
   rcases kind with ⟨_,k⟩|⟨_,k⟩<;>rw[k]at q<;>cases q
  ·rw[ne i hi]at q;exact S.fz i d q
 ·by_cases hi:i=j
  ·subst hi
   have:=ownj e q
   subst this
   exact⟨a,ha,ob.nf,ob.no,hh⟩
  ·have q':=owni i e hi q
   obtain⟨b',e',ob'⟩:=S.ow i e q'
   refine⟨b',e',ob'.nf,ob'.no,ob'.he.at (aK λz=>hi (S.dj i j _ _ a q' hj (by rw[e',z]) ha))⟩
 ·have o1:∃e,own ρ i e:=by
   by_cases hi:i=j
   ·exact⟨c,hi▸hj⟩
   ·exact⟨_,owni i _ hi q1⟩
  have o2:∃e,own ρ k e:=by
   by_cases hk:k=j
   ·exact⟨c,hk▸hj⟩
   ·exact⟨_,owni k _ hk q2⟩
  exact S.dj i k _ _ b o1.choose_spec o2.choose_spec
 ·obtain⟨q1,e,q2⟩:=S.pp i b q
  refine⟨q1,?_⟩
  by_cases hi:i=j
  ·subst hi
   rcases kind with ⟨k1,k⟩|⟨k1,k⟩
   ·rw[k1]at q2;cases q2
   ·exact⟨c',by rw[atj,k]⟩
  ·exact⟨e,by rw[ne i hi];exact q2⟩
 ·by_cases hi:i=j
  ·subst hi
   rcases kind with ⟨k1,k⟩|⟨k1,k⟩
   ·rw[atj,k]at q;cases q
   ·exact S.pq i c k1
  ·rw[ne i hi]at q;exact S.pq i e q
end
end L3
namespace L4
open PySem PySem.Spec PyProof.Rows L2 L3
variable {F H F' H':Hp}{X:Cx}{K:Fg}{ρ:En}{G:Gh}{Z:L2.St}{i n j kk:Nat}{S α:Type}{vs:List V}{x qual y:Str}{e tg b:Expr}{r:R2}{es:List Expr}{v:V}{pos p pos':Pos}{c:OC}{Q:VK}{a C f L:Addr}{A:Around}{E:XK}{ex:Option Addr}{base:Heap}{outer:List Env}{P:Program}{w:World}{op:CmpOp}{R:It->Hp->Prop}{env:Env}{N:List Str}{scope:Scope}{T:String}{st:Stmt}
def uu(h:Heap)(e b:Addr):Prop:=∃oe vs,h.get? e=some oe/\oe.data=.fields vs/\vs[1]? = some (.ref b)
structure Ent(fs:List Addr)(h h':Heap)(e T:Addr)(oe:Obj)(ts:Array Value):Prop where
 keep:∀b o,h.get? b=some o->b∉fs->b≠e->h'.get? b=some o
 slot:∀b o,h.get? b=some o->b≠e->∃sl,h'.get? b=some { o with slots:=sl }
 new:h.objs.size<=T
 exc:h'.get? e=some (oe.mapFields (·.setIfInBounds 1 (.ref T)))
 way:∃oT,h'.get? T=some oT/\oT.data=.fields ts
section
variable {M:Model} {E:zzj} {s:Shared} {e:Addr} {oe:Obj} {vs:Array Value}
theorem oj{top:Value}{nx:Bool}{Q:Unit->Shared->Prop}(hA:A.frames=some (env::outer))(hF:s.heap.FunFrames base (env::outer))(hL:env.frame=some L)
  (he:s.heap.get? e=some oe) (hd:oe.data=.fields vs) (hz:1<vs.size)
  (k:∀h' T ts,Ent (frs (env::outer)) s.heap h' e T oe ts->3<ts.size->ts[3]? = some (rawInt L)->Q () { s with heap:=h' }) :
  wpAny M A (do let a <-frameOf env;let pl <-entryPlaceOf L nx;let b <-EntryCells.newEntry top a .none (rawInt L) .none pl;setField (.ref e) 1 b) Q E s:=by
 have ne:e∉frs (env::outer):=λz=>by
  obtain⟨_,o,q,r⟩:=hF.mem z
  rw[he]at q;cases q
  exact r vs hd
 refine zza (wpAny_frameOf_fun hA hF hL λh1 so=>zza (wpAny_entryPlaceOf λpl ip=>?_))
 simp only[EntryCells.newEntry,newFields]
 refine zza (sd ?_ (ip.sizeOk5 _ _ _ _ _))
 generalize hts:([top,.ref L,.none,rawInt L,.none]++(if pl.isEmpty then List.replicate 6 Value.none else pl)).toArray=ts
 have z3:3<ts.size:=by
  rw[<-hts,ay,zzf]
  simp only[eh,fi]
  lia
 have g3:ts[3]? = some (rawInt L):=by rw[<-hts];simp
 generalize htb:({ cls:=.type "traceback",dict:=none,data:=.fields ts }:Obj)=tb
 have fr:tb.isFreed=false:=by rw[<-htb];rfl
 have e1:h1.get? e=some oe:=by rw[so.2.1 e ne];exact he
 have lt:e<h1.objs.size:=am e1
 refine Kl (zzc tb e1) hd hz ?_
 have hd':=io hd (·.setIfInBounds 1 (Value.ref h1.objs.size))
 have up:∀b,b≠e->((h1.push tb).update e (Obj.mapFields (·.setIfInBounds 1 (.ref h1.objs.size)))).get? b=(h1.push tb).get? b:=λb hb=>Kx _ _ (Ne.symm hb)
 refine k _ h1.objs.size ts ⟨λb o q nf nb=>?_,λb o q nb=>?_,by rw[so.1];exact ai _,?_,⟨tb,?_,?_⟩⟩ z3 g3
 ·exact(up b nb).trans (zzc _ ((so.2.1 b nf).trans q))
 ·obtain⟨sl,q'⟩:=so.2.2 b o q
  exact⟨sl,(up b nb).trans (zzc _ q')⟩
 ·exact lu _ (zzc tb e1) (ye hd')
 ·exact(up _ (li lt)).trans (zze h1 fr)
 ·rw[<-htb]
end
structure XS(H:Hp)(h:Heap)(lo:Nat)(e C:Addr)(dd:Option Addr):Prop where
 yg:lo<=e
 trk:H e=some (.ext (XO e C dd))
 obj:∃oe vs,h.get? e=some oe/\oe.cls=.ref C/\oe.dict=dd/\oe.data=.fields vs/\1<vs.size /\
  (vs[1]? = some .none\/∃T oT ts,vs[1]? = some (.ref T)/\T≠e/\lo<=T/\H T=none/\h.get? T=some oT/\oT.data=.fields ts/\ts[3]? = some .none)
structure Mv(fs:List Addr)(h h':Heap)(e:Addr):Prop where
 keep:∀b o,h.get? b=some o->b∉fs->b≠e->¬ uu h e b->h'.get? b=some o
 slot:∀b o,h.get? b=some o->b≠e->¬ uu h e b->∃sl,h'.get? b=some { o with slots:=sl }
 there:∀b o,h.get? b=some o->∃o',h'.get? b=some o'
theorem w4(f:Array Value->Array Value)(o:Obj):(o.mapFields f).dict=o.dict:=by
 obtain⟨c,d,dt,sl⟩:=o
 cases dt<;>rfl
theorem Ic:¬ ((Value.none==rawInt L)=true):=by simp[rawInt]
section
variable {M:Model} {E:zzj} {s:Shared} {e:Addr} {dd:Option Addr} {lo:Nat}
theorem nY{oe:Obj}{vs:Array Value}{h0:Heap}{T:Addr}{ts:Array Value}{Q:Unit->Shared->Prop}(en:Ent (frs (env::outer)) h0 s.heap e T oe ts)(hd:oe.data=.fields vs)(hz:1<vs.size)(z3:3<ts.size)(hh:e<h0.objs.size)
  (k:∀h',(∀b,b≠T->h'.get? b=s.heap.get? b)->(∃oT tz,h'.get? T=some oT/\oT.data=.fields tz/\tz[3]? = some .none)->Q () { s with heap:=h' }):wpAny M A (setFlight (.ref e) none) Q E s:=by
 obtain⟨oT,q1,q2⟩:=en.way
 have d':=io hd (·.setIfInBounds 1 (Value.ref T))
 simp only[setFlight]
 refine zza (pI en.exc d' (x:=.ref T) (by simp[hz]) ?_)
 rw[ar (by simp)]
 refine Kl q1 q2 z3 (k _ (λb hb=>Kx _ _ (Ne.symm hb)) ⟨_,_,lu _ q1 (ye (io q2 _)),io q2 _,by simp[z3]⟩)
theorem Ax{Q:Unit->Shared->Prop}(hA:A.frames=some (env::outer))(hF:s.heap.FunFrames base (env::outer))(hL:env.frame=some L)(hk:HOk P w H s.heap)(xs:XS H s.heap lo e C dd)
  (k:∀h',Mv (frs (env::outer)) s.heap h' e->XS H h' lo e C dd->(∀b,uu h' e b->s.heap.objs.size<=b)->Q () { s with heap:=h' }) :
  wpAny M A (noteFrame (.ref e) env) (λ_ s2=>wpAny M A (setFlight (.ref e) none) Q E s2) E s:=by
 obtain⟨oe,vs,he,hc,hdd,hd,hz,tb⟩:=xs.obj
 have elt:e<s.heap.objs.size:=am he
 have hlo:lo<=s.heap.objs.size:=ce xs.yg (Kw elt)
 simp only[noteFrame,hL]
 rcases tb with tb|⟨T,oT,ts,tb,hTe,hTl,hTn,hT,hTd,t3⟩
 ·refine zza (pI he hd tb ?_)
  rw[au (by decide)]
  refine oj hA hF hL he hd hz λh1 T1 t1 en z3 g3=>?_
  refine nY (s:={ s with heap:=h1 }) en hd hz z3 elt λh2 same way=>?_
  have nT:∀b o,s.heap.get? b=some o->b≠T1:=λb o q=>bi (bo (am q) en.new)
  have d1:=io hd (·.setIfInBounds 1 (Value.ref T1))
  refine k h2 ⟨λb o q nf nb _=>?_,λb o q nb _=>?_,λb o q=>?_⟩ ⟨xs.yg,xs.trk,_,_,?_,?_,?_,d1,by simpa using hz,.inr ?_⟩ ?_
  ·rw[same b (nT b o q)];exact en.keep b o q nf nb
  ·obtain⟨sl,z⟩:=en.slot b o q nb
   exact⟨sl,by rw[same b (nT b o q)];exact z⟩
  ·by_cases nb:b=e
   ·subst nb;exact⟨_,by rw[same _ (nT _ o q)];exact en.exc⟩
   ·obtain⟨sl,z⟩:=en.slot b o q nb
    exact⟨_,by rw[same b (nT b o q)];exact z⟩
  ·rw[same e (nT e _ he)];exact en.exc
  ·rw[KG];exact hc
  ·rw[w4];exact hdd
  ·obtain⟨o1,tz,w1,w2,w3⟩:=way
   exact⟨T1,o1,tz,by simp[hz],λz=>nT e _ he z.symm,ce hlo en.new,hk.fresh en.new,w1,w2,w3⟩
  ·intro b ⟨oe',vs',g1,g2,g3⟩
   rw[same e (nT e _ he),en.exc]at g1
   cases g1
   rw[d1]at g2
   cases g2
   have:Value.ref T1=Value.ref b:=by simpa[hz]using g3
   injection this with this
   rw[<-this]
   exact en.new
 ·refine zza (pI he hd tb ?_)
  rw[ar (by simp)]
  refine zza (pI hT hTd t3 ?_)
  rw[au Ic]
  have z3':3<ts.size:=(Array.getElem?_eq_some_iff.mp t3).1
  refine zza (Kl hT hTd z3' ?_)
  have off:∀b,b≠T->(s.heap.update T (Obj.mapFields (·.setIfInBounds 3 Value.none))).get? b=s.heap.get? b:=λb hb=>Kx _ _ (Ne.symm hb)
  have hF':(s.heap.update T (Obj.mapFields (·.setIfInBounds 3 Value.none))).FunFrames base (env::outer):=hF.of_keeps λb o q r=>⟨o,(off b λz=>by subst z;rw[hT]at q;cases q;exact r ts hTd).trans q,rfl⟩
  have he':(s.heap.update T (Obj.mapFields (·.setIfInBounds 3 Value.none))).get? e=some oe:=(off e (Ne.symm hTe)).trans he
  have zz:(s.heap.update T (Obj.mapFields (·.setIfInBounds 3 Value.none))).objs.size=s.heap.objs.size:=Ba ..
  refine oj (s:={ s with heap:=s.heap.update T (Obj.mapFields (·.setIfInBounds 3 Value.none)) }) hA hF' hL he' hd hz λh1 T1 t1 en z3 g3=>?_
  refine nY (s:={ s with heap:=h1 }) en hd hz z3 (by rw[zz];exact elt) λh2 same way=>?_
  have nw:s.heap.objs.size<=T1:=by have:=en.new;rw[zz]at this;exact this
  have nT:∀b o,s.heap.get? b=some o->b≠T1:=λb o q=>bi (bo (am q) nw)
  have isT:uu s.heap e T:=⟨oe,vs,he,hd,tb⟩
  have nTT:∀b,¬ uu s.heap e b->b≠T:=λb z q=>z (q▸isT)
  have d1:=io hd (·.setIfInBounds 1 (Value.ref T1))
  have T0:(s.heap.update T (Obj.mapFields (·.setIfInBounds 3 Value.none))).get? T=some (oT.mapFields (·.setIfInBounds 3 Value.none)):=lu _ hT (ye (io hTd _))
  refine k h2 ⟨λb o q nf nb nt=>?_,λb o q nb nt=>?_,λb o q=>?_⟩ ⟨xs.yg,xs.trk,_,_,?_,?_,?_,d1,by simpa using hz,.inr ?_⟩ ?_
  ·rw[same b (nT b o q)];exact en.keep b o ((off b (nTT b nt)).trans q) nf nb
  ·obtain⟨sl,z⟩:=en.slot b o ((off b (nTT b nt)).trans q) nb
   exact⟨sl,by rw[same b (nT b o q)];exact z⟩
  ·by_cases nb:b=e
   ·subst nb;exact⟨_,by rw[same _ (nT _ o q)];exact en.exc⟩
   ·by_cases nt:b=T
    ·subst nt
     obtain⟨sl,z⟩:=en.slot b _ T0 nb
     exact⟨_,by rw[same b (nT b o q)];exact z⟩
    ·obtain⟨sl,z⟩:=en.slot b o ((off b nt).trans q) nb
     exact⟨_,by rw[same b (nT b o q)];exact z⟩
  ·rw[same e (nT e _ he)];exact en.exc
  ·rw[KG];exact hc
  ·rw[w4];exact hdd
  ·obtain⟨o1,tz,w1,w2,w3⟩:=way
   exact⟨T1,o1,tz,by simp[hz],λz=>nT e _ he z.symm,ce hlo nw,hk.fresh nw,w1,w2,w3⟩
  ·intro b ⟨oe',vs',g1,g2,g3⟩
   rw[same e (nT e _ he),en.exc]at g1
   cases g1
   rw[d1]at g2
   cases g2
   have:Value.ref T1=Value.ref b:=by simpa[hz]using g3
   injection this with this
   rw[<-this]
   exact nw
theorem vf{Q:Unit->Shared->Prop}(hA:A.frames=some (env::outer))(hF:s.heap.FunFrames base (env::outer))(hL:env.frame=some L)(hk:HOk P w H s.heap)(xs:XS H s.heap lo e C dd)
  (k:∀h',Mv (frs (env::outer)) s.heap h' e->XS H h' lo e C dd->Q () { s with heap:=h' }):wpAny M A (leaving env (.ref e)) Q E s:=by
 unfold leaving
 exact zza (Ax hA hF hL hk xs λh' m x _=>k h' m x)
end
section
variable {fs:List Addr} {h h':Heap} {e:Addr} {dd:Option Addr} {lo:Nat}
theorem XO.ok(x:XO e C dd h):ObjOk P w H' h e (.ext (XO e C dd)):=by
 obtain⟨oe,q,r⟩:=x
 exact⟨⟨oe,q,r⟩,⟨oe,q⟩,λh1 h2 ⟨o,z,r⟩ k=>⟨o,k o z,r⟩⟩
theorem XS.xo(xs:XS H h lo e C dd):XO e C dd h:=by
 obtain⟨oe,vs,q,c,d,z,_⟩:=xs.obj
 exact⟨oe,q,c,d,by unfold PySem.W.notCls;rw[z]⟩
theorem XS.tb(xs:XS H h lo e C dd){b:Addr}(t:uu h e b):H b=none/\lo<=b/\b≠e/\∃oT ts,h.get? b=some oT/\oT.data=.fields ts:=by
 obtain⟨oe,vs,q,c,d,z,_,k⟩:=xs.obj
 obtain⟨oe',vs',q',z',k'⟩:=t
 rw[q]at q';cases q'
 rw[z]at z';cases z'
 rcases k with k|⟨T,oT,ts,k,ne,l,n,g,gd,_⟩
 ·rw[k]at k';cases k'
 ·rw[k]at k'
  cases k'
  exact⟨n,l,ne,oT,ts,g,gd⟩
theorem Mv.hok(m:Mv fs h h' e)(ok:HOk P w H h)(xs:XS H h lo e C dd)(xs':XS H h' lo e C dd)(hf:∀b∈fs,H b=none):HOk P w H h':=λa o q=>by
 by_cases ae:a=e
 ·subst ae
  rw[xs.trk]at q;cases q
  exact xs'.xo.ok
 ·refine(ok a o q).stay (λb u hb z=>?_) (λ_ z=>z) λ_ _ z=>z
  have hbH:∃v,H b=some v:=by
   rcases hb with rfl|hb
   ·exact⟨o,q⟩
   ·exact⟨_,hb⟩
  obtain⟨v,hv⟩:=hbH
  refine m.keep b u z (λy=>by rw[hf b y]at hv;cases hv) (λy=>?_) λy=>by rw[(xs.tb y).1]at hv;cases hv
  subst y
  rcases hb with rfl|hb
  ·exact ae rfl
  ·rw[xs.trk]at hb;cases hb
end
def CX1(P:Program)(w:World):CXT:=λouter H s E e s'=>∃a C dd H',e=.ref a/\s'.os=s.os/\AllBare s'.gens/\Un (frs outer) [] H H' s.heap s'.heap/\HOk P w H' s'.heap/\XS H' s'.heap s.heap.objs.size a C dd/\E (.ref C) dd H'
theorem C3{mg:zzl}{cd:Value}{s:Shared}
  {pins:zzk} {Z:L2.St} {H':Hp} {s':Shared} {a C:Addr} {dd:Option Addr} (I:Inv (mh (CX1 P w) P w K mg base N qual scope f cd A outer s H E) pins Z H' s') (xs:XS H' s'.heap s.heap.objs.size a C dd) (hE:E (.ref C) dd H') :
  (mh (CX1 P w) P w K mg base N qual scope f cd A outer s H E).xe (.ref a) s':=by
 have hF:=I.stack
 have hS:=I.stkFree
 refine vf (base:=base) (L:=s.heap.objs.size) (P:=P) (w:=w) (s:=s') I.ok.frames hF rfl I.hok xs λh1 m xs1=>?_
 have un:Un (frs outer) [] H H' s.heap s'.heap:=I.base
 have lt:∀b o,s.heap.get? b=some o->b<s.heap.objs.size:=λb o q=>am q
 have ne:∀b o,s.heap.get? b=some o->b≠a:=λb o q=>bi (bo (lt b o q) xs.yg)
 have nt:∀b o,s.heap.get? b=some o->¬ uu s'.heap a b:=λb o q z=>absurd (bo (lt b o q) (xs.tb z).2.1) (ug _)
 refine⟨a,C,dd,H',rfl,I.os,I.bare,⟨λb o q n hb hx=>?_,λb o q n hb hx=>?_,un.free,λb o q hx=>?_,un.tups,un.frzs,un.tbls⟩,m.hok I.hok xs xs1 hS,xs1,hE⟩
 ·refine m.keep b o (un.keep b o q n hb hx) (λz=>?_) (ne b o q) (nt b o q)
  rcases List.mem_cons.mp (I.stkSub b z)with y|y
  ·exact absurd (lt b o q) (by rw[y];exact ug _)
  ·exact hb y
 ·obtain⟨sl,z⟩:=un.slot b o q n hb hx
  obtain⟨sl',z'⟩:=m.slot b _ z (ne b o q) (nt b o q)
  exact⟨sl',z'⟩
 ·obtain⟨o',z⟩:=un.there b o q hx
  exact m.there b o' z
structure Ex where
 cls:Str
 fs:List (Str×D)
inductive M(S:Type) where
 | ret (s:S)
 | exc (x:Ex)
 | bad
def M.on{S T:Type}(m:M S)(x:Ex->M T)(k:S->M T):M T:=match m with
 | .ret s=>k s
 | .exc e=>x e
 | .bad=>.bad
def bd{S T:Type}(m:M S)(k:S->M T):M T:=m.on .exc k
def oM{S:Type}(o:Option S):M S:=match o with
 | some s=>.ret s
 | none=>.bad
section
variable {T U:Type}
@[simp] theorem FI(s:S)(x:Ex->M T)(k:S->M T):(M.ret s).on x k=k s:=rfl
@[simp] theorem dO(s:S)(k:S->M T):bd (.ret s) k=k s:=rfl
end
abbrev Pu(α:Type):=En->M α
def XR(K:Fg)(F:Hp)(C:Addr)(dd:Option Addr)(x:Ex):Prop:=XQ K C x.cls /\
 ∃fv,FX F dd fv/\Paired (λ(p:Str×V) (q:Str×D)=>p.1=q.1/\Rep K F p.2 q.2) fv x.fs
structure FzOk(K:Fg)(F:Hp)(Z:L2.St)(ρ:En):Prop where
 ln:Z.length=ρ.length
 fz:∀(i:Nat) (d:D),ρ[i]? = some (some (AV.fz d))->∃v,Z[i]? = some (some v)/\Rep K F v d
theorem _root_.L3.StOk.fzok(S:StOk K G F Z H ρ)(s:Same F F'):FzOk K F' Z ρ:=⟨S.ln,λi d q=>by
 obtain⟨v,e,r⟩:=S.fz i d q
 exact⟨v,e,r.mono s⟩⟩
structure GOk(G:Gh)(F H:Hp):Prop where
 fh:Same F H
 oh:Same G.O H
 fo:∀b o,G.O b=some o->F b=none/\DS o
 fb:Same G.B F
def XW(X:Cx)(G:Gh)(F:Hp)(ρ:En)(x:Ex):Prop:=∀F' H' s' a C dd pins Z,GOk G F' H'->FzOk X.K F' Z ρ->Inv X pins Z H' s'->XS H' s'.heap X.s₀.heap.objs.size a C dd->(∀p∈X.pn++pins,¬ uu s'.heap a p.1)->XR X.K F' C dd x->X.xe (.ref a) s'
theorem XW.mono{x:Ex}(s:Same F F')(h:XW X G F ρ x):XW X G F' ρ x:=h
def W(X:Cx)(G:Gh)(F:Hp)(Z:L2.St)(ρ:En){α:Type}(m:M α)(C:α->Hp->Hp->Prop):Prop:=match m with
 | .ret a=>∀F' H',Same F F'->StOk X.K G F' Z H' ρ->C a F' H'
 | .exc x=>XW X G F ρ x
 | .bad=>False
section
variable {β:Type} {m:M α} {k:α->M β} {C C':α->Hp->Hp->Prop}
theorem W.up{C:β->Hp->Hp->Prop}{m:M β}(s:Same F F')(h:W X G F Z ρ m C):W X G F' Z ρ m C:=by
 cases m with
 | ret a=>exact λF2 H2 s2 S2=>h F2 H2 (s.trans s2) S2
 | exc x=>exact XW.mono (X:=X) (G:=G) (ρ:=ρ) (x:=x) s h
 | bad=>exact h
theorem W.bind{C:β->Hp->Hp->Prop}(h:W X G F Z ρ (bd m k) C):W X G F Z ρ m λa F' H'=>W X G F' Z ρ (k a) C:=by
 cases m with
 | ret a=>exact λF2 H2 s2 S2=>W.up s2 h
 | exc x=>exact h
 | bad=>exact h
theorem W.imp(h:W X G F Z ρ m C)(w:∀a F' H',Same F F'->StOk X.K G F' Z H' ρ->C a F' H'->C' a F' H'):W X G F Z ρ m C':=by
 cases m with
 | ret a=>exact λF2 H2 s2 S2=>w a F2 H2 s2 S2 (h F2 H2 s2 S2)
 | exc x=>exact h
 | bad=>exact h
theorem W.opt{o:Option α}(h:W X G F Z ρ (oM o) C):∃a,o=some a/\∀F' H',Same F F'->StOk X.K G F' Z H' ρ->C a F' H':=by
 cases o with
 | none=>exact h.elim
 | some a=>exact⟨a,rfl,h⟩
end
@[irreducible] def fQ(X:Cx)(e:Expr):TE:=λZ H Q=>∀(pins:zzk) (s:Shared),Inv X pins Z H s->wpAny (model X.prog X.w) X.A (eval e X.env) (EP X pins Z Q) X.xe s
@[irreducible] def pQ(X:Cx)(e:Expr):TT:=λZ H Q=>∀(pins:zzk) (s:Shared),Inv X pins Z H s->wpAny (model X.prog X.w) X.A (isTrue e X.env (eval e X.env)) (TP X pins Z Q) X.xe s
@[irreducible] def pP(X:Cx)(e:Expr):TT:=λZ H Q=>∀(whole:Sem Value) (pins:zzk) (s:Shared),Inv X pins Z H s->wpAny (model X.prog X.w) X.A (isTrue e X.env whole) (TP X pins Z Q) X.xe s
@[irreducible] def hJ(X:Cx)(es:List Expr):TA:=λZ H Q=>∀(pos:Pos) (pins:zzk) (s:Shared),Inv X pins Z H s->wpAny (model X.prog X.w) X.A (spliced (backTo pos (starEach es X.env))) (AP X pins Z Q) X.xe s
section
theorem aN:PE X e (fQ X e):=λpins s Z H Q I h=>by unfold fQ at h;exact h pins s I
theorem dG:PT X e (pQ X e):=λpins s Z H Q I h=>by unfold pQ at h;exact h pins s I
theorem kM:PW X e (pP X e):=λwh pins s Z H Q I h=>by unfold pP at h;exact h wh pins s I
theorem bK:PA X es (hJ X es):=λpos pins s Z H Q I h=>by unfold hJ at h;exact h pos pins s I
theorem sem{t:TE}(h:PE X e t)(q:t Z H Q):fQ X e Z H Q:=by unfold fQ;exact λpins s I=>h pins s Z H Q I q
theorem zu{t:TT}{Q:Bool->Hp->Prop}(h:PT X e t)(q:t Z H Q):pQ X e Z H Q:=by unfold pQ;exact λpins s I=>h pins s Z H Q I q
theorem sI{t:TT}{Q:Bool->Hp->Prop}(h:PW X e t)(q:t Z H Q):pP X e Z H Q:=by unfold pP;exact λwh pins s I=>h wh pins s Z H Q I q
theorem uM{t:TA}{Q:List V->Hp->Prop}(h:PA X es t)(q:t Z H Q):hJ X es Z H Q:=by unfold hJ;exact λpos pins s I=>h pos pins s Z H Q I q
end
def im(ρ:En)(i:Nat):Option (List D):=match ρ[i]? with
 | some (some (.ol (.l ds)))=>some ds
 | some (some (.op (.l ds)))=>some ds
 | _=>none
theorem jN{ds:List D}(h:im ρ i=some ds):own ρ i (.l ds):=by
 unfold im at h
 split at h
 ·rename_i q;cases h;exact .inl q
 ·rename_i q;cases h;exact .inr q
 ·cases h
def VO(K:Fg)(F:Hp)(Z:L2.St)(ρ:En)(v:V)(d:D):Prop:=Rep K F v d\/∃i c,own ρ i c/\Z[i]? = some (some v)/\d=c.d/\c.isI=false
inductive VOs(K:Fg)(F:Hp)(Z:L2.St)(ρ:En):List V->List D->Prop
 | nil:VOs K F Z ρ [] []
 | cons {v d vs ds}:VO K F Z ρ v d->VOs K F Z ρ vs ds->VOs K F Z ρ (v::vs) (d::ds)
theorem VO.mono{d:D}(s:Same F F')(h:VO K F Z ρ v d):VO K F' Z ρ v d:=h.imp (Rep.mono s) id
def OR(K:Fg)(F H:Hp)(v:V)(d:D):Prop:=Rep K F v d\/∃a c,v=.ref a/\d=c.d/\Held K F H a c/\c.isI=false
inductive ORs(K:Fg)(F H:Hp):List V->List D->Prop
 | nil:ORs K F H [] []
 | cons {v d vs ds}:OR K F H v d->ORs K F H vs ds->ORs K F H (v::vs) (d::ds)
theorem VO.or{d:D}(S:StOk K G F Z H ρ)(h:VO K F Z ρ v d):OR K F H v d:=by
 rcases h with h|⟨i,c,ho,hv,rfl,hI⟩
 ·exact .inl h
 ·obtain⟨a,e1,oa⟩:=S.ow i _ ho
  rw[hv]at e1
  injection e1 with e1;injection e1 with e1
  exact .inr ⟨a,c,e1,rfl,oa.he,hI⟩
theorem VOs.ors(S:StOk K G F Z H ρ):∀{vs ds},VOs K F Z ρ vs ds->ORs K F H vs ds
 | _,_,.nil=>.nil
 | _,_,.cons h t=>.cons (h.or S) (t.ors S)
section
variable {ds:List D}
theorem OR.rep{d:D}(s:Same F H)(h:OR K F H v d):Rep K H v d:=by
 rcases h with h|⟨a,c,rfl,rfl,h1,hI⟩
 ·exact h.mono s
 ·obtain⟨o,e,r⟩:=wQ hI h1;exact r H s e
theorem OR.list(s:Same F H)(h:OR K F H v (.list ds)):∃a vs,v=.ref a/\SqL K H a vs/\RepL K F vs ds:=by
 rcases h with h|⟨a,c,e,e2,h1,hI⟩
 ·obtain⟨a,vs,e,h1,h2⟩:=h.lst_inv
  exact⟨a,vs,e,s.seq h1,h2⟩
 ·cases c<;>cases e2
  obtain⟨vs,h1,h2⟩:=h1
  exact⟨a,vs,e,.inl (.inl h1),h2⟩
theorem OR.tuple(s:Same F H)(h:OR K F H v (.tuple ds)):∃a vs,v=.ref a/\SqT K H a vs/\RepL K F vs ds:=by
 rcases h with h|⟨a,c,e,e2,h1,hI⟩
 ·obtain⟨a,vs,e,h1,h2⟩:=h.tup_inv
  exact⟨a,vs,e,SqT.of (s _ _ h1),h2⟩
 ·cases c<;>cases e2
theorem OR.tup'(h:OR K F H v (.tuple ds)):Rep K F v (.tuple ds):=by
 rcases h with h|⟨a,c,e,e2,h1,hI⟩
 ·exact h
 ·cases c<;>cases e2
theorem OR.int{i:Int}(h:OR K F H v (.int i)):v=.int i:=by
 rcases h with h|⟨a,c,e,e2,h1,hI⟩
 ·exact h.inv
 ·cases c<;>cases e2
theorem OR.bool{i:Bool}(h:OR K F H v (.bool i)):v=.bl i:=by
 rcases h with h|⟨a,c,e,e2,h1,hI⟩
 ·exact h.inv
 ·cases c<;>cases e2
theorem OR.str{i:Str}(h:OR K F H v (.str i)):v=.str i:=by
 rcases h with h|⟨a,c,e,e2,h1,hI⟩
 ·exact h.inv
 ·cases c<;>cases e2
theorem OR.none(h:OR K F H v .none):v=.non:=by
 rcases h with h|⟨a,c,e,e2,h1,hI⟩
 ·exact h.inv
 ·cases c with
  | i _ _ _=>cases hI
  | n _=>cases hI
  | _=>cases e2
theorem bn{d:D}{ds:List D}(h:ORs K F H vs (d::ds)):∃v r,vs=v::r/\OR K F H v d/\ORs K F H r ds:=by
 cases h with|cons a b=>exact⟨_,_,rfl,a,b⟩
theorem bF(h:ORs K F H vs []):vs=[]:=by cases h;rfl
end
def AP(X:Cx)(e:Expr)(p:Pu D):Prop :=
 ∀(G:Gh) (F:Hp) (Z:L2.St) (H:Hp) (ρ:En) (Q:VK),StOk X.K G F Z H ρ->W X G F Z ρ (p ρ) (λd F' H'=>∀v,Rep X.K F' v d->Q v H')->fQ X e Z H Q
def AO(X:Cx)(e:Expr)(p:Pu D):Prop :=
 ∀(G:Gh) (F:Hp) (Z:L2.St) (H:Hp) (ρ:En) (Q:VK),StOk X.K G F Z H ρ->W X G F Z ρ (p ρ) (λd F' H'=>∀v,VO X.K F' Z ρ v d->Q v H')->fQ X e Z H Q
def AT(X:Cx)(e:Expr)(p:Pu Bool):Prop :=
 ∀(G:Gh) (F:Hp) (Z:L2.St) (H:Hp) (ρ:En) (Q:Bool->Hp->Prop),StOk X.K G F Z H ρ->W X G F Z ρ (p ρ) (λd F' H'=>Q d H')->pQ X e Z H Q
def AW(X:Cx)(e:Expr)(p:Pu Bool):Prop :=
 ∀(G:Gh) (F:Hp) (Z:L2.St) (H:Hp) (ρ:En) (Q:Bool->Hp->Prop),StOk X.K G F Z H ρ->W X G F Z ρ (p ρ) (λd F' H'=>Q d H')->pP X e Z H Q
def AB(X:Cx)(e:Expr)(p:Pu Bool):Prop :=
 ∀(G:Gh) (F:Hp) (Z:L2.St) (H:Hp) (ρ:En) (Q:VK),StOk X.K G F Z H ρ->W X G F Z ρ (p ρ) (λd F' H'=>Q (.bl d) H')->fQ X e Z H Q
def AA{α:Type}(X:Cx)(es:List Expr)(m:(List D->M α)->En->M α):Prop :=
 ∀(G:Gh) (F:Hp) (Z:L2.St) (H:Hp) (ρ:En) (Q:List V->Hp->Prop) (k:List D->M α) (C:α->Hp->Hp->Prop),StOk X.K G F Z H ρ->W X G F Z ρ (m k ρ) C ->
  (∀ds vs F' H',Same F F'->StOk X.K G F' Z H' ρ->vs.length=es.length->RepL X.K F' vs ds->W X G F' Z ρ (k ds) C->Q vs H')->hJ X es Z H Q
def AAo{α:Type}(X:Cx)(es:List Expr)(m:(List D->M α)->En->M α):Prop :=
 ∀(G:Gh) (F:Hp) (Z:L2.St) (H:Hp) (ρ:En) (Q:List V->Hp->Prop) (k:List D->M α) (C:α->Hp->Hp->Prop),StOk X.K G F Z H ρ->W X G F Z ρ (m k ρ) C ->
  (∀ds vs F' H',Same F F'->StOk X.K G F' Z H' ρ->VOs X.K F' Z ρ vs ds->W X G F' Z ρ (k ds) C->Q vs H')->hJ X es Z H Q
def Frs(K:Fg)(G:Gh)(F:Hp)(Z:L2.St)(H:Hp)(ρ:En)(v:V)(c:OC):Prop:=∃a,v=.ref a/\OwnAt K G F H a c/\∀(i:Nat) (e:OC),own ρ i e->Z[i]? ≠ some (some (V.ref a))
def AL(X:Cx)(e:Expr)(p:Pu (List D)):Prop :=
 ∀(G:Gh) (F:Hp) (Z:L2.St) (H:Hp) (ρ:En) (Q:VK),StOk X.K G F Z H ρ->W X G F Z ρ (p ρ) (λds F' H'=>∀v,Frs X.K G F' Z H' ρ v (.l ds)->Q v H')->fQ X e Z H Q
def HM(i:Nat):Pu D:=λρ=>match ρ[i]? with
 | some (some (.fz d))=>.ret d
 | _=>.bad
def GD(c:OC):M D:=match c with
 | .i _ _ _=>.bad
 | .n _=>.bad
 | c=>.ret c.d
def Ep(i:Nat):Pu D:=λρ=>match ρ[i]? with
 | some (some (.ol c))=>GD c
 | some (some (.op c))=>GD c
 | _=>.bad
def CC(d:D):Pu D:=λ_=>.ret d
def HR(f:D->D->Option D)(a b:Pu D):Pu D:=λρ=>bd (a ρ) λx=>bd (b ρ) λy=>oM (f x y)
def Eu(f:D->D->Option Bool)(a b:Pu D):Pu Bool:=λρ=>bd (a ρ) λx=>bd (b ρ) λy=>oM (f x y)
abbrev Pa(α:Type):=(List D->M α)->En->M α
def HP{α:Type}:Pa α:=λk _=>k []
def Es{α:Type}(a:Pu D)(r:Pa α):Pa α:=λk ρ=>bd (a ρ) λx=>r (λxs=>k (x::xs)) ρ
def cC{S:Type}(ds:List S):M (List S):=if ds.length<=sizeLine then .ret ds else .bad
def Jy(ps:Pa D):Pu D:=λρ=>ps (λds=>.ret (.tuple ds)) ρ
def JB(ps:Pa (List D)):Pu (List D):=λρ=>ps (λds=>.ret ds) ρ
theorem rD(h:n<=1000):n<=sizeLine:=ce h (by decide)
def Et(f:List D->Option D)(ps:Pa D):Pu D:=λρ=>ps (λds=>oM (f ds)) ρ
def ii(f:List D->Option (List D))(ps:Pa (List D)):Pu (List D):=λρ=>ps (λds=>oM (f ds)) ρ
def pB(p:Pu Bool):Pu D:=λρ=>bd (p ρ) λb=>.ret (.bool b)
def pZ(p:Pu (List D)):Pu D:=λρ=>bd (p ρ) λds=>.ret (.list ds)
def zp:D->Option Bool
 | .none=>some false
 | .bool b=>some b
 | .int i=>some (i != 0)
 | .str x=>if x.length<=sizeLine then some ((x.length:Int) != 0)else none
 | .list ds=>some (!ds.isEmpty)
 | .tuple ds=>some (!ds.isEmpty)
 | .dict _=>none
def Jz(p:Pu D):Pu Bool:=λρ=>bd (p ρ) λd=>oM (zp d)
def JF(a b:Pu Bool):Pu Bool:=λρ=>bd (a ρ) λt=>if t then b ρ else .ret false
def pOr(a b:Pu Bool):Pu Bool:=λρ=>bd (a ρ) λt=>if t then .ret true else b ρ
def pIf{α:Type}(c:Pu Bool)(a b:Pu α):Pu α:=λρ=>bd (c ρ) λt=>if t then a ρ else b ρ
def OpD(K:Fg)(r:R2)(f:D->D->Option D):Prop :=
 ∀(G:Gh) (F:Hp) (Z:L2.St) (H:Hp) (ρ:En) (x y:V) (dx dy:D) (res:D) (Q:VK),StOk K G F Z H ρ->OR K F H x dx->OR K F H y dy->f dx dy=some res ->
  (∀v F' H',Same F F'->StOk K G F' Z H' ρ->Rep K F' v res->Q v H')->r x y H Q
def OpB(K:Fg)(r:R2)(f:D->D->Option Bool):Prop :=
 ∀(G:Gh) (F:Hp) (Z:L2.St) (H:Hp) (ρ:En) (x y:V) (dx dy:D) (res:Bool) (Q:VK),StOk K G F Z H ρ->OR K F H x dx->OR K F H y dy->f dx dy=some res->Q (.bl res) H->r x y H Q
def iM(K:Fg)(r:List V->Hp->VK->Prop)(f:List D->Option D):Prop :=
 ∀(G:Gh) (F:Hp) (Z:L2.St) (H:Hp) (ρ:En) (xs:List V) (ds:List D) (res:D) (Q:VK),StOk K G F Z H ρ->ORs K F H xs ds->f ds=some res ->
  (∀v F' H',Same F F'->StOk K G F' Z H' ρ->Rep K F' v res->Q v H')->r xs H Q
def qM(K:Fg)(r:List V->Hp->VK->Prop)(f:List D->Option (List D)):Prop :=
 ∀(G:Gh) (F:Hp) (Z:L2.St) (H:Hp) (ρ:En) (xs:List V) (ds:List D) (res:List D) (Q:VK),StOk K G F Z H ρ->ORs K F H xs ds->f ds=some res ->
  (∀v F' H',Same F F'->StOk K G F' Z H' ρ->Frs K G F' Z H' ρ v (.l res)->Q v H')->r xs H Q
def isStar:Expr->Bool
 | .Starred _ _=>true
 | _=>false
theorem qO:∀{e:Expr} {es:List Expr},isStar e=false->starEach (e::es) env=(false,eval e env)::starEach es env:=by
 intro e es h
 cases e<;>first|rfl|cases h
def C1(o:Option NameKind):Bool:=match o with
 | some .local=>true
 | some .cell=>true
 | _=>false
theorem lo{sc:Scope}(h:C1 (sc.names.lookup x)=true):L2.Loc sc x:=by
 unfold L2.Loc
 generalize sc.names.lookup x=o at *
 unfold C1 at h
 split at h
 ·exact .inl rfl
 ·exact .inr rfl
 ·cases h
def G5(o:Option NameKind):Bool:=match o with
 | some .free=>true
 | o=>C1 o
theorem vi{sc:Scope}(h:G5 (sc.names.lookup x)=true):L2.Vis sc x:=by
 unfold L2.Vis
 generalize sc.names.lookup x=o at *
 unfold G5 C1 at h
 split at h
 ·exact .inr (.inr rfl)
 ·split at h
  ·exact .inl rfl
  ·exact .inr (.inl rfl)
  ·cases h
section
variable {a c:Expr} {rest:List Expr} {p pa pb:Pu D} {ta tb tc:Pu Bool} {ps:Pa D} {pb':Pa Bool} {pl:Pa (List D)} {pα:Pa α} {qs:Pu (List D)}
theorem aa(hN:X.N[i]? = some x)(hv:Vis X.env.scope x)(hd:(x==("__debug__" : Str))=false:=by decide)(hcd:(x==("__classdict__" : Str))=false:=by decide):AP X (.Name x pos) (HM i) :=
 λG F Z H ρ Q S w=>sem (dH hN hv hd hcd)<|by
  unfold HM at w
  split at w
  ·rename_i d q
   obtain⟨v,e1,r1⟩:=S.fz i d q
   exact⟨v,e1,w F H (Same.refl _) S v r1⟩
  ·exact w.elim
theorem bq(hN:X.N[i]? = some x:=by rfl)(hv:Vis X.env.scope x:=by exact vi rfl)(hd:(x==("__debug__" : Str))=false:=by decide)(hcd:(x==("__classdict__" : Str))=false:=by decide):AO X (.Name x pos) (Ep i) :=
 λG F Z H ρ Q S w=>sem (dH hN hv hd hcd)<|by
  have go:∀c:OC,own ρ i c->W X G F Z ρ (GD c) (λd F' H'=>∀v,VO X.K F' Z ρ v d->Q v H')->G7 i Z H Q:=λc ho w=>by
   obtain⟨a,e1,oa⟩:=S.ow i _ ho
   cases c with
   | i _ _ _=>exact w.elim
   | n _=>exact w.elim
   | _=>exact⟨_,e1,w F H (Same.refl _) S _ (.inr ⟨i,_,ho,e1,rfl,rfl⟩)⟩
  unfold Ep at w
  split at w
  ·rename_i ds q;exact go ds (.inl q) w
  ·rename_i ds q;exact go ds (.inr q) w
  ·exact w.elim
theorem ao(h:AP X e p):AO X e p:=λG F Z H ρ Q S w=>h G F Z H ρ Q S (w.imp λd F' H' _ _ q v r=>q v (.inl r))
theorem vT{d:D}(h:PE X e (tC v))(r:∀F,Rep X.K F v d):AP X e (CC d) :=
 λG F Z H ρ Q S w=>sem h (w F H (Same.refl _) S v (r F))
theorem aB{i j}:AP X (.Constant (.int i) j pos) (CC (.int i)):=vT Fx λ_=>.int _
theorem oQ{i j}:AP X (.Constant (.bool i) j pos) (CC (.bool i)):=vT HL λ_=>.bl _
theorem vS{j}:AP X (.Constant .none j pos) (CC .none):=vT Fv λ_=>.non
theorem rU{f:D->D->M α}{C:α->Hp->Hp->Prop}(ha:AO X a pa)(hb:AO X b pb)(S:StOk X.K G F Z H ρ)(w:W X G F Z ρ (bd (pa ρ) λx=>bd (pb ρ) λy=>f x y) C)
  (k:∀x y dx dy F' H',Same F F'->StOk X.K G F' Z H' ρ->OR X.K F' H' x dx->OR X.K F' H' y dy->W X G F' Z ρ (f dx dy) C->r x y H' Q):tOp r (fQ X a) (fQ X b) Z H Q :=
 ha G F Z H ρ _ S (w.bind.imp λdx F1 H1 s1 S1 w1 x hx=>hb G F1 Z H1 ρ _ S1 (w1.bind.imp λdy F2 H2 s2 S2 w2 y hy=>k x y dx dy F2 H2 (s1.trans s2) S2 ((hx.mono s2).or S2) (hy.or S2) w2))
theorem bm{op:Operator}{f:D->D->Option D}(ho:OpR X (binaryOp op) r)(hf:OpD X.K r f)(ha:AO X a pa)(hb:AO X b pb):AP X (.BinOp a op b pos) (HR f pa pb) :=
 λG F Z H ρ Q S w=>sem (El ho aN aN) (rU ha hb S w λx y dx dy F' H' s' S' hx hy w'=>by
  obtain⟨res,e,k⟩:=w'.opt
  exact hf G F' Z H' ρ x y dx dy res Q S' hx hy e λv F2 H2 s2 S2 r2=>k F2 H2 s2 S2 v r2)
theorem aT{f:D->D->Option D}(hr:IxR X r)(hf:OpD X.K r f)(ha:AO X a pa)(hb:AO X b pb)(hs:sg b:=by exact λ_ _=>rfl):AP X (.Subscript a b pos) (HR f pa pb) :=
 λG F Z H ρ Q S w=>sem (Em hr aN aN hs) (rU ha hb S w λx y dx dy F' H' s' S' hx hy w'=>by
  obtain⟨res,e,k⟩:=w'.opt
  exact hf G F' Z H' ρ x y dx dy res Q S' hx hy e λv F2 H2 s2 S2 r2=>k F2 H2 s2 S2 v r2)
theorem GT{f:D->D->Option Bool}(ho:OpR X (compareOp op) r)(hf:OpB X.K r f)(ha:AO X a pa)(hb:AO X b pb)(hm:behindInMarks op b=false:=by rfl):AB X (.Compare a [op] [b] pos) (Eu f pa pb) :=
 λG F Z H ρ Q S w=>sem (wt ho aN aN hm) (rU ha hb S w λx y dx dy F' H' s' S' hx hy w'=>by
  obtain⟨res,e,k⟩:=w'.opt
  exact hf G F' Z H' ρ x y dx dy res Q S' hx hy e (k F' H' (Same.refl _) S'))
theorem bO{f:D->D->Option Bool}(ho:OpR X (compareOp op) r)(hf:OpB X.K r f)(ha:AO X a pa)(hb:AO X b pb)(hm:behindInMarks op b=false:=by rfl):AT X (.Compare a [op] [b] pos) (Eu f pa pb) :=
 λG F Z H ρ Q S w=>zu (wj ho aN aN hm) (rU (Q:=λx H'=>∃k,x=.bl k/\Q k H') ha hb S w λx y dx dy F' H' s' S' hx hy w'=>by
  obtain⟨res,e,k⟩:=w'.opt
  exact hf G F' Z H' ρ x y dx dy res _ S' hx hy e ⟨res,rfl,k F' H' (Same.refl _) S'⟩)
theorem JW(h:AB X e ta):AP X e (pB ta):=λG F Z H ρ Q S w=>h G F Z H ρ Q S (w.bind.imp λb F' H' s1 S1 w1=>w1 F' H' (Same.refl _) S1 _ (.bl b))
theorem cg(h:AL X e qs):AP X e (pZ qs):=λG F Z H ρ Q S w=>h G F Z H ρ Q S (w.bind.imp λds F' H' s1 S1 w1 v fr=>by
 obtain⟨F2,s2,S2,r2⟩:=S1.settle (v:=v) (ds:=ds) fr
 exact w1 F2 H' s2 S2 v r2)
theorem aq:AA (α:=α) X [] HP:=λG F Z H ρ Q k C S w kk=>uM kQ (kk [] [] F H (Same.refl _) S rfl .nil w)
theorem af(h:AP X e p)(hr:AA X es pα)(hs:starEach (e::es) X.env=(false,eval e X.env)::starEach es X.env:=by exact qO rfl):AA X (e::es) (Es p pα) :=
 λG F Z H ρ Q k C S w kk=>uM (gz aN bK hs) (h G F Z H ρ _ S (w.bind.imp λd F1 H1 s1 S1 w1 v r1 =>
  hr G F1 Z H1 ρ _ _ C S1 w1 λds vs F2 H2 s2 S2 hl r2 w2=>kk (d::ds) (v::vs) F2 H2 (s1.trans s2) S2 (by simp[hl]) (.cons (r1.mono s2) r2) w2))
theorem aF:AAo (α:=α) X [] HP:=λG F Z H ρ Q k C S w kk=>uM kQ (kk [] [] F H (Same.refl _) S .nil w)
theorem aA(h:AO X e p)(hr:AAo X es pα)(hs:starEach (e::es) X.env=(false,eval e X.env)::starEach es X.env:=by exact qO rfl):AAo X (e::es) (Es p pα) :=
 λG F Z H ρ Q k C S w kk=>uM (gz aN bK hs) (h G F Z H ρ _ S (w.bind.imp λd F1 H1 s1 S1 w1 v r1 =>
  hr G F1 Z H1 ρ _ _ C S1 w1 λds vs F2 H2 s2 S2 r2 w2=>kk (d::ds) (v::vs) F2 H2 (s1.trans s2) S2 (.cons (r1.mono s2) r2) w2))
theorem W.fit{ds:List α}{C:List α->Hp->Hp->Prop}(h:W X G F Z ρ (cC ds) C):ds.length<=sizeLine/\∀F' H',Same F F'->StOk X.K G F' Z H' ρ->C ds F' H':=by
 unfold cC at h
 split at h
 ·exact⟨by assumption,h⟩
 ·exact h.elim
theorem bw{x1}(h:AA X es ps)(hz:es.length<=1000:=by decide +kernel):AP X (.Tuple es x1 pos) (Jy ps) :=
 λG F Z H ρ Q S w=>sem (Fu bK) (h G F Z H ρ _ _ _ S w λds vs F1 H1 s1 S1 hl r1 w1=>by
  refine⟨by rw[hl];exact rD hz,λq hq=>?_⟩
  obtain⟨s2,S2,r2⟩:=S1.newTup hq r1
  exact w1 _ _ s2 S2 _ r2)
theorem bV(h:AA X es pl)(hz:es.length<=1000:=by decide +kernel):AL X (.List es pos) (JB pl) :=
 λG F Z H ρ Q S w=>sem (Af bK) (h G F Z H ρ _ _ _ S w λds vs F1 H1 s1 S1 hl r1 w1=>by
  refine⟨by rw[hl];exact rD hz,λq hq=>?_⟩
  obtain⟨S2,r2⟩:=S1.newLst hq r1
  exact w1 _ _ (Same.refl _) S2 _ r2)
theorem mI{r:List V->Hp->VK->Prop}{f:List D->M α}{C:α->Hp->Hp->Prop}(ha:AAo X es pα)(S:StOk X.K G F Z H ρ)(w:W X G F Z ρ (pα f ρ) C)
  (k:∀xs ds F' H',Same F F'->StOk X.K G F' Z H' ρ->ORs X.K F' H' xs ds->W X G F' Z ρ (f ds) C->r xs H' Q):tCB r (hJ X es) Z H Q :=
 ha G F Z H ρ _ _ C S w λds xs F1 H1 s1 S1 hx w1=>k xs ds F1 H1 s1 S1 (hx.ors S1) w1
theorem aQ{p:Pos}{id:String}{r:List V->Hp->VK->Prop}{f:List D->Option D}(hc:CallR X (.builtin id) r)(hf:iM X.K r f)(hm:X.mg x=none)(hv:bootBuiltins x=some (.builtin id))(ha:AAo X (e::es) ps)(hg:Gl X x:=by rfl)
  (hn:x ≠ "__name__":=by decide) (hdb:(x==("__debug__" : Str))=false:=by decide) (he:starEach (e::es) X.env=(false,eval e X.env)::starEach es X.env:=by rfl) (hpl:(backTo pos (starEach es X.env)).any (·.1)=false:=by rfl):AP X (.Call (.Name x p) (e::es) [] pos) (Et f ps) :=
 λG F Z H ρ Q S w=>sem (jM hc hg hm hv bK hn hdb he hpl) (mI ha S w λxs ds F' H' s' S' hx w'=>by
  obtain⟨res,e,k⟩:=w'.opt
  exact hf G F' Z H' ρ xs ds res Q S' hx e λv F2 H2 s2 S2 r2=>k F2 H2 s2 S2 v r2)
theorem eW{p:Pos}{id:String}{r:List V->Hp->VK->Prop}{f:List D->Option (List D)}(hc:CallR X (.builtin id) r)(hf:qM X.K r f)(hm:X.mg x=none)(hv:bootBuiltins x=some (.builtin id))(ha:AAo X (e::es) pl)(hg:Gl X x:=by rfl)
  (hn:x ≠ "__name__":=by decide) (hdb:(x==("__debug__" : Str))=false:=by decide) (he:starEach (e::es) X.env=(false,eval e X.env)::starEach es X.env:=by rfl) (hpl:(backTo pos (starEach es X.env)).any (·.1)=false:=by rfl):AL X (.Call (.Name x p) (e::es) [] pos) (ii f pl) :=
 λG F Z H ρ Q S w=>sem (jM hc hg hm hv bK hn hdb he hpl) (mI ha S w λxs ds F' H' s' S' hx w'=>by
  obtain⟨res,e,k⟩:=w'.opt
  exact hf G F' Z H' ρ xs ds res Q S' hx e λv F2 H2 s2 S2 r2=>k F2 H2 s2 S2 v r2)
theorem bB{p:Pos}{r:List V->Hp->VK->Prop}{f:List D->Option D}(hc:CallR X (.type T) r)(hf:iM X.K r f)(hm:X.mg x=none)(hv:bootBuiltins x=some (.type T))(ha:AAo X (e::es) ps)(hg:Gl X x:=by rfl)
  (hn:x ≠ "__name__":=by decide) (hdb:(x==("__debug__" : Str))=false:=by decide) (he:starEach (e::es) X.env=(false,eval e X.env)::starEach es X.env:=by rfl) (hpl:(backTo pos (starEach es X.env)).any (·.1)=false:=by rfl):AP X (.Call (.Name x p) (e::es) [] pos) (Et f ps) :=
 λG F Z H ρ Q S w=>sem (iR hc hg hm hv bK hn hdb he hpl) (mI ha S w λxs ds F' H' s' S' hx w'=>by
  obtain⟨res,e,k⟩:=w'.opt
  exact hf G F' Z H' ρ xs ds res Q S' hx e λv F2 H2 s2 S2 r2=>k F2 H2 s2 S2 v r2)
theorem za{p:Pos}{r:List V->Hp->VK->Prop}{f:List D->Option (List D)}(hc:CallR X (.type T) r)(hf:qM X.K r f)(hm:X.mg x=none)(hv:bootBuiltins x=some (.type T))(ha:AAo X (e::es) pl)(hg:Gl X x:=by rfl)
  (hn:x ≠ "__name__":=by decide) (hdb:(x==("__debug__" : Str))=false:=by decide) (he:starEach (e::es) X.env=(false,eval e X.env)::starEach es X.env:=by rfl) (hpl:(backTo pos (starEach es X.env)).any (·.1)=false:=by rfl):AL X (.Call (.Name x p) (e::es) [] pos) (ii f pl) :=
 λG F Z H ρ Q S w=>sem (iR hc hg hm hv bK hn hdb he hpl) (mI ha S w λxs ds F' H' s' S' hx w'=>by
  obtain⟨res,e,k⟩:=w'.opt
  exact hf G F' Z H' ρ xs ds res Q S' hx e λv F2 H2 s2 S2 r2=>k F2 H2 s2 S2 v r2)
theorem j8{ds:List D}(h:RepL K F vs ds):(!vs.isEmpty) = !ds.isEmpty:=by cases h<;>rfl
theorem GK(ha:AO X a pa)(he:∀whole,isTrue a X.env whole=(do let v <-whole;standAt a.pos;holding [v] (truthy v))):AT X a (Jz pa) :=
 λG F Z H ρ Q S w=>zu (zU aN he) (ha G F Z H ρ _ S (w.bind.imp λx F1 H1 s1 S1 w1 v hv=>by
  obtain⟨bb,hb,k⟩:=w1.opt
  refine⟨bb,?_,k F1 H1 (Same.refl _) S1⟩
  have o:=hv.or S1
  cases x with
  | none=>rw[o.none];cases hb;exact rfl
  | bool i=>rw[o.bool];cases hb;exact rfl
  | int i=>rw[o.int];cases hb;exact rfl
  | str i =>
   rw[o.str]
   unfold zp at hb
   dsimp only at hb
   split at hb
   ·rename_i hl;cases hb;exact⟨hl,rfl⟩
   ·cases hb
  | list ds=>obtain⟨a,vs,rfl,h1,h2⟩:=o.list S1.fh;cases hb;exact .inl ⟨vs,h1,(j8 h2).symm⟩
  | tuple ds=>obtain⟨a,vs,rfl,h1,h2⟩:=o.tuple S1.fh;cases hb;exact .inr (.inl ⟨vs,h1,(j8 h2).symm⟩)
  | dict ds=>cases hb))
theorem xj(ha:AT X a ta):AW X (.BoolOp .And [a] pos) ta:=λG F Z H ρ Q S w=>sI (wb dG) (ha G F Z H ρ Q S w)
theorem BA(ha:AT X a ta):AW X (.BoolOp .Or [a] pos) ta:=λG F Z H ρ Q S w=>sI (zS dG) (ha G F Z H ρ Q S w)
theorem BC(ha:AT X a ta)(hb:AW X (.BoolOp .And (b::rest) pos) tb):AW X (.BoolOp .And (a::b::rest) pos) (JF ta tb) :=
 λG F Z H ρ Q S w=>sI (zT dG kM) (ha G F Z H ρ _ S (w.bind.imp λt F1 H1 s1 S1 w1=>by
  cases t with
  | true=>refine tR ?_;exact hb G F1 Z H1 ρ Q S1 w1
  | false=>refine vm ?_;exact w1 F1 H1 (Same.refl _) S1))
theorem BB(ha:AT X a ta)(hb:AW X (.BoolOp .Or (b::rest) pos) tb):AW X (.BoolOp .Or (a::b::rest) pos) (pOr ta tb) :=
 λG F Z H ρ Q S w=>sI (Ei dG kM) (ha G F Z H ρ _ S (w.bind.imp λt F1 H1 s1 S1 w1=>by
  cases t with
  | true=>refine tR ?_;exact w1 F1 H1 (Same.refl _) S1
  | false=>refine vm ?_;exact hb G F1 Z H1 ρ Q S1 w1))
theorem xl(h:AW X e ta):AT X e ta:=λG F Z H ρ Q S w=>zu (λpins s Z H Q I h=>kM _ pins s Z H Q I h) (h G F Z H ρ Q S w)
theorem IU(hc:AT X c tc)(ha:AP X a pa)(hb:AP X b pb):AP X (.IfExp c a b pos) (pIf tc pa pb) :=
 λG F Z H ρ Q S w=>sem (Ag dG aN aN) (hc G F Z H ρ _ S (w.bind.imp λt F1 H1 s1 S1 w1=>by
  cases t with
  | true=>refine tR ?_;exact ha G F1 Z H1 ρ Q S1 w1
  | false=>refine vm ?_;exact hb G F1 Z H1 ρ Q S1 w1))
end
def wB(i j:Int):Bool:=(decide (-(2^64)<i)&&decide (i<2^64))||(decide (-(2^64)<j)&&decide (j<2^64))
def bS:D->D->Option D
 | .int i,.int j=>some (.int (i+j))
 | .str a,.str b=>if a.length+b.length<=sizeLine then some (.str (a++b))else none
 | .tuple a,.tuple b=>if a.length+b.length<=sizeLine then some (.tuple (a++b))else none
 | .list a,.list b=>if a.length+b.length<=sizeLine then some (.list (a++b))else none
 | _,_=>none
def dI:D->D->Option D
 | .int i,.int j=>if wB i j then some (.int (i*j))else none
 | _,_=>none
def nB:D->D->Option D
 | .int i,.int j=>if decide (0<j)&&decide (j<1073741824)then some (.int (i / j))else none
 | _,_=>none
def jP:D->D->Option D
 | .int i,.int j=>if 0<j then some (.int (i % j))else none
 | _,_=>none
def ww:D->D->Option D
 | .int i,.int j=>if decide (0<=j)&&decide (j<=1000000)&&decide (i.natAbs<2^64)then some (.int (i^j.toNat))else none
 | _,_=>none
def HW:D->D->Option Bool
 | .int i,.int j=>some (decide (i<j))
 | _,_=>none
def HX:D->D->Option Bool
 | .int i,.int j=>some (decide (i<=j))
 | _,_=>none
def CK:D->D->Option Bool
 | .int i,.int j=>some (decide (j<i))
 | _,_=>none
def FH:D->D->Option Bool
 | .int i,.int j=>some (decide (j<=i))
 | _,_=>none
def Eg(K:Fg):R2:=λx y H Q=>∃a b xs ys,x=.ref a/\y=.ref b/\SqT K H a xs/\SqT K H b ys/\xs.length+ys.length<=sizeLine /\
 (xs=[]->Q (.ref b) H)/\(xs≠[]->ys=[]->Q (.ref a) H)/\(xs≠[]->ys≠[]->∀p,H p=none->Q (.ref p) (upd H p (.tup (xs++ys))))
theorem op_cat0:OpR X (binaryOp .Add) (Eg X.K):=by
 intro pins s Z H x y v u Q I rx ry h
 obtain⟨a,b,xs,ys,rfl,rfl,ha,hb,hz,q0,q1,q2⟩:=h
 by_cases hx:xs=[]
 ·cases rx
  cases ry
  obtain⟨its,r1,p1,_⟩:=I.tuple ha
  obtain⟨its2,r2,p2,_⟩:=I.tuple hb
  have hv:its=[]:=r1.nil_iff.mpr hx
  obtain⟨⟨cls,dd,data,sl⟩,ho,hc,n,hd⟩:=id p1
  obtain⟨⟨cls2,dd2,data2,sl2⟩,ho2,hc2,n2,hd2⟩:=id p2
  simp only at hc hd hc2 hd2
  subst hc hd hc2 hd2
  exact concat_meets ⟨_,ho,rfl⟩ ⟨_,ho2,rfl⟩ noFill_tuple_add seq_tuple_add L5 LR (LN _ _)
   (tuple_addW0 a b its.toArray its2.toArray n n2 dd dd2 sl sl2 (by simp[hv])) ⟨ho,ho2,⟨.ref b,H,I,rfl,q0 hx⟩⟩
 ·exact CI pins s Z H _ _ v u Q I rx ry ⟨a,b,xs,ys,rfl,rfl,ha,hb,hx,hz,q1 hx,q2 hx⟩
section
theorem noS{a:α}{P:Prop}(e:(none:Option α)=some a):P:=nomatch e
theorem okI{C:Int->Int->Prop}{g:Int->Int->V}{f:D->D->Option D}(h:∀dx dy res,f dx dy=some res->∃i j,dx=.int i/\dy=.int j/\C i j/\∀K F,Rep K F (g i j) res):OpD K (rI C g) f:=by
 intro G F Z H ρ x y dx dy res Q S ox oy e k
 obtain⟨i,j,rfl,rfl,hc,hr⟩:=h dx dy res e
 exact⟨i,j,ox.int,oy.int,hc,k _ F H (Same.refl _) S (hr K F)⟩
theorem okB{g:Int->Int->Bool}{f:D->D->Option Bool}(h:∀dx dy res,f dx dy=some res->∃i j,dx=.int i/\dy=.int j/\res=g i j):OpB K (rI0 λi j=>.bl (g i j)) f:=by
 intro G F Z H ρ x y dx dy res Q S ox oy e k
 obtain⟨i,j,rfl,rfl,rfl⟩:=h dx dy res e
 exact⟨i,j,ox.int,oy.int,k⟩
theorem HY:OpB K (rI0 λi j=>.bl (decide (i<j))) HW:=okB λdx dy res e=>by
 cases dx<;>first|exact noS e|(cases dy<;>first|exact noS e|cases e)
 exact⟨_,_,rfl,rfl,rfl⟩
theorem HZ:OpB K (rI0 λi j=>.bl (decide (i<=j))) HX:=okB λdx dy res e=>by
 cases dx<;>first|exact noS e|(cases dy<;>first|exact noS e|cases e)
 exact⟨_,_,rfl,rfl,rfl⟩
theorem EA:OpB K (rI0 λi j=>.bl (decide (j<i))) CK:=okB λdx dy res e=>by
 cases dx<;>first|exact noS e|(cases dy<;>first|exact noS e|cases e)
 exact⟨_,_,rfl,rfl,rfl⟩
theorem Ia:OpB K (rI0 λi j=>.bl (decide (j<=i))) FH:=okB λdx dy res e=>by
 cases dx<;>first|exact noS e|(cases dy<;>first|exact noS e|cases e)
 exact⟨_,_,rfl,rfl,rfl⟩
theorem rc:OpD K (rI Jc λi j=>.int (i / j)) nB:=okI λdx dy res e=>by
 cases dx<;>first|exact noS e|(cases dy<;>try (exact noS e))
 rename_i i j
 dsimp only[nB]at e
 split at e
 ·rename_i hc
  cases e
  simp only[ac,zzi]at hc
  exact⟨i,j,rfl,rfl,hc,λ_ _=>.int _⟩
 ·cases e
theorem kW:OpD K (rI (λ_ j=>0<j) λi j=>.int (i % j)) jP:=okI λdx dy res e=>by
 cases dx<;>first|exact noS e|(cases dy<;>try (exact noS e))
 rename_i i j
 dsimp only[jP]at e
 split at e
 ·rename_i hc
  cases e
  exact⟨i,j,rfl,rfl,hc,λ_ _=>.int _⟩
 ·cases e
theorem FK:OpD K (rI Jb λi j=>.int (i^j.toNat)) ww:=okI λdx dy res e=>by
 cases dx<;>first|exact noS e|(cases dy<;>try (exact noS e))
 rename_i i j
 dsimp only[ww]at e
 split at e
 ·rename_i hc
  cases e
  simp only[ac,zzi]at hc
  exact⟨i,j,rfl,rfl,⟨hc.1.1,hc.1.2,hc.2⟩,λ_ _=>.int _⟩
 ·cases e
theorem jK{ds:List D}(r:RepL K F vs ds):vs=[]↔ds=[]:=by cases r<;>simp
def Ef(K:Fg):R2:=λx y H Q=>∃l b xs zs,x=.ref l/\y=.ref b/\SqL K H l xs/\SqL K H b zs/\xs.length+zs.length<=sizeLine/\∀p,H p=none->Q (.ref p) (upd H p (.lst (xs++zs)))
theorem CJ:OpR X (binaryOp .Add) (Ef X.K):=by
 intro pins s Z H x y v u Q I rx ry h
 obtain⟨l,b,xs,zs,rfl,rfl,hH,hB,hz,q⟩:=h
 cases rx
 cases ry
 obtain⟨its,r,pl,_⟩:=I.list hH
 obtain⟨its2,r2,pl2,_⟩:=I.list hB
 obtain⟨⟨cls,dd,data,sl⟩,ho,hc,n,hd⟩:=id pl.isList
 obtain⟨⟨cls2,dd2,data2,sl2⟩,ho2,hc2,n2,hd2⟩:=id pl2.isList
 simp only at hc hd hc2 hd2
 subst hc hd hc2 hd2
 have e:its.toArray++its2.toArray=(its++its2).toArray:=by simp
 refine concat_meets ⟨_,ho,rfl⟩ ⟨_,ho2,rfl⟩ noFill_list_add seq_list_add PySem.F.slot_list_add PySem.F.entry_list_add (PySem.F.args_list_add_2 _ _) (list_addW l b its.toArray its2.toArray n n2 dd dd2 sl sl2 (by rw[ay,ay,<-r.length,<-r2.length];exact hz)) ⟨ho,ho2,?_⟩
 rw[e]
 exact⟨.ref _,_,I.laid (t':=s.toks) (o:=.lst (xs++zs)) (λb ob q=>zzc _ q) (ai _) ⟨by rw[zzf];exact hz,_,0,r.append r2,zze _ rfl⟩,rfl,q _ (I.hok.fresh (ai _))⟩
def Ht:R2:=λx y H Q=>∃i j,x=.str i/\y=.str j/\i.length+j.length<=sizeLine/\Q (.str (i++j)) H
def Eh(K:Fg):R2:=λx y H Q=>rI0 (λi j=>.int (i+j)) x y H Q\/(Ht x y H Q\/(Eg K x y H Q\/Ef K x y H Q))
theorem bQ:OpR X (binaryOp .Add) (Eh X.K):=op_add.or (OpR.or uY (op_cat0.or CJ))
theorem cz:OpD K (Eh K) bS:=by
 intro G F Z H ρ x y dx dy res Q S ox oy e k
 cases dx<;>first|exact noS e|(cases dy<;>try (exact noS e))
 ·cases e;exact .inl ⟨_,_,ox.int,oy.int,k _ F H (Same.refl _) S (.int _)⟩
 ·dsimp only[bS]at e
  split at e
  ·rename_i hz
   cases e
   exact .inr (.inl ⟨_,_,ox.str,oy.str,hz,k _ F H (Same.refl _) S (.str _)⟩)
  ·cases e
 ·dsimp only[bS]at e
  split at e
  ·rename_i hz
   cases e
   obtain⟨a,vs,rfl,h1,h2⟩:=ox.list S.fh
   obtain⟨b,us,rfl,g1,g2⟩:=oy.list S.fh
   refine .inr (.inr (.inr ⟨a,b,vs,us,rfl,rfl,h1,g1,by rw[h2.length,g2.length];exact hz,λp hp=>?_⟩))
   obtain⟨S2,r2⟩:=S.newLst hp (h2.append g2)
   obtain⟨F2,s3,S3,r3⟩:=S2.settle r2
   exact k _ F2 _ s3 S3 r3
  ·cases e
 ·dsimp only[bS]at e
  split at e
  ·rename_i hz
   cases e
   obtain⟨a,vs,rfl,h1,h2⟩:=ox.tuple S.fh
   obtain⟨b,us,rfl,g1,g2⟩:=oy.tuple S.fh
   refine .inr (.inr (.inl ⟨a,b,vs,us,rfl,rfl,h1,g1,by rw[h2.length,g2.length];exact hz,λz=>?_,λ_ z=>?_,λ_ _ p hp=>?_⟩))
   ·have z':=(jK h2).mp z
    subst z'
    exact k _ F H (Same.refl _) S oy.tup'
   ·have z':=(jK g2).mp z
    subst z'
    exact k _ F H (Same.refl _) S (by rw[mo];exact ox.tup')
   ·obtain⟨s2,S2,r2⟩:=S.newTup hp (h2.append g2)
    exact k _ _ _ s2 S2 r2
  ·cases e
theorem iy:OpD K (rI CMul λi j=>.int (i*j)) dI:=okI λdx dy res e=>by
 cases dx<;>first|exact noS e|(cases dy<;>try (exact noS e))
 rename_i i j
 dsimp only[dI]at e
 split at e
 ·rename_i hc
  cases e
  unfold wB at hc
  simp only[um,ac,zzi]at hc
  exact⟨i,j,rfl,rfl,hc,λ_ _=>.int _⟩
 ·cases e
end
def rM(d e:D):Bool:=d.canLay0&&e.canLay0&&decide (d.depth<=1000)
def kS(d e:D):Option Bool:=if rM d e then some (PyData.eqv d e)else none
def fW(d e:D):Option Bool:=if rM d e then some (!PyData.eqv d e)else none
def vw(d:D)(xs:List D):Bool:=PyData.canLayAll0 xs&&d.canLay0&&decide (d.depth<=1000)
def IB(i j:Str):Bool:=!(Builtin.Str.occurrences j i 0 j.length 1).isEmpty
def yh(d c:D):Option Bool:=match c with
 | .list xs=>if vw d xs then some (xs.any λy=>PyData.eqv y d)else none
 | .tuple xs=>if vw d xs then some (xs.any λy=>PyData.eqv y d)else none
 | .str j=>match d with
  | .str i=>some (IB i j)
  | _=>none
 | _=>none
def isNone:D->Bool
 | .none=>true
 | _=>false
def Ez(d e:D):Option Bool:=match e with
 | .none=>some (isNone d)
 | _=>none
def rD2(K:Fg)(f:D->D->Option Bool):R2:=λx y H Q=>∃d e b,Rep K H x d/\Rep K H y e/\f d e=some b/\Q (.bl b) H
theorem eG{f:D->D->Option Bool}:OpB K (rD2 K f) f:=by
 intro G F Z H ρ x y dx dy res Q S ox oy e k
 exact⟨dx,dy,res,ox.rep S.fh,oy.rep S.fh,e,k⟩
theorem Rep.non_iff{d:D}(r:Rep K F v d):(decide (v=.non))=isNone d:=by
 cases r<;>rfl
section
theorem q9(hu:X.A.units+1100<cLine):OpR X (compareOp .Eq) (rD2 X.K kS):=by
 intro pins s Z H x y v u Q I rx ry ⟨d,e,b,r1,r2,ho,q⟩
 unfold kS at ho
 split at ho
 case isFalse=>cases ho
 rename_i hc
 cases ho
 simp only[rM,ac,zzi]at hc
 obtain⟨as,ra⟩:=(ca I).1 r1 hc.1.1 rx
 obtain⟨bs,rb⟩:=(ca I).1 r2 hc.1.2 ry
 exact SeqAt.compareEq_reads ra rb hc.1.1 hc.1.2 (by have:=Nat.min_le_left d.depth e.depth;lia) ⟨.bl _,H,I,rfl,q⟩
theorem gA(hu:X.A.units+1100<cLine):OpR X (compareOp .NotEq) (rD2 X.K fW):=by
 intro pins s Z H x y v u Q I rx ry ⟨d,e,b,r1,r2,ho,q⟩
 unfold fW at ho
 split at ho
 case isFalse=>cases ho
 rename_i hc
 cases ho
 simp only[rM,ac,zzi]at hc
 obtain⟨as,ra⟩:=(ca I).1 r1 hc.1.1 rx
 obtain⟨bs,rb⟩:=(ca I).1 r2 hc.1.2 ry
 exact SeqAt.compareNe_reads ra rb hc.1.1 hc.1.2 (by have:=Nat.min_le_left d.depth e.depth;lia) ⟨.bl _,H,I,rfl,q⟩
theorem FB(hu:X.A.units+1100<cLine):OpR X (compareOp .In) (rD2 X.K yh):=by
 intro pins s Z H x y v u Q I rx ry ⟨d,e,b,r1,r2,ho,q⟩
 unfold yh at ho
 split at ho
 ·rename_i xs
  split at ho
  case isFalse=>cases ho
  rename_i hc
  cases ho
  simp only[vw,ac,zzi]at hc
  obtain⟨as,ra⟩:=(ca I).1 r1 hc.1.2 rx
  obtain⟨bs,rb⟩:=(ca I).1 r2 (by simpa[PyData.canLay0]using hc.1.1) ry
  exact SeqAt.in_list_reads rb ra hc.1.1 hc.1.2 (by have:=Nat.min_le_right (PyData.depthAll xs) d.depth;lia) ⟨.bl _,H,I,rfl,q⟩
 ·rename_i xs
  split at ho
  case isFalse=>cases ho
  rename_i hc
  cases ho
  simp only[vw,ac,zzi]at hc
  obtain⟨as,ra⟩:=(ca I).1 r1 hc.1.2 rx
  obtain⟨bs,rb⟩:=(ca I).1 r2 (by simpa[PyData.canLay0]using hc.1.1) ry
  exact SeqAt.in_tuple_reads rb ra hc.1.1 hc.1.2 (by have:=Nat.min_le_right (PyData.depthAll xs) d.depth;lia) ⟨.bl _,H,I,rfl,q⟩
 ·split at ho
  ·cases ho
   obtain rfl:=r1.str_inv;obtain rfl:=r2.str_inv
   exact yf pins s Z H _ _ v u Q I rx ry ⟨_,_,rfl,rfl,q⟩
  ·cases ho
 ·cases ho
theorem CG:OpR X (compareOp .Is) (rD2 X.K Ez):=by
 intro pins s Z H x y v u Q I rx ry ⟨d,e,b,r1,r2,ho,q⟩
 unfold Ez at ho
 split at ho
 ·cases ho
  cases r2
  refine FG pins s Z H x _ v u Q I rx ry ⟨rfl,?_⟩
  rw[Rep.non_iff r1]
  exact q
 ·cases ho
end
def gY:D->D->Option D
 | .list ds,.int i=>atI ds i
 | .tuple ds,.int i=>atI ds i
 | .str z,.int i=>if z.length<=sizeLine then(atI z.cps.toList i).map λc=>.str ⟨#[c]⟩else none
 | _,_=>none
theorem xm{ds:List D}{i:Int}{d:D}(r:RepL K F vs ds)(h:atI ds i=some d):∃v,atI vs i=some v/\Rep K F v d:=by
 unfold atI at h ⊢
 rw[r.length]
 cases q:ixN ds.length i with
 | none=>rw[q]at h;cases h
 | some j =>
  rw[q]at h
  exact r.get (i:=j) h
theorem H9:OpD K (rIx K) gY:=by
 intro G F Z H ρ x y dx dy res Q S ox oy e k
 cases dx<;>first|exact noS e|(cases dy<;>try (exact noS e))
 ·dsimp only[gY]at e
  split at e
  ·rename_i hz
   obtain⟨c,hc,rfl⟩:=Option.map_eq_some_iff.mp e
   exact .inr (.inr ⟨_,_,c,ox.str,oy.int,hz,hc,k _ F H (Same.refl _) S (.str _)⟩)
  ·cases e
 ·obtain⟨a,vs,rfl,h1,h2⟩:=ox.list S.fh
  obtain⟨v,e1,e2⟩:=xm h2 e
  exact .inl ⟨a,vs,_,v,rfl,oy.int,h1,e1,k v F H (Same.refl _) S e2⟩
 ·obtain⟨a,vs,rfl,h1,h2⟩:=ox.tuple S.fh
  obtain⟨v,e1,e2⟩:=xm h2 e
  exact .inr (.inl ⟨a,vs,_,v,rfl,oy.int,h1,e1,k v F H (Same.refl _) S e2⟩)
theorem Vals.one{us:List Value}(h:Vals [v] us):∃u,us=[u]/\RelV v u:=by
 cases h with|cons a b=>cases b;exact⟨_,rfl,a⟩
def dh:List D->Option D
 | [.list ds]=>some (.int ds.length)
 | [.tuple ds]=>some (.int ds.length)
 | [.str z]=>if z.length<=sizeLine then some (.int z.length)else none
 | _=>none
def bN:List D->Option D
 | [.list ds]=>some (.tuple ds)
 | [.tuple ds]=>some (.tuple ds)
 | _=>none
def Fm(K:Fg):List V->Hp->VK->Prop:=λxs H Q=>(∃p ys,xs=[.ref p]/\(SqL K H p ys\/SqT K H p ys)/\Q (.int ys.length) H)\/∃z,xs=[.str z]/\z.length<=sizeLine/\Q (.int z.length) H
theorem aY:CallR X (.builtin "len") (Fm X.K):=CallR.or rS rR
theorem bT:iM K (Fm K) dh:=by
 intro G F Z H ρ xs ds res Q S o e k
 unfold dh at e
 split at e
 ·rename_i es
  cases e
  obtain⟨v,r,rfl,ho,hr⟩:=bn o
  obtain rfl:=bF hr
  obtain⟨a,vs,rfl,h1,h2⟩:=ho.list S.fh
  exact .inl ⟨a,vs,rfl,.inl h1,k _ F H (Same.refl _) S (by rw[h2.length];exact .int _)⟩
 ·rename_i es
  cases e
  obtain⟨v,r,rfl,ho,hr⟩:=bn o
  obtain rfl:=bF hr
  obtain⟨a,vs,rfl,h1,h2⟩:=ho.tuple S.fh
  exact .inl ⟨a,vs,rfl,.inr h1,k _ F H (Same.refl _) S (by rw[h2.length];exact .int _)⟩
 ·split at e
  ·rename_i hz
   cases e
   obtain⟨v,r,rfl,ho,hr⟩:=bn o
   obtain rfl:=bF hr
   exact .inr ⟨_,by rw[ho.str],hz,k _ F H (Same.refl _) S (.int _)⟩
  ·cases e
 ·cases e
theorem bC:iM K (λxs H Q=>∃p ys,xs=[.ref p]/\((SqL K H p ys/\∀l,H l=none->Q (.ref l) (upd H l (.tup ys)))\/(SqT K H p ys/\Q (.ref p) H))) bN:=by
 intro G F Z H ρ xs ds res Q S o e k
 unfold bN at e
 split at e
 ·rename_i es
  cases e
  obtain⟨v,r,rfl,ho,hr⟩:=bn o
  obtain rfl:=bF hr
  obtain⟨a,vs,rfl,h1,h2⟩:=ho.list S.fh
  refine⟨a,vs,rfl,.inl ⟨h1,λl hl=>?_⟩⟩
  obtain⟨s2,S2,r2⟩:=S.newTup hl h2
  exact k _ _ _ s2 S2 r2
 ·rename_i es
  cases e
  obtain⟨v,r,rfl,ho,hr⟩:=bn o
  obtain rfl:=bF hr
  have ho:=ho.tup'
  cases ho with
  | tup h1 h2=>exact⟨_,_,rfl,.inr ⟨SqT.of (S.fh _ _ h1),k _ F H (Same.refl _) S (show Rep K F _ _ from .tup h1 h2)⟩⟩
 ·cases e
def nh(d:D):Bool:=d.showable&&d.canLay0&&decide (d.depth<=1000)&&decide (d.shown.length<=sizeLine)
def kg:List D->Option D
 | [d]=>if nh d then some (.str d.shown)else none
 | _=>none
def D9(K:Fg):List V->Hp->VK->Prop:=λxs H Q=>∃v d,xs=[v]/\Rep K H v d/\nh d=true/\Q (.str d.shown) H
theorem jQ:iM K (D9 K) kg:=by
 intro G F Z H ρ xs ds res Q S o e k
 unfold kg at e
 split at e
 ·rename_i d
  split at e
  ·rename_i hc
   cases e
   obtain⟨v,r,rfl,ho,hr⟩:=bn o
   obtain rfl:=bF hr
   exact⟨v,d,rfl,ho.rep S.fh,hc,k _ F H (Same.refl _) S (.str _)⟩
  ·cases e
 ·cases e
theorem gb(hu:X.A.units+1100<cLine)(hg:X.A.guards=some []):CallR X (.builtin "repr") (D9 X.K):=by
 intro pins s Z H xs us Q I r h0
 obtain⟨v,d,rfl,rp,hc,q⟩:=h0
 obtain⟨u,rfl,ru⟩:=Vals.one r
 simp only[nh,ac,zzi]at hc
 obtain⟨as,ra⟩:=(ca I).1 rp hc.1.1.2 ru
 have big:∀a,v=.ref a->wpAny (model X.prog X.w) X.A (call (.builtin "repr") [u]) (EP X pins Z Q) X.xe s:=λa e=>by
  subst e
  cases ru
  exact repr_of_reads' ra hc.1.1.1 (PyData.noDict_hsm (PyData.hasDict_of_canLay d hc.1.1.2)) hg (by lia) (λ_ _ e=>e) (λh' u tk hk=>⟨.str _,H,I.kept hk,⟨_,rfl⟩,q⟩) hc.2
 cases rp with
 | non=>cases ru;exact PySem.P.repr_of_none ⟨.str _,H,I.tok _,⟨_,rfl⟩,q⟩
 | bl b=>cases ru;exact PySem.P.repr_of_bool ⟨.str _,H,I.tok _,⟨_,rfl⟩,q⟩
 | int i=>obtain⟨t,rfl⟩:=ru;exact PySem.P.repr_of_int (by simpa[PyData.showable]using hc.1.1.1) ⟨.str _,H,I.tok _,⟨_,rfl⟩,q⟩
 | str x=>obtain⟨t,rfl⟩:=ru;exact PySem.P.repr_of_str ⟨.str _,H,I.tok _,⟨_,rfl⟩,q⟩ hc.2
 | tup h1 h2=>exact big _ rfl
 | lst h1 h2=>exact big _ rfl
 | dct h1 h2 h3=>exact big _ rfl
 | dck h1 h2 h3=>exact big _ rfl
 | exc _ _ _ _ _=>exact big _ rfl
 | fn _=>exact big _ rfl
def intsOf:List D->Option (List Int)
 | []=>some []
 | .int i::r=>match intsOf r with
  | some l=>some (i::l)
  | none=>none
 | _=>none
theorem bY:∀{ds:List D} {ns:List Int},intsOf ds=some ns->ds=ns.map PyData.int
 | [],ns,h=>by cases h;rfl
 | .int i::r,ns,h=>by
  dsimp only[intsOf]at h
  split at h
  ·rename_i l e;cases h;rw[bY e];rfl
  ·cases h
 | .none::_,_,h=>by cases h
 | .bool _::_,_,h=>by cases h
 | .str _::_,_,h=>by cases h
 | .list _::_,_,h=>by cases h
 | .tuple _::_,_,h=>by cases h
 | .dict _::_,_,h=>by cases h
theorem nX(ns:List Int):intsOf (ns.map PyData.int)=some ns:=by
 induction ns with
 | nil=>rfl
 | cons n r ih=>simp[intsOf,ih]
theorem dc{K:Fg}{F:Hp}:∀{vs:List V} {ns:List Int},RepL K F vs (ns.map PyData.int)->vs=ns.map V.int
 | _,[],h=>by cases h;rfl
 | _,n::r,h=>by
  cases h with
  | cons a b=>cases a;rw[dc b];rfl
theorem jq:∀{ns:List Int} {us:List Value},Vals (ns.map V.int) us->∃ps:List (Int×Tok),us=ps.map (λp=>Value.int p.1 p.2)/\ps.map Prod.fst=ns
 | [],_,h=>by cases h;exact⟨[],rfl,rfl⟩
 | n::r,_,h=>by
  cases h with
  | cons a b =>
   obtain⟨t,rfl⟩:=a
   obtain⟨ps,rfl,e⟩:=jq b
   exact⟨(n,t)::ps,rfl,by simp[e]⟩
def px:List Int->Int
 | []=>0
 | n::r=>r.foldl max n
def Gs:List D->Option D
 | [.list ds]=>match intsOf ds with
  | some (n::r)=>some (.int (px (n::r)))
  | _=>none
 | [.int i,.int j]=>some (.int (if j>i then j else i))
 | _=>none
def zR(K:Fg)(f:List Int->Option Int):List V->Hp->VK->Prop:=λxs H Q=>∃a ns i,xs=[.ref a]/\SqL K H a (ns.map V.int)/\f ns=some i/\Q (.int i) H
def yD:List Int->Option Int
 | []=>none
 | ns=>some (px ns)
theorem jT{ps:List (Int×Tok)}:numAt ps.toArray i=(ps.map Prod.fst).getD i 0:=by
 unfold numAt
 rw[List.getElem?_toArray,ou,ik]
theorem FL:iM K (λxs H Q=>zR K yD xs H Q\/∃i j,xs=[.int i,.int j]/\Q (.int (if j>i then j else i)) H) Gs:=by
 intro G F Z H ρ xs ds res Q S o e k
 unfold Gs at e
 split at e
 ·rename_i es
  split at e
  case h_2=>cases e
  rename_i n r' hns
  cases e
  obtain⟨v,r,rfl,ho,hr⟩:=bn o
  obtain rfl:=bF hr
  obtain⟨a,vs,rfl,h1,h2⟩:=ho.list S.fh
  rw[bY hns]at h2
  rw[dc h2]at h1
  exact .inl ⟨a,_,_,rfl,h1,rfl,k _ F H (Same.refl _) S (show Rep K F _ _ from .int _)⟩
 ·cases e
  obtain⟨v,r,rfl,ho,hr⟩:=bn o
  obtain⟨v2,r2,rfl,ho2,hr2⟩:=bn hr
  obtain rfl:=bF hr2
  exact .inr ⟨_,_,by rw[ho.int,ho2.int],k _ F H (Same.refl _) S (show Rep K F _ _ from .int _)⟩
 ·cases e
theorem yE(r:List Int):∀n:Int,n<=r.foldl max n/\(∀i∈r,i<=r.foldl max n)/\(r.foldl max n=n\/r.foldl max n∈r):=by
 induction r with
 | nil=>intro n;exact⟨Ko _,λi hi=>(nomatch hi),.inl rfl⟩
 | cons a r ih =>
  intro n
  obtain⟨h1,h2,h3⟩:=ih (max n a)
  rw[ul]
  refine⟨by lia,λi hi=>?_,?_⟩
  ·rcases List.mem_cons.mp hi with rfl|hi
   ·lia
   ·exact h2 i hi
  ·rcases h3 with h3|h3
   ·rw[h3]
    by_cases hna:n<=a
    ·right;rw[show max n a=a by lia];exact ak
    ·left;lia
   ·right;exact zzg _ h3
theorem qd{ns:List Int}(h:ns≠[]):(∀i∈ns,i<=px ns)/\px ns∈ns:=by
 cases ns with
 | nil=>exact absurd rfl h
 | cons n r =>
  obtain⟨h1,h2,h3⟩:=yE r n
  refine⟨λi hi=>?_,?_⟩
  ·rcases List.mem_cons.mp hi with rfl|hi
   ·exact h1
   ·exact h2 i hi
  ·rcases h3 with h3|h3
   ·show r.foldl max n∈_;rw[h3];exact ak
   ·exact zzg _ h3
theorem yS(hc:X.calm=true):CallR X (.builtin "max") (zR X.K yD):=by
 intro pins s Z H xs us Q I r h0
 obtain⟨a,ns,i,rfl,hq,e,q⟩:=h0
 obtain⟨u,rfl,ru⟩:=Vals.one r
 cases ru
 obtain⟨its,rv,pl,hz⟩:=I.list hq
 obtain⟨ps,rfl,rfl⟩:=jq rv
 have hne:ps≠[]:=by rintro rfl;cases e
 have hne':ps.map Prod.fst≠[]:=by simpa using hne
 have ei:i=px (ps.map Prod.fst):=by
  cases hp:ps.map Prod.fst with
  | nil=>exact absurd hp hne'
  | cons n r=>rw[hp]at e;cases e;rfl
 subst ei
 have hl:s.heap.IsList a (intItems ps.toArray):=by
  have:=pl.isList
  unfold intItems
  simpa using this
 have hpos:0<ps.length:=List.length_pos_iff.mpr hne
 refine max_intList (I.ok.hd hc) hl (by simpa using hpos) λv h' tk hv hk=>?_
 obtain⟨t,rfl⟩:=intItems_at hv
 refine⟨.int _,H,I.kept hk,⟨_,rfl⟩,?_⟩
 have b:=argBest_gt (numAt ps.toArray) (ps.toArray.size - 1)
 generalize argBest (λi j=>decide (numAt ps.toArray i>numAt ps.toArray j)) (ps.toArray.size - 1)=m at b hv
 have hm:m<ps.length:=by
  have h0:=b.1
  simp at h0
  lia
 have hsp:=qd hne'
 have e1:numAt ps.toArray m=px (ps.map Prod.fst):=by
  refine Int.le_antisymm ?_ ?_
  ·refine hsp.1 _ ?_
   rw[jT,ou,de (by simpa using hm)]
   exact Kk _
  ·obtain⟨j,hj,ej⟩:=List.getElem_of_mem hsp.2
   have h0:=b.2 j (by simp at hj ⊢;lia)
   rw[jT,ou,de hj]at h0
   rw[<-ej]
   exact h0
 rw[e1]
 exact q
section
variable {ρ':En}
theorem _root_.L3.StOk.weak(S:StOk K G F Z H ρ)(hl:ρ'.length=ρ.length)(h:∀(i:Nat) (av:AV),ρ'[i]? = some (some av)->ρ[i]? = some (some av))(hp:∀(i:Nat) (c:OC),ρ[i]? = some (some (AV.op c))->ρ'[i]? = some (some (AV.op c))):StOk K G F Z H ρ':=by
 have ow':∀j c,own ρ' j c->own ρ j c:=λj c q=>q.imp (h _ _) (h _ _)
 refine⟨S.fh,S.oh,S.fo,S.ln.trans hl.symm,λj d q=>S.fz j d (h _ _ q),λj c q=>S.ow j c (ow' j c q),λj k c e a h1 h2=>S.dj j k c e a (ow' j c h1) (ow' k e h2),λj a q=>?_,λj c q=>S.pq j c (h _ _ q),S.fb⟩
 obtain⟨q1,c,q2⟩:=S.pp j a q
 exact⟨q1,c,hp _ _ q2⟩
theorem gj{k:Nat}{av:AV}(h:(ρ++List.replicate k none)[i]? = some (some av)):ρ[i]? = some (some av):=by
 by_cases hi:i<ρ.length
 ·rw[di hi]at h;exact h
 ·rw[re (Nat.not_lt.mp hi),LS]at h
  split at h<;>cases h
theorem _root_.L3.StOk.grow(S:StOk K G F Z H ρ)(k:Nat):StOk K G F (Z++List.replicate k none) H (ρ++List.replicate k none):=by
 have ap:∀{i:Nat} {v:V},Z[i]? = some (some v)->(Z++List.replicate k none)[i]? = some (some v):=λ{i v} e=>by
  rw[di (List.getElem?_eq_some_iff.mp e).1];exact e
 have apr:∀{i:Nat} {v:AV},ρ[i]? = some (some v)->(ρ++List.replicate k none)[i]? = some (some v):=λ{i v} e=>by
  rw[di (List.getElem?_eq_some_iff.mp e).1];exact e
 have ow':∀i c,own (ρ++List.replicate k none) i c->own ρ i c:=λi c h=>by
  rcases h with h|h
  ·exact .inl (gj h)
  ·exact .inr (gj h)
 refine⟨S.fh,S.oh,S.fo,by simp[S.ln],λi d h=>?_,λi c h=>?_,λi j c e a h1 h2 e1 e2=>?_,λi a h=>?_,λi c h=>S.pq i c (gj h),S.fb⟩
 ·obtain⟨v,e,r⟩:=S.fz i d (gj h);exact⟨v,ap e,r⟩
 ·obtain⟨a,e,oa⟩:=S.ow i c (ow' i c h);exact⟨a,ap e,oa⟩
 ·have o1:=ow' i c h1
  have o2:=ow' j e h2
  obtain⟨a1,q1,_⟩:=S.ow i c o1
  obtain⟨a2,q2,_⟩:=S.ow j e o2
  rw[ap q1]at e1;rw[ap q2]at e2
  injection e1 with e1;injection e2 with e2
  exact S.dj i j c e a o1 o2 (by rw[q1,e1]) (by rw[q2,e2])
 ·obtain⟨e,c,q⟩:=S.pp i a h;exact⟨ap e,c,apr q⟩
theorem _root_.L3.StOk.shrink(S:StOk K G F Z H ρ)(hn:n<=ρ.length)(hp:∀i a,G.P i=some a->i<n):StOk K G F (Z.take n) H (ρ.take n):=by
 have tk:∀{i:Nat} {v:AV},(ρ.take n)[i]? = some (some v)->i<n/\ρ[i]? = some (some v):=λ{i v} e=>by
  have hi:i<n:=by
   have:=(List.getElem?_eq_some_iff.mp e).1
   rw[Ki]at this;lia
  rw[ke hi]at e
  exact⟨hi,e⟩
 have ow':∀i c,own (ρ.take n) i c->i<n/\own ρ i c:=λi c h=>by
  rcases h with h|h
  ·exact⟨(tk h).1,.inl (tk h).2⟩
  ·exact⟨(tk h).1,.inr (tk h).2⟩
 refine⟨S.fh,S.oh,S.fo,by simp[S.ln],λi d h=>?_,λi c h=>?_,λi j c e a h1 h2 e1 e2=>?_,λi a h=>?_,λi c h=>S.pq i c (tk h).2,S.fb⟩
 ·obtain⟨v,e,r⟩:=S.fz i d (tk h).2;exact⟨v,by rw[ke (tk h).1];exact e,r⟩
 ·obtain⟨a,e,oa⟩:=S.ow i c (ow' i c h).2;exact⟨a,by rw[ke (ow' i c h).1];exact e,oa⟩
 ·rw[ke (ow' i c h1).1]at e1
  rw[ke (ow' j e h2).1]at e2
  exact S.dj i j c e a (ow' i c h1).2 (ow' j e h2).2 e1 e2
 ·obtain⟨e,c,q⟩:=S.pp i a h
  exact⟨by rw[ke (hp i a h)];exact e,c,by rw[ke (hp i a h)];exact q⟩
end
theorem mT{l l':List α}(h:∀j,j<n->l'[j]? = l[j]?)(hl:l.length=n):l'.take n=l:=by
 apply K7
 intro i
 by_cases hi:i<n
 ·rw[ke hi,h i hi]
 ·rw[List.getElem?_eq_none_iff.mpr (by rw[Ki];lia),List.getElem?_eq_none_iff.mpr (by lia)]
inductive Kd where
 | dead|f|o|p|t|k
 | i (x:Str) (ns:List Str)|j (x:Str) (ns:List Str)
 | n
@[reducible] def SOf:List Kd->Type
 | []=>Unit
 | .dead::r=>SOf r
 | .f::r=>D×SOf r
 | .o::r=>List D×SOf r
 | .p::r=>List D×SOf r
 | .t::r=>List (D×D)×SOf r
 | .k::r=>List (D×D)×SOf r
 | .i _ _::r=>List D×SOf r
 | .j _ _::r=>List D×SOf r
 | .n::r=>List NK×SOf r
def rd:(sh:List Kd)->En->Option (SOf sh)
 | [],[]=>some ()
 | .dead::r,x::ρ=>match x with
  | some (.op _)=>none
  | _=>rd r ρ
 | .f::r,x::ρ=>match x with
  | some (.fz d)=>match rd r ρ with
   | some s=>some (d,s)
   | none=>none
  | _=>none
 | .o::r,x::ρ=>match x with
  | some (.ol (.l ds))=>match rd r ρ with
   | some s=>some (ds,s)
   | none=>none
  | _=>none
 | .p::r,x::ρ=>match x with
  | some (.op (.l ds))=>match rd r ρ with
   | some s=>some (ds,s)
   | none=>none
  | _=>none
 | .t::r,x::ρ=>match x with
  | some (.ol (.t ds))=>match rd r ρ with
   | some s=>some (ds,s)
   | none=>none
  | _=>none
 | .k::r,x::ρ=>match x with
  | some (.ol (.k ds))=>match rd r ρ with
   | some s=>some (ds,s)
   | none=>none
  | _=>none
 | .i y ns::r,x::ρ=>match x with
  | some (.ol (.i z ms ds))=>if z=y/\ms=ns then(match rd r ρ with
   | some s=>some (ds,s)
   | none=>none)else none
  | _=>none
 | .j y ns::r,x::ρ=>match x with
  | some (.op (.i z ms ds))=>if z=y/\ms=ns then(match rd r ρ with
   | some s=>some (ds,s)
   | none=>none)else none
  | _=>none
 | .n::r,x::ρ=>match x with
  | some (.ol (.n ds))=>match rd r ρ with
   | some s=>some (ds,s)
   | none=>none
  | _=>none
 | _,_=>none
def wr:(sh:List Kd)->SOf sh->En
 | [],_=>[]
 | .dead::r,s=>none::wr r s
 | .f::r,s=>some (.fz s.1)::wr r s.2
 | .o::r,s=>some (.ol (.l s.1))::wr r s.2
 | .p::r,s=>some (.op (.l s.1))::wr r s.2
 | .t::r,s=>some (.ol (.t s.1))::wr r s.2
 | .k::r,s=>some (.ol (.k s.1))::wr r s.2
 | .i y ns::r,s=>some (.ol (.i y ns s.1))::wr r s.2
 | .j y ns::r,s=>some (.op (.i y ns s.1))::wr r s.2
 | .n::r,s=>some (.ol (.n s.1))::wr r s.2
def Wk(w ρ:En):Prop:=w.length=ρ.length/\(∀(i:Nat) (av:AV),w[i]? = some (some av)->ρ[i]? = some (some av))/\(∀(i:Nat) (c:OC),ρ[i]? = some (some (AV.op c))->w[i]? = some (some (AV.op c)))
theorem e7{w:En}{x:Option AV}(h:Wk w ρ):Wk (x::w) (x::ρ):=by
 refine⟨congrArg (· + 1) h.1,λi av q=>?_,λi c q=>?_⟩
 ·cases i with
  | zero=>exact q
  | succ i=>exact h.2.1 i av q
 ·cases i with
  | zero=>exact q
  | succ i=>exact h.2.2 i c q
theorem BZ{w:En}{x:Option AV}(hx:∀c,x≠some (AV.op c))(h:Wk w ρ):Wk (none::w) (x::ρ):=by
 refine⟨congrArg (· + 1) h.1,λi av q=>?_,λi c q=>?_⟩
 ·cases i with
  | zero=>cases q
  | succ i=>exact h.2.1 i av q
 ·cases i with
  | zero=>exact absurd (Option.some.inj q) (hx c)
  | succ i=>exact h.2.2 i c q
theorem ie:∀(sh:List Kd) (ρ:En) (s:SOf sh),rd sh ρ=some s->Wk (wr sh s) ρ
 | [],[],s,h=>⟨rfl,λi av q=>q,λi c q=>q⟩
 | [],_::_,s,h=>by cases h
 | a::r,[],s,h=>by cases a<;>cases h
 | .dead::r,x::ρ,s,h=>by
  dsimp only[rd]at h
  split at h
  ·cases h
  ·rename_i hx
   exact BZ hx (ie r ρ s h)
 | .f::r,x::ρ,s,h=>by
  dsimp only[rd]at h
  split at h
  ·split at h
   ·rename_i s' e
    cases h
    exact e7 (ie r ρ s' e)
   ·cases h
  ·cases h
 | .o::r,x::ρ,s,h=>by
  dsimp only[rd]at h
  split at h
  ·split at h
   ·rename_i s' e
    cases h
    exact e7 (ie r ρ s' e)
   ·cases h
  ·cases h
 | .p::r,x::ρ,s,h=>by
  dsimp only[rd]at h
  split at h
  ·split at h
   ·rename_i s' e
    cases h
    exact e7 (ie r ρ s' e)
   ·cases h
  ·cases h
 | .t::r,x::ρ,s,h=>by
  dsimp only[rd]at h
  split at h
  ·split at h
   ·rename_i s' e
    cases h
    exact e7 (ie r ρ s' e)
   ·cases h
  ·cases h
 | .k::r,x::ρ,s,h=>by
  dsimp only[rd]at h
  split at h
  ·split at h
   ·rename_i s' e
    cases h
    exact e7 (ie r ρ s' e)
   ·cases h
  ·cases h
 | .i y ns::r,x::ρ,s,h=>by
  dsimp only[rd]at h
  split at h
  ·split at h
   ·rename_i hc
    split at h
    ·rename_i s' e
     cases h
     obtain⟨rfl,rfl⟩:=hc
     exact e7 (ie r ρ s' e)
    ·cases h
   ·cases h
  ·cases h
 | .j y ns::r,x::ρ,s,h=>by
  dsimp only[rd]at h
  split at h
  ·split at h
   ·rename_i hc
    split at h
    ·rename_i s' e
     cases h
     obtain⟨rfl,rfl⟩:=hc
     exact e7 (ie r ρ s' e)
    ·cases h
   ·cases h
  ·cases h
 | .n::r,x::ρ,s,h=>by
  dsimp only[rd]at h
  split at h
  ·split at h
   ·rename_i s' e
    cases h
    exact e7 (ie r ρ s' e)
   ·cases h
  ·cases h
theorem _root_.L3.StOk.rd{sh:List Kd}{s:SOf sh}(S:StOk K G F Z H ρ)(h:L4.rd sh ρ=some s):StOk K G F Z H (wr sh s):=by
 obtain⟨h1,h2,h3⟩:=ie sh ρ s h
 exact S.weak h1 h2 h3
def rdk{S:Type}(sh:List Kd)(k:SOf sh->M S)(ρ:En):M S:=match rd sh ρ with
 | some s=>k s
 | none=>.bad
abbrev Ev(S α:Type):=(Ex->En->M S)->(α->En->M S)->En->M S
structure KS(S:Type) where
 nx:En->M S
 rt:D->En->M S
 rl:OC->En->M S
 bk:En->M S
 ct:En->M S
 x:Ex->En->M S
def KOk{S:Type}(OK:M S->Prop):Prop:=¬ OK .bad
def XL{S:Type}(X:Cx)(OK:M S->Prop)(x:Ex->En->M S)(G:Gh):Prop:=∀F ρ e,OK (x e ρ)->XW X G F ρ e
def AE{S:Type}(X:Cx)(e:Expr)(m:Ev S D):Prop :=
 ∀(OK:M S->Prop) (x:Ex->En->M S) (k:D->En->M S) (G:Gh) (F:Hp) (Z:L2.St) (H:Hp) (ρ:En) (Q:VK),KOk OK->XL X OK x G->StOk X.K G F Z H ρ->OK (m x k ρ) ->
  (∀d v F' H' ρ',Same F F'->StOk X.K G F' Z H' ρ'->Rep X.K F' v d->OK (k d ρ')->Q v H')->fQ X e Z H Q
def AEt{S:Type}(X:Cx)(e:Expr)(m:Ev S Bool):Prop :=
 ∀(OK:M S->Prop) (x:Ex->En->M S) (k:Bool->En->M S) (G:Gh) (F:Hp) (Z:L2.St) (H:Hp) (ρ:En) (Q:Bool->Hp->Prop),KOk OK->XL X OK x G->StOk X.K G F Z H ρ->OK (m x k ρ) ->
  (∀d F' H' ρ',Same F F'->StOk X.K G F' Z H' ρ'->OK (k d ρ')->Q d H')->pQ X e Z H Q
def AEw{S:Type}(X:Cx)(e:Expr)(m:Ev S Bool):Prop :=
 ∀(OK:M S->Prop) (x:Ex->En->M S) (k:Bool->En->M S) (G:Gh) (F:Hp) (Z:L2.St) (H:Hp) (ρ:En) (Q:Bool->Hp->Prop),KOk OK->XL X OK x G->StOk X.K G F Z H ρ->OK (m x k ρ) ->
  (∀d F' H' ρ',Same F F'->StOk X.K G F' Z H' ρ'->OK (k d ρ')->Q d H')->pP X e Z H Q
def AEb{S:Type}(X:Cx)(e:Expr)(m:Ev S Bool):Prop :=
 ∀(OK:M S->Prop) (x:Ex->En->M S) (k:Bool->En->M S) (G:Gh) (F:Hp) (Z:L2.St) (H:Hp) (ρ:En) (Q:VK),KOk OK->XL X OK x G->StOk X.K G F Z H ρ->OK (m x k ρ) ->
  (∀d F' H' ρ',Same F F'->StOk X.K G F' Z H' ρ'->OK (k d ρ')->Q (.bl d) H')->fQ X e Z H Q
def AEa{S:Type}(X:Cx)(es:List Expr)(m:Ev S (List D)):Prop :=
 ∀(OK:M S->Prop) (x:Ex->En->M S) (k:List D->En->M S) (G:Gh) (F:Hp) (Z:L2.St) (H:Hp) (ρ:En) (Q:List V->Hp->Prop),KOk OK->XL X OK x G->StOk X.K G F Z H ρ->OK (m x k ρ) ->
  (∀ds vs F' H' ρ',Same F F'->StOk X.K G F' Z H' ρ'->vs.length=es.length->RepL X.K F' vs ds->OK (k ds ρ')->Q vs H')->hJ X es Z H Q
def AEl{S:Type}(X:Cx)(e:Expr)(m:Ev S (List D)):Prop :=
 ∀(OK:M S->Prop) (x:Ex->En->M S) (k:List D->En->M S) (G:Gh) (F:Hp) (Z:L2.St) (H:Hp) (ρ:En) (Q:VK),KOk OK->XL X OK x G->StOk X.K G F Z H ρ->OK (m x k ρ) ->
  (∀ds v F' H' ρ',Same F F'->StOk X.K G F' Z H' ρ'->Frs X.K G F' Z H' ρ' v (.l ds)->OK (k ds ρ')->Q v H')->fQ X e Z H Q
def ePu{S α:Type}(p:Pu α):Ev S α:=λx k ρ=>(p ρ).on (λe=>x e ρ) (λa=>k a ρ)
section
variable {OK:M S->Prop} {x:Ex->En->M S} {k:α->En->M S} {p:Pu α} {C:α->Hp->Hp->Prop}
theorem W.of(hO:KOk OK)(hX:XL X OK x G)(h:OK (ePu p x k ρ))(w:∀a F' H',Same F F'->StOk X.K G F' Z H' ρ->OK (k a ρ)->C a F' H'):W X G F Z ρ (p ρ) C:=by
 unfold ePu at h
 cases hp:p ρ with
 | ret a=>rw[hp]at h;exact λF' H' s S'=>w a F' H' s S' h
 | exc e=>rw[hp]at h;exact hX F ρ e h
 | bad=>rw[hp]at h;exact hO h
end
section
variable {a c:Expr} {rest:List Expr} {p:Pu D} {pt:Pu Bool} {ps:Pu (List D)}
theorem az(h:AP X e p):AE (S:=S) X e (ePu p):=λOK x k G F Z H ρ Q hO hX St ok kk=>h G F Z H ρ Q St (W.of hO hX ok λd F' H' s S' o v r=>kk d v F' H' ρ s S' r o)
theorem cK(h:AT X e pt):AEt (S:=S) X e (ePu pt):=λOK x k G F Z H ρ Q hO hX St ok kk=>h G F Z H ρ Q St (W.of hO hX ok λd F' H' s S' o=>kk d F' H' ρ s S' o)
theorem fP(h:AL X e ps):AEl (S:=S) X e (ePu ps):=λOK x k G F Z H ρ Q hO hX St ok kk=>h G F Z H ρ Q St (W.of hO hX ok λd F' H' s S' o v r=>kk d v F' H' ρ s S' r o)
def eB(m:Ev S Bool):Ev S D:=λx k ρ=>m x (λb ρ1=>k (.bool b) ρ1) ρ
def eZ(m:Ev S (List D)):Ev S D:=λx k ρ=>m x (λds ρ1=>k (.list ds) ρ1) ρ
def IM(f:D->D->Option D)(a b:Ev S D):Ev S D:=λx k ρ=>a x (λd ρ1=>b x (λd2 ρ2=>(oM (f d d2)).on (λe=>x e ρ2) (λr=>k r ρ2)) ρ1) ρ
def EN(f:D->D->Option Bool)(a b:Ev S D):Ev S Bool:=λx k ρ=>a x (λd ρ1=>b x (λd2 ρ2=>(oM (f d d2)).on (λe=>x e ρ2) (λr=>k r ρ2)) ρ1) ρ
def JP:Ev S (List D):=λ_ k ρ=>k [] ρ
def IK(m:Ev S D)(ms:Ev S (List D)):Ev S (List D):=λx k ρ=>m x (λd ρ1=>ms x (λds ρ2=>k (d::ds) ρ2) ρ1) ρ
def JQ(ms:Ev S (List D)):Ev S (List D):=λx k ρ=>ms x (λds ρ1=>k ds ρ1) ρ
def IL(f:List D->Option D)(ms:Ev S (List D)):Ev S D:=λx k ρ=>ms x (λds ρ1=>(oM (f ds)).on (λe=>x e ρ1) (λr=>k r ρ1)) ρ
def JS(a b:Ev S Bool):Ev S Bool:=λx k ρ=>a x (λt ρ1=>if t then b x k ρ1 else k false ρ1) ρ
def eOr(a b:Ev S Bool):Ev S Bool:=λx k ρ=>a x (λt ρ1=>if t then k true ρ1 else b x k ρ1) ρ
theorem cy{OK:M S->Prop}(hO:KOk OK){o:Option α}{x:Ex->M S}{k:α->M S}(h:OK ((oM o).on x k)):∃a,o=some a/\OK (k a):=by
 cases o with
 | none=>exact(hO h).elim
 | some a=>exact⟨a,rfl,h⟩
theorem Gr{OK:M S->Prop}(hO:KOk OK){ds:List α}{x:Ex->M S}{k:List α->M S}(h:OK ((cC ds).on x k)):ds.length<=sizeLine/\OK (k ds):=by
 unfold cC at h
 split at h
 ·exact⟨by assumption,h⟩
 ·exact(hO h).elim
variable {ma mb m:Ev S D} {ta tb tc:Ev S Bool} {ms:Ev S (List D)}
theorem JX(h:AEb X e ta):AE X e (eB ta):=λOK x k G F Z H ρ Q hO hX St ok kk=>h OK x _ G F Z H ρ Q hO hX St ok λb F' H' ρ' s S' o=>kk _ _ F' H' ρ' s S' (.bl b) o
theorem DP(h:AEl X e ms):AE X e (eZ ms):=λOK x k G F Z H ρ Q hO hX St ok kk=>h OK x _ G F Z H ρ Q hO hX St ok λds v F' H' ρ' s S' fr o=>by
 obtain⟨F2,s2,S2,r2⟩:=S'.settle (v:=v) (ds:=ds) fr
 exact kk _ v F2 H' ρ' (s.trans s2) S2 r2 o
theorem mH{OK:M S->Prop}{x:Ex->En->M S}{f:D->D->En->M S}(ha:AE X a ma)(hb:AE X b mb)(hO:KOk OK)(hX:XL X OK x G)(St:StOk X.K G F Z H ρ)
  (ok:OK (ma x (λd ρ1=>mb x (λd2 ρ2=>f d d2 ρ2) ρ1) ρ)) (k:∀u v dx dy F' H' ρ',Same F F'->StOk X.K G F' Z H' ρ'->Rep X.K F' u dx->Rep X.K F' v dy->OK (f dx dy ρ')->r u v H' Q):tOp r (fQ X a) (fQ X b) Z H Q :=
 ha OK x _ G F Z H ρ _ hO hX St ok λd v F1 H1 ρ1 s1 S1 r1 o1=>hb OK x _ G F1 Z H1 ρ1 _ hO hX S1 o1 λd2 u F2 H2 ρ2 s2 S2 r2 o2=>k v u d d2 F2 H2 ρ2 (s1.trans s2) S2 (r1.mono s2) r2 o2
theorem vW{op:Operator}{f:D->D->Option D}(ho:OpR X (binaryOp op) r)(hf:OpD X.K r f)(ha:AE X a ma)(hb:AE X b mb):AE X (.BinOp a op b pos) (IM f ma mb) :=
 λOK x k G F Z H ρ Q hO hX St ok kk=>sem (El ho aN aN) (mH ha hb hO hX St ok λu v dx dy F' H' ρ' s S' r1 r2 o=>by
  obtain⟨res,e,o'⟩:=cy hO o
  exact hf G F' Z H' ρ' u v dx dy res Q S' (.inl r1) (.inl r2) e λw F2 H2 s2 S2 r3=>kk res w F2 H2 ρ' (s.trans s2) S2 r3 o')
theorem xA{f:D->D->Option D}(hr:IxR X r)(hf:OpD X.K r f)(ha:AE X a ma)(hb:AE X b mb)(hs:sg b:=by exact λ_ _=>rfl):AE X (.Subscript a b pos) (IM f ma mb) :=
 λOK x k G F Z H ρ Q hO hX St ok kk=>sem (Em hr aN aN hs) (mH ha hb hO hX St ok λu v dx dy F' H' ρ' s S' r1 r2 o=>by
  obtain⟨res,e,o'⟩:=cy hO o
  exact hf G F' Z H' ρ' u v dx dy res Q S' (.inl r1) (.inl r2) e λw F2 H2 s2 S2 r3=>kk res w F2 H2 ρ' (s.trans s2) S2 r3 o')
theorem DO{f:D->D->Option Bool}(ho:OpR X (compareOp op) r)(hf:OpB X.K r f)(ha:AE X a ma)(hb:AE X b mb)(hm:behindInMarks op b=false:=by rfl):AEb X (.Compare a [op] [b] pos) (EN f ma mb) :=
 λOK x k G F Z H ρ Q hO hX St ok kk=>sem (wt ho aN aN hm) (mH ha hb hO hX St ok λu v dx dy F' H' ρ' s S' r1 r2 o=>by
  obtain⟨res,e,o'⟩:=cy hO o
  exact hf G F' Z H' ρ' u v dx dy res Q S' (.inl r1) (.inl r2) e (kk res F' H' ρ' s S' o'))
theorem rZ{f:D->D->Option Bool}(ho:OpR X (compareOp op) r)(hf:OpB X.K r f)(ha:AE X a ma)(hb:AE X b mb)(hm:behindInMarks op b=false:=by rfl):AEt X (.Compare a [op] [b] pos) (EN f ma mb) :=
 λOK x k G F Z H ρ Q hO hX St ok kk=>zu (wj ho aN aN hm) (mH (Q:=λx H'=>∃k,x=.bl k/\Q k H') ha hb hO hX St ok λu v dx dy F' H' ρ' s S' r1 r2 o=>by
  obtain⟨res,e,o'⟩:=cy hO o
  exact hf G F' Z H' ρ' u v dx dy res _ S' (.inl r1) (.inl r2) e ⟨res,rfl,kk res F' H' ρ' s S' o'⟩)
theorem aW:AEa (S:=S) X [] JP:=λOK x k G F Z H ρ Q hO hX St ok kk=>uM kQ (kk [] [] F H ρ (Same.refl _) St rfl .nil ok)
theorem aM(h:AE X e m)(hr:AEa X es ms)(hs:starEach (e::es) X.env=(false,eval e X.env)::starEach es X.env:=by exact qO rfl):AEa X (e::es) (IK m ms) :=
 λOK x k G F Z H ρ Q hO hX St ok kk=>uM (gz aN bK hs) (h OK x _ G F Z H ρ _ hO hX St ok λd v F1 H1 ρ1 s1 S1 r1 o1 =>
  hr OK x _ G F1 Z H1 ρ1 _ hO hX S1 o1 λds vs F2 H2 ρ2 s2 S2 hl r2 o2=>kk (d::ds) (v::vs) F2 H2 ρ2 (s1.trans s2) S2 (by simp[hl]) (.cons (r1.mono s2) r2) o2)
theorem DM(h:AEa X es ms)(hz:es.length<=1000:=by decide +kernel):AEl X (.List es pos) (JQ ms) :=
 λOK x k G F Z H ρ Q hO hX St ok kk=>sem (Af bK) (h OK x _ G F Z H ρ _ hO hX St ok λds vs F1 H1 ρ1 s1 S1 hl r1 o1=>by
  refine⟨by rw[hl];exact rD hz,λq hq=>?_⟩
  obtain⟨S2,r2⟩:=S1.newLst hq r1
  exact kk _ _ _ _ ρ1 s1 S2 r2 o1)
theorem uq(ha:AEt X a ta):AEw X (.BoolOp .And [a] pos) ta:=λOK x k G F Z H ρ Q hO hX St ok kk=>sI (wb dG) (ha OK x k G F Z H ρ Q hO hX St ok kk)
theorem DL(ha:AEt X a ta):AEw X (.BoolOp .Or [a] pos) ta:=λOK x k G F Z H ρ Q hO hX St ok kk=>sI (zS dG) (ha OK x k G F Z H ρ Q hO hX St ok kk)
theorem xu(ha:AEt X a ta)(hb:AEw X (.BoolOp .And (b::rest) pos) tb):AEw X (.BoolOp .And (a::b::rest) pos) (JS ta tb) :=
 λOK x k G F Z H ρ Q hO hX St ok kk=>sI (zT dG kM) (ha OK x _ G F Z H ρ _ hO hX St ok λt F1 H1 ρ1 s1 S1 o1=>by
  cases t with
  | true=>refine tR ?_;exact hb OK x k G F1 Z H1 ρ1 Q hO hX S1 o1 λd F2 H2 ρ2 s2 S2 o2=>kk d F2 H2 ρ2 (s1.trans s2) S2 o2
  | false=>refine vm ?_;exact kk false F1 H1 ρ1 s1 S1 o1)
theorem GR(ha:AEt X a ta)(hb:AEw X (.BoolOp .Or (b::rest) pos) tb):AEw X (.BoolOp .Or (a::b::rest) pos) (eOr ta tb) :=
 λOK x k G F Z H ρ Q hO hX St ok kk=>sI (Ei dG kM) (ha OK x _ G F Z H ρ _ hO hX St ok λt F1 H1 ρ1 s1 S1 o1=>by
  cases t with
  | true=>refine tR ?_;exact kk true F1 H1 ρ1 s1 S1 o1
  | false=>refine vm ?_;exact hb OK x k G F1 Z H1 ρ1 Q hO hX S1 o1 λd F2 H2 ρ2 s2 S2 o2=>kk d F2 H2 ρ2 (s1.trans s2) S2 o2)
theorem vU(h:AEw X e ta):AEt X e ta:=λOK x k G F Z H ρ Q hO hX St ok kk=>zu (λpins s Z H Q I h=>kM _ pins s Z H Q I h) (h OK x k G F Z H ρ Q hO hX St ok kk)
theorem RepL.ors{ds:List D}(h:RepL K F vs ds):ORs K F H vs ds:=by
 induction vs generalizing ds with
 | nil=>cases h;exact .nil
 | cons v vs ih=>cases h with
  | cons a b=>exact .cons (.inl a) (ih b)
theorem ly{p:Pos}{r:List V->Hp->VK->Prop}{f:List D->Option D}(hc:CallR X (.type T) r)(hf:iM X.K r f)(hm:X.mg x=none)(hv:bootBuiltins x=some (.type T))(ha:AEa X (e::es) ms)(hg:Gl X x:=by rfl)
  (hn:x ≠ "__name__":=by decide) (hdb:(x==("__debug__" : Str))=false:=by decide) (he:starEach (e::es) X.env=(false,eval e X.env)::starEach es X.env:=by rfl) (hpl:(backTo pos (starEach es X.env)).any (·.1)=false:=by rfl):AE X (.Call (.Name x p) (e::es) [] pos) (IL f ms) :=
 λOK y k G F Z H ρ Q hO hX St ok kk=>sem (iR hc hg hm hv bK hn hdb he hpl) (ha OK y _ G F Z H ρ _ hO hX St ok λds vs F1 H1 ρ1 s1 S1 _ r1 o1=>by
  obtain⟨res,e,o'⟩:=cy hO o1
  exact hf G F1 Z H1 ρ1 vs ds res Q S1 (RepL.ors r1) e λw F2 H2 s2 S2 r3=>kk res w F2 H2 ρ1 (s1.trans s2) S2 r3 o')
end
structure Walk(K:Fg)(J:It)(ds:List D)(F:Hp):Prop where
 go:∀(i:Nat) (G:Gh) (F2:Hp) (Z:L2.St) (H2:Hp) (ρ:En),Same F F2->StOk K G F2 Z H2 ρ->i<ds.length->J.go i H2
 yld:∀(i:Nat) (G:Gh) (F2:Hp) (Z:L2.St) (H2:Hp) (ρ:En) (x:V) (H3:Hp) (d:D),Same F F2->StOk K G F2 Z H2 ρ->ds[i]? = some d->J.yld i H2 x H3->∃F3,Same F2 F3/\StOk K G F3 Z H3 ρ/\Rep K F3 x d
 stop:∀(G:Gh) (F2:Hp) (Z:L2.St) (H2:Hp) (ρ:En),Same F F2->StOk K G F2 Z H2 ρ->J.stop ds.length H2
theorem xJ{ds:List D}(h:SqL K F a vs)(r:RepL K F vs ds):Walk K (Itl K a) ds F where
 go:=λi G F2 Z H2 ρ s S hi=>by
  have hi':i<vs.length:=by rw[r.length];exact hi
  exact⟨vs,vs[i],S.fh.seq (s.seq h),by simp[hi']⟩
 yld:=λi G F2 Z H2 ρ x H3 d s S hd ⟨e,q⟩=>by
  subst e
  obtain⟨v,e1,e2⟩:=r.get hd
  have:=q vs (S.fh.seq (s.seq h))
  rw[e1]at this
  cases this
  exact⟨F2,Same.refl _,S,e2.mono s⟩
 stop:=λG F2 Z H2 ρ s S=>⟨vs,S.fh.seq (s.seq h),by rw[r.length];exact ai _⟩
theorem zl{ds:List D}(h:SqT K F a vs)(r:RepL K F vs ds):Walk K (Itt K a) ds F where
 go:=λi G F2 Z H2 ρ s S hi=>by
  have hi':i<vs.length:=by rw[r.length];exact hi
  exact⟨vs,vs[i],fR S.fh (fR s h),by simp[hi']⟩
 yld:=λi G F2 Z H2 ρ x H3 d s S hd ⟨e,q⟩=>by
  subst e
  obtain⟨v,e1,e2⟩:=r.get hd
  have:=q vs (fR S.fh (fR s h))
  rw[e1]at this
  cases this
  exact⟨F2,Same.refl _,S,e2.mono s⟩
 stop:=λG F2 Z H2 ρ s S=>⟨vs,fR S.fh (fR s h),by rw[r.length];exact ai _⟩
def gy(lo:Int)(n:Nat):List D:=(List.range n).map λ(i:Nat)=>PyData.int (lo+(i:Int))
theorem fG(lo:Int)(n:Nat):(gy lo n).length=n:=by simp[gy]
theorem mO(lo:Int)(n:Nat):Walk K (Itr lo n) (gy lo n) F where
 go:=λi G F2 Z H2 ρ s S hi=>by rw[fG]at hi;exact hi
 yld:=λi G F2 Z H2 ρ x H3 d s S hd ⟨e,q⟩=>by
  subst e q
  have e':(gy lo n)[i]? = some d:=hd
  unfold gy at e'
  rw[ik]at e'
  have hi:i<n:=by
   have:=(List.getElem?_eq_some_iff.mp hd).1
   rw[fG]at this;exact this
  rw[KQ hi]at e'
  cases e'
  exact⟨F2,Same.refl _,S,.int _⟩
 stop:=λG F2 Z H2 ρ s S=>by rw[fG];exact ai _
@[irreducible] def hG(X:Cx)(tg iter:Expr):TI:=λZ H R=>∀(pins:zzk) (s:Shared),Inv X pins Z H s->wpAny (model X.prog X.w) X.A (eval iter X.env) (λv s1=>wpAny (model X.prog X.w) X.A (pyIter v) (PIE X pins Z tg R) X.xe s1) X.xe s
theorem qZ:PI X tg e (hG X tg e):=λpins s Z H R I h=>by unfold hG at h;exact h pins s I
theorem uL{t:TI}(h:PI X tg e t)(q:t Z H R):hG X tg e Z H R:=by unfold hG;exact λpins s I=>h pins s Z H R I q
def AI(X:Cx)(tg e:Expr)(p:Pu (List D)):Prop :=
 ∀(G:Gh) (F:Hp) (Z:L2.St) (H:Hp) (ρ:En) (R:It->Hp->Prop),StOk X.K G F Z H ρ->W X G F Z ρ (p ρ) (λds F' H'=>∀J,Walk X.K J ds F'->R J H')->hG X tg e Z H R
def AEi{S:Type}(X:Cx)(tg e:Expr)(m:Ev S (List D)):Prop :=
 ∀(OK:M S->Prop) (x:Ex->En->M S) (k:List D->En->M S) (G:Gh) (F:Hp) (Z:L2.St) (H:Hp) (ρ:En) (R:It->Hp->Prop),KOk OK->XL X OK x G->StOk X.K G F Z H ρ->OK (m x k ρ) ->
  (∀ds J F' H' ρ',Same F F'->StOk X.K G F' Z H' ρ'->Walk X.K J ds F'->OK (k ds ρ')->R J H')->hG X tg e Z H R
theorem bx{ps:Pu (List D)}(h:AI X tg e ps):AEi (S:=S) X tg e (ePu ps):=λOK x k G F Z H ρ Q hO hX St ok kk=>h G F Z H ρ Q St (W.of hO hX ok λd F' H' s S' o v r=>kk d v F' H' ρ s S' r o)
def JK(K:Fg)(tl:TE):TI:=λZ H R=>tl Z H λx H1=>(∃a,x=.ref a/\(∃xs,SqL K H1 a xs)/\R (Itl K a) H1)\/∃a,x=.ref a/\(∃xs,SqT K H1 a xs)/\R (Itt K a) H1
theorem Aa{l:Expr}{tl:TE}(hl:PE X l tl):PI X tg l (JK X.K tl):=by
 intro pins s Z H R I h
 refine thn (hl pins s Z H _ I h) λv s1 ⟨x,H1,I1,r1,q1⟩=>?_
 rcases q1 with ⟨a,e,⟨xs,hq⟩,q⟩|⟨a,e,⟨xs,hq⟩,q⟩
 ·subst e
  cases r1
  obtain⟨its,rv,p,hz⟩:=I1.list hq
  refine LH p.isList ?_
  refine⟨s1.heap.objs.size,[s1.heap.objs.size],_,_,H1,rfl,I1.kept (t':=s1.toks) λb o e=>zzc _ e,xO a _,⟨_,zze _ rfl,rfl,rfl⟩,λb hb=>?_,q⟩
  have e:b=s1.heap.objs.size:=by simpa using hb
  subst e
  exact I1.fpOk (ai _) (I1.hok.fresh (ai _))
 ·subst e
  cases r1
  obtain⟨its,rv,p,hz⟩:=I1.tuple hq
  refine Lq (show s1.heap.IsTuple a its.toArray from p) ?_
  refine⟨s1.heap.objs.size,[s1.heap.objs.size],_,_,H1,rfl,I1.kept (t':=s1.toks) λb o e=>zzc _ e,uE a _,⟨_,zze _ rfl,rfl,rfl⟩,λb hb=>?_,q⟩
  have e:b=s1.heap.objs.size:=by simpa using hb
  subst e
  exact I1.fpOk (ai _) (I1.hok.fresh (ai _))
def cn:D->Option (List D)
 | .list ds=>some ds
 | .tuple ds=>some ds
 | _=>none
def pIt(p:Pu D):Pu (List D):=λρ=>bd (p ρ) λd=>oM (cn d)
def eIt{S:Type}(m:Ev S D):Ev S (List D):=λx k ρ=>m x (λd ρ1=>(oM (cn d)).on (λe=>x e ρ1) (λr=>k r ρ1)) ρ
def gq(i:Int):Bool:=decide (-(2^62)<=i)&&decide (i<2^62)
theorem cY{i:Int}(h:gq i=true) : -(2^62)<=i/\i<2^62:=by
 unfold gq at h
 simp only[ac,zzi]at h
 exact h
def aZ:List D->Option (List D)
 | [.int j]=>if gq j then some (gy 0 j.toNat)else none
 | _=>none
def dX:List D->Option (List D)
 | [.int i,.int j]=>if gq i&&gq j then some (gy i (j - i).toNat)else none
 | _=>none
def Gw{S:Type}(f:List D->Option (List D))(ms:Ev S (List D)):Ev S (List D):=λx k ρ=>ms x (λds ρ1=>(oM (f ds)).on (λe=>x e ρ1) (λr=>k r ρ1)) ρ
section
variable {a:Expr} {pp:Pu D} {ps:Pa (List D)} {m:Ev S D} {ms:Ev S (List D)}
theorem sH{d:D}{ds:List D}(s:Same F H)(r:Rep X.K F v d)(hd:cn d=some ds)(k:∀J,Walk X.K J ds F->R J H) :
  (∃a,v=.ref a/\(∃xs,SqL X.K H a xs)/\R (Itl X.K a) H)\/∃a,v=.ref a/\(∃xs,SqT X.K H a xs)/\R (Itt X.K a) H:=by
 cases d with
 | list xs =>
  cases hd
  obtain⟨a,vs,rfl,h1,h2⟩:=r.lst_inv
  exact .inl ⟨_,rfl,⟨_,s.seq h1⟩,k _ (xJ h1 h2)⟩
 | tuple xs =>
  cases hd
  obtain⟨a,vs,rfl,h1,h2⟩:=r.tup_inv
  exact .inr ⟨_,rfl,⟨_,SqT.of (s _ _ h1)⟩,k _ (zl (SqT.of h1) h2)⟩
 | _=>exact noS hd
theorem bJ(h:AP X e pp):AI X tg e (pIt pp):=λG F Z H ρ R S w=>uL (Aa aN) (h G F Z H ρ _ S (w.bind.imp λd F1 H1 s1 S1 w1 v r1=>by
 obtain⟨ds,hd,k⟩:=w1.opt
 exact sH S1.fh r1 hd (k F1 H1 (Same.refl _) S1)))
theorem DN(h:AE X e m):AEi X tg e (eIt m):=λOK x k G F Z H ρ R hO hX St ok kk=>uL (Aa aN) (h OK x _ G F Z H ρ _ hO hX St ok λd v F1 H1 ρ1 s1 S1 r1 o1=>by
 obtain⟨ds,hd,o⟩:=cy hO o1
 exact sH S1.fh r1 hd λJ wk=>kk ds J F1 H1 ρ1 s1 S1 wk o)
theorem pX{ds out:List D}(r:RepL X.K F vs ds)(h:aZ ds=some out)(k:∀J,Walk X.K J out F->R J H):∃j,vs=[.int j] /\ -(2^62)<=j/\j<2^62/\R (Itr 0 j.toNat) H:=by
 unfold aZ at h
 split at h
 ·rename_i j
  split at h
  ·rename_i hs
   cases h
   obtain⟨v,rfl,r1⟩:=r.one_inv
   obtain rfl:=r1.int_inv
   exact⟨j,rfl,(cY hs).1,(cY hs).2,k _ (mO 0 j.toNat)⟩
  ·cases h
 ·cases h
theorem xZ{ds out:List D}(r:RepL X.K F vs ds)(h:dX ds=some out)(k:∀J,Walk X.K J out F->R J H) :
  ∃i j,vs=[.int i,.int j]/\(-(2^62)<=i/\i<2^62 /\ -(2^62)<=j/\j<2^62)/\R (Itr i (j - i).toNat) H:=by
 unfold dX at h
 split at h
 ·rename_i i j
  split at h
  ·rename_i hs
   cases h
   rw[ac]at hs
   obtain⟨v,u,rfl,r1,r3⟩:=r.two_inv
   obtain rfl:=r1.int_inv
   obtain rfl:=r3.int_inv
   exact⟨i,j,rfl,⟨(cY hs.1).1,(cY hs.1).2,(cY hs.2).1,(cY hs.2).2⟩,k _ (mO i (j - i).toNat)⟩
  ·cases h
 ·cases h
theorem bt(hg:Gl X "range")(hm:X.mg "range" = none)(ha:AA X [a] ps)(hs:starEach [a] X.env=[(false,eval a X.env)]):AI X tg (.Call (.Name "range" p) [a] [] pos) (ii aZ ps) :=
 λG F Z H ρ R S w=>uL (pY hg hm bK hs) (ha G F Z H ρ _ _ _ S w λds vs F1 H1 s1 S1 _ r1 w1=>by
  obtain⟨out,hd,k⟩:=w1.opt
  exact pX r1 hd (k F1 H1 (Same.refl _) S1))
theorem i7(hg:Gl X "range")(hm:X.mg "range" = none)(ha:AA X [a,b] ps)(hs:starEach [a,b] X.env=[(false,eval a X.env),(false,eval b X.env)])(hs2:starEach [b] X.env=[(false,eval b X.env)]):AI X tg (.Call (.Name "range" p) [a,b] [] pos) (ii dX ps) :=
 λG F Z H ρ R S w=>uL (yb hg hm bK hs hs2) (ha G F Z H ρ _ _ _ S w λds vs F1 H1 s1 S1 _ r1 w1=>by
  obtain⟨out,hd,k⟩:=w1.opt
  exact xZ r1 hd (k F1 H1 (Same.refl _) S1))
theorem vV(hg:Gl X "range")(hm:X.mg "range" = none)(ha:AEa X [a] ms)(hs:starEach [a] X.env=[(false,eval a X.env)]):AEi X tg (.Call (.Name "range" p) [a] [] pos) (Gw aZ ms) :=
 λOK x k G F Z H ρ R hO hX St ok kk=>uL (pY hg hm bK hs) (ha OK x _ G F Z H ρ _ hO hX St ok λds vs F1 H1 ρ1 s1 S1 _ r1 o1=>by
  obtain⟨out,hd,o⟩:=cy hO o1
  exact pX r1 hd λJ wk=>kk out J F1 H1 ρ1 s1 S1 wk o)
end
abbrev Tg(S:Type):=D->(En->M S)->En->M S
def jf(ρ:En)(i:Nat):Bool:=decide (i<ρ.length)&&(match ρ[i]? with
 | some (some (.op _))=>false
 | _=>true)
theorem dq(h:jf ρ i=true):i<ρ.length/\∀c,ρ[i]? ≠ some (some (.op c)):=by
 unfold jf at h
 rw[ac]at h
 refine⟨by simpa using h.1,λc e=>?_⟩
 rw[e]at h
 exact absurd h.2 (by simp)
@[irreducible] def pS(X:Cx)(tg:Expr):TG:=λv Z H Q=>∀(pins:zzk) (s:Shared) (u:Value),Inv X pins Z H s->RelV v u->wpAny (model X.prog X.w) X.A (assign tg X.env u) (λ_ s'=>∃σ' H',Inv X pins σ' H' s'/\Q σ' H') X.xe s
@[irreducible] def mU(X:Cx)(tgs:List Expr):TGs:=λvs Z H Q=>∀(pins:zzk) (s:Shared) (us:List Value),Inv X pins Z H s->Vals vs us->wpAny (model X.prog X.w) X.A (assignInOrder ((assignEach tgs X.env).map (·.2)) us) (λ_ s'=>∃σ' H',Inv X pins σ' H' s'/\Q σ' H') X.xe s
theorem kO:PG X tg (pS X tg):=λpins s Z H v u Q I r h=>by unfold pS at h;exact h pins s u I r
theorem q8{tgs:List Expr}:PGs X tgs (mU X tgs):=λpins s Z H vs us Q I r h=>by unfold mU at h;exact h pins s us I r
theorem E8{t:TG}{Q:L2.St->Hp->Prop}(h:PG X tg t)(q:t v Z H Q):pS X tg v Z H Q:=by unfold pS;exact λpins s u I r=>h pins s Z H v u Q I r q
theorem D2{tgs:List Expr}{t:TGs}{Q:L2.St->Hp->Prop}(h:PGs X tgs t)(q:t vs Z H Q):mU X tgs vs Z H Q:=by unfold mU;exact λpins s us I r=>h pins s Z H vs us Q I r q
def AG{S:Type}(X:Cx)(n:Nat)(tg:Expr)(st:Tg S):Prop :=
 ∀(OK:M S->Prop) (k:En->M S) (G:Gh) (F:Hp) (Z:L2.St) (H:Hp) (ρ:En) (v:V) (d:D) (Q:L2.St->Hp->Prop),KOk OK->StOk X.K G F Z H ρ->Rep X.K F v d->OK (st d k ρ) ->
  (∀σ' ρ',StOk X.K G F σ' H ρ'->(∀j,j<n->σ'[j]? = Z[j]? /\ ρ'[j]? = ρ[j]?)->σ'.length=Z.length->ρ'.length=ρ.length->OK (k ρ')->Q σ' H)->pS X tg v Z H Q
def AGs{S:Type}(X:Cx)(n:Nat)(tgs:List Expr)(st:List D->(En->M S)->En->M S):Prop :=
 ∀(OK:M S->Prop) (k:En->M S) (G:Gh) (F:Hp) (Z:L2.St) (H:Hp) (ρ:En) (vs:List V) (ds:List D) (Q:L2.St->Hp->Prop),KOk OK->StOk X.K G F Z H ρ->RepL X.K F vs ds->OK (st ds k ρ) ->
  (∀σ' ρ',StOk X.K G F σ' H ρ'->(∀j,j<n->σ'[j]? = Z[j]? /\ ρ'[j]? = ρ[j]?)->σ'.length=Z.length->ρ'.length=ρ.length->OK (k ρ')->Q σ' H)->mU X tgs vs Z H Q
def IH{S:Type}(i:Nat):Tg S:=λd k ρ=>match jf ρ i with
 | true=>k (ρ.set i (some (.fz d)))
 | false=>.bad
def IG{S:Type}:List D->(En->M S)->En->M S
 | [],k,ρ=>k ρ
 | _,_,_=>.bad
def Gj{S:Type}(t:Tg S)(ts:List D->(En->M S)->En->M S):List D->(En->M S)->En->M S
 | d::ds,k,ρ=>t d (λρ1=>ts ds k ρ1) ρ
 | [],_,_=>.bad
def un2{S:Type}(d:D)(k:D->D->M S):M S:=match d with
 | .tuple [a,b]=>k a b
 | _=>.bad
def un4{S:Type}(d:D)(k:D->D->D->D->M S):M S:=match d with
 | .tuple [a,b,c,e]=>k a b c e
 | _=>.bad
def EI{S:Type}(ts:List D->(En->M S)->En->M S):Tg S:=λd k ρ=>un2 d λa b=>ts [a,b] k ρ
def EH{S:Type}(ts:List D->(En->M S)->En->M S):Tg S:=λd k ρ=>un4 d λa b c e=>ts [a,b,c,e] k ρ
section
theorem aD(hn:n<=i)(hN:X.N.Nodup)(hi:X.N[i]? = some x:=by rfl)(hx:Loc X.env.scope x:=by exact lo rfl)(hf:X.fn x=true\/X.env.scope.names.lookup x=some .local:=by first|exact .inl rfl|exact .inr rfl):AG (S:=S) X n (.Name x pos) (IH i):=by
 intro OK k G F Z H ρ v d Q hO S r ok kk
 unfold IH at ok
 split at ok
 ·rename_i ho
  obtain⟨hl,hop⟩:=dq ho
  refine E8 (Cw hN hi hx hf) ?_
  exact kk _ _ (S.store hop hl (.inl ⟨d,rfl,r⟩)) (λj hj=>⟨ss (by lia),ss (by lia)⟩) (by simp) (by simp) ok
 ·exact(hO ok).elim
theorem i8:AGs (S:=S) X n [] IG:=by
 intro OK k G F Z H ρ vs ds Q hO S r ok kk
 cases ds with
 | nil =>
  cases r
  exact D2 Cv ⟨rfl,kk Z ρ S (λ_ _=>⟨rfl,rfl⟩) rfl rfl ok⟩
 | cons d ds=>exact(hO ok).elim
theorem bA{st:Tg S}{sts:List D->(En->M S)->En->M S}(h1:AG X n e st)(h2:AGs X n es sts)
  (hs:(assignEach (e::es) X.env).map (·.2)=assign e X.env::(assignEach es X.env).map (·.2)):AGs X n (e::es) (Gj st sts):=by
 intro OK k G F Z H ρ vs ds Q hO S r ok kk
 cases ds with
 | nil=>exact(hO ok).elim
 | cons d ds =>
  cases r with
  | cons rv rr =>
   refine D2 (Ac kO q8 hs) ⟨_,_,rfl,?_⟩
   refine h1 OK _ G F Z H ρ _ d _ hO S rv ok λσ1 ρ1 S1 kp1 l1 m1 o1=>?_
   exact h2 OK k G F σ1 H ρ1 _ ds _ hO S1 rr o1 λσ2 ρ2 S2 kp2 l2 m2 o2=>kk σ2 ρ2 S2 (λj hj=>⟨(kp2 j hj).1.trans (kp1 j hj).1,(kp2 j hj).2.trans (kp1 j hj).2⟩) (l2.trans l1) (m2.trans m1) o2
theorem xp{l:Nat}{sts:List D->(En->M S)->En->M S}{st:Tg S}(hc:X.calm=true)(h:AGs X n es sts)(hn:(assignEach es X.env).length=l)(hst:(assignEach es X.env).findIdx? (·.1)=none)
  (hw:∀(OK:M S->Prop) d k ρ,KOk OK->OK (st d k ρ)->∃ds,d=.tuple ds/\ds.length=l/\OK (sts ds k ρ)):AG X n (.Tuple es kk pos) st:=by
 intro OK k G F Z H ρ v d Q hO S r ok k2
 obtain⟨ds,rfl,hl,ok⟩:=hw OK d k ρ hO ok
 cases r with
 | tup h1 h2 =>
  refine E8 (Fq hc q8 hn hst) ⟨_,_,rfl,SqT.of (S.fh _ _ h1),by rw[h2.length];exact hl,?_⟩
  exact h OK k G F Z H ρ _ ds _ hO S h2 ok k2
theorem xq{sts:List D->(En->M S)->En->M S}(hc:X.calm=true)(h:AGs X n es sts)(hn:(assignEach es X.env).length=2)(hst:(assignEach es X.env).findIdx? (·.1)=none):AG X n (.Tuple es kk pos) (EI sts) :=
 xp hc h hn hst λOK d k ρ hO o=>by
  unfold EI un2 at o
  split at o
  ·exact⟨_,rfl,rfl,o⟩
  ·exact(hO o).elim
theorem rX{sts:List D->(En->M S)->En->M S}(hc:X.calm=true)(h:AGs X n es sts)(hn:(assignEach es X.env).length=4)(hst:(assignEach es X.env).findIdx? (·.1)=none):AG X n (.Tuple es kk pos) (EH sts) :=
 xp hc h hn hst λOK d k ρ hO o=>by
  unfold EH un4 at o
  split at o
  ·exact⟨_,rfl,rfl,o⟩
  ·exact(hO o).elim
end
abbrev SM(S:Type):=KS S->En->M S
structure EOk{S:Type}(X:Cx)(OK:M S->Prop)(K:KS S)(G:Gh)(F:Hp)(E:Ends):Prop where
 nx:∀F' σ' H' ρ',Same F F'->StOk X.K G F' σ' H' ρ'->OK (K.nx ρ')->E.nx σ' H'
 rt:∀F' σ' H' ρ' d v,Same F F'->StOk X.K G F' σ' H' ρ'->Rep X.K F' v d->OK (K.rt d ρ')->E.rt v H'
 rl:∀F' σ' H' ρ' c v,Same F F'->StOk X.K G F' σ' H' ρ'->Frs X.K G F' σ' H' ρ' v c->OK (K.rl c ρ')->E.rt v H'
 bk:∀F' σ' H' ρ',Same F F'->StOk X.K G F' σ' H' ρ'->OK (K.bk ρ')->E.bk σ' H'
 ct:∀F' σ' H' ρ',Same F F'->StOk X.K G F' σ' H' ρ'->OK (K.ct ρ')->E.ct σ' H'
theorem EOk.up{OK:M S->Prop}{K:KS S}{E:Ends}(h:EOk X OK K G F E)(s:Same F F'):EOk X OK K G F' E :=
 ⟨λF2 σ' H' ρ' s2=>h.nx F2 σ' H' ρ' (s.trans s2),λF2 σ' H' ρ' d v s2=>h.rt F2 σ' H' ρ' d v (s.trans s2),λF2 σ' H' ρ' d v s2=>h.rl F2 σ' H' ρ' d v (s.trans s2),λF2 σ' H' ρ' s2=>h.bk F2 σ' H' ρ' (s.trans s2),λF2 σ' H' ρ' s2=>h.ct F2 σ' H' ρ' (s.trans s2)⟩
@[irreducible] def pR(X:Cx)(st:Stmt):TS:=λE Z H=>∀(pins:zzk) (s:Shared),Inv X pins Z H s->wpAny (model X.prog X.w) X.A (exec st X.env) (SP X pins E) X.xe s
@[irreducible] def su(X:Cx)(sts:List Stmt):TS:=λE Z H=>∀(pins:zzk) (s:Shared),Inv X pins Z H s->wpAny (model X.prog X.w) X.A (execs sts X.env) (SP X pins E) X.xe s
section
variable {sts:List Stmt} {E:Ends} {t:TS}
theorem zX:PS X st (pR X st):=λpins s Z H E I h=>by unfold pR at h;exact h pins s I
theorem e8:PSs X sts (su X sts):=λpins s Z H E I h=>by unfold su at h;exact h pins s I
theorem gv(h:PS X st t)(q:t E Z H):pR X st E Z H:=by unfold pR;exact λpins s I=>h pins s Z H E I q
theorem E9(h:PSs X sts t)(q:t E Z H):su X sts E Z H:=by unfold su;exact λpins s I=>h pins s Z H E I q
end
def AS{S:Type}(X:Cx)(st:Stmt)(m:SM S):Prop :=
 ∀(OK:M S->Prop) (K:KS S) (G:Gh) (F:Hp) (Z:L2.St) (H:Hp) (ρ:En) (E:Ends),KOk OK->XL X OK K.x G->StOk X.K G F Z H ρ->OK (m K ρ)->EOk X OK K G F E->pR X st E Z H
def ASs{S:Type}(X:Cx)(st:List Stmt)(m:SM S):Prop :=
 ∀(OK:M S->Prop) (K:KS S) (G:Gh) (F:Hp) (Z:L2.St) (H:Hp) (ρ:En) (E:Ends),KOk OK->XL X OK K.x G->StOk X.K G F Z H ρ->OK (m K ρ)->EOk X OK K G F E->su X st E Z H
section
def Hl:SM S:=λK ρ=>K.nx ρ
def Jn(m n:SM S):SM S:=λK ρ=>m { K with nx:=λρ1=>n K ρ1 } ρ
def sIf(c:Ev S Bool)(m n:SM S):SM S:=λK ρ=>c K.x (λb ρ1=>if b then m K ρ1 else n K ρ1) ρ
def sTo(sh:List Kd)(m:SM S):SM S:=λK ρ=>m { K with nx:=λρ1=>rdk sh (λs=>K.nx (wr sh s)) ρ1 } ρ
def Hj(i:Nat)(m:Ev S D):SM S:=λK ρ=>m K.x (λd ρ1=>match jf ρ1 i with
 | true=>K.nx (ρ1.set i (some (.fz d)))
 | false=>.bad) ρ
def Hi(i:Nat)(m:Ev S (List D)):SM S:=λK ρ=>m K.x (λds ρ1=>match jf ρ1 i with
 | true=>K.nx (ρ1.set i (some (.ol (.l ds))))
 | false=>.bad) ρ
def Jr(t:Tg S)(m:Ev S D):SM S:=λK ρ=>m K.x (λd ρ1=>t d K.nx ρ1) ρ
def Jo(m:Ev S D):SM S:=λK ρ=>m K.x K.rt ρ
def Hk(m:Ev S (List D)):SM S:=λK ρ=>m K.x (λds=>K.rl (.l ds)) ρ
def Hn(m:Ev S D):SM S:=λK ρ=>m K.x (λ_ ρ1=>K.nx ρ1) ρ
def Hm(i:Nat)(m:SM S):SM S:=λK ρ=>match ρ[i]? with
 | some (some (.ol c))=>if c.isI then .bad else m K (ρ.set i (some (.fz c.d)))
 | _=>.bad
def qS(ρ:En)(i:Nat)(ds:List D):En:=match ρ[i]? with
 | some (some (.op _))=>ρ.set i (some (.op (.l ds)))
 | _=>ρ.set i (some (.ol (.l ds)))
def xU(i:Nat)(f:List D->List D->Option (List D))(ms:Ev S (List D)):SM S:=λK ρ=>match im ρ i with
 | some _=>ms K.x (λas ρ1=>match im ρ1 i with
  | some ds=>(oM (f ds as)).on (λe=>K.x e ρ1) (λds'=>K.nx (qS ρ1 i ds'))
  | none=>.bad) ρ
 | none=>.bad
def gZ{T:Type}(step:T->D->(T->M S)->M S):List D->T->(T->M S)->M S
 | [],s,k=>k s
 | d::r,s,k=>step s d (λs'=>gZ step r s' k)
@[reducible] def ji(sh:List Kd)(K:KS S)(kn:SOf sh->M S):KS S:={ K with
  nx:=λρ3=>rdk sh kn ρ3
  ct:=λρ3=>rdk sh kn ρ3
  bk:=λρ3=>rdk sh (λs'=>K.nx (wr sh s')) ρ3 }
def Ff(sh:List Kd)(it:Ev S (List D))(t:Tg S)(mb:SM S):SM S:=λK ρ=>it K.x (λds ρ1=>rdk sh (λs=>gZ (λs d kn=>t d (λρ2=>mb (ji sh K kn) ρ2) (wr sh s)) ds s (λs'=>K.nx (wr sh s'))) ρ1) ρ
def cx{T:Type}(step:T->(T->M S)->M S):Nat->T->M S
 | 0,_=>.bad
 | n+1,s=>step s (λs'=>cx step n s')
def uP(sh:List Kd)(fuel:Nat)(c:Ev S Bool)(mb:SM S):SM S:=λK ρ=>rdk sh (λs=>cx (λs kn=>c K.x (λb ρ2=>if b then mb (ji sh K kn) ρ2 else rdk sh (λs'=>K.nx (wr sh s')) ρ2) (wr sh s)) fuel s) ρ
end
theorem lB(ρ:En)(i:Nat)(ds ds0:List D)(h:im ρ i=some ds0):qS ρ i ds=ρ.set i ((ρ[i]?.join).map fun | .op _=>.op (.l ds)|_=>.ol (.l ds)):=by
 unfold im at h
 unfold qS
 split at h
 ·rename_i q;rw[q];rfl
 ·rename_i q;rw[q];rfl
 ·cases h
theorem eC{OK:M S->Prop}(hO:KOk OK){sh:List Kd}{k:SOf sh->M S}(h:OK (rdk sh k ρ)):∃s,rd sh ρ=some s/\OK (k s):=by
 unfold rdk at h
 split at h
 ·rename_i s e;exact⟨s,e,h⟩
 ·exact(hO h).elim
section
variable {sts rest:List Stmt} {m n:SM S} {c a:Expr} {me:Ev S D} {mt:Ev S Bool} {ml:Ev S (List D)} {tpos:Pos}
theorem cu:ASs (S:=S) X [] Hl:=λOK K G F Z H ρ E hO hX St ok eo=>E9 Cp (eo.nx F Z H ρ (Same.refl _) St ok)
theorem ag(h1:AS X st m)(h2:ASs X rest n):ASs X (st::rest) (Jn m n):=λOK K G F Z H ρ E hO hX St ok eo =>
 E9 (zV zX e8) (h1 OK { K with nx:=λρ1=>n K ρ1 } G F Z H ρ _ hO hX St ok ⟨λF' σ' H' ρ' s S' o=>h2 OK K G F' σ' H' ρ' E hO hX S' o (eo.up s),eo.rt,eo.rl,eo.bk,eo.ct⟩)
theorem aC(h1:AS X st m):ASs X [st] m:=λOK K G F Z H ρ E hO hX St ok eo=>E9 (Co zX) (h1 OK K G F Z H ρ E hO hX St ok eo)
theorem gh{A B:List Stmt}(hc:AEt X c mt)(ha:ASs X A m)(hb:ASs X B n):AS X (.If c A B pos) (sIf mt m n):=λOK K G F Z H ρ E hO hX St ok eo =>
 gv (HK dG e8 e8) (hc OK K.x _ G F Z H ρ _ hO hX St ok λt F1 H1 ρ1 s1 S1 o1=>by
  cases t with
  | true=>exact ha OK K G F1 Z H1 ρ1 E hO hX S1 o1 (eo.up s1)
  | false=>exact hb OK K G F1 Z H1 ρ1 E hO hX S1 o1 (eo.up s1))
theorem aL{sh:List Kd}(h:AS X st m):AS X st (sTo sh m):=λOK K G F Z H ρ E hO hX St ok eo =>
 h OK { K with nx:=λρ1=>rdk sh (λs=>K.nx (wr sh s)) ρ1 } G F Z H ρ E hO hX St ok ⟨λF' σ' H' ρ' s S' o=>by
  obtain⟨s',e',o'⟩:=eC hO o
  exact eo.nx F' σ' H' _ s (S'.rd e') o',eo.rt,eo.rl,eo.bk,eo.ct⟩
theorem iJ(h:AS X st m):AS X st (Hm i m):=λOK K G F Z H ρ E hO hX St ok eo=>by
 unfold Hm at ok
 split at ok
 ·rename_i ds q
  obtain⟨a,ea,_⟩:=St.ow i _ (.inl q)
  split at ok
  ·exact(hO ok).elim
  rename_i hI
  obtain⟨F2,s2,S2,_⟩:=St.settleC (by simpa using hI) q ea
  exact h OK K G F2 Z H _ E hO hX S2 ok (eo.up s2)
 ·exact(hO ok).elim
theorem bI(he:AE X e me):AS X (.Return (some e) pos) (Jo me):=λOK K G F Z H ρ E hO hX St ok eo =>
 gv (zY aN) (he OK K.x K.rt G F Z H ρ _ hO hX St ok λd v F1 H1 ρ1 s1 S1 r1 o1=>eo.rt F1 Z H1 ρ1 d v s1 S1 r1 o1)
theorem DD(he:AEl X e ml):AS X (.Return (some e) pos) (Hk ml):=λOK K G F Z H ρ E hO hX St ok eo =>
 gv (zY aN) (he OK K.x (λds=>K.rl (.l ds)) G F Z H ρ _ hO hX St ok λd v F1 H1 ρ1 s1 S1 r1 o1=>eo.rl F1 Z H1 ρ1 (.l d) v s1 S1 r1 o1)
theorem aR(hN:X.N.Nodup)(he:AE X e me)(hi:X.N[i]? = some x:=by rfl)(hx:Loc X.env.scope x:=by exact lo rfl)(hs:swapsWith e (some (.Name x pos')) pos.line X.env=pure false:=by rfl)(hf:X.fn x=true\/X.env.scope.names.lookup x=some .local:=by exact .inl rfl) :
  AS X (.Assign [.Name x pos'] e pos) (Hj i me):=λOK K G F Z H ρ E hO hX St ok eo =>
 gv (jw hN hi hx aN hs hf) (he OK K.x _ G F Z H ρ _ hO hX St ok λd v F1 H1 ρ1 s1 S1 r1 o1=>by
  split at o1
  ·rename_i ho
   obtain⟨hl,hop⟩:=dq ho
   exact eo.nx F1 _ H1 _ s1 (S1.store hop hl (.inl ⟨d,rfl,r1⟩)) o1
  ·exact(hO o1).elim)
theorem fB(hN:X.N.Nodup)(he:AEl X e ml)(hi:X.N[i]? = some x:=by rfl)(hx:Loc X.env.scope x:=by exact lo rfl)(hs:swapsWith e (some (.Name x pos')) pos.line X.env=pure false:=by rfl)(hf:X.fn x=true\/X.env.scope.names.lookup x=some .local:=by exact .inl rfl) :
  AS X (.Assign [.Name x pos'] e pos) (Hi i ml):=λOK K G F Z H ρ E hO hX St ok eo =>
 gv (jw hN hi hx aN hs hf) (he OK K.x _ G F Z H ρ _ hO hX St ok λd v F1 H1 ρ1 s1 S1 r1 o1=>by
  split at o1
  ·rename_i ho
   obtain⟨hl,hop⟩:=dq ho
   exact eo.nx F1 _ H1 _ s1 (S1.store hop hl (.inr ⟨.l d,rfl,r1⟩)) o1
  ·exact(hO o1).elim)
theorem BK{t:Tg S}(he:AE X e me)(hg:AG X 0 tg t)(hs:swapsWithSole [tg] e pos.line X.env=pure false)(hw:swappedStores [tg] e X.env=pure none)
  (h1:(assignEach [tg] X.env).map (·.2)=[assign tg X.env]):AS X (.Assign [tg] e pos) (Jr t me):=λOK K G F Z H ρ E hO hX St ok eo =>
 gv (zZ aN kO hs hw h1) (he OK K.x _ G F Z H ρ _ hO hX St ok λd v F1 H1 ρ1 s1 S1 r1 o1 =>
  hg OK K.nx G F1 Z H1 ρ1 v d _ hO S1 r1 o1 λσ' ρ' S' _ _ _ o'=>eo.nx F1 σ' H1 ρ' s1 S' o')
theorem DF(he:AE X e me)(hs:swapsWith e none pos.line X.env=pure false):AS X (.Expr e pos) (Hn me):=λOK K G F Z H ρ E hO hX St ok eo =>
 gv (mw aN hs) (he OK K.x _ G F Z H ρ _ hO hX St ok λd v F1 H1 ρ1 s1 S1 r1 o1=>eo.nx F1 Z H1 ρ1 s1 S1 o1)
end
section
variable {m n mb:SM S} {c a o:Expr} {me mi:Ev S D} {mt:Ev S Bool} {ml ms:Ev S (List D)} {tpos apos cpos:Pos}
theorem GO{iter:Expr}{body:List Stmt}{sh:List Kd}{t:Tg S}(hp:PassesOwn (model X.prog X.w) X.A X.env X.xe)(hc:X.calm=true)(hi:AEi X tg iter ml)(hg:AG X 0 tg t)(hb:ASs X body mb)
  (hs:∀x,foldedSetIterable iter X.env x=pure x):AS X (.For tg iter body [] pos) (Ff sh ml t mb):=λOK K G F Z H ρ E hO hX St ok eo =>
 gv (Fp hp hc qZ kO e8 hs) (hi OK K.x _ G F Z H ρ _ hO hX St ok λds J F1 H1 ρ1 s1 S1 wk o1=>by
  obtain⟨s0,e0,o0⟩:=eC hO o1
  have S0:=S1.rd e0
  clear o1
  generalize hstep:(λ(s:SOf sh) d (kn:SOf sh->M S)=>t d (λρ2=>mb (ji sh K kn) ρ2) (wr sh s))=step at o0
  refine⟨λi m σ' H'=>∃F' s,m=ds.length - i/\i<=ds.length/\Same F1 F'/\StOk X.K G F' σ' H' (wr sh s)/\OK (gZ step (ds.drop i) s (λs'=>K.nx (wr sh s'))),⟨ds.length,F1,s0,rfl,aw _,Same.refl _,S0,o0⟩,?_⟩
  rintro i m σ' H' ⟨F',s,rfl,hi,s2,S2,go⟩
  by_cases hlt:i<ds.length
  ·have ed:ds.drop i=ds[i]::ds.drop (i+1):=KP hlt
   rw[ed]at go
   dsimp only[gZ]at go
   rw[<-hstep]at go
   have again:∀F5 σ5 H5 ρ5,Same F' F5->StOk X.K G F5 σ5 H5 ρ5->OK (rdk sh (λs'=>gZ step (ds.drop (i+1)) s' λs'=>K.nx (wr sh s')) ρ5) ->
     ∃m',m'<ds.length - i/\∃F' s,m'=ds.length - (i+1)/\i+1<=ds.length/\Same F1 F'/\StOk X.K G F' σ5 H5 (wr sh s)/\OK (gZ step (ds.drop (i+1)) s (λs'=>K.nx (wr sh s'))):=λF5 σ5 H5 ρ5 s5 S5 o5=>by
    obtain⟨s',e',o'⟩:=eC hO o5
    exact⟨ds.length - (i+1),by omega,F5,s',rfl,hlt,s2.trans s5,S5.rd e',o'⟩
   refine .inr ⟨wk.go i G F' σ' H' _ s2 S2 hlt,λσ4 H4=>∃m',m'<ds.length - i/\∃F' s,m'=ds.length - (i+1)/\i+1<=ds.length/\Same F1 F'/\StOk X.K G F' σ4 H4 (wr sh s)/\OK (gZ step (ds.drop (i+1)) s (λs'=>K.nx (wr sh s'))),λσ4 H4 h4=>h4,λx H2 y=>?_⟩
   obtain⟨F3,s3,S3,r3⟩:=wk.yld i G F' σ' H' _ x H2 ds[i] s2 S2 (by simp[hlt]) y
   refine hg OK _ G F3 σ' H2 (wr sh s) x ds[i] _ hO S3 r3 go λσ3 ρ3 S4 _ _ _ o4=>?_
   rw[hstep]at o4
   refine hb OK (ji sh K λs'=>gZ step (ds.drop (i+1)) s' λs'=>K.nx (wr sh s')) G F3 σ3 H2 ρ3 _ hO hX S4 o4 ⟨λF5 σ5 H5 ρ5 s5 S5 o5=>?_,λF5 σ5 H5 ρ5 d v s5=>eo.rt F5 σ5 H5 ρ5 d v ((s1.trans (s2.trans s3)).trans s5),λF5 σ5 H5 ρ5 d v s5=>eo.rl F5 σ5 H5 ρ5 d v ((s1.trans (s2.trans s3)).trans s5),λF5 σ5 H5 ρ5 s5 S5 o5=>?_,λF5 σ5 H5 ρ5 s5 S5 o5=>?_⟩
   ·exact again F5 σ5 H5 ρ5 (s3.trans s5) S5 o5
   ·obtain⟨s',e',o'⟩:=eC hO o5
    exact eo.nx F5 σ5 H5 _ ((s1.trans (s2.trans s3)).trans s5) (S5.rd e') o'
   ·exact again F5 σ5 H5 ρ5 (s3.trans s5) S5 o5
  ·have ei:i=ds.length:=by omega
   subst ei
   rw[List.drop_length]at go
   exact .inl ⟨wk.stop G F' σ' H' _ s2 S2,eo.nx F' σ' H' _ (s1.trans s2) S2 go⟩)
theorem BH{body:List Stmt}{sh:List Kd}{fuel:Nat}(hp:PassesOwn (model X.prog X.w) X.A X.env X.xe)(hc:AEt X c mt)(hb:ASs X body mb):AS X (.While c body [] pos) (uP sh fuel mt mb):=λOK K G F Z H ρ E hO hX St ok eo =>
 gv (zW hp dG e8) (by
  obtain⟨s0,e0,o0⟩:=eC hO ok
  have S0:=St.rd e0
  clear ok
  generalize hstep:(λ(s:SOf sh) (kn:SOf sh->M S)=>mt K.x (λb ρ2=>if b then mb (ji sh K kn) ρ2 else rdk sh (λs'=>K.nx (wr sh s')) ρ2) (wr sh s))=step at o0
  refine⟨λm σ' H'=>∃F' s,Same F F'/\StOk X.K G F' σ' H' (wr sh s)/\OK (cx step m s),⟨fuel,F,s0,Same.refl _,S0,o0⟩,?_⟩
  rintro m σ' H' ⟨F',s,s2,S2,go⟩
  cases m with
  | zero=>exact(hO go).elim
  | succ m =>
   dsimp only[cx]at go
   rw[<-hstep]at go
   refine hc OK K.x _ G F' σ' H' (wr sh s) _ hO hX S2 go λt F1 H1 ρ1 s1 S1 o1=>?_
   cases t with
   | false =>
    obtain⟨s',e',o'⟩:=eC hO (show OK (rdk sh (λs'=>K.nx (wr sh s')) ρ1)from o1)
    exact eo.nx F1 σ' H1 _ (s2.trans s1) (S1.rd e') o'
   | true =>
    have o1':OK (mb (ji sh K λs'=>cx (λ(s:SOf sh) (kn:SOf sh->M S)=>mt K.x (λb ρ2=>if b then mb (ji sh K kn) ρ2 else rdk sh (λs'=>K.nx (wr sh s')) ρ2) (wr sh s)) m s') ρ1):=o1
    rw[hstep]at o1'
    have again:∀F5 σ5 H5 ρ5,Same F1 F5->StOk X.K G F5 σ5 H5 ρ5->OK (rdk sh (λs'=>cx step m s') ρ5)->∃m',m'<m+1/\∃F' s,Same F F'/\StOk X.K G F' σ5 H5 (wr sh s)/\OK (cx step m' s):=λF5 σ5 H5 ρ5 s5 S5 o5=>by
     obtain⟨s',e',o'⟩:=eC hO o5
     exact⟨m,Ku _,F5,s',(s2.trans s1).trans s5,S5.rd e',o'⟩
    refine tR ⟨λσ4 H4=>∃m',m'<m+1/\∃F' s,Same F F'/\StOk X.K G F' σ4 H4 (wr sh s)/\OK (cx step m' s),λσ4 H4 h4=>h4,?_⟩
    refine hb OK (ji sh K λs'=>cx step m s') G F1 σ' H1 ρ1 _ hO hX S1 o1' ⟨λF5 σ5 H5 ρ5 s5 S5 o5=>again F5 σ5 H5 ρ5 s5 S5 o5,λF5 σ5 H5 ρ5 d v s5=>eo.rt F5 σ5 H5 ρ5 d v ((s2.trans s1).trans s5),λF5 σ5 H5 ρ5 d v s5=>eo.rl F5 σ5 H5 ρ5 d v ((s2.trans s1).trans s5),λF5 σ5 H5 ρ5 s5 S5 o5=>?_,λF5 σ5 H5 ρ5 s5 S5 o5=>again F5 σ5 H5 ρ5 s5 S5 o5⟩
    obtain⟨s',e',o'⟩:=eC hO o5
    exact eo.nx F5 σ5 H5 _ ((s2.trans s1).trans s5) (S5.rd e') o')
theorem dU{ds:List D}(St:StOk K G F Z H ρ)(h:im ρ i=some ds):∃a vs,Z[i]? = some (some (.ref a))/\H a=some (.lst vs)/\RepL K F vs ds:=by
 obtain⟨a,ea,oa⟩:=St.ow i _ (jN h)
 obtain⟨vs,h1,h2⟩:=oa.he
 exact⟨a,vs,ea,h1,h2⟩
theorem mz{a:Addr}{ds ds':List D}{vs':List V}(St:StOk K G F Z H ρ)(h:im ρ i=some ds)(ha:Z[i]? = some (some (.ref a)))(r:RepL K F vs' ds') :
  StOk K G F Z (upd H a (.lst vs')) (qS ρ i ds'):=by
 rw[lB ρ i ds' ds h]
 exact St.change (jN h) ha (c':=.l ds') ⟨_,aS,r⟩
def rB(ds as:List D):Option (List D):=match as with
 | [d]=>if ds.length<sizeLine then some (ds++[d])else none
 | _=>none
theorem oP(hN:X.N[i]? = some x)(hv:Vis X.env.scope x)(he:AEa X [e] ms)
  (hbase:attributeBase (.Name x pos') "append" X.env (eval (.Name x pos') X.env)=eval (.Name x pos') X.env)
  (hfew:((backTo cpos (starEach [e] X.env)).all (λx=>!x.1)&&(backToKw cpos (keywordEach [] X.env)).all (λx=>x.1.isSome)
   && decide ([e].length+([]:List Keyword).length+(if([]:List Keyword).isEmpty then 0 else 1)<30))=true)
  (hline:(apos.endLine==cpos.line)=true) (hs:starEach [e] X.env=(false,eval e X.env)::starEach [] X.env) (hplain:(backTo cpos (starEach [] X.env)).any (·.1)=false)
  (hsw:swapsWith (.Call (.Attribute (.Name x pos') "append" apos) [e] [] cpos) none pos.line X.env=pure false) (hd:(x==("__debug__" : Str))=false:=by decide) (hcd:(x==("__classdict__" : Str))=false:=by decide) :
  AS X (.Expr (.Call (.Attribute (.Name x pos') "append" apos) [e] [] cpos) pos) (xU i rB ms):=λOK K G F Z H ρ E hO hX St ok eo =>
 gv (mw (Ak LQ PySem.F.slot_list_append PySem.F.type_list_append yo (dH hN hv hd hcd) bK hbase hfew hline hs hplain) hsw) (by
  unfold xU at ok
  split at ok
  case h_2=>exact(hO ok).elim
  ·rename_i ds0 h0
   obtain⟨a,vs0,ea,hh,_⟩:=dU St h0
   refine⟨_,ea,.inl ⟨rfl,vs0,.inl (.inl hh)⟩,he OK K.x _ G F Z H ρ _ hO hX St ok λas ws F1 H1 ρ1 s1 S1 _ r1 o1=>?_⟩
   split at o1
   ·rename_i ds hds
    obtain⟨ds',hf,o2⟩:=cy hO o1
    obtain⟨a',vs,ea',hh',rv⟩:=dU S1 hds
    rw[ea]at ea'
    injection ea' with ea';injection ea' with ea';injection ea' with ea'
    subst ea'
    unfold rB at hf
    split at hf
    ·split at hf
     ·rename_i hz
      cases hf
      cases r1 with
      | cons ra rb =>
       cases rb
       refine⟨a,vs,_,rfl,rfl,hh',by rw[rv.length];exact hz,?_⟩
       exact eo.nx F1 Z _ _ s1 (mz S1 hds ea (rv.append (.cons ra .nil))) o2
     ·cases hf
    ·cases hf
   ·exact(hO o1).elim)
end
theorem map_some_get{l:List α}{x:α}:(l.map some)[i]? = some (some x)↔l[i]? = some x:=by
 rw[ik]
 cases l[i]? <;> simp
open Classical in
noncomputable def bf(G:Gh)(Z:L2.St)(ρ:En)(H:Hp)(ex:Option Addr):Hp:=λb=>if(∃(i:Nat) (c:OC),own ρ i c/\Z[i]? = some (some (V.ref b)))/\some b≠ex then H b else G.O b
def setC(ρ:En)(j:Nat)(c:OC):En:=ρ.set j ((ρ[j]?.join).map fun | .op _=>.op c|_=>.ol c)
section
variable {ds:List D}
theorem cb(S:StOk K G F Z H ρ){b:Addr}{o:HO}(h:G.O b=some o):bf G Z ρ H ex b=some o:=by
 unfold bf
 rw[au]
 ·exact h
 ·rintro⟨⟨i,c,ho,e⟩,_⟩
  obtain⟨a,e',oa⟩:=S.ow i c ho
  rw[e]at e'
  injection e' with e';injection e' with e';injection e' with e'
  subst e'
  rw[oa.no]at h;cases h
theorem fk{b:Addr}(ho:own ρ i c)(e:Z[i]? = some (some (V.ref b)))(hx:some b≠ex):bf G Z ρ H ex b=H b:=by
 unfold bf
 rw[ar ⟨⟨i,c,ho,e⟩,hx⟩]
theorem qz(S:StOk K G F Z H ρ):Same (bf G Z ρ H ex) H:=λb o h=>by
 unfold bf at h
 split at h
 ·exact h
 ·exact S.oh b o h
theorem _root_.L3.Held.notup{o:HO}(h:Held K F H a c)(e:H a=some o):DS o:=by
 cases c with
 | l ds=>obtain⟨vs,h1,_⟩:=h;rw[h1]at e;cases e;exact True.intro
 | t es=>obtain⟨vs,h1,_⟩:=h;rw[h1]at e;cases e;exact True.intro
 | k es=>obtain⟨vs,h1,_⟩:=h;rw[h1]at e;cases e;exact True.intro
 | i x ns ds=>obtain⟨C,dx,fs,h1,_⟩:=h;rw[h1]at e;cases e;exact True.intro
 | n ns=>obtain⟨o,xs,h1,_⟩:=h;rw[h1]at e;cases e;exact True.intro
theorem qA(S:StOk K G F Z H ρ):∀b o,bf G Z ρ H ex b=some o->F b=none/\DS o:=λb o h=>by
 unfold bf at h
 split at h
 ·rename_i hc
  obtain⟨⟨i,c,ho,e⟩,_⟩:=hc
  obtain⟨a,e',oa⟩:=S.ow i c ho
  rw[e]at e'
  injection e' with e';injection e' with e';injection e' with e'
  subst e'
  exact⟨oa.nf,oa.he.notup h⟩
 ·exact S.fo b o h
theorem jB{av:AV}(h:((ds.map AV.fz).map some)[i]? = some (some av)):∃d,av=.fz d/\ds[i]? = some d:=by
 rw[map_some_get,ik]at h
 cases q:ds[i]? with
 | none=>rw[q]at h;cases h
 | some d=>rw[q]at h;cases h;exact⟨d,rfl,rfl⟩
theorem gB(h:own ((ds.map AV.fz).map some) i c):False:=by
 rcases h with h|h<;>(obtain⟨d,z,_⟩:=jB h;cases z)
theorem i5(S:StOk K G F Z H ρ)(r:RepL K F vs ds):StOk K ⟨λ_=>none,bf G Z ρ H none,F⟩ F (vs.map some) H ((ds.map AV.fz).map some):=by
 refine⟨S.fh,qz S,qA S,by simp[r.length],λi d h=>?_,λi c h=>(gB h).elim,λi j c e a h=>(gB h).elim,λi a h=>(nomatch h),λi c h=>?_,Same.refl _⟩
 ·obtain⟨d',z,e⟩:=jB h
  cases z
  obtain⟨v,e1,e2⟩:=r.get e
  exact⟨v,map_some_get.mpr e1,e2⟩
 ·obtain⟨d',z,e⟩:=jB h;cases z
theorem oI{avs':List AV}(S:StOk K G F Z H ρ)(s1:Same F F')(S1:StOk K ⟨λ_=>none,bf G Z ρ H none,F⟩ F' (vs.map some) H' (avs'.map some)) :
  StOk K G F' Z H' ρ/\∀v c,Frs K ⟨λ_=>none,bf G Z ρ H none,F⟩ F' (vs.map some) H' (avs'.map some) v c->Frs K G F' Z H' ρ v c:=by
 have oo:∀b,bf G Z ρ H none b=none->G.O b=none:=λb h=>by
  cases q:G.O b with
  | none=>rfl
  | some o=>rw[cb S q]at h;cases h
 refine⟨⟨S1.fh,λb o h=>S1.oh b o (cb S h),λb o h=>S1.fo b o (cb S h),S.ln,λi d h=>?_,λi c h=>?_,S.dj,S.pp,S.pq,S.fb.trans s1⟩,λv cc h=>?_⟩
 ·obtain⟨v,e,r⟩:=S.fz i d h;exact⟨v,e,r.mono s1⟩
 ·obtain⟨a,e,oa⟩:=S.ow i c h
  obtain⟨o,ho⟩:=oa.he.some
  have q:bf G Z ρ H none a=some o:=by rw[fk h e (by simp)];exact ho
  exact⟨a,e,(S1.fo a o q).1,oa.no,(oa.he.mono s1).at (by rw[S1.oh a o q,ho])⟩
 ·obtain⟨a,rfl,oa,_⟩:=h
  refine⟨a,rfl,⟨oa.nf,oo a oa.no,oa.he⟩,λi e ho q=>?_⟩
  obtain⟨a',e',oa'⟩:=S.ow i e ho
  rw[q]at e'
  injection e' with e';injection e' with e';injection e' with e'
  subst e'
  obtain⟨o,hh⟩:=oa'.he.some
  have:=oa.no
  rw[show(⟨λ_=>none,bf G Z ρ H none,F⟩:Gh).O a=bf G Z ρ H none a from rfl,fk ho q (by simp),hh]at this
  cases this
def P1(a:Addr):Nat->Option Addr
 | 0=>some a
 | _=>none
theorem yQ(S:StOk K G F Z H ρ)(hj:own ρ j c)(ha:Z[j]? = some (some (V.ref a)))(r:RepL K F vs ds) :
  StOk K ⟨P1 a,bf G Z ρ H (some a),F⟩ F ((V.ref a::vs).map some) H ((AV.op c::ds.map AV.fz).map some):=by
 obtain⟨a',e',oa⟩:=S.ow j c hj
 rw[ha]at e'
 injection e' with e';injection e' with e';injection e' with e'
 subst e'
 have at0:∀i d,own ((AV.op c::ds.map AV.fz).map some) i d->i=0/\d=c:=λi d h=>by
  cases i with
  | zero=>rcases h with h|h<;>(simp at h);exact⟨rfl,h.symm⟩
  | succ i=>exact(gB (ds:=ds) (i:=i) (c:=d) (by unfold own at h ⊢;simpa using h)).elim
 refine⟨S.fh,qz S,qA S,by simp[r.length],λi d h=>?_,λi d h=>?_,λi k d e b h1 h2 _ _=>?_,λi b h=>?_,λi d h=>?_,Same.refl _⟩
 ·cases i with
  | zero=>simp at h
  | succ i =>
   obtain⟨d',z,e⟩:=jB (ds:=ds) (i:=i) (av:=.fz d) (by simpa using h)
   cases z
   obtain⟨v,e1,e2⟩:=r.get e
   exact⟨v,by simpa using e1,e2⟩
 ·obtain⟨rfl,rfl⟩:=at0 i d h
  refine⟨a,rfl,oa.nf,?_,oa.he⟩
  show bf G Z ρ H (some a) a=none
  unfold bf
  rw[au (by simp)]
  exact oa.no
 ·rw[(at0 i d h1).1,(at0 k e h2).1]
 ·cases i with
  | zero=>cases h;exact⟨rfl,c,rfl⟩
  | succ i=>cases h
 ·cases i with
  | zero=>exact⟨a,rfl⟩
  | succ i =>
   obtain⟨d',z,e⟩:=jB (ds:=ds) (i:=i) (av:=.op d) (by simpa using h)
   cases z
theorem vJ{c':OC}{l:List AV}(S:StOk K G F Z H ρ)(hj:own ρ j c)(ha:Z[j]? = some (some (V.ref a)))(s1:Same F F')
  (S1:StOk K ⟨P1 a,bf G Z ρ H (some a),F⟩ F' ((V.ref a::vs).map some) H' ((AV.op c'::l).map some)) :
  StOk K G F' Z H' (setC ρ j c')/\∀v cc,Frs K ⟨P1 a,bf G Z ρ H (some a),F⟩ F' ((V.ref a::vs).map some) H' ((AV.op c'::l).map some) v cc->Frs K G F' Z H' (setC ρ j c') v cc:=by
 have oo:∀b,bf G Z ρ H (some a) b=none->G.O b=none:=λb h=>by
  cases q:G.O b with
  | none=>rfl
  | some o=>rw[cb S q]at h;cases h
 obtain⟨a',e',oa⟩:=S.ow j c hj
 rw[ha]at e'
 injection e' with e';injection e' with e';injection e' with e'
 subst e'
 have hl:j<ρ.length:=by rcases hj with h|h<;>exact(List.getElem?_eq_some_iff.mp h).1
 generalize hav:((ρ[j]?.join).map λ(x:AV)=>match x with | .op _=>AV.op c'|_=>AV.ol c')=av
 have hset:setC ρ j c'=ρ.set j av:=by rw[<-hav];rfl
 rw[hset]
 have ne:∀i,i≠j->(ρ.set j av)[i]? = ρ[i]?:=λi hi=>ss (Ne.symm hi)
 have atj:(ρ.set j av)[j]? = some av:=ut hl
 have kind:(ρ[j]? = some (some (.ol c))/\av=some (.ol c'))\/(ρ[j]? = some (some (.op c))/\av=some (.op c')):=by
  rcases hj with h|h
  ·exact .inl ⟨h,by rw[<-hav,h];rfl⟩
  ·exact .inr ⟨h,by rw[<-hav,h];rfl⟩
 have owni:∀i e,own (ρ.set j av) i e->(i=j/\e=c')\/(i≠j/\own ρ i e):=λi e h=>by
  by_cases hi:i=j
  ·subst hi
   unfold own at h
   rw[atj]at h
   rcases kind with ⟨_,k⟩|⟨_,k⟩<;>rw[k]at h<;>rcases h with h|h<;>cases h<;>exact .inl ⟨rfl,rfl⟩
  ·unfold own at h ⊢
   rw[ne i hi]at h
   exact .inr ⟨hi,h⟩
 have nea:∀i e b,i≠j->own ρ i e->Z[i]? = some (some (V.ref b))->b≠a:=λi e b hi ho q z=>by
  subst z
  exact hi (S.dj i j e c b ho hj q ha)
 have own1:OwnAt K ⟨P1 a,bf G Z ρ H (some a),F⟩ F' H' a c':=by
  obtain⟨b,e1,ob⟩:=S1.ow 0 c' (.inr rfl)
  have:V.ref a=V.ref b:=by simpa using e1
  injection this with this
  subst this
  exact ob
 refine⟨⟨S1.fh,λb o h=>S1.oh b o (cb S h),λb o h=>S1.fo b o (cb S h),by simpa using S.ln,λi d h=>?_,λi e h=>?_,λi k d e b h1 h2=>?_,λi b h=>?_,λi d h=>?_,S.fb.trans s1⟩,λv cc h=>?_⟩
 ·by_cases hi:i=j
  ·subst hi
   rw[atj]at h
   rcases kind with ⟨_,k⟩|⟨_,k⟩<;>rw[k]at h<;>cases h
  ·rw[ne i hi]at h
   obtain⟨v,e,r⟩:=S.fz i d h;exact⟨v,e,r.mono s1⟩
 ·rcases owni i e h with ⟨rfl,rfl⟩|⟨hi,ho⟩
  ·exact⟨a,ha,own1.nf,oa.no,own1.he⟩
  ·obtain⟨b,eb,ob⟩:=S.ow i e ho
   obtain⟨o,hh⟩:=ob.he.some
   have q:bf G Z ρ H (some a) b=some o:=by rw[fk ho eb (λz=>nea i e b hi ho eb (Option.some.inj z))];exact hh
   exact⟨b,eb,(S1.fo b o q).1,ob.no,(ob.he.mono s1).at (by rw[S1.oh b o q,hh])⟩
 ·have f:∀i e,own (ρ.set j av) i e->∃d,own ρ i d:=λi e h=>by
   rcases owni i e h with ⟨rfl,_⟩|⟨_,ho⟩
   ·exact⟨c,hj⟩
   ·exact⟨e,ho⟩
  exact S.dj i k _ _ b (f i d h1).choose_spec (f k e h2).choose_spec
 ·obtain⟨q1,e,q2⟩:=S.pp i b h
  refine⟨q1,?_⟩
  by_cases hi:i=j
  ·subst hi
   rcases kind with ⟨k1,k⟩|⟨k1,k⟩
   ·rw[k1]at q2;cases q2
   ·exact⟨c',by rw[atj,k]⟩
  ·exact⟨e,by rw[ne i hi];exact q2⟩
 ·by_cases hi:i=j
  ·subst hi
   rcases kind with ⟨k1,k⟩|⟨k1,k⟩
   ·rw[atj,k]at h;cases h
   ·exact S.pq i c k1
  ·rw[ne i hi]at h;exact S.pq i d h
 ·obtain⟨b,rfl,ob,nn⟩:=h
  refine⟨b,rfl,⟨ob.nf,oo b ob.no,ob.he⟩,λi e ho q=>?_⟩
  rcases owni i e ho with ⟨rfl,_⟩|⟨hi,ho'⟩
  ·rw[ha]at q
   injection q with q;injection q with q;injection q with q
   subst q
   exact nn 0 c' (.inr rfl) rfl
  ·obtain⟨b',eb,ob'⟩:=S.ow i e ho'
   rw[q]at eb
   injection eb with eb;injection eb with eb;injection eb with eb
   subst eb
   obtain⟨o,hh⟩:=ob'.he.some
   have:=ob.no
   rw[show(⟨P1 a,bf G Z ρ H (some a),F⟩:Gh).O b=bf G Z ρ H (some a) b from rfl,fk ho' q (λz=>nea i e b hi ho' q (Option.some.inj z)),hh]at this
   cases this
end
abbrev fzs(ds:List D):En:=(ds.map AV.fz).map some
def KD:KS D:=⟨λ_=>.ret .none,λd _=>.ret d,λ_ _=>.bad,λ_=>.bad,λ_=>.bad,λe _=>.exc e⟩
def asL{S:Type}(c:OC)(k:List D->M S):M S:=match c with
 | .l ds=>k ds
 | _=>.bad
def KL:KS (List D):=⟨λ_=>.bad,λ_ _=>.bad,λc _=>asL c .ret,λ_=>.bad,λ_=>.bad,λe _=>.exc e⟩
def at0{S:Type}(ρ:En)(k:List D->M S):M S:=match (ρ[0]? : Option (Option AV))with
 | some (some (AV.op (OC.l f)))=>k f
 | _=>.bad
def K1:KS (D×List D):=⟨λρ=>at0 ρ λf=>.ret (.none,f),λd ρ=>at0 ρ λf=>.ret (d,f),λ_ _=>.bad,λ_=>.bad,λ_=>.bad,λe _=>.exc e⟩
def oX(K:Fg)(G:Gh)(E:XK){α:Type}(m:M α)(C:α->Prop):Prop:=match m with
 | .ret a=>C a
 | .exc x=>∀F' H' Cl dd,GOk G F' H'->XR K F' Cl dd x->E (.ref Cl) dd H'
 | .bad=>False
def spD(K:Fg)(n:Nat)(mf:List D->M D):Sp:=λvs H Q E=>∃G F ds,vs.length=n/\StOk K G F (vs.map some) H (fzs ds)/\oX K G E (mf ds) λd=>∀v F' H',Same F F'->StOk K G F' (vs.map some) H' (fzs ds)->Rep K F' v d->Q v H'
def spL(K:Fg)(n:Nat)(mf:List D->M (List D)):Sp:=λvs H Q E=>∃G F ds,vs.length=n/\StOk K G F (vs.map some) H (fzs ds)/\oX K G E (mf ds) λd=>∀v F' H',Same F F'->StOk K G F' (vs.map some) H' (fzs ds)->Frs K G F' (vs.map some) H' (fzs ds) v (.l d)->Q v H'
def sp1(K:Fg)(n:Nat)(mf:List D->List D->M (D×List D)):Sp:=λvs H Q E=>∃G F f ds,vs.length=n/\StOk K G F (vs.map some) H (some (.op (.l f))::fzs ds)/\oX K G E (mf f ds) λr =>
 ∀v F' H',Same F F'->StOk K G F' (vs.map some) H' (some (.op (.l r.2))::fzs ds)->Rep K F' v r.1->Q v H'
section
variable {ds:List D}
theorem vR(S:StOk K G F (vs.map some) H (fzs ds))(s1:Same F F')(S1:StOk K G F' Z H' ρ):StOk K G F' (vs.map some) H' (fzs ds):=by
 refine⟨S1.fh,S1.oh,S1.fo,S.ln,λi d q=>?_,λi c q=>(gB q).elim,λi j c e a q=>(gB q).elim,S.pp,S.pq,S1.fb⟩
 obtain⟨v,e,r⟩:=S.fz i d q
 exact⟨v,e,r.mono s1⟩
theorem Dz(S1:StOk K G F' Z H' ρ)(h:Frs K G F' Z H' ρ v c):Frs K G F' (vs.map some) H' (fzs ds) v c:=by
 obtain⟨a,rfl,oa,_⟩:=h
 exact⟨a,rfl,oa,λi e q=>(gB q).elim⟩
theorem own1{f:List D}(h:own (some (.op (.l f))::fzs ds) i c):i=0/\c=.l f:=by
 cases i with
 | zero=>rcases h with h|h<;>simp at h;exact⟨rfl,h.symm⟩
 | succ i=>exact(gB (ds:=ds) (i:=i) (c:=c) (by unfold own at h ⊢;simpa using h)).elim
theorem Bz{f f':List D}(S:StOk K G F (vs.map some) H (some (.op (.l f))::fzs ds))(s1:Same F F')(S1:StOk K G F' Z H' ρ)(h0:ρ[0]? = some (some (.op (.l f')))) :
  StOk K G F' (vs.map some) H' (some (.op (.l f'))::fzs ds)/\∀v c,Frs K G F' Z H' ρ v c->Frs K G F' (vs.map some) H' (some (.op (.l f'))::fzs ds) v c:=by
 obtain⟨a,ha⟩:=S1.pq 0 _ h0
 obtain⟨e1,_⟩:=S1.pp 0 a ha
 obtain⟨e2,_⟩:=S.pp 0 a ha
 obtain⟨b,eb,ob⟩:=S1.ow 0 _ (.inr h0)
 rw[e1]at eb
 injection eb with eb;injection eb with eb;injection eb with eb
 subst eb
 have only:∀i b,G.P i=some b->i=0:=λi b h=>by
  obtain⟨_,c,q⟩:=S.pp i b h
  exact(own1 (.inr q)).1
 refine⟨⟨S1.fh,S1.oh,S1.fo,S.ln,λi d q=>?_,λi c q=>?_,λi j c e b q1 q2 _ _=>?_,λi b q=>?_,λi c q=>?_,S1.fb⟩,λv c h=>?_⟩
 ·cases i with
  | zero=>simp at q
  | succ i =>
   obtain⟨v,e,r⟩:=S.fz (i+1) d (by simpa using q)
   exact⟨v,e,r.mono s1⟩
 ·obtain⟨rfl,rfl⟩:=own1 q
  exact⟨a,e2,ob⟩
 ·rw[(own1 q1).1,(own1 q2).1]
 ·have:=only i b q
  subst this
  exact⟨(S.pp 0 b q).1,_,rfl⟩
 ·obtain⟨rfl,_⟩:=own1 (.inr q)
  exact⟨a,ha⟩
 ·obtain⟨b,rfl,ob2,nn⟩:=h
  refine⟨b,rfl,ob2,λi e q z=>?_⟩
  obtain⟨rfl,rfl⟩:=own1 q
  rw[e2]at z
  injection z with z;injection z with z;injection z with z
  subst z
  exact nn 0 _ (.inr h0) e1
end
section
variable {mg:zzl} {fd:FuncData} {ps:List Str} {k:Nat}
theorem sD{ds:List D}(hl:vs.length=ps.length)(S0:StOk K G F (vs.map some) H (fzs ds)):StOk K G F (L2.start N vs) H (fzs ds++List.replicate (N.length - ps.length) none):=by
 have e0:L2.start N vs=vs.map some++List.replicate (N.length - ps.length) none:=by unfold L2.start;rw[hl]
 rw[e0]
 exact S0.grow _
theorem Gm{sp:Sp}(Fn:Fun K x qual st f fd)(S:FnScope N ps (aI st))(len:∀vs H Q E,sp vs H Q E->vs.length=ps.length)
  (hbody:∀(cdv:Value) (A:Around) (outer:List Env) (s:Shared) (H:Hp) (vs:List V) (Q:VK) (E:XK),Room k (A.deeper (envOfC qual (aI st) s.heap.objs.size f cdv))->sp vs H Q E ->
   ∃t,PSs (mh (CX1 P w) P w K mg base N qual (aI st) f cdv A outer s H E) (cp st) t/\t { nx:=λ_ H'=>Q .non H',rt:=Q } (start N vs) H):FnOk P w K mg base (CX1 P w) (k+1) f fd ps sp:=by
 obtain⟨oc,od,kV,doc,pm,an,cdv,ct,osl,rfl,lk,hcd⟩:=Fn.ex
 exact IJ lk hcd S len λA outer s H vs Q E hr hsp=>hbody cdv A outer s H vs Q E hr hsp
theorem Bm{C:α->Prop}{cdv:Value}{s:Shared}{e:Ex}(h:oX K G E (M.exc e:M α) C):XW (mh (CX1 P w) P w K mg base N qual scope f cdv A outer s H E) G F ρ e :=
 λF' H' s' a Cl dd pins Z g _ I xs _ xr=>C3 I xs (h F' H' Cl dd g xr)
theorem cB{mb:SM D}{mf:List D->M D}(Fn:Fun K x qual st f fd)(Sc:FnScope N ps (aI st))
  (hb:∀(cdv:Value) (A:Around) (outer:List Env) (s:Shared) (H:Hp) (E:XK),Room k (A.deeper (envOfC qual (aI st) s.heap.objs.size f cdv)) ->
   ASs (mh (CX1 P w) P w K mg base N qual (aI st) f cdv A outer s H E) (cp st) mb)
  (hm:∀ds,ds.length=ps.length->mf ds=mb KD (fzs ds++List.replicate (N.length - ps.length) none)):FnOk P w K mg base (CX1 P w) (k+1) f fd ps (spD K ps.length mf):=by
 refine Gm Fn Sc (λvs H Q E h=>?_) (λcdv A outer s H vs Q E hr h=>?_)
 ·obtain⟨_,_,_,h1,_⟩:=h;exact h1
 ·obtain⟨G,F0,ds,h1,S0,e⟩:=h
  have hl:ds.length=ps.length:=by have:=S0.ln;simp at this;lia
  rw[hm ds hl]at e
  refine⟨_,e8,hb cdv A outer s H E hr (λm=>oX K G E m _) KD G F0 _ H _ _ (λz=>z) (λF ρ e z=>Bm z) (sD h1 S0) e ?_⟩
  exact⟨λF' σ' H' ρ' s S' o=>(by exact o .non F' H' s (vR S0 s S') .non),λF' σ' H' ρ' d' v s S' r o=>(by exact o v F' H' s (vR S0 s S') r),λF' σ' H' ρ' d' v s S' r o=>(o:False).elim,λF' σ' H' ρ' s S' o=>(o:False).elim,λF' σ' H' ρ' s S' o=>(o:False).elim⟩
theorem GQ{k:List D->M S}{C:S->Prop}(h:oX K G E (asL c k) C):∃ds,c=.l ds/\oX K G E (k ds) C:=by
 cases c with
 | l ds=>exact⟨ds,rfl,h⟩
 | _=>exact(h:False).elim
theorem Gn{mb:SM (List D)}{mf:List D->M (List D)}(Fn:Fun K x qual st f fd)(Sc:FnScope N ps (aI st))
  (hb:∀(cdv:Value) (A:Around) (outer:List Env) (s:Shared) (H:Hp) (E:XK),Room k (A.deeper (envOfC qual (aI st) s.heap.objs.size f cdv)) ->
   ASs (mh (CX1 P w) P w K mg base N qual (aI st) f cdv A outer s H E) (cp st) mb)
  (hm:∀ds,ds.length=ps.length->mf ds=mb KL (fzs ds++List.replicate (N.length - ps.length) none)):FnOk P w K mg base (CX1 P w) (k+1) f fd ps (spL K ps.length mf):=by
 refine Gm Fn Sc (λvs H Q E h=>?_) (λcdv A outer s H vs Q E hr h=>?_)
 ·obtain⟨_,_,_,h1,_⟩:=h;exact h1
 ·obtain⟨G,F0,ds,h1,S0,e⟩:=h
  have hl:ds.length=ps.length:=by have:=S0.ln;simp at this;lia
  rw[hm ds hl]at e
  refine⟨_,e8,hb cdv A outer s H E hr (λm=>oX K G E m _) KL G F0 _ H _ _ (λz=>z) (λF ρ e z=>Bm z) (sD h1 S0) e ?_⟩
  exact⟨λF' σ' H' ρ' s S' o=>(o:False).elim,λF' σ' H' ρ' d' v s S' r o=>(o:False).elim,λF' σ' H' ρ' d' v s S' r o=>(by obtain⟨ds',rfl,o⟩:=GQ o;exact o v F' H' s (vR S0 s S') (Dz S' r)),λF' σ' H' ρ' s S' o=>(o:False).elim,λF' σ' H' ρ' s S' o=>(o:False).elim⟩
theorem BF{k:List D->M S}{C:S->Prop}(h:oX K G E (at0 ρ k) C):∃f,ρ[0]? = some (some (AV.op (OC.l f)))/\oX K G E (k f) C:=by
 unfold at0 at h
 split at h
 ·rename_i f q;exact⟨f,q,h⟩
 ·exact h.elim
theorem B5{ds g:List D}(hl:vs.length=ps.length)(S0:StOk K G F (vs.map some) H (some (.op (.l g))::fzs ds)):StOk K G F (L2.start N vs) H (some (.op (.l g))::fzs ds++List.replicate (N.length - ps.length) none):=by
 have e0:L2.start N vs=vs.map some++List.replicate (N.length - ps.length) none:=by unfold L2.start;rw[hl]
 rw[e0]
 exact S0.grow _
theorem vx{mb:SM (D×List D)}{mf:List D->List D->M (D×List D)}(Fn:Fun K x qual st f fd)(Sc:FnScope N ps (aI st))
  (hb:∀(cdv:Value) (A:Around) (outer:List Env) (s:Shared) (H:Hp) (E:XK),Room k (A.deeper (envOfC qual (aI st) s.heap.objs.size f cdv)) ->
   ASs (mh (CX1 P w) P w K mg base N qual (aI st) f cdv A outer s H E) (cp st) mb)
  (hm:∀g ds,ds.length+1=ps.length->mf g ds=mb K1 (some (.op (.l g))::fzs ds++List.replicate (N.length - ps.length) none)):FnOk P w K mg base (CX1 P w) (k+1) f fd ps (sp1 K ps.length mf):=by
 refine Gm Fn Sc (λvs H Q E h=>?_) (λcdv A outer s H vs Q E hr h=>?_)
 ·obtain⟨_,_,_,_,h1,_⟩:=h;exact h1
 ·obtain⟨G,F0,g,ds,h1,S0,e⟩:=h
  have hl:ds.length+1=ps.length:=by have:=S0.ln;simp at this;lia
  rw[hm g ds hl]at e
  refine⟨_,e8,hb cdv A outer s H E hr (λm=>oX K G E m _) K1 G F0 _ H _ _ (λz=>z) (λF ρ e z=>Bm z) (B5 h1 S0) e ?_⟩
  refine⟨λF' σ' H' ρ' s S' o=>?_,λF' σ' H' ρ' d' v s S' rv o=>?_,λF' σ' H' ρ' d' v s S' r o=>(o:False).elim,λF' σ' H' ρ' s S' o=>(o:False).elim,λF' σ' H' ρ' s S' o=>(o:False).elim⟩
  ·obtain⟨f',q,e'⟩:=BF o
   exact e' .non F' H' s (Bz S0 s S' q).1 .non
  ·obtain⟨f',q,e'⟩:=BF o
   exact e' v F' H' s (Bz S0 s S' q).1 rv
end
structure CF(P:Program)(w:World)(K:Fg)(mg:zzl)(base:Heap)(x:Str)(k:Nat)(sp:Sp):Prop where
 ex:∃(f:Addr) (fd:FuncData) (ps:List Str),FnOk P w K mg base (CX1 P w) k f fd ps sp/\mg x=some (.ref f)/\PySem.W.keepIn K (.ref f)=true/\L2.Binds K fd ps []
def JE(mf:List D->M D)(ps:Pa D):Pu D:=λρ=>ps (λds=>mf ds) ρ
def JD(mf:List D->M (List D))(ps:Pa (List D)):Pu (List D):=λρ=>ps (λds=>mf ds) ρ
section
def JR(mf:List D->List D->M (D×List D))(i:Nat)(ms:Ev S (List D)):Ev S D:=λx k ρ=>ms x (λds ρ1=>match im ρ1 i with
 | some f=>(mf f ds).on (λe=>x e ρ1) (λr=>k r.1 (qS ρ1 i r.2))
 | none=>.bad) ρ
end
def EX(X:Cx)(G:Gh)(Z:L2.St):XK:=λc dd H'=>∃x ρ F1 F' C,c=.ref C/\XW X G F1 ρ x/\GOk G F' H'/\FzOk X.K F' Z ρ/\XR X.K F' C dd x
theorem XS.older{h:Heap}{lo lo':Nat}{e:Addr}{dd:Option Addr}(xs:XS H h lo e C dd)(hl:lo'<=lo):XS H h lo' e C dd:=by
 obtain⟨oe,vs,q,c,d,z,z1,k⟩:=xs.obj
 refine⟨ce hl xs.yg,xs.trk,oe,vs,q,c,d,z,z1,k.imp id ?_⟩
 rintro⟨T,oT,ts,k,ne,l,r⟩
 exact⟨T,oT,ts,k,ne,ce hl l,r⟩
def oU(X:Cx)(Z:L2.St)(E:XK):Prop:=∀(pins:zzk) (H:Hp) (s:Shared) (e:Value) (s':Shared),Inv X pins Z H s->CX1 X.prog X.w X.stack H s E e s'->X.xe e s'
theorem An:oU X Z (EX X G Z):=λpins H s e s' I h=>by
 obtain⟨a,C,dd,H',rfl,ho,hb,un,hk,xs,x,ρ,F1,F',C',ec,xw,g,fz,xr⟩:=h
 cases ec
 refine xw F' H' s' a C dd pins Z g fz (I.call' ho un hk hb λb z=>absurd z (by simp)) (xs.older I.sz) (λp hp z=>?_) xr
 exact absurd (bo (am (I.pin p hp).1) (xs.tb z).2.1) (ug _)
theorem EX.of{x:Ex}{dd:Option Addr}{p:Nat->Option Addr}(S:StOk X.K G F Z H ρ)(xw:XW X G F ρ x)(g:GOk ⟨p,bf G Z ρ H ex,F⟩ F' H')(xr:XR X.K F' C dd x):EX X G Z (.ref C) dd H' :=
 ⟨x,ρ,F,F',C,rfl,xw,⟨g.fh,λb o h=>g.oh b o (cb S h),λb o h=>g.fo b o (cb S h),S.fb.trans g.fb⟩,S.fzok g.fb,xr⟩
section
variable {k:Nat} {fd:FuncData} {ps:List Str} {sp:Sp}
theorem Fk{pins:zzk}{s:Shared}{us:List Value}(F:FnOk X.prog X.w X.K X.mg X.base (CX1 X.prog X.w) k f fd ps sp)(hr:Room k X.A)(hb:L2.Binds X.K fd ps [])(hx:oU X Z E)
  (I:Inv X pins Z H s) (r:Vals vs us) (h:sp vs H Q E):wpAny (model X.prog X.w) X.A (call (.ref f) us) (EP X pins Z Q) X.xe s:=by
 have hl:(us++[]).length=ps.length:=by rw[mo,<-r.length];exact F.len _ _ _ _ h
 have bb:=hb s us I.kIn hl
 rw[mo]at bb
 refine wpAny_call (K4 (F.run X.A X.stack s H ⟨us,[]⟩ us vs Q E hr I.env0 bb r h) λr s' hq=>?_)
 cases r with
 | error e=>exact hx pins H s e s' I hq
 | ok fl =>
  cases fl with
  | ret u=>exact I.after hq
  | next=>exact False.elim hq
  | brk=>exact False.elim hq
  | cont=>exact False.elim hq
theorem m6(F:FnOk X.prog X.w X.K X.mg X.base (CX1 X.prog X.w) k f fd ps sp)(hr:Room k X.A)(hg:Gl X x)(hm:X.mg x=some (.ref f))(hk:PySem.W.keepIn X.K (.ref f)=true)(hb:L2.Binds X.K fd ps [])(hx:oU X Z E)
  (hdb:(x==("__debug__" : Str))=false) (he:starEach (e::es) X.env=(false,eval e X.env)::starEach es X.env) (hpl:(backTo pos (starEach es X.env)).any (·.1)=false)
  (h:hJ X (e::es) Z H λvs H1=>sp vs H1 Q E):fQ X (.Call (.Name x p) (e::es) [] pos) Z H Q:=by
 unfold fQ
 intro pins s I
 unfold hJ at h
 refine yi (C5 I hg hm ?_ hdb)
 refine PySem.W.callWith_K (h₀:=X.base) I.ok.mod.kin hk (thn (h pos pins s I) λus s1 ⟨vs,H1,I1,r,q⟩=>⟨I1.kIn,?_⟩) he hpl
 exact Fk F hr hb hx I1 r q
end
section
variable {k:Nat} {mf:List D->M D} {ml:List D->M (List D)} {m1:List D->List D->M (D×List D)} {m1L:List D->List D->M (List D×List D)} {pn:Pos} {ps:Pa D} {pl:Pa (List D)} {ms:Ev S (List D)}
theorem cM(C:CF X.prog X.w X.K X.mg X.base x k (spD X.K n mf))(hr:Room k X.A)(ha:AA X (e::es) ps)(hg:Gl X x:=by rfl)(hn:(e::es).length=n:=by rfl)
  (hdb:(x==("__debug__" : Str))=false:=by decide) (he:starEach (e::es) X.env=(false,eval e X.env)::starEach es X.env:=by rfl) (hpl:(backTo pos (starEach es X.env)).any (·.1)=false:=by rfl):AP X (.Call (.Name x p) (e::es) [] pos) (JE mf ps):=by
 obtain⟨f,fd,pl,Fn,h1,h2,h3⟩:=C.ex
 intro G F Z H ρ Q St w
 refine m6 Fn hr hg h1 h2 h3 (An (G:=G)) hdb he hpl ?_
 refine ha G F Z H ρ _ _ _ St w λds vs F1 H1 s1 S1 hl r1 w1=>?_
 show spD X.K n mf vs H1 Q (EX X G Z)
 cases hd:mf ds with
 | bad=>rw[hd]at w1;exact w1.elim
 | exc e =>
  rw[hd]at w1
  exact⟨_,F1,ds,hl.trans hn,i5 S1 r1,by rw[hd];exact λF' H' Cl dd g xr=>EX.of S1 w1 g xr⟩
 | ret d =>
  rw[hd]at w1
  refine⟨_,F1,ds,hl.trans hn,i5 S1 r1,?_⟩
  rw[hd]
  intro v F2 H2 s2 S2 r2
  obtain⟨S3,t3⟩:=oI (avs':=ds.map AV.fz) S1 s2 S2
  exact w1 F2 H2 s2 S3 v r2
theorem IV(C:CF X.prog X.w X.K X.mg X.base x k (spL X.K n ml))(hr:Room k X.A)(ha:AA X (e::es) pl)(hg:Gl X x:=by rfl)(hn:(e::es).length=n:=by rfl)
  (hdb:(x==("__debug__" : Str))=false:=by decide) (he:starEach (e::es) X.env=(false,eval e X.env)::starEach es X.env:=by rfl) (hpl:(backTo pos (starEach es X.env)).any (·.1)=false:=by rfl):AL X (.Call (.Name x p) (e::es) [] pos) (JD ml pl):=by
 obtain⟨f,fd,pz,Fn,h1,h2,h3⟩:=C.ex
 intro G F Z H ρ Q St w
 refine m6 Fn hr hg h1 h2 h3 (An (G:=G)) hdb he hpl ?_
 refine ha G F Z H ρ _ _ _ St w λds vs F1 H1 s1 S1 hl r1 w1=>?_
 show spL X.K n ml vs H1 Q (EX X G Z)
 cases hd:ml ds with
 | bad=>rw[hd]at w1;exact w1.elim
 | exc e =>
  rw[hd]at w1
  exact⟨_,F1,ds,hl.trans hn,i5 S1 r1,by rw[hd];exact λF' H' Cl dd g xr=>EX.of S1 w1 g xr⟩
 | ret d =>
  rw[hd]at w1
  refine⟨_,F1,ds,hl.trans hn,i5 S1 r1,?_⟩
  rw[hd]
  intro v F2 H2 s2 S2 r2
  obtain⟨S3,t3⟩:=oI (avs':=ds.map AV.fz) S1 s2 S2
  exact w1 F2 H2 s2 S3 v (t3 v _ r2)
theorem xR{f g:List D}(h:im ρ i=some g):qS ρ i f=setC ρ i (.l f):=lB ρ i f g h
theorem vO{OK:M S->Prop}{z:Ex->En->M S}{kk:List D->En->M S}{Q:List V->Hp->Prop}(hN:X.N[i]? = some y)(hv:Vis X.env.scope y)(hd:(y==("__debug__" : Str))=false)(hcd:(y==("__classdict__" : Str))=false)
  (ha:AEa X es ms) (he:starEach (.Name y pn::es) X.env=(false,eval (.Name y pn) X.env)::starEach es X.env) (hO:KOk OK) (hX:XL X OK z G) (St:StOk X.K G F Z H ρ) (ok:OK (ms z (λds ρ1=>match im ρ1 i with|some f=>kk (.list f::ds) ρ1|none=>.bad) ρ))
  (h0:(im ρ i).isSome=true)
  (k2:∀a f ds vs F' H' ρ',Same F F'->StOk X.K G F' Z H' ρ'->im ρ' i=some f->Z[i]? = some (some (V.ref a))->vs.length=es.length->RepL X.K F' vs ds->OK (kk (.list f::ds) ρ')->Q (.ref a::vs) H'):hJ X (.Name y pn::es) Z H Q:=by
 obtain⟨f0,hf0⟩:=Option.isSome_iff_exists.mp h0
 obtain⟨a,_,ea,_,_⟩:=dU St hf0
 refine uM (gz (dH hN hv hd hcd) bK he) ⟨_,ea,?_⟩
 refine ha OK z _ G F Z H ρ _ hO hX St ok λds vs F1 H1 ρ1 s1 S1 hl r1 o1=>?_
 split at o1
 ·rename_i f hf
  exact k2 a f ds vs F1 H1 ρ1 s1 S1 hf ea hl r1 o1
 ·exact(hO o1).elim
def ck{S α:Type}(i:Nat)(m:Ev S α):Ev S α:=λx k ρ=>match (im ρ i).isSome with
 | true=>m x k ρ
 | false=>.bad
theorem oH{ds f:List D}(S:StOk K G F Z H ρ)(hj:im ρ j=some f)(ha:Z[j]? = some (some (V.ref a)))(r:RepL K F vs ds) :
  StOk K ⟨P1 a,bf G Z ρ H (some a),F⟩ F ((V.ref a::vs).map some) H (some (.op (.l f))::fzs ds):=yQ S (jN hj) ha r
theorem ci(C:CF X.prog X.w X.K X.mg X.base x k (sp1 X.K n m1))(hr:Room k X.A)(ha:AEa X es ms)(hg:Gl X x:=by rfl)(hN:X.N[i]? = some y:=by rfl)(hv:Vis X.env.scope y:=by exact vi rfl)(hn:es.length+1=n:=by rfl)
  (hdb:(x==("__debug__" : Str))=false:=by decide) (he:starEach (.Name y pn::es) X.env=(false,eval (.Name y pn) X.env)::starEach es X.env:=by rfl) (hpl:(backTo pos (starEach es X.env)).any (·.1)=false:=by rfl)
  (hd:(y==("__debug__" : Str))=false:=by decide) (hcd:(y==("__classdict__" : Str))=false:=by decide):AE X (.Call (.Name x p) (.Name y pn::es) [] pos) (ck i (JR m1 i ms)):=by
 obtain⟨f,fd,pl,Fn,h1,h2,h3⟩:=C.ex
 intro OK z kk G F Z H ρ Q hO hX St ok k2
 unfold ck at ok
 split at ok
 case h_2=>exact(hO ok).elim
 rename_i h0
 refine m6 Fn hr hg h1 h2 h3 (An (G:=G)) hdb he hpl ?_
 refine vO (OK:=OK) (z:=z) (kk:=λl ρ1=>match l with | .list f::ds=>(m1 f ds).on (λe=>z e ρ1) (λr=>kk r.1 (qS ρ1 i r.2))|_=>.bad) hN hv hd hcd ha he hO hX St ok h0 λa f ds vs F1 H1 ρ1 s1 S1 hf ea hl r1 o1=>?_
 have o1':OK ((m1 f ds).on (λe=>z e ρ1) (λr=>kk r.1 (qS ρ1 i r.2))):=o1
 show sp1 X.K n m1 (V.ref a::vs) H1 Q (EX X G Z)
 cases hd:m1 f ds with
 | bad=>rw[hd]at o1';exact(hO o1').elim
 | exc e =>
  rw[hd]at o1'
  exact⟨_,F1,f,ds,by simp[hl];exact hn,oH S1 hf ea r1,by rw[hd];exact λF' H' Cl dd g xr=>EX.of S1 (hX F1 ρ1 e o1') g xr⟩
 | ret r =>
  rw[hd]at o1'
  refine⟨_,F1,f,ds,by simp[hl];exact hn,oH S1 hf ea r1,?_⟩
  rw[hd]
  intro v F2 H2 s2 S2 r2
  obtain⟨S3,t3⟩:=vJ (c':=.l r.2) (l:=ds.map AV.fz) S1 (jN hf) ea s2 S2
  rw[<-xR hf]at S3
  exact k2 r.1 v F2 H2 _ (s1.trans s2) S3 r2 o1'
end
theorem _root_.L2.Room.m{k:Nat}(r:Room k A)(h:j<=k:=by decide):Room j A:=r.mono h
theorem aj{k:Nat}(r:Room k A):A.units+1100<cLine:=by have:=r.un;lia
def noX{S:Type}(m:M S):M S:=match m with
 | .ret s=>.ret s
 | _=>.bad
theorem cQ(s:S):noX (M.ret s)=.ret s:=rfl
def bp(step:D->M (Option D)):List D->M (List D)
 | []=>.ret []
 | d::r=>bd (noX (step d)) λo=>bd (bp step r) λxs=>.ret (o.toList++xs)
theorem uh{step:D->M (Option D)}:∀{ds:List D} {e:Ex},bp step ds≠.exc e
 | [],e,h=>by cases h
 | d::r,e,h=>by
  unfold bp at h
  cases hs:step d with
  | ret o =>
   rw[hs,cQ,dO]at h
   cases hr:bp step r with
   | ret xs=>rw[hr]at h;cases h
   | exc e'=>exact uh hr
   | bad=>rw[hr]at h;cases h
  | exc e'=>rw[hs]at h;cases h
  | bad=>rw[hs]at h;cases h
def wu(k:Nat)(it:Pu (List D))(t:Tg (Option D))(pt:Pu Bool)(pe:Pu D):Pu (List D):=λρ=>bd (it ρ) λds =>
 bd (bp (λd=>t d (λρ1=>bd (pt ρ1) λb=>if b then bd (pe ρ1) λv=>.ret (some v)else .ret none) (ρ++List.replicate k none)) ds) cC
def dz{T:Type}(step:T->D->M (Option D×T)):List D->T->M (List D×T)
 | [],s=>.ret ([],s)
 | d::r,s=>bd (noX (step s d)) λp=>bd (dz step r p.2) λq=>.ret (p.1.toList++q.1,q.2)
theorem uf{T:Type}{step:T->D->M (Option D×T)}:∀{ds:List D} {s:T} {e:Ex},dz step ds s≠.exc e
 | [],s,e,h=>by cases h
 | d::r,s,e,h=>by
  unfold dz at h
  cases hs:step s d with
  | ret o =>
   rw[hs,cQ,dO]at h
   cases hr:dz step r o.2 with
   | ret xs=>rw[hr]at h;cases h
   | exc e'=>exact uf hr
   | bad=>rw[hr]at h;cases h
  | exc e'=>rw[hs]at h;cases h
  | bad=>rw[hs]at h;cases h
def EM{S:Type}(sh:List Kd)(k:Nat)(it:Ev S (List D))(t:Tg (Option D×SOf sh))(et:Ev (Option D×SOf sh) Bool)(ee:Ev (Option D×SOf sh) D):Ev S (List D):=λx kk ρ=>it x (λds ρ1=>rdk sh (λs =>
 (dz (λs d=>t d (λρ2=>et (λe _=>.exc e) (λb ρ3=>if b then ee (λe _=>.exc e) (λv ρ4=>rdk sh (λs'=>.ret (some v,s')) (ρ4.take sh.length)) ρ3 else rdk sh (λs'=>.ret (none,s')) (ρ3.take sh.length)) ρ2) (wr sh s++List.replicate k none)) ds s).on
  (λe=>x e ρ1) (λq=>(cC q.1).on (λe=>x e ρ1) (λout=>kk out (wr sh q.2)))) ρ1) ρ
def HN:Pu Bool:=λ_=>.ret true
def ATs(X:Cx)(ifs:List Expr)(p:Pu Bool):Prop :=
 ∀(G:Gh) (F:Hp) (Z:L2.St) (H:Hp) (ρ:En) (Q:Bool->Hp->Prop),StOk X.K G F Z H ρ->W X G F Z ρ (p ρ) (λd F' H'=>Q d H')->∀(pins:zzk) (s:Shared),Inv X pins Z H s ->
  wpAny (model X.prog X.w) X.A (forIn ifs true λc r=>if r=true then do let ok <-isTrue c X.env (eval c X.env);pure (ForInStep.yield ok)else pure (ForInStep.yield r)) (TP X pins Z Q) X.xe s
theorem bE:ATs X [] HN:=λG F Z H ρ Q S w pins s I=>Cm pins s Z H Q I (w F H (Same.refl _) S)
theorem DA{c:Expr}{p:Pu Bool}(h:AT X c p):ATs X [c] p:=λG F Z H ρ Q S w pins s I=>Ck dG pins s Z H Q I (h G F Z H ρ Q S w)
def G4{S:Type}(X:Cx)(ifs:List Expr)(m:Ev S Bool):Prop :=
 ∀(OK:M S->Prop) (x:Ex->En->M S) (k:Bool->En->M S) (G:Gh) (F:Hp) (Z:L2.St) (H:Hp) (ρ:En) (Q:Bool->Hp->Prop),KOk OK->XL X OK x G->StOk X.K G F Z H ρ->OK (m x k ρ) ->
  (∀d F' H' ρ',Same F F'->StOk X.K G F' Z H' ρ'->OK (k d ρ')->Q d H')->∀(pins:zzk) (s:Shared),Inv X pins Z H s ->
  wpAny (model X.prog X.w) X.A (forIn ifs true λc r=>if r=true then do let ok <-isTrue c X.env (eval c X.env);pure (ForInStep.yield ok)else pure (ForInStep.yield r)) (TP X pins Z Q) X.xe s
theorem rY{ifs:List Expr}{p:Pu Bool}(h:ATs X ifs p):G4 (S:=S) X ifs (ePu p):=λOK x k G F Z H ρ Q hO hX St ok kk=>h G F Z H ρ Q St (W.of hO hX ok λd F' H' s S' o=>kk d F' H' ρ s S' o)
theorem W.rets{m:M α}{a:α}{C:α->Hp->Hp->Prop}(e:m=.ret a)(h:∀F' H',Same F F'->StOk X.K G F' Z H' ρ->C a F' H'):W X G F Z ρ m C:=by subst e;exact h
theorem zk:∀(sh:List Kd) (s:SOf sh),(wr sh s).length=sh.length:=by
 intro sh
 induction sh with
 | nil=>intro s;rfl
 | cons a r ih=>intro s;cases a<;>simp[wr,ih]
inductive CIv{τ:Type}(K:Fg)(G:Gh)(Z:L2.St)(k:Nat)(ds:List D)(F1:Hp)(en:τ->En)(go:Nat->τ->List D->Prop)(out:List D):Nat->Nat->List V->L2.St->Hp->Prop
 | mk {i:Nat} {vs:List V} {σ':L2.St} {H':Hp} (F':Hp) (acc rest:List D) (s:τ) (hi:i<=ds.length) (s2:Same F1 F') (S2:StOk K G F' σ' H' (en s)) (kp:∀j,j<Z.length->σ'[j]? = Z[j]?) (hl:σ'.length=Z.length+k) (rp:RepL K F' vs acc) (g:go i s rest) (eo:out=acc++rest):CIv K G Z k ds F1 en go out i (ds.length - i) vs σ' H'
theorem CIv.on{τ:Type}{k:Nat}{ds:List D}{F1:Hp}{en:τ->En}{go:Nat->τ->List D->Prop}{out:List D}{σ':L2.St}(F':Hp)(acc rest:List D)(s:τ)(hi:i<ds.length)(s2:Same F1 F')(S2:StOk K G F' σ' H' (en s))(kp:∀j,j<Z.length->σ'[j]? = Z[j]?)(hl:σ'.length=Z.length+k)(rp:RepL K F' vs acc)(g:go (i+1) s rest)(eo:out=acc++rest):∃m',m'<ds.length - i/\CIv K G Z k ds F1 en go out (i+1) m' vs σ' H' :=
 ⟨ds.length - (i+1),by lia,⟨F',acc,rest,s,hi,s2,S2,kp,hl,rp,g,eo⟩⟩
theorem vG{step:D->M (Option D)}{d:D}{r rest:List D}(h:bp step (d::r)=.ret rest):∃o rest',step d=.ret o/\bp step r=.ret rest'/\rest=o.toList++rest':=by
 unfold bp at h
 cases hs:step d with
 | bad=>rw[hs]at h;cases h
 | exc e=>rw[hs]at h;cases h
 | ret o =>
  rw[hs,cQ,dO]at h
  cases hr:bp step r with
  | bad=>rw[hr]at h;cases h
  | exc e=>rw[hr]at h;cases h
  | ret rest'=>rw[hr,dO]at h;cases h;exact⟨o,rest',rfl,rfl,rfl⟩
theorem vF{T:Type}{step:T->D->M (Option D×T)}{d:D}{r rest:List D}{s sf:T}(h:dz step (d::r) s=.ret (rest,sf)):∃o sn rest',step s d=.ret (o,sn)/\dz step r sn=.ret (rest',sf)/\rest=o.toList++rest':=by
 unfold dz at h
 cases hs:step s d with
 | bad=>rw[hs]at h;cases h
 | exc e=>rw[hs]at h;cases h
 | ret o =>
  obtain⟨o,sn⟩:=o
  rw[hs,cQ,dO]at h
  cases hr:dz step r sn with
  | bad=>rw[hr]at h;cases h
  | exc e=>rw[hr]at h;cases h
  | ret q'=>obtain⟨rest',sf'⟩:=q';rw[hr,dO]at h;cases h;exact⟨o,sn,rest',rfl,hr,rfl⟩
theorem qH{A B:Type}{m:M A}{f:A->M B}{b:B}(h:bd m f=.ret b):∃a,m=.ret a/\f a=.ret b:=by
 cases m with
 | bad=>cases h
 | exc e=>cases h
 | ret a=>exact⟨a,rfl,h⟩
section
def sw(X:Cx)(N':List Str)(scope:Scope)(tg:Expr):TG:=λv Z H Q=>∀cl s H0 fp C,pS (bc X N' scope cl s H0 fp C) tg v Z H Q
def sv(X:Cx)(N':List Str)(scope:Scope)(ifs:List Expr):TT:=λZ H Q=>∀cl s0 H0 fp C,∀(pins:zzk) (s:Shared),Inv (bc X N' scope cl s0 H0 fp C) pins Z H s ->
  wpAny (model X.prog X.w) (bc X N' scope cl s0 H0 fp C).A (forIn ifs true λc r=>if r=true then do let ok <-isTrue c (bc X N' scope cl s0 H0 fp C).env (eval c (bc X N' scope cl s0 H0 fp C).env);pure (ForInStep.yield ok)else pure (ForInStep.yield r)) (TP (bc X N' scope cl s0 H0 fp C) pins Z Q) (bc X N' scope cl s0 H0 fp C).xe s
def sA(X:Cx)(N':List Str)(scope:Scope)(e:Expr):TE:=λZ H Q=>∀cl s H0 fp C,fQ (bc X N' scope cl s H0 fp C) e Z H Q
variable {elt iter:Expr} {ifs:List Expr} {N':List Str} {k:Nat}
theorem xb{it:Pu (List D)}{t:Tg (Option D)}{pt:Pu Bool}{pe:Pu D}(hi:AI X tg iter it)
  (hg:∀cl s H fp C,AG (bc X N' scope cl s H fp C) X.N.length tg t) (ht:∀cl s H fp C,ATs (bc X N' scope cl s H fp C) ifs pt) (he:∀cl s H fp C,AP (bc X N' scope cl s H fp C) elt pe)
  (hσ:Z.length=X.N.length) (St:StOk X.K G F Z H ρ) (w:W X G F Z ρ (wu k it t pt pe ρ) λds F' H'=>∀v,Frs X.K G F' Z H' ρ v (.l ds)->Q v H') :
  v6 (hG X tg iter) k (sw X N' scope tg) (sv X N' scope ifs) (sA X N' scope elt) Z H Q:=by
 refine hi G F Z H ρ _ St (w.bind.imp λds F1 H1 s1 S1 w1 J wk=>?_)
 have hP:∀i a,G.P i=some a->i<Z.length:=λi a h=>(List.getElem?_eq_some_iff.mp (S1.pp i a h).1).1
 have hln:Z.length=ρ.length:=S1.ln
 have wc:=w1.bind
 revert wc
 generalize hstep:(λd=>t d (λρ1=>bd (pt ρ1) λb=>if b then bd (pe ρ1) λv=>.ret (some v)else .ret none) (ρ++List.replicate k none))=step
 intro wc
 cases hcc:bp step ds with
 | bad=>rw[hcc]at wc;exact wc.elim
 | exc e=>exact(uh hcc).elim
 | ret out =>
  rw[hcc]at wc
  have wf:∀F' H',Same F1 F'->StOk X.K G F' Z H' ρ->W X G F' Z ρ (cC out) λds F' H'=>∀v,Frs X.K G F' Z H' ρ v (.l ds)->Q v H':=wc
  have hfit:out.length<=sizeLine:=(wf F1 H1 (Same.refl _) S1).fit.1
  have fin:∀F' H',Same F1 F'->StOk X.K G F' Z H' ρ->∀v,Frs X.K G F' Z H' ρ v (.l out)->Q v H':=λF' H' s' S'=>(wf F' H' s' S').fit.2 F' H' (Same.refl _) S'
  have grown:∀{F' H' σ' ρ'},StOk X.K G F' σ' H' ρ'->(∀j,j<Z.length->σ'[j]? = Z[j]? /\ ρ'[j]? = ρ[j]?)->σ'.length=Z.length+k->StOk X.K G F' σ' H' (ρ++List.replicate k none):=λ{F' H' σ' ρ'} S' kp hl=>by
   refine S'.weak (by have:=S'.ln;simp;lia) (λi av q=>?_) (λi c q=>?_)
   ·have q':=gj q
    have hi:i<Z.length:=by rw[hln];exact(List.getElem?_eq_some_iff.mp q').1
    rw[(kp i hi).2];exact q'
   ·obtain⟨a,ha⟩:=S'.pq i c q
    have hi:=hP i a ha
    rw[di (by lia),<-(kp i hi).2]
    exact q
  refine⟨CIv X.K G Z k ds F1 (λ_:Unit=>ρ++List.replicate k none) (λi _ rest=>bp step (ds.drop i)=.ret rest) out,
   ⟨_,⟨F1,[],out,(),aw _,Same.refl _,S1.grow k,λj hj=>by rw[di hj],by simp,.nil,hcc,rfl⟩⟩,?_⟩
  rintro i m vs σ' H' ⟨F',acc,rest,_,hi,s2,S2,kp,hlen,rp,go,eo⟩
  refine⟨by rw[rp.length];rw[eo,zzf]at hfit;lia,?_⟩
  by_cases hlt:i<ds.length
  ·refine .inr ⟨wk.go i G F' σ' H' _ s2 S2 hlt,λx H2 y cl s0 H0 fp C=>?_⟩
   obtain⟨F3,s3,S3,r3⟩:=wk.yld i G F' σ' H' _ x H2 ds[i] s2 S2 (de hlt) y
   rw[KP hlt]at go
   obtain⟨o,rest',hst,hr,er⟩:=vG go
   subst er
   clear go
   rw[<-hstep]at hst
   refine hg cl s0 H0 fp C (λm=>m=.ret o) _ G F3 σ' H2 _ x ds[i] _ (λz=>nomatch z) S3 r3 hst λσ3 ρ3 S4 kp3 hl3 ml3 o4=>?_
   have kp':∀j,j<Z.length->σ3[j]? = Z[j]? /\ ρ3[j]? = ρ[j]?:=λj hj=>⟨((kp3 j (by lia)).1).trans (kp j hj),by rw[(kp3 j (by lia)).2,di (by lia)]⟩
   obtain⟨b,hpt,o4⟩:=qH o4
   intro cl s0 H0 fp C
   refine ht cl s0 H0 fp C G F3 σ3 H2 ρ3 _ S4 (W.rets hpt λF5 H5 s5 S5=>?_)
   cases b with
   | true =>
    refine tR ?_
    obtain⟨v,hpe,o5⟩:=qH (m:=pe ρ3) o4
    cases o5
    intro cl s0 H0 fp C
    refine he cl s0 H0 fp C G F5 σ3 H5 ρ3 _ S5 (W.rets hpe λF6 H6 s6 S6 u ru=>?_)
    exact CIv.on F6 (acc++[v]) rest' () hlt (((s2.trans s3).trans s5).trans s6) (grown S6 kp' (by lia)) (λj hj=>(kp' j hj).1) (by lia) ((rp.mono ((s3.trans s5).trans s6)).append (.cons ru .nil)) hr (by rw[eo];simp)
   | false =>
    refine vm ?_
    have o4':(M.ret none:M (Option D))=M.ret o:=o4
    cases o4'
    exact CIv.on F5 acc rest' () hlt ((s2.trans s3).trans s5) (grown S5 kp' (by lia)) (λj hj=>(kp' j hj).1) (by lia) (rp.mono (s3.trans s5)) hr (by rw[eo];simp)
  ·have ei:i=ds.length:=by lia
   subst ei
   rw[List.drop_length]at go
   cases go
   rw[mo]at eo
   subst eo
   refine .inl ⟨wk.stop G F' σ' H' _ s2 S2,λp hp=>?_⟩
   have Ssh:=S2.shrink (n:=Z.length) (by simp;lia) hP
   have e1:σ'.take Z.length=Z:=mT kp rfl
   have e2:(ρ++List.replicate k none).take Z.length=ρ:=by rw[hln,List.take_left]
   rw[e1,e2]at Ssh
   obtain⟨S5,r5⟩:=Ssh.newLst hp rp
   exact fin F' _ s2 S5 _ r5
theorem cw{it:Pu (List D)}{t:Tg (Option D)}{pt:Pu Bool}{pe:Pu D}(hc:X.calm=true)(Sc:CompOk X N' k scope)(hi:AI X tg iter it)
  (hg:∀cl s H fp C,AG (bc X N' scope cl s H fp C) X.N.length tg t) (ht:∀cl s H fp C,ATs (bc X N' scope cl s H fp C) ifs pt) (he:∀cl s H fp C,AP (bc X N' scope cl s H fp C) elt pe)
  (hs:∀x,foldedSetIterable iter X.env x=pure x:=by exact λ_=>rfl):AL X (.ListComp elt [⟨tg,iter,ifs,0⟩] scope pos) (wu k it t pt pe):=by
 intro G F Z H ρ Q St w;unfold fQ;intro pins s I
 refine wo (wi:=hG X tg iter) (g:=sw X N' scope tg) (tc:=sv X N' scope ifs) (te:=sA X N' scope elt) hc Sc (λx hx hf=>I.ok.has x.1 (Sc.free x hx hf)) qZ
  (λcl s H fp C pins s' Z H v u Q I r h=>kO pins s' Z H v u Q I r (h cl _ _ fp C)) (λcl s H fp C pins s' Z H Q I h=>h cl _ _ fp C pins s' I) (λcl s H fp C pins s' Z H Q I h=>aN pins s' Z H Q I (h cl _ _ fp C)) hs pins s Z H Q I (xb hi hg ht he I.len St w)
theorem Bq{sh:List Kd}{it:Ev S (List D)}{t:Tg (Option D×SOf sh)}{et:Ev (Option D×SOf sh) Bool}{ee:Ev (Option D×SOf sh) D}{OK:M S->Prop}{x:Ex->En->M S}{kk:List D->En->M S}(hi:AEi X tg iter it)
  (hg:∀cl s H fp C,AG (bc X N' scope cl s H fp C) X.N.length tg t) (ht:∀cl s H fp C,G4 (bc X N' scope cl s H fp C) ifs et) (he:∀cl s H fp C,AE (bc X N' scope cl s H fp C) elt ee)
  (hσ:Z.length=X.N.length) (hO:KOk OK) (hX:XL X OK x G) (St:StOk X.K G F Z H ρ) (ok:OK (EM sh k it t et ee x kk ρ)) (k2:∀ds v F' H' ρ',Same F F'->StOk X.K G F' Z H' ρ'->Frs X.K G F' Z H' ρ' v (.l ds)->OK (kk ds ρ')->Q v H') :
  v6 (hG X tg iter) k (sw X N' scope tg) (sv X N' scope ifs) (sA X N' scope elt) Z H Q:=by
 refine hi OK x _ G F Z H ρ _ hO hX St ok λds J F1 H1 ρ1 s1 S1 wk o1=>?_
 obtain⟨s0,e0,o0⟩:=eC hO o1
 clear o1
 have S0:=S1.rd e0
 have hshl:sh.length=Z.length:=(zk sh s0).symm.trans S0.ln.symm
 have hlen0:∀s:SOf sh,(wr sh s).length=Z.length:=λs=>(zk sh s).trans hshl
 have hP:∀i a,G.P i=some a->i<Z.length:=λi a h=>(List.getElem?_eq_some_iff.mp (S1.pp i a h).1).1
 revert o0
 generalize hstep:(λ(s:SOf sh) d=>t d (λρ2=>et (λe _=>.exc e) (λb ρ3=>if b then ee (λe _=>.exc e) (λv ρ4=>rdk sh (λs'=>.ret (some v,s')) (ρ4.take sh.length)) ρ3 else rdk sh (λs'=>.ret (none,s')) (ρ3.take sh.length)) ρ2) (wr sh s++List.replicate k none))=step
 intro o0
 cases hcc:dz step ds s0 with
 | bad=>rw[hcc]at o0;exact(hO o0).elim
 | exc e=>exact(uf hcc).elim
 | ret q =>
  obtain⟨out,sf⟩:=q
  rw[hcc,FI]at o0
  obtain⟨hfit,o0⟩:=Gr hO o0
  have again:∀{F' H' σ' ρ'} {s':SOf sh},StOk X.K G F' σ' H' ρ'->(∀j,j<Z.length->σ'[j]? = Z[j]?)->σ'.length=Z.length+k->rd sh (ρ'.take sh.length)=some s'->StOk X.K G F' σ' H' (wr sh s'++List.replicate k none):=λ{F' H' σ' ρ' s'} S' kp hl e'=>by
   obtain⟨h1,h2,h3⟩:=ie sh _ s' e'
   have hρ':ρ'.length=Z.length+k:=by rw[<-S'.ln];exact hl
   refine S'.weak (by simp[hlen0];lia) (λi av q=>?_) (λi c q=>?_)
   ·have q':=gj q
    have:=h2 i av q'
    have hi:i<sh.length:=by
     have:=(List.getElem?_eq_some_iff.mp this).1
     rw[Ki]at this;lia
    rw[ke hi]at this
    exact this
   ·obtain⟨a,ha⟩:=S'.pq i c q
    have hi:=hP i a ha
    rw[di (by rw[hlen0];exact hi)]
    exact h3 i c (by rw[ke (by lia)];exact q)
  refine⟨CIv X.K G Z k ds F1 (λs=>wr sh s++List.replicate k none) (λi s rest=>dz step (ds.drop i) s=.ret (rest,sf)) out,
   ⟨_,⟨F1,[],out,s0,aw _,Same.refl _,S0.grow k,λj hj=>by rw[di hj],by simp,.nil,hcc,rfl⟩⟩,?_⟩
  rintro i m vs σ' H' ⟨F',acc,rest,sc,hi,s2,S2,kp,hlen,rp,go,eo⟩
  refine⟨by rw[rp.length];rw[eo,zzf]at hfit;lia,?_⟩
  by_cases hlt:i<ds.length
  ·refine .inr ⟨wk.go i G F' σ' H' _ s2 S2 hlt,λx H2 y cl sx H0 fp C=>?_⟩
   obtain⟨F3,s3,S3,r3⟩:=wk.yld i G F' σ' H' _ x H2 ds[i] s2 S2 (de hlt) y
   rw[KP hlt]at go
   obtain⟨o,sn,rest',hst,hr,er⟩:=vF go
   subst er
   clear go
   rw[<-hstep]at hst
   refine hg cl sx H0 fp C (λm=>m=.ret (o,sn)) _ G F3 σ' H2 _ x ds[i] _ (λz=>nomatch z) S3 r3 hst λσ3 ρ3 S4 kp3 hl3 ml3 o4=>?_
   have kp':∀j,j<Z.length->σ3[j]? = Z[j]?:=λj hj=>((kp3 j (by lia)).1).trans (kp j hj)
   intro cl sx H0 fp C
   refine ht cl sx H0 fp C (λm=>m=.ret (o,sn)) (λe _=>.exc e) _ G F3 σ3 H2 ρ3 _ (λz=>nomatch z) (λF ρ e z=>nomatch z) S4 o4 λb F5 H5 ρ5 s5 S5 o5=>?_
   cases b with
   | true =>
    refine tR ?_
    intro cl sx H0 fp C
    refine he cl sx H0 fp C (λm=>m=.ret (o,sn)) (λe _=>.exc e) _ G F5 σ3 H5 ρ5 _ (λz=>nomatch z) (λF ρ e z=>nomatch z) S5 o5 λv u F6 H6 ρ6 s6 S6 ru o6=>?_
    obtain⟨s',e',o'⟩:=eC (OK:=λm=>m=.ret (o,sn)) (λz=>nomatch z) o6
    cases o'
    exact CIv.on F6 (acc++[v]) rest' sn hlt (((s2.trans s3).trans s5).trans s6) (again S6 kp' (by lia) e') kp' (by lia) ((rp.mono ((s3.trans s5).trans s6)).append (.cons ru .nil)) hr (by rw[eo];simp)
   | false =>
    refine vm ?_
    obtain⟨s',e',o'⟩:=eC (OK:=λm=>m=.ret (o,sn)) (λz=>nomatch z) o5
    cases o'
    exact CIv.on F5 acc rest' sn hlt ((s2.trans s3).trans s5) (again S5 kp' (by lia) e') kp' (by lia) (rp.mono (s3.trans s5)) hr (by rw[eo];simp)
  ·have ei:i=ds.length:=by lia
   subst ei
   rw[List.drop_length]at go
   cases go
   rw[mo]at eo
   subst eo
   refine .inl ⟨wk.stop G F' σ' H' _ s2 S2,λp hp=>?_⟩
   have Ssh:=S2.shrink (n:=Z.length) (by simp[hlen0]) hP
   have e1:σ'.take Z.length=Z:=mT kp rfl
   have e2:(wr sh sf++List.replicate k none).take Z.length=wr sh sf:=by rw[<-hlen0 sf,List.take_left]
   rw[e1,e2]at Ssh
   obtain⟨S5,r5⟩:=Ssh.newLst hp rp
   exact k2 _ _ F' _ _ (s1.trans s2) S5 r5 o0
theorem oR{sh:List Kd}{it:Ev S (List D)}{t:Tg (Option D×SOf sh)}{et:Ev (Option D×SOf sh) Bool}{ee:Ev (Option D×SOf sh) D}(hc:X.calm=true)(Sc:CompOk X N' k scope)(hi:AEi X tg iter it)
  (hg:∀cl s H fp C,AG (bc X N' scope cl s H fp C) X.N.length tg t) (ht:∀cl s H fp C,G4 (bc X N' scope cl s H fp C) ifs et) (he:∀cl s H fp C,AE (bc X N' scope cl s H fp C) elt ee)
  (hs:∀x,foldedSetIterable iter X.env x=pure x:=by exact λ_=>rfl):AEl X (.ListComp elt [⟨tg,iter,ifs,0⟩] scope pos) (EM sh k it t et ee):=by
 intro OK x kk G F Z H ρ Q hO hX St ok k2;unfold fQ;intro pins s I
 refine wo (wi:=hG X tg iter) (g:=sw X N' scope tg) (tc:=sv X N' scope ifs) (te:=sA X N' scope elt) hc Sc (λx hx hf=>I.ok.has x.1 (Sc.free x hx hf)) qZ
  (λcl s H fp C pins s' Z H v u Q I r h=>kO pins s' Z H v u Q I r (h cl _ _ fp C)) (λcl s H fp C pins s' Z H Q I h=>h cl _ _ fp C pins s' I) (λcl s H fp C pins s' Z H Q I h=>aN pins s' Z H Q I (h cl _ _ fp C)) hs pins s Z H Q I (Bq hi hg ht he I.len hO hX St ok k2)
theorem eV{spos:Pos}{it:Pu (List D)}{t:Tg (Option D)}{pt:Pu Bool}{pe:Pu D}
  (hN:X.N.Nodup) (hy:X.N[i]? = some y) (hly:Loc X.env.scope y) (hfn:X.fn y=true\/X.env.scope.names.lookup y=some .local) (hc:X.calm=true) (Sc:CompOk X N' k scope) (hi:AI X tg iter it)
  (hg:∀cl s H fp C,AG (bc X N' scope cl s H fp C) X.N.length tg t) (ht:∀cl s H fp C,ATs (bc X N' scope cl s H fp C) ifs pt) (he:∀cl s H fp C,AP (bc X N' scope cl s H fp C) elt pe)
  (hsw:swapsWith (.ListComp elt [⟨tg,iter,ifs,0⟩] scope pos) (some (.Name y pos')) spos.line X.env=pure true) (hs:∀x,foldedSetIterable iter X.env x=pure x) :
  AS (S:=S) X (.Assign [.Name y pos'] (.ListComp elt [⟨tg,iter,ifs,0⟩] scope pos) spos) (Hj i (ePu (pZ (wu k it t pt pe)))):=by
 intro OK K G F Z H ρ E hO hX St ok eo;unfold pR;intro pins s I
 refine uU (wi:=hG X tg iter) (g:=sw X N' scope tg) (tc:=sv X N' scope ifs) (te:=sA X N' scope elt) hN hy hly hfn hc Sc (λx hx hf=>I.ok.has x.1 (Sc.free x hx hf)) qZ
  (λcl s H fp C pins s' Z H v u Q I r h=>kO pins s' Z H v u Q I r (h cl _ _ fp C)) (λcl s H fp C pins s' Z H Q I h=>h cl _ _ fp C pins s' I) (λcl s H fp C pins s' Z H Q I h=>aN pins s' Z H Q I (h cl _ _ fp C)) hsw hs pins s Z H E I ?_
 refine xb hi hg ht he I.len St ?_
 have w:W X G F Z ρ (pZ (wu k it t pt pe) ρ) (λd F' H'=>∀v,Rep X.K F' v d->tV i v Z H' E.nx):=W.of hO hX ok λd F' H' s S' o v r=>by
  have o':OK (match jf ρ i with|true=>K.nx (ρ.set i (some (.fz d)))|false=>.bad):=o
  split at o'
  ·rename_i ho
   obtain⟨hl,hop⟩:=dq ho
   exact eo.nx F' _ H' _ s (S'.store hop hl (.inl ⟨d,rfl,r⟩)) o'
  ·exact(hO o').elim
 refine w.bind.imp λds F' H' s1 S1 w1 v fr=>?_
 obtain⟨F2,s2,S2,r2⟩:=S1.settle (v:=v) (ds:=ds) fr
 exact w1 F2 H' s2 S2 v r2
end
end L4
namespace HT
open PySem PySem.Spec PyProof.Rows
section
variable {prog:Program}{w:World}{A:Around}{E:zzj}{s:Shared}
theorem getItem_tuple_all{t sl:Addr}{items:Array Value}{vl vu:Value}{lo hi:Option Int}{Q:zzj}(ht:IsTup s.heap t items)(hs:s.heap.IsSliceOf sl vl vu .none)(pl:IsPart vl lo)(pu:IsPart vu hi)
  (hw:sIx items.size 0 lo=0/\sIx items.size items.size hi=items.size) (h:Q (.ref t) s):wpAny (model prog w) A (getItem (.ref t) (.ref sl)) Q E s:=by
 obtain⟨os,hos,hcs,hds⟩:=id hs
 have hTs:s.TypeIs (.ref sl) "slice":=⟨os,hos,hcs⟩
 unfold getItem
 try with_reducible refine ev ?_
 first|refine zza (zzb ?_)|skip
 refine zza (wpAny_sequenceKey ht.typeIs (by decide) ?_)
 refine zza (gt (name:=Str.ofString "__getitem__") ht.typeIs Kt
  (gs Kt ht.typeIs entry_tuple_getitem ?_ (args_tuple_getitem _ _)))
 show wpAny _ _ (Builtin.Tuple.tupleItemsOf (.ref t) >>= _) _ _ s
 refine zza (tupleItemsOf_ ht ?_)
 refine zza (Ix hTs ?_)
 rw[ar (by decide)]
 refine zza (fT hs pl pu ?_)
 have hyes:((((sIx items.size 0 lo:Nat):Int)==0&&(1:Int)==1&&(sIx items.size items.size hi - sIx items.size 0 lo)==items.size)=true):=by
  rw[hw.1,hw.2]
  simp
 show wpAny _ _ (if(((sIx items.size 0 lo:Nat):Int)==0&&(1:Int)==1&&(sIx items.size items.size hi - sIx items.size 0 lo)==items.size)=true then _ else _) _ _ s
 rw[ar hyes]
 obtain⟨o,ho,hc,n,hd⟩:=id ht
 have hex:∀{Q':Bool->Shared->Prop},Q' true s->wpAny (model prog w) A.in1 (Builtin.Tuple.tupleIsExact (.ref t)) Q' E s:=λ{Q'} q=>by
  unfold Builtin.Tuple.tupleIsExact
  refine zza (Ix ht.typeIs (zzb ?_))
  exact q
 first
  | exact zza (hex (zza (Kq (zzb ⟨_,rfl,zzb h⟩))))
  | exact zza (zza (hex (zza (Kq (zzb (zzb ⟨_,rfl,zzb h⟩))))))
end
end HT
namespace L4
open PySem PySem.Spec PyProof.Rows L2 L3
variable {X:Cx}{K:Fg}
def cutD(ds:List D)(lo hi:Option Int):List D:=(ds.drop (HT.sIx ds.length 0 lo)).take (HT.sIx ds.length ds.length hi - HT.sIx ds.length 0 lo)
theorem xa{F:Hp}{vs:List V}{ds:List D}(r:RepL K F vs ds)(lo hi:Option Int):RepL K F (ud vs lo hi) (cutD ds lo hi):=by
 unfold ud cutD
 rw[r.length]
 exact(r.drop _).take _
def Ju(K:Fg):V->Option Int->Option Int->Hp->VK->Prop:=λx lo hi H Q=>∃a xs,x=.ref a/\SqT K H a xs/\(HT.sIx xs.length 0 lo=0/\HT.sIx xs.length xs.length hi=xs.length)/\Q x H
theorem sl_tupA:SlR X (Ju X.K):=by
 intro pins s Z H x v vl vu lo hi sl Q I rx hs pl pu h
 obtain⟨a,xs,rfl,hx,hw,q⟩:=h
 cases rx
 obtain⟨its,r,ht,hz⟩:=I.tuple hx
 have hlen:its.toArray.size=xs.length:=by rw[ay];exact r.length.symm
 refine⟨"tuple",_,PyProof.Rows.slot_tuple_getitem.lookup,ht.typeIs,?_⟩
 exact HT.getItem_tuple_all ht hs pl pu (by rw[hlen];exact hw) ⟨.ref a,H,I,rfl,q⟩
def JA:Pu (Option Int):=λ_=>.ret none
def asI(d:D):M (Option Int):=match d with
 | .int i=>.ret (some i)
 | _=>.bad
def JC(p:Pu D):Pu (Option Int):=λρ=>bd (p ρ) asI
def n5(d:D)(lo hi:Option Int):Option D:=match d with
 | .tuple ds=>some (.tuple (cutD ds lo hi))
 | .list ds=>some (.list (cutD ds lo hi))
 | _=>none
def Fy(p:Pu D)(l h:Pu (Option Int)):Pu D:=λρ=>bd (p ρ) λd=>bd (l ρ) λlo=>bd (h ρ) λhi=>oM (n5 d lo hi)
def APo(X:Cx)(e:Option Expr)(p:Pu (Option Int)):Prop :=
 ∀(G:Gh) (F:Hp) (Z:L2.St) (H:Hp) (ρ:En) (Q:Option Int->Hp->Prop),StOk X.K G F Z H ρ->W X G F Z ρ (p ρ) (λd F' H'=>Q d H')->∀(pins:zzk) (s:Shared),Inv X pins Z H s ->
  wpAny (model X.prog X.w) X.A (evalPart e X.env) (λu s'=>∃o H',Inv X pins Z H' s'/\IsPart u o/\Q o H') X.xe s
def Ha(X:Cx)(e:Option Expr):TO:=λZ H Q=>∀(pins:zzk) (s:Shared),Inv X pins Z H s->wpAny (model X.prog X.w) X.A (evalPart e X.env) (λu s'=>∃o H',Inv X pins Z H' s'/\IsPart u o/\Q o H') X.xe s
theorem z4{e:Option Expr}:PO X e (Ha X e):=λpins s Z H Q I h=>h pins s I
section
variable {e:Expr} {lo hi:Option Expr} {p:Pu D} {pl ph:Pu (Option Int)} {pos p2:Pos}
theorem ky:APo X none JA:=λG F Z H ρ Q S w pins s I=>Cs pins s Z H Q I (w F H (Same.refl _) S)
theorem kx(h:AP X e p):APo X (some e) (JC p):=λG F Z H ρ Q S w pins s I=>Cr aN pins s Z H Q I (h G F Z H ρ _ S (w.bind.imp λd F1 H1 s1 S1 w1 v r=>by
 cases r with
 | int i=>exact⟨i,rfl,w1 F1 H1 (Same.refl _) S1⟩
 | bl b=>exact w1.elim
 | non=>exact w1.elim
 | str i=>exact w1.elim
 | tup _ _=>exact w1.elim
 | lst _ _=>exact w1.elim
 | dct _ _ _=>exact w1.elim
 | dck _ _ _=>exact w1.elim
 | exc _ _ _ _ _=>exact w1.elim
 | fn _=>exact w1.elim))
theorem kz(he:AO X e p)(hl:APo X lo pl)(hh:APo X hi ph):AP X (.Subscript e (.Slice lo hi none p2) pos) (Fy p pl ph) :=
 λG F Z H ρ Q S w=>sem (Ae (sl_tup.or (sl_tupA.or Ca)) aN z4 z4) (he G F Z H ρ _ S (w.bind.imp λd F1 H1 s1 S1 w1 x hx =>
  hl G F1 Z H1 ρ _ S1 (w1.bind.imp λlo F2 H2 s2 S2 w2=>hh G F2 Z H2 ρ _ S2 (w2.bind.imp λhi F3 H3 s3 S3 w3=>by
   obtain⟨res,hr,k⟩:=w3.opt
   have ox:=(hx.mono (s2.trans s3)).or S3
   cases d<;>try (cases hr)
   ·obtain⟨a,vs,rfl,h1,h2⟩:=ox.list S3.fh
    refine .inr (.inr ⟨a,vs,rfl,h1,λq hq=>?_⟩)
    obtain⟨S4,r4⟩:=S3.newLst hq (xa h2 lo hi)
    obtain⟨F5,s5,S5,r5⟩:=S4.settle r4
    exact k F5 _ s5 S5 _ r5
   ·rename_i ds
    obtain⟨a,vs,rfl,h1,h2⟩:=ox.tuple S3.fh
    by_cases hw:HT.sIx vs.length 0 lo=0/\HT.sIx vs.length vs.length hi=vs.length
    ·refine .inr (.inl ⟨a,vs,rfl,h1,hw,k F3 H3 (Same.refl _) S3 _ ?_⟩)
     have:cutD ds lo hi=ds:=by
      unfold cutD
      rw[<-h2.length,hw.1,hw.2]
      simp[h2.length]
     rw[this]
     exact ox.tup'
    ·refine .inl ⟨a,vs,rfl,h1,hw,λq hq=>?_⟩
     obtain⟨s4,S4,r4⟩:=S3.newTup hq (xa h2 lo hi)
     exact k _ _ s4 S4 _ r4))))
end
def sR(d e:D):Option Bool:=match d,e with
 | .bool a,.bool b=>some (a==b)
 | _,.none=>some (isNone d)
 | _,_=>none
section
theorem CH:OpR X (compareOp .Is) (rD2 X.K sR):=by
 intro pins s Z H x y v u Q I rx ry ⟨d,e,b,r1,r2,ho,q⟩
 unfold sR at ho
 split at ho
 ·cases ho
  obtain rfl:=r1.bool_inv
  obtain rfl:=r2.bool_inv
  cases rx
  cases ry
  exact PyProof.Rows.is_bool ⟨.bl _,H,I,rfl,q⟩
 ·exact CG pins s Z H x y v u Q I rx ry ⟨d,.none,b,r1,r2,by rw[<-ho];rfl,q⟩
 ·cases ho
end
def wZ:List D->Option (List D)
 | [.list ds]=>some ds
 | [.tuple ds]=>some ds
 | _=>none
def Hz(K:Fg):List V->Hp->VK->Prop:=λxs H Q=>∃p ys,xs=[.ref p]/\(SqL K H p ys\/SqT K H p ys)/\∀l,H l=none->Q (.ref l) (upd H l (.lst ys))
theorem CO:qM K (Hz K) wZ:=by
 intro G F Z H ρ xs ds res Q S o e k
 unfold wZ at e
 split at e
 ·cases e
  obtain⟨v,r,rfl,ho,hr⟩:=bn o
  obtain rfl:=bF hr
  obtain⟨a,vs,rfl,h1,h2⟩:=ho.list S.fh
  refine⟨a,vs,rfl,.inl h1,λl hl=>?_⟩
  obtain⟨S2,r2⟩:=S.newLst hl h2
  exact k _ F _ (Same.refl _) S2 r2
 ·cases e
  obtain⟨v,r,rfl,ho,hr⟩:=bn o
  obtain rfl:=bF hr
  obtain⟨a,vs,rfl,h1,h2⟩:=ho.tuple S.fh
  refine⟨a,vs,rfl,.inr h1,λl hl=>?_⟩
  obtain⟨S2,r2⟩:=S.newLst hl h2
  exact k _ F _ (Same.refl _) S2 r2
 ·cases e
def Do:List D->Option D
 | [.int i]=>some (.int i)
 | [.bool b]=>some (.int (if b then 1 else 0))
 | _=>none
theorem FN:iM K (λxs H Q=>(∃i,xs=[.int i]/\Q (.int i) H)\/∃k,xs=[.bl k]/\Q (.int (if k then 1 else 0)) H) Do:=by
 intro G F Z H ρ xs ds res Q S o e k
 unfold Do at e
 split at e
 ·cases e
  obtain⟨v,r,rfl,ho,hr⟩:=bn o
  obtain rfl:=bF hr
  exact .inl ⟨_,by rw[ho.int],k _ F H (Same.refl _) S (.int _)⟩
 ·cases e
  obtain⟨v,r,rfl,ho,hr⟩:=bn o
  obtain rfl:=bF hr
  exact .inr ⟨_,by rw[ho.bool],k _ F H (Same.refl _) S (.int _)⟩
 ·cases e
section
variable {S:Type}
def putD(ds:List D)(j d:D):Option (List D):=match j with
 | .int k=>(ixN ds.length k).map λq=>ds.set q d
 | _=>none
def Jp(i:Nat)(mi me:Ev S D):SM S:=λK ρ=>me K.x (λd ρ1=>match im ρ1 i with
 | some _=>mi K.x (λj ρ2=>match im ρ2 i with
  | some ds=>(oM (putD ds j d)).on (λe=>K.x e ρ2) (λds'=>K.nx (qS ρ2 i ds'))
  | none=>.bad) ρ1
 | none=>.bad) ρ
variable {a b e:Expr} {mi me:Ev S D} {pos pos' tpos apos cpos:Pos} {ml:Ev S (List D)}
theorem BI{i:Nat}{x:Str}(hN:X.N[i]? = some x)(hv:Vis X.env.scope x)(hi:AE X b mi)(he:AE X e me)(ha:∀v,assign (.Subscript (.Name x pos') b tpos) X.env v=(do
   let ov <-holding [v] (eval (.Name x pos') X.env)
   let iv <-holding [v,ov] (eval b X.env)
   standAt tpos
   holding [v,ov,iv] (setItem ov iv v)
   release [v,ov,iv] []))
  (hs:swapsWithSole [.Subscript (.Name x pos') b tpos] e pos.line X.env=pure false) (hw:swappedStores [.Subscript (.Name x pos') b tpos] e X.env=pure none)
  (h1:(assignEach [.Subscript (.Name x pos') b tpos] X.env).map (·.2)=[assign (.Subscript (.Name x pos') b tpos) X.env])
  (hd:(x==("__debug__" : Str))=false:=by decide) (hcd:(x==("__classdict__" : Str))=false:=by decide):AS X (.Assign [.Subscript (.Name x pos') b tpos] e pos) (Jp i mi me):=λOK K G F Z H ρ E hO hX St ok eo =>
 gv (zZ aN (Fs (dH hN hv hd hcd) aN set_list ha) hs hw h1) (he OK K.x _ G F Z H ρ _ hO hX St ok λd v F1 H1 ρ1 s1 S1 r1 o1=>by
  split at o1
  case h_2=>exact(hO o1).elim
  rename_i ds0 hd0
  obtain⟨a,vs0,ea,_,_⟩:=dU S1 hd0
  refine⟨_,ea,hi OK K.x _ G F1 Z H1 ρ1 _ hO hX S1 o1 λj u F2 H2 ρ2 s2 S2 r2 o2=>?_⟩
  split at o2
  case h_2=>exact(hO o2).elim
  rename_i ds hds
  obtain⟨ds',hp,o3⟩:=cy hO o2
  obtain⟨a',vs,ea',hh,rv⟩:=dU S2 hds
  rw[ea]at ea'
  injection ea' with ea';injection ea' with ea';injection ea' with ea'
  subst ea'
  unfold putD at hp
  split at hp
  ·rename_i k
   obtain⟨q,hq,rfl⟩:=Option.map_eq_some_iff.mp hp
   obtain rfl:=r2.int_inv
   refine⟨a,vs,k,q,rfl,rfl,hh,by rw[rv.length];exact hq,?_⟩
   exact eo.nx F2 Z _ _ (s1.trans s2) (mz S2 hds ea (RepL.set (r1.mono s2) q rv)) o3
  ·cases hp)
end
def kindB(k:NameKind):Option NameKind->Bool
 | some k'=>k==k'
 | none=>false
def rP(N N':List Str)(k:Nat)(scope sc:Scope):Bool :=
 (scope.kind==.function)&&(N'.length==N.length+k)&&scope.names.all (λy=>y.2 != .cell||kindB .cell (scope.names.lookup y.1))&&scope.names.all (λy=>y.2 != .local||kindB .local (scope.names.lookup y.1))
  && ((List.range N.length).all λi=>match N'[i]? with
   | some x=>!(kindB .free (scope.names.lookup x)||kindB .local (scope.names.lookup x)||kindB .cell (scope.names.lookup x))||(N[i]? == some x&&kindB .free (scope.names.lookup x))
   | none=>true)
  && scope.names.all (λy=>y.2 != .free||kindB .cell (sc.names.lookup y.1)||kindB .free (sc.names.lookup y.1))
theorem iB{k:NameKind}{o:Option NameKind}(h:kindB k o=true):o=some k:=by
 cases o with
 | none=>cases h
 | some k'=>simp[kindB]at h;rw[h]
theorem A0{k:NameKind}{o:Option NameKind}(h:o=some k):kindB k o=true:=by subst h;simp[kindB]
theorem aX{N N':List Str}{k:Nat}{scope sc:Scope}(h:rP N N' k scope sc=true)(hN:X.N=N)(hs:X.env.scope=sc):CompOk X N' k scope:=by
 subst hN hs
 simp only[rP,ac,ir,beq_iff_eq,um,bne_iff_ne,ne_eq]at h
 obtain⟨⟨⟨⟨⟨h1,h2⟩,h3⟩,h4⟩,h5⟩,h6⟩:=h
 refine⟨h1,h2,λy hy hl=>?_,λy hy hl=>?_,λi x hi hx _ hk=>?_,λy hy hf=>?_⟩
 ·rcases h3 y hy with z|z
  ·exact absurd hl z
  ·exact iB z
 ·rcases h4 y hy with z|z
  ·exact absurd hl z
  ·exact iB z
 ·have:=h5 i (List.mem_range.mpr hi)
  rw[hx]at this
  simp only[um,wT,ac,beq_iff_eq]at this
  rcases this with z|⟨z1,z2⟩
  ·exfalso
   rcases hk with hk|hk|hk<;>simp[A0 hk]at z
  ·exact⟨z1,iB z2⟩
 ·rcases h6 y hy with (z|z)|z
  ·exact absurd hf z
  ·exact .inl (iB z)
  ·exact .inr (iB z)
theorem yv{H:Hp}{a:Addr}{ns:List Int}{mf:List D->M D}(hS:SqL K H a (ns.map V.int))(h:mf [.list (ns.map PyData.int)]=.ret (.bool true)):spD K 1 mf [.ref a] H (λv _=>v=.bl true) λ_ _ _=>False:=by
 refine⟨⟨λ_=>none,λ_=>none,H⟩,H,[.list (ns.map PyData.int)],rfl,⟨Same.refl _,λb o z=>(nomatch z),λb o z=>(nomatch z),rfl,λi d z=>?_,λi c z=>(gB (ds:=[.list (ns.map PyData.int)]) z).elim,λi j c e a z=>(gB (ds:=[.list (ns.map PyData.int)]) z).elim,λi a z=>(nomatch z),λi c z=>?_,Same.refl _⟩,?_⟩
 ·obtain⟨d',e,q⟩:=jB (ds:=[.list (ns.map PyData.int)]) z
  cases e
  cases i with
  | zero=>simp at q;subst q;exact⟨_,rfl,.lst hS (RepL.ints ns)⟩
  | succ i=>simp at q
 ·obtain⟨d',e,q⟩:=jB (ds:=[.list (ns.map PyData.int)]) z
  cases e
 ·rw[h]
  intro v F' H' s S' r
  cases r
  rfl
end L4
namespace HT
end HT
namespace L4
open PySem PySem.Spec PyProof.Rows L2 L3
variable {S:Type}
noncomputable def cA{S T:Type}:(T->D->(T->M S)->M S)->List D->T->(T->M S)->M S:=Classical.choose (⟨@gZ S T,rfl⟩:∃f,f = @gZ S T)
theorem iY{T:Type} : @cA S T = @gZ S T:=Md (⟨@gZ S T,rfl⟩:∃f,f = @gZ S T)
noncomputable def mN{S T:Type}:(T->(T->M S)->M S)->Nat->T->M S:=Classical.choose (⟨@cx S T,rfl⟩:∃f,f = @cx S T)
theorem pN{T:Type} : @mN S T = @cx S T:=Md (⟨@cx S T,rfl⟩:∃f,f = @cx S T)
section
noncomputable def zA(sh:List Kd)(it:Ev S (List D))(t:Tg S)(mb:SM S):SM S:=λK ρ=>it K.x (λds ρ1=>rdk sh (λs=>cA (λs d kn=>t d (λρ2=>mb (ji sh K kn) ρ2) (wr sh s)) ds s (λs'=>K.nx (wr sh s'))) ρ1) ρ
noncomputable def qU(sh:List Kd)(fuel:Nat)(c:Ev S Bool)(mb:SM S):SM S:=λK ρ=>rdk sh (λs=>mN (λs kn=>c K.x (λb ρ2=>if b then mb (ji sh K kn) ρ2 else rdk sh (λs'=>K.nx (wr sh s')) ρ2) (wr sh s)) fuel s) ρ
theorem zy(sh:List Kd)(it:Ev S (List D))(t:Tg S)(mb:SM S):zA sh it t mb=Ff sh it t mb:=by
 unfold zA Ff
 rw[iY]
theorem uO(sh:List Kd)(fuel:Nat)(c:Ev S Bool)(mb:SM S):qU sh fuel c mb=uP sh fuel c mb:=by
 unfold qU uP
 rw[pN]
variable {X:Cx} {mb:SM S} {c:Expr} {mt:Ev S Bool} {ml:Ev S (List D)} {pos:Pos}
theorem bg{tg iter:Expr}{body:List Stmt}{sh:List Kd}{t:Tg S}(hp:PassesOwn (model X.prog X.w) X.A X.env X.xe)(hc:X.calm=true)(hi:AEi X tg iter ml)(hg:AG X 0 tg t)(hb:ASs X body mb)
  (hs:∀x,foldedSetIterable iter X.env x=pure x:=by exact λ_=>rfl):AS X (.For tg iter body [] pos) (zA sh ml t mb):=by
 rw[zy]
 exact GO hp hc hi hg hb hs
theorem qI{body:List Stmt}{sh:List Kd}{fuel:Nat}(hp:PassesOwn (model X.prog X.w) X.A X.env X.xe)(hc:AEt X c mt)(hb:ASs X body mb):AS X (.While c body [] pos) (qU sh fuel mt mb):=by
 rw[uO]
 exact BH hp hc hb
end
end L4
namespace HT
open PySem PySem.Spec PyProof.Rows
section
variable {prog:Program}{w:World}{A:Around}{E:zzj}{s:Shared}{xs:Array (Int×Tok)}{l:Addr}
theorem max_intTup{Q:zzj}(hh:A.handled=none)(hl:s.heap.IsTuple l (intItems xs))(hne:0<xs.size)
  (h:∀v h' tk,(intItems xs)[argBest (λi j=>decide (numAt xs i>numAt xs j)) (xs.size - 1)]? = some v->(∀b o,s.heap.get? b=some o->h'.get? b=some o)->Q v { s with heap:=h',toks:=tk }) :
  wpAny (model prog w) A (call (.builtin "max") [.ref l]) Q E s:=by
 have hlt:l<s.heap.objs.size:=by obtain⟨_,e,_⟩:=hl;exact am e
 refine call_max_walk (Lq hl ?_)
 refine⟨_,_,_,_,_,_,_,rfl,Walks.tuple (A:=A.in1) hh _ l (bi hlt) (intItems xs),⟨⟨_,zze _ rfl,rfl,rfl⟩,?_⟩,λb hb=>?_,by simpa[intItems]using hne,CmpOf.ints_gt (numAt xs) (λ_ _=>intItems_at),λv h' tk hP hk=>?_⟩
 ·obtain⟨o,e,r⟩:=hl
  exact⟨o,zzc _ e,r⟩
 ·show b<(s.heap.push _).objs.size
  rw[r0]
  rcases List.mem_cons.mp hb with rfl|hb
  ·exact Ku _
  ·rcases List.mem_cons.mp hb with rfl|hb
   ·exact se hlt
   ·cases hb
 ·refine h v h' tk (by simpa[intItems]using hP) λb o e=>hk b o (λhm=>?_) (zzc _ e)
  rcases List.mem_cons.mp hm with e1|hm
  ·exact absurd (e1▸am e) (ug _)
  ·cases hm
end
end HT
namespace L4
open PySem PySem.Spec PyProof.Rows L2 L3
def Bj:List D->Option D
 | [.tuple ds]=>match intsOf ds with
  | some (n::r)=>some (.int (px (n::r)))
  | _=>none
 | _=>none
def uT(K:Fg)(f:List Int->Option Int):List V->Hp->VK->Prop:=λxs H Q=>∃a ns i,xs=[.ref a]/\SqT K H a (ns.map V.int)/\f ns=some i/\Q (.int i) H
theorem CN{K:Fg}:iM K (uT K yD) Bj:=by
 intro G F Z H ρ xs ds res Q S o e k
 unfold Bj at e
 split at e
 ·split at e
  ·rename_i hns
   cases e
   obtain⟨v,r,rfl,ho,hr⟩:=bn o
   obtain rfl:=bF hr
   obtain⟨a,vs,rfl,h1,h2⟩:=ho.tuple S.fh
   rw[bY hns]at h2
   rw[dc h2]at h1
   exact⟨a,_,_,rfl,h1,rfl,k _ F H (Same.refl _) S (show Rep K F _ _ from .int _)⟩
  ·cases e
 ·cases e
theorem yR{X:Cx}(hc:X.calm=true):CallR X (.builtin "max") (uT X.K yD):=by
 intro pins s Z H xs us Q I r h0
 obtain⟨a,ns,i,rfl,hq,e,q⟩:=h0
 obtain⟨u,rfl,ru⟩:=Vals.one r
 cases ru
 obtain⟨its,rv,pl,hz⟩:=I.tuple hq
 obtain⟨ps,rfl,rfl⟩:=jq rv
 have hne:ps≠[]:=by rintro rfl;cases e
 have hne':ps.map Prod.fst≠[]:=by simpa using hne
 have ei:i=px (ps.map Prod.fst):=by
  cases hp:ps.map Prod.fst with
  | nil=>exact absurd hp hne'
  | cons n r=>rw[hp]at e;cases e;rfl
 subst ei
 have hl:s.heap.IsTuple a (intItems ps.toArray):=by
  have:s.heap.IsTuple a _:=pl
  unfold intItems
  simpa using this
 have hpos:0<ps.length:=List.length_pos_iff.mpr hne
 refine HT.max_intTup (I.ok.hd hc) hl (by simpa using hpos) λv h' tk hv hk=>?_
 obtain⟨t,rfl⟩:=intItems_at hv
 refine⟨.int _,H,I.kept hk,⟨_,rfl⟩,?_⟩
 have b:=argBest_gt (numAt ps.toArray) (ps.toArray.size - 1)
 generalize argBest (λi j=>decide (numAt ps.toArray i>numAt ps.toArray j)) (ps.toArray.size - 1)=m at b hv
 have hm:m<ps.length:=by
  have h0:=b.1
  simp at h0
  lia
 have hsp:=qd hne'
 have e1:numAt ps.toArray m=px (ps.map Prod.fst):=by
  refine Int.le_antisymm ?_ ?_
  ·refine hsp.1 _ ?_
   rw[jT,ou,de (by simpa using hm)]
   exact Kk _
  ·obtain⟨j,hj,ej⟩:=List.getElem_of_mem hsp.2
   have h0:=b.2 j (by simp at hj ⊢;lia)
   rw[jT,ou,de hj]at h0
   rw[<-ej]
   exact h0
 rw[e1]
 exact q
end L4
namespace PySem
open Sem (wp)
open AutoSeq1 (wpAny_loadPart')
section
variable {prog:Program}{w:World}{A:Around}{E:zzj}{s:Shared}
theorem nG{it t:Addr}{i:Nat}{items}{x:Value}{Q:zzj}(hit:s.heap.IsTupleIter it t i)
  (ht:s.heap.IsTuple t items) (hx:items[i]? = some x)
  (hQ:∀h',h'.IsTupleIter it t (i+1)->Heap.SameBut it s.heap h'->Q x { s with heap:=h' }) :
  wpAny (model prog w) A (Builtin.SmallTypes.nextOf (.ref it)) Q E s:=by
 obtain⟨o,ho,hc,hd⟩:=id hit
 obtain⟨ol,hol,_,nl,hdl⟩:=ht
 unfold Builtin.SmallTypes.nextOf
 refine zza (gt (name:=Str.ofString "__next__") hit.typeIs F.slot_tuple_iterator_next
  (gs F.slot_tuple_iterator_next hit.typeIs F.entry_tuple_iterator_next ?_ (F.args_tuple_iterator_next_1 _)))
 show wpAny _ _ (field (.ref it) 0 >>= _) _ _ s
 refine zza (pI ho hd (x:=.ref t) rfl ?_)
 show wpAny _ _ (if(Value.ref t==Value.none)=true then _ else _) _ _ s
 rw[au (show ¬ ((Value.ref t==Value.none)=true)from pi)]
 show wpAny _ _ (field (.ref it) 1 >>= _) _ _ s
 refine zza (pI ho hd (x:=.int i 0) rfl ?_)
 show wpAny _ _ (seqItems? (.ref t) >>= _) _ _ s
 refine zza (wP hol hdl ?_)
 simp only[Er,hx]
 refine zza (Kl ho hd (by simp) (zzb ⟨x,rfl,zzb (hQ _ ?_ (Heap.SameBut.update ..))⟩))
 exact⟨_,lu _ ho (ye (io hd _)),(KG ..).trans hc,by
  rw[io hd];simp[rawInt]⟩
end
end PySem
namespace L4
open PySem PySem.Spec PyProof.Rows L2 L3
variable {X:Cx}{H F:Hp}{K:Fg}{Z:L2.St}{a:Addr}{pins:zzk}{y:V}{e:Expr}{i:Nat}{pos apos cpos:Pos}{x:Str}{Q:zzj}
theorem fc{s:Shared}{h':Heap}{t':Nat}{fp:List Addr}(I:Inv X pins Z H s)(hf:∀b∈fp,g6 X pins H b)
  (k:∀b o,b∉fp->s.heap.get? b=some o->h'.get? b=some o):Inv X pins Z H { s with heap:=h',toks:=t' }:=by
 have nit:∀b u,H b=some u->b∉fp:=λb u e z=>by rw[(hf b z).1]at e;cases e
 refine I.step (g':=s.gens) (d':=s.drawn) (ch:=fp) (λb hb=>?_) (λb o _ _ hc e _=>k b o hc e) (λb o _ _ hc e _=>⟨o.slots,k b o hc e⟩) (λ_ _ _ _ n=>n)
  (λb o hc e=>⟨o,k b o hc e⟩) (λ_ _ e=>e) (λ_ _ _ e=>e) (λb ps e=>⟨#[],by rw[e];simp⟩) (λm hm=>?_) (λb u e=>?_) I.bare
 ·obtain⟨f0,f1,f2,f3,f4,f5⟩:=hf b hb
  exact⟨f3,f1,f4,f5⟩
 ·obtain⟨o,es,ep,ho,r⟩:=hm
  exact⟨o,es,ep,k _ o (λz=>(hf _ z).2.1 rfl) ho,r⟩
 ·refine(I.hok b u e).stay (λc v hc q=>k c v ?_ q) (λ_ q=>q) λ_ _ q=>q
  rcases hc with z|z
  ·rw[z];exact nit b u e
  ·exact nit c _ z
theorem sO{s:Shared}{ch:List Addr}{x:V}{x' y':Value}{t:Nat}{h2:Heap}(I:Inv X pins Z H s)(hf:∀c∈ch,g6 X pins H c)(ru:RelV x x')(ru2:RelV y y')
  (keep2:∀c o,c∉ch->s.heap.get? c=some o->h2.get? c=some o) (tup2:h2.get? s.heap.objs.size=some { cls:=.type "tuple",data:=.seq #[x',y'] }) :
  Inv X pins Z (upd H s.heap.objs.size (.tup [x,y])) { s with heap:=h2,toks:=t }:=by
 have fr:=I.fresh
 have nit:∀c o,H c=some o->c∉ch:=λc o e m=>by rw[(hf c m).1]at e;cases e
 have hok:HOk X.prog X.w (upd H s.heap.objs.size (.tup [x,y])) h2:=λc ob e=>by
  by_cases hb:c=s.heap.objs.size
  ·subst hb
   rw[aS]at e
   cases e
   exact⟨by show 2<=sizeLine;decide,[x',y'],.cons ru (.cons ru2 .nil),⟨_,tup2,rfl,_,rfl⟩,⟨_,tup2,rfl⟩⟩
  ·rw[aK hb]at e
   refine(I.hok c ob e).stay (λc' v' hc' e'=>?_) (λc' e'=>by rw[aK (aU e' fr)];exact e') λc' ys e'=>by rw[aK (aU e' fr)];exact e'
   rcases hc' with z'|z'
   ·rw[z']at e' ⊢;exact keep2 c v' (nit c ob e) e'
   ·exact keep2 c' v' (nit c' _ z') e'
 refine I.step (g':=s.gens) (d':=s.drawn) (t':=t) (h':=h2) (ch:=ch) (λc hc=>?_) (λc o _ _ hch e _=>keep2 c o hch e) (λc o _ _ hch e _=>⟨o.slots,keep2 c o hch e⟩)
  (λc o _ e n=>by rw[aK (bi (am e))];exact n) (λc o hch e=>⟨o,keep2 c o hch e⟩)
  (λc ys e=>by rw[aK (aU e fr)];exact e) (λc o u' e=>by rw[aK (aU e fr)];exact e) (λc ps e=>⟨#[],by rw[aK (aU e fr),e];simp⟩) (λm hm=>?_) hok I.bare
 ·obtain⟨f0,f1,f2,f3,f4,f5⟩:=hf c hc
  exact⟨f3,f1,f4,f5⟩
 ·obtain⟨o,es,ep,ho',r⟩:=hm
  exact⟨o,es,ep,keep2 _ o (λm=>(hf _ m).2.1 rfl) ho',r⟩
def mM(as bs:List D):List D:=List.zipWith (λx y=>PyData.tuple [x,y]) as bs
theorem yK{N N':List Str}{k:Nat}{scope sc:Scope}{cl:List (Str×Addr)}{s2:Shared}{H2:Hp}{fp:List Addr}{C:Addr}(h:rP N N' k scope sc=true) :
  CompOk (bc X N sc cl s2 H2 fp C) N' k scope:=by
 have q:CompOk { X with N:=N,env:={ X.env with scope:=sc } } N' k scope:=aX h rfl rfl
 refine⟨q.kind,q.len,q.cells,q.names,q.outer,λy hy hf=>?_⟩
 have e:(bc X N sc cl s2 H2 fp C).env.kindOf y.1=_:=cR (env:=X.env) (names:=sc.names) (x:=y.1)
 rw[e]
 rcases q.free y hy hf with z|z
 ·have z':sc.names.lookup y.1=some .cell:=z
  rw[z']
  exact .inl rfl
 ·have z':sc.names.lookup y.1=some .free:=z
  rw[z',Option.map_some]
  split
  ·exact .inl rfl
  ·exact .inr rfl
def FO(ds es:List D):Option (List D):=if decide (ds.length+es.length<=sizeLine)then some (ds++es)else none
section
variable {S:Type} {c:Expr} {ml:Ev S (List D)} {pos':Pos} {m:SM S}
theorem DE(hN:X.N[i]? = some x)(hv:Vis X.env.scope x)(he:AEl X e ml)
  (hbase:attributeBase (.Name x pos') "extend" X.env (eval (.Name x pos') X.env)=eval (.Name x pos') X.env)
  (hfew:((backTo cpos (starEach [e] X.env)).all (λx=>!x.1)&&(backToKw cpos (keywordEach [] X.env)).all (λx=>x.1.isSome)
   && decide ([e].length+([]:List Keyword).length+(if([]:List Keyword).isEmpty then 0 else 1)<30))=true)
  (hline:(apos.endLine==cpos.line)=true) (hs:starEach [e] X.env=(false,eval e X.env)::starEach [] X.env) (hplain:(backTo cpos (starEach [] X.env)).any (·.1)=false)
  (hsw:swapsWith (.Call (.Attribute (.Name x pos') "extend" apos) [e] [] cpos) none pos.line X.env=pure false) (hd:(x==("__debug__" : Str))=false:=by decide) (hcd:(x==("__classdict__" : Str))=false:=by decide) :
  AS X (.Expr (.Call (.Attribute (.Name x pos') "extend" apos) [e] [] cpos) pos) (xU i FO ml):=λOK K G F Z H ρ E hO hX St ok eo =>
 gv (mw (Ak LQ PySem.F.slot_list_extend PySem.F.type_list_extend yn (dH hN hv hd hcd) (gz aN kQ hs) hbase hfew hline hs hplain) hsw) (by
  unfold xU at ok
  split at ok
  case h_2=>exact(hO ok).elim
  ·rename_i ds0 h0
   obtain⟨a,vs0,ea,hh,_⟩:=dU St h0
   refine⟨_,ea,.inl ⟨rfl,vs0,.inl (.inl hh)⟩,he OK K.x _ G F Z H ρ _ hO hX St ok λes v F1 H1 ρ1 s1 S1 fr o1=>?_⟩
   split at o1
   ·rename_i ds hds
    obtain⟨ds',hf,o2⟩:=cy hO o1
    obtain⟨a',vs,ea',hh',rv⟩:=dU S1 hds
    rw[ea]at ea'
    injection ea' with ea';injection ea' with ea';injection ea' with ea'
    subst ea'
    obtain⟨b,rfl,ob,_⟩:=fr
    obtain⟨ws,g1,g2⟩:=ob.he
    unfold FO at hf
    split at hf
    ·rename_i hz
     cases hf
     refine⟨a,b,vs,ws,rfl,rfl,hh',g1,by rw[rv.length,g2.length];simpa using hz,?_⟩
     exact eo.nx F1 Z _ _ s1 (mz S1 hds ea (rv.append g2)) o2
    ·cases hf
   ·exact(hO o1).elim)
end
def dg:D->Bool
 | .int _=>true
 | .str _=>true
 | _=>false
def fK:D->Bool
 | .tuple ds=>ds.all dg
 | _=>false
def tM:D->D->Bool
 | .int i,.int j=>decide (i=j)
 | .str i,.str j=>decide (i=j)
 | _,_=>false
def nS:List D->List D->Bool
 | [],[]=>true
 | a::r,b::t=>tM a b&&nS r t
 | _,_=>false
def eY:D->D->Bool
 | .tuple a,.tuple b=>nS a b
 | a,b=>tM a b
def keyOk(es:List (D×D))(k:D):Bool:=(fK k&&es.all λp=>fK p.1)||(dg k&&es.all λp=>dg p.1)
theorem mE{es:List (D×D)}{k:D}(h:keyOk es k=true):ja es=false:=by
 unfold ja
 split
 ·simp[keyOk,fK,dg]at h
 ·simp[keyOk,fK,dg]at h
 ·rfl
def e6(es:List (D×D))(k:D):Option D:=(es.find? λp=>eY p.1 k).map (·.2)
def lQ(es:List (D×D))(k d:D):List (D×D):=if es.any (λp=>eY p.1 k)then es.map (λp=>if eY p.1 k then(p.1,d)else p)else es++[(k,d)]
theorem tL(a b:Key):tM (keyD a) (keyD b)=decide (a=b):=by
 cases a<;>cases b<;>simp[tM,keyD]
theorem tK:∀(a b:List Key),nS (a.map keyD) (b.map keyD)=decide (a=b)
 | [],[]=>by simp[nS]
 | [],_::_=>by simp[nS]
 | _::_,[]=>by simp[nS]
 | x::xs,y::ys=>by
  simp only[ax,nS,tL,tK xs ys]
  by_cases h:x=y<;>by_cases g:xs=ys<;>simp[h,g]
theorem vh(a b:List Key):eY (nR a) (nR b)=decide (a=b):=tK a b
theorem lc(a b:Key):eY (keyD a) (keyD b)=decide (a=b):=by
 have h:eY (keyD a) (keyD b)=tM (keyD a) (keyD b):=by cases a<;>cases b<;>rfl
 rw[h];exact tL a b
theorem d4{d:D}(h:dg d=true):∃k,d=keyD k:=by
 cases d<;>first|exact⟨.inl _,rfl⟩|exact⟨.inr _,rfl⟩|cases h
theorem nV:∀{ds:List D},ds.all dg=true->∃k:List Key,ds=k.map keyD
 | [],_=>⟨[],rfl⟩
 | d::ds,h=>by
  rw[KR,ac]at h
  obtain⟨k,rfl⟩:=d4 h.1
  obtain⟨ks,rfl⟩:=nV h.2
  exact⟨k::ks,rfl⟩
theorem iT{d:D}(h:fK d=true):∃k,d=nR k:=by
 cases d<;>first|cases h|skip
 obtain⟨k,rfl⟩:=nV h
 exact⟨k,rfl⟩
theorem Bb(k:Key):fK (keyD k)=false:=by cases k<;>rfl
theorem Bc(k:List Key):dg (nR k)=false:=rfl
section
variable {v:V}
theorem fV{k:Key}(r:Rep K F v (keyD k)):v=kV k:=by
 cases k with
 | inl i=>cases (show Rep K F v (.int i)from r);rfl
 | inr i=>cases (show Rep K F v (.str i)from r);rfl
theorem pV:∀{vs:List V} {k:List Key},RepL K F vs (k.map keyD)->vs=k.map kV
 | _,[],r=>by rw[Ch]at r;cases r;rfl
 | _,k::ks,r=>by
  rw[ax]at r
  cases r with
  | cons a b=>rw[fV a,pV b];rfl
theorem jJ{k:List Key}(r:Rep K F v (nR k)):∃b,v=.ref b/\F b=some (.tup (k.map kV)):=by
 unfold nR at r
 cases r with
 | tup h1 h2=>rw[pV h2]at h1;exact⟨_,rfl,h1⟩
def DT(K:Fg)(F H:Hp)(a:Addr)(es:List (D×D)):Prop:=∃kvs,H a=some (.dT kvs)/\es.map (·.1)=kvs.map (λp=>nR p.1)/\RepL K F (kvs.map (·.2)) (es.map (·.2))
def DK(K:Fg)(F H:Hp)(a:Addr)(es:List (D×D)):Prop:=∃kvs,H a=some (.dK kvs)/\es.map (·.1)=kvs.map (λp=>keyD p.1)/\RepL K F (kvs.map (·.2)) (es.map (·.2))
theorem OR.dict{es:List (D×D)}(s:Same F H)(h:OR K F H v (.dict es))(hx:ja es=false):∃a,v=.ref a/\(DT K F H a es\/DK K F H a es):=by
 rcases h with h|⟨a,c,e,e2,h1,hI⟩
 ·cases h with
  | dct h1 h2 h3=>exact⟨_,rfl,.inl ⟨_,s _ _ h1,h2,h3⟩⟩
  | dck h1 h2 h3=>exact⟨_,rfl,.inr ⟨_,s _ _ h1,h2,h3⟩⟩
  | exc _ _ _ _ _=>cases hx
  | fn _=>cases hx
 ·cases c<;>cases e2
  ·exact⟨a,e,.inl h1⟩
  ·exact⟨a,e,.inr h1⟩
theorem j9{κ:Type}[DecidableEq κ]{kd:κ->D}(inj:∀a b,eY (kd a) (kd b)=decide (a=b))(k:κ):∀{kvs:List (κ×V)} {es:List (D×D)},es.map (·.1)=kvs.map (λp=>kd p.1)->RepL K F (kvs.map (·.2)) (es.map (·.2)) ->
  (∃d v,e6 es (kd k)=some d/\eX kvs k=some v/\Rep K F v d)\/(e6 es (kd k)=none/\eX kvs k=none)
 | [],[],_,_=>.inr ⟨rfl,rfl⟩
 | [],_::_,e,_=>by simp at e
 | _::_,[],e,_=>by simp at e
 | p::kvs,q::es,e,r=>by
  simp only[ax,List.cons.injEq]at e
  cases r with
  | cons r1 r2 =>
   unfold e6 eX
   rw[ue,ue,e.1,inj]
   by_cases h:p.1=k
   ·simp only[h,decide_true]
    exact .inl ⟨_,_,rfl,rfl,r1⟩
   ·simp only[h,K3]
    exact j9 inj k e.2 r2
theorem jL{κ:Type}[DecidableEq κ]{kd:κ->D}(inj:∀a b,eY (kd a) (kd b)=decide (a=b))(k:κ){d:D}(rv:Rep K F v d):∀{kvs:List (κ×V)} {es:List (D×D)},es.map (·.1)=kvs.map (λp=>kd p.1)->RepL K F (kvs.map (·.2)) (es.map (·.2)) ->
  (lQ es (kd k) d).map (·.1)=(putK kvs k v).map (λp=>kd p.1)/\RepL K F ((putK kvs k v).map (·.2)) ((lQ es (kd k) d).map (·.2)):=by
 intro kvs es e r
 have any:∀{kvs:List (κ×V)} {es:List (D×D)},es.map (·.1)=kvs.map (λp=>kd p.1)->(es.any λp=>eY p.1 (kd k))=kvs.any λp=>decide (p.1=k):=by
  intro kvs
  induction kvs with
  | nil=>intro es e;cases es with
   | nil=>rfl
   | cons _ _=>simp at e
  | cons p kvs ih=>intro es e;cases es with
   | nil=>simp at e
   | cons q es =>
    simp only[ax,List.cons.injEq]at e
    rw[LP,LP,ih e.2,e.1,inj]
 have mp:∀{kvs:List (κ×V)} {es:List (D×D)},es.map (·.1)=kvs.map (λp=>kd p.1)->RepL K F (kvs.map (·.2)) (es.map (·.2)) ->
   (es.map λp=>if eY p.1 (kd k)then(p.1,d)else p).map (·.1)=(kvs.map λp=>if p.1=k then(p.1,v)else p).map (λp=>kd p.1) /\
   RepL K F ((kvs.map λp=>if p.1=k then(p.1,v)else p).map (·.2)) ((es.map λp=>if eY p.1 (kd k)then(p.1,d)else p).map (·.2)):=by
  intro kvs
  induction kvs with
  | nil=>intro es e r;cases es with
   | nil=>exact⟨rfl,.nil⟩
   | cons _ _=>simp at e
  | cons p kvs ih=>intro es e r;cases es with
   | nil=>simp at e
   | cons q es =>
    simp only[ax,List.cons.injEq]at e
    cases r with
    | cons r1 r2 =>
     obtain⟨i1,i2⟩:=ih e.2 r2
     simp only[ax,e.1,inj]
     by_cases h:p.1=k
     ·simp only[h,decide_true,KF,List.cons.injEq]
      exact⟨⟨trivial,i1⟩,.cons rv i2⟩
     ·simp only[h,K3,Cn,List.cons.injEq]
      exact⟨⟨by simpa using e.1,i1⟩,.cons r1 i2⟩
 unfold lQ putK
 rw[any e]
 by_cases h:(kvs.any λp=>decide (p.1=k))=true
 ·rw[ar h,ar h];exact mp e r
 ·rw[au h,au h]
  refine⟨by simp[e],?_⟩
  rw[eg,eg]
  exact r.append (.cons rv .nil)
end
def sk(H:Hp)(a:Addr):Prop:=H a=some (.dT [])\/H a=some (.dK [])
theorem jD{s:Shared}(I:Inv X pins Z H s)(h:sk H a) :
  s.heap.DictOfH (tupleKind (aO X.prog X.w)) a []/\s.heap.DictOf (aO X.prog X.w) a []/\(a==sysModules)=false:=by
 rcases h with h|h
 ·obtain⟨z,y,xs,kt,o,es,ep,h1,h2,h3,h4,h5,h6⟩:=t9 I.hok h
  cases kt
  have e0:es = #[]:=by
   have:es.toList=[]:=h4
   exact Array.toList_inj.mp this
  subst e0
  exact⟨⟨o,_,ep,h1,h2,h3,rfl,(λx hx=>by simp at hx),Lw⟩,⟨o,_,ep,h1,h2,h3,λe he=>by simp at he,.nil,Lw⟩,y⟩
 ·obtain⟨z,y,vs,kv,o,es,ep,h1,h2,h3,h4,h5,h6⟩:=qq I.hok h
  cases kv
  have e0:es = #[]:=by
   have:es.toList=[]:=by
    generalize es.toList=l at h5
    cases h5
    rfl
   exact Array.toList_inj.mp this
  subst e0
  exact⟨⟨o,_,ep,h1,h2,h3,rfl,(λx hx=>by simp at hx),Lw⟩,⟨o,_,ep,h1,h2,h3,λe he=>by simp at he,.nil,Lw⟩,y⟩
theorem DT.empty(h:DT K F H a []):sk H a:=by
 obtain⟨kvs,h1,h2,_⟩:=h
 cases kvs with
 | nil=>exact .inl h1
 | cons _ _=>simp at h2
theorem DK.empty(h:DK K F H a []):sk H a:=by
 obtain⟨kvs,h1,h2,_⟩:=h
 cases kvs with
 | nil=>exact .inr h1
 | cons _ _=>simp at h2
def G0(H:Hp)(y:V):Prop:=(∃k,y=kV k)\/∃(b:Addr) (ks:List Key),y=.ref b/\H b=some (.tup (ks.map kV))
def uz(H:Hp)(a:Addr)(y:V)(o:Option V):Prop:=DGet H a y o\/(sk H a/\G0 H y/\o=none)
theorem rW{es:List (D×D)}{k:D}(s:Same F H)(h:DT K F H a es\/DK K F H a es)(r:Rep K F y k)(hk:keyOk es k=true) :
  (∃d v,e6 es k=some d/\uz H a y (some v)/\Rep K F v d)\/(e6 es k=none/\uz H a y none):=by
 unfold keyOk at hk
 rw[um,ac,ac]at hk
 have kT:fK k=true->G0 H y:=λh=>by
  obtain⟨ks,rfl⟩:=iT h
  obtain⟨b,rfl,hb⟩:=jJ r
  exact .inr ⟨b,ks,rfl,s _ _ hb⟩
 have kK:dg k=true->G0 H y:=λh=>by
  obtain⟨ks,rfl⟩:=d4 h
  exact .inl ⟨ks,fV r⟩
 cases es with
 | nil =>
  refine .inr ⟨rfl,.inr ⟨?_,?_,rfl⟩⟩
  ·rcases h with h|h
   ·exact h.empty
   ·exact h.empty
  ·rcases hk with hk|hk
   ·exact kT hk.1
   ·exact kK hk.1
 | cons p es =>
  rcases h with ⟨kvs,h1,h2,h3⟩|⟨kvs,h1,h2,h3⟩
  ·rcases hk with ⟨hk,_⟩|⟨_,hk⟩
   ·obtain⟨ks,rfl⟩:=iT hk
    obtain⟨b,rfl,hb⟩:=jJ r
    rcases j9 vh ks h2 h3 with ⟨d,v,e1,e2,e3⟩|⟨e1,e2⟩
    ·exact .inl ⟨d,v,e1,.inl (e2▸DGet.t h1 (s _ _ hb)),e3⟩
    ·exact .inr ⟨e1,.inl (e2▸DGet.t h1 (s _ _ hb))⟩
   ·exfalso
    cases kvs with
    | nil=>simp at h2
    | cons q kvs =>
     simp only[ax,List.cons.injEq]at h2
     rw[KR,h2.1,Bc,Kv]at hk
     cases hk
  ·rcases hk with ⟨_,hk⟩|⟨hk,_⟩
   ·exfalso
    cases kvs with
    | nil=>simp at h2
    | cons q kvs =>
     simp only[ax,List.cons.injEq]at h2
     rw[KR,h2.1,Bb,Kv]at hk
     cases hk
   ·obtain⟨ks,rfl⟩:=d4 hk
    obtain rfl:=fV r
    rcases j9 lc ks h2 h3 with ⟨d,v,e1,e2,e3⟩|⟨e1,e2⟩
    ·exact .inl ⟨d,v,e1,.inl (e2▸DGet.k h1),e3⟩
    ·exact .inr ⟨e1,.inl (e2▸DGet.k h1)⟩
section
variable {s:Shared} {d:V} {u r:Value} {o:Option V} {A:Around} {E:zzj}
theorem JZ(hu:A.units+1<cLine)(I:Inv X pins Z H s)(g:uz H a y o)(ry:RelV y u)(h:∀s',Inv X pins Z H s'->Q (.bool o.isSome) s') :
  wpAny (model X.prog X.w) A (compareOp .In u (.ref a)) Q E s:=by
 rcases g with g|⟨e,k,rfl⟩
 ·exact JT hu I g ry h
 ·obtain⟨h1,h2,hd⟩:=jD I e
  rcases k with ⟨k,rfl⟩|⟨b,ks,rfl,hb⟩
  ·exact wpAny_in_of (fg ry) hd h2.mapOf (h _ (I.tok _))
  ·cases (show u=Value.ref b from ry)
   exact wpAny_in_heap (ze hu) (fJ I.hok hb) hd h1 (h _ (I.tok _))
theorem GU(hu:A.units+1<cLine)(I:Inv X pins Z H s)(g:uz H a y o)(ry:RelV y u)(rd:RelV d r)(h:∀w' s',Inv X pins Z H s'->RelV (o.getD d) w'->Q w' s') :
  wpAny (model X.prog X.w) A (call (.builtin "dict.get") [.ref a,u,r]) Q E s:=by
 rcases g with g|⟨e,k,rfl⟩
 ·exact GE hu I g ry rd h
 ·obtain⟨h1,h2,hd⟩:=jD I e
  rcases k with ⟨k,rfl⟩|⟨b,ks,rfl,hb⟩
  ·exact Kf qu h2.typeIs ur (KY _ _ _) (meets_dict_get_default (aO X.prog X.w) a (fg ry) hd r) ⟨_,h2.mapOf,h _ _ (I.tok _) rd⟩
  ·cases (show u=Value.ref b from ry)
   exact Kf qu h1.typeIs ur (KY _ _ _) (meetsH_dict_get_default (tupleKind (aO X.prog X.w)) a b hd r) ⟨ze hu,ks,[],fJ I.hok hb,h1,h _ _ (I.tok _) rd⟩
theorem GV(hu:A.units+1<cLine)(I:Inv X pins Z H s)(g:uz H a y o)(ry:RelV y u)(h:∀w' s',Inv X pins Z H s'->RelV (o.getD .non) w'->Q w' s') :
  wpAny (model X.prog X.w) A (call (.builtin "dict.get") [.ref a,u]) Q E s:=by
 rcases g with g|⟨e,k,rfl⟩
 ·exact GF hu I g ry h
 ·obtain⟨h1,h2,hd⟩:=jD I e
  rcases k with ⟨k,rfl⟩|⟨b,ks,rfl,hb⟩
  ·exact Kf qu h2.typeIs ur (KZ _ _) (meets_dict_get (aO X.prog X.w) a (fg ry) hd) ⟨_,h2.mapOf,h _ _ (I.tok _) rfl⟩
  ·cases (show u=Value.ref b from ry)
   exact Kf qu h1.typeIs ur (KZ _ _) (meetsH_dict_get (tupleKind (aO X.prog X.w)) a b hd) ⟨ze hu,ks,[],fJ I.hok hb,h1,h _ _ (I.tok _) rfl⟩
theorem DT.isD{es:List (D×D)}(h:DT K F H a es\/DK K F H a es):IsD H a:=by
 rcases h with ⟨kvs,h1,_⟩|⟨kvs,h1,_⟩
 ·exact .inr ⟨_,.inl h1⟩
 ·exact .inl ⟨_,.inl h1⟩
end
def jl:D->D->D->Option D
 | .dict es,k,z=>if keyOk es k then some ((e6 es k).getD z)else none
 | _,_,_=>none
def qv:D->D->Option D
 | .dict es,k=>if keyOk es k then some ((e6 es k).getD .none)else none
 | _,_=>none
def iw(d c:D):Option Bool:=match c with
 | .dict es=>if keyOk es d then some (e6 es d).isSome else none
 | _=>yh d c
def aE(x y:D):Option D:=match x with
 | .dict es=>if keyOk es y then e6 es y else none
 | _=>gY x y
def t6:List D->Option D
 | [.dict es]=>if ja es then none else some (.int es.length)
 | l=>dh l
def Fz(po pe pf:Pu D):Pu D:=λρ=>bd (po ρ) λd=>bd (noX (pe ρ)) λk=>bd (noX (pf ρ)) λz=>oM (jl d k z)
def FA(po pe:Pu D):Pu D:=λρ=>bd (po ρ) λd=>bd (noX (pe ρ)) λk=>oM (qv d k)
theorem W.nx{G:Gh}{ρ:En}{α:Type}{m:M α}{C:α->Hp->Hp->Prop}(h:W X G F Z ρ (noX m) C):W X G F Z ρ m C:=by
 cases m with
 | ret a=>exact h
 | exc x=>exact h.elim
 | bad=>exact h.elim
def E5(td ty tx:TE):TE:=λZ H Q=>td Z H λx H1=>∃a,x=.ref a/\IsD H1 a/\ty Z H1 λy H2=>tx Z H2 λz H3=>∃o,uz H3 a y o/\Q (o.getD z) H3
def E6(td ty:TE):TE:=λZ H Q=>td Z H λx H1=>∃a,x=.ref a/\IsD H1 a/\ty Z H1 λy H2=>∃o,uz H2 a y o/\Q (o.getD .non) H2
section
variable {o f:Expr} {td ty tx:TE}
theorem Al(hu:X.A.units+1<cLine)(ho:PE X o td)(he:PE X e ty)(hf:PE X f tx)(m:M2 X o "get" apos e f cpos):PE X (.Call (.Attribute o "get" apos) [e,f] [] cpos) (E5 td ty tx):=by
 intro pins s Z H Q I h
 refine wpAny_Call_method m.base m.few m.line KW qu PySem.F.type_dict_get (thn (ho pins s Z H _ I h) λu s1 ⟨x,H1,I1,rx,a,ex,d,q1⟩=>?_)
 subst ex
 obtain rfl:u=Value.ref a:=rx
 obtain⟨t1,t2,_⟩:=vv I1 d
 refine⟨t1,t2,?_⟩
 rw[m.trees]
 refine Kg rfl (KM (ve (thn (he pins s1 Z H1 _ I1 q1) λiv s2 ⟨y,H2,I2,ry,q2⟩ =>
  ve (thn (hf pins s2 Z H2 _ I2 q2) λfv s3 ⟨z,H3,I3,rz,ov,g,q3⟩=>Kp ?_))))
 exact GU hu I3 g ry rz λw' s4 I4 rw'=>⟨_,H3,I4,rw',q3⟩
theorem Am(hu:X.A.units+1<cLine)(ho:PE X o td)(he:PE X e ty)(m:M1 X o "get" apos e cpos):PE X (.Call (.Attribute o "get" apos) [e] [] cpos) (E6 td ty):=by
 intro pins s Z H Q I h
 refine wpAny_Call_method m.base m.few m.line KW qu PySem.F.type_dict_get (thn (ho pins s Z H _ I h) λu s1 ⟨x,H1,I1,rx,a,ex,d,q1⟩=>?_)
 subst ex
 obtain rfl:u=Value.ref a:=rx
 obtain⟨t1,t2,_⟩:=vv I1 d
 refine⟨t1,t2,?_⟩
 rw[m.trees]
 refine Kg rfl (KM (ve (thn (he pins s1 Z H1 _ I1 q1) λiv s2 ⟨y,H2,I2,ry,ov,g,q2⟩=>Kp ?_)))
 exact GV hu I2 g ry λw' s3 I3 rw'=>⟨_,H2,I3,rw',q2⟩
end
section
variable {o f:Expr} {po pe pf:Pu D}
theorem kA(hu:X.A.units+1100<cLine)(ho:AO X o po)(he:AP X e pe)(hf:AP X f pf)(m:M2 X o "get" apos e f cpos):AP X (.Call (.Attribute o "get" apos) [e,f] [] cpos) (Fz po pe pf) :=
 λG F Z H ρ Q S w=>sem (Al (by lia) aN aN aN m) (ho G F Z H ρ _ S (w.bind.imp λd F1 H1 s1 S1 w1 v hv=>by
  have hd:∃es,d=.dict es/\ja es=false:=by
   cases hk:pe ρ with
   | ret k=>cases hz:pf ρ with
    | ret z =>
     rw[hk]at w1;simp only[cQ,dO]at w1;rw[hz]at w1;simp only[cQ,dO]at w1
     obtain⟨res,e,_⟩:=w1.opt
     cases d with
     | dict es =>
      dsimp only[jl]at e
      split at e
      ·rename_i hk;exact⟨es,rfl,mE hk⟩
      ·cases e
     | _=>cases e
    | exc x=>rw[hk]at w1;simp only[cQ,dO]at w1;rw[hz]at w1;exact w1.elim
    | bad=>rw[hk]at w1;simp only[cQ,dO]at w1;rw[hz]at w1;exact w1.elim
   | exc x=>rw[hk]at w1;exact w1.elim
   | bad=>rw[hk]at w1;exact w1.elim
  obtain⟨es,rfl,hnx⟩:=hd
  obtain⟨a,rfl,hh⟩:=(hv.or S1).dict S1.fh hnx
  refine⟨a,rfl,DT.isD hh,he G F1 Z H1 ρ _ S1 (w1.bind.nx.imp λk F2 H2 s2 S2 w2 y hy=>hf G F2 Z H2 ρ _ S2 (w2.bind.nx.imp λz F3 H3 s3 S3 w3 zv hz=>?_))⟩
  obtain⟨res,e,kk⟩:=w3.opt
  dsimp only[jl]at e
  split at e
  case isFalse=>cases e
  rename_i hk
  cases e
  obtain⟨a',ea,hh3⟩:=(((hv.mono s2).mono s3).or S3).dict S3.fh hnx
  cases ea
  rcases rW S3.fh hh3 (hy.mono s3) hk with ⟨d,v,e1,g,r⟩|⟨e1,g⟩
  ·refine⟨some v,g,?_⟩
   rw[e1]at kk
   exact kk F3 H3 (Same.refl _) S3 v r
  ·refine⟨none,g,?_⟩
   rw[e1]at kk
   exact kk F3 H3 (Same.refl _) S3 zv hz))
theorem BM(hu:X.A.units+1100<cLine)(ho:AO X o po)(he:AP X e pe)(m:M1 X o "get" apos e cpos):AP X (.Call (.Attribute o "get" apos) [e] [] cpos) (FA po pe) :=
 λG F Z H ρ Q S w=>sem (Am (by lia) aN aN m) (ho G F Z H ρ _ S (w.bind.imp λd F1 H1 s1 S1 w1 v hv=>by
  have hd:∃es,d=.dict es/\ja es=false:=by
   cases hk:pe ρ with
   | ret k =>
    rw[hk]at w1;simp only[cQ,dO]at w1
    obtain⟨res,e,_⟩:=w1.opt
    cases d with
    | dict es =>
     dsimp only[qv]at e
     split at e
     ·rename_i hk;exact⟨es,rfl,mE hk⟩
     ·cases e
    | _=>cases e
   | exc x=>rw[hk]at w1;exact w1.elim
   | bad=>rw[hk]at w1;exact w1.elim
  obtain⟨es,rfl,hnx⟩:=hd
  obtain⟨a,rfl,hh⟩:=(hv.or S1).dict S1.fh hnx
  refine⟨a,rfl,DT.isD hh,he G F1 Z H1 ρ _ S1 (w1.bind.nx.imp λk F2 H2 s2 S2 w2 y hy=>?_)⟩
  obtain⟨res,e,kk⟩:=w2.opt
  dsimp only[qv]at e
  split at e
  case isFalse=>cases e
  rename_i hk
  cases e
  obtain⟨a',ea,hh3⟩:=((hv.mono s2).or S2).dict S2.fh hnx
  cases ea
  rcases rW S2.fh hh3 hy hk with ⟨d,v,e1,g,r⟩|⟨e1,g⟩
  ·refine⟨some v,g,?_⟩
   rw[e1]at kk
   exact kk F2 H2 (Same.refl _) S2 v r
  ·refine⟨none,g,?_⟩
   rw[e1]at kk
   exact kk F2 H2 (Same.refl _) S2 .non .non))
end
def Jw(neg:Bool):R2:=λx y H Q=>∃a o,y=.ref a/\uz H a x o/\Q (.bl (if neg then !o.isSome else o.isSome)) H
def HG(K:Fg):R2:=λx y H Q=>rD2 K yh x y H Q\/Jw false x y H Q
def HH:R2:=λx y H Q=>∃a v,x=.ref a/\DGet H a y (some v)/\Q v H
def HF(K:Fg):R2:=λx y H Q=>rIx K x y H Q\/HH x y H Q
section
theorem jO(hu:X.A.units+1100<cLine):OpR X (compareOp .In) (HG X.K):=OpR.or (FB hu) (by
 intro pins s Z H x y v u Q I rx ry ⟨a,o,e,g,q⟩
 subst e
 obtain rfl:u=Value.ref a:=ry
 exact JZ (by lia) I g rx λs' I'=>⟨.bl _,H,I',rfl,q⟩)
theorem Dd(hu:X.A.units+1100<cLine):IxR X HH:=by
 intro value slice pins s Z H x y v u Q I rx ry ⟨a,w,e,g,q⟩ hs
 subst e
 obtain rfl:v=Value.ref a:=rx
 have hT:s.TypeIs (.ref a) "dict":=ub I g
 unfold subscriptTail
 refine zza ?_
 rw[getitemInPython_of_ne hT.not_modules]
 refine zza (Ky hT PySem.F.slot_dict_getitem.lookup ?_)
 have h₂:wpAny (model X.prog X.w) X.A (getItem (.ref a) u) (EP X pins Z Q) X.xe s:=yI (by lia) I g ry λw' s3 I3 rw'=>⟨w,H,I3,rw',q⟩
 have fin:wpAny (model X.prog X.w) X.A (subscripted slice false (.ref a) u) (λr s₃=>wpAny (model X.prog X.w) X.A (letTemporaryGo value (.ref a) r >>= λ_=>pure r) (EP X pins Z Q) X.xe s₃) X.xe s:=by
  rw[hs]
  exact wpAny_operating (Kr h₂ (λr s₃ h₃=>zza (wpAny_letTemporaryGo (zzb h₃))) λ_ _ x=>x)
 first
  | exact zzb (zza fin)
  | exact zza (zzb (zza fin))
  | exact zza fin
theorem aH(hu:X.A.units+1100<cLine):IxR X (HF X.K):=IxR.or Gc (Dd hu)
theorem qe{es:List (D×D)}{k:D}(h:OR K F H y k)(hk:keyOk es k=true):Rep K F y k:=by
 rcases h with h|⟨a,c,e,e2,h1,hI⟩
 ·exact h
 ·exfalso
  subst e2
  unfold keyOk at hk
  cases c<;>simp[OC.d,fK,dg]at hk
theorem nF:OpB K (HG K) iw:=by
 intro G F Z H ρ x y dx dy res Q S ox oy e k
 unfold iw at e
 split at e
 ·rename_i es
  split at e
  case isFalse=>cases e
  rename_i hk
  cases e
  obtain⟨a,rfl,hh⟩:=oy.dict S.fh (mE hk)
  rcases rW S.fh hh (qe ox hk) hk with ⟨d,v,e1,g,r⟩|⟨e1,g⟩
  ·exact .inr ⟨a,_,rfl,g,by rw[e1]at k;exact k⟩
  ·exact .inr ⟨a,_,rfl,g,by rw[e1]at k;exact k⟩
 ·exact .inl (eG G F Z H ρ x y dx dy res Q S ox oy e k)
theorem aG:OpD K (HF K) aE:=by
 intro G F Z H ρ x y dx dy res Q S ox oy e k
 unfold aE at e
 split at e
 ·rename_i es
  split at e
  case isFalse=>cases e
  rename_i hk
  obtain⟨a,rfl,hh⟩:=ox.dict S.fh (mE hk)
  rcases rW S.fh hh (qe oy hk) hk with ⟨d,v,e1,g,r⟩|⟨e1,g⟩
  ·rw[e1]at e
   cases e
   rcases g with g|⟨_,_,z⟩
   ·exact .inr ⟨a,v,rfl,g,k v F H (Same.refl _) S r⟩
   ·cases z
  ·rw[e1]at e;cases e
 ·exact .inl (H9 G F Z H ρ x y dx dy res Q S ox oy e k)
end
def uW(ρ:En)(i:Nat):Option (Bool×List (D×D)):=match ρ[i]? with
 | some (some (.ol (.t es)))=>some (true,es)
 | some (some (.ol (.k es)))=>some (false,es)
 | _=>none
def ocD(t:Bool)(es:List (D×D)):OC:=if t then .t es else .k es
theorem iq{ρ:En}{t:Bool}{es:List (D×D)}(h:uW ρ i=some (t,es)):ρ[i]? = some (some (.ol (ocD t es))):=by
 unfold uW at h
 split at h
 ·rename_i q;cases h;exact q
 ·rename_i q;cases h;exact q
 ·cases h
def keyOf(t:Bool)(k:D):Bool:=if t then fK k else dg k
def cW(t:Bool)(es:List (D×D))(k d:D):Option (List (D×D)):=if keyOf t k&&decide (es.length<sizeLine)then some (lQ es k d)else none
section
variable {S:Type}
def D4(t:Bool)(i:Nat):SM S:=λK ρ=>match jf ρ i with
 | true=>K.nx (ρ.set i (some (.ol (ocD t []))))
 | false=>.bad
def Fh(i:Nat)(mi me:Ev S D):SM S:=λK ρ=>me K.x (λd ρ1=>match uW ρ1 i with
 | some _=>mi K.x (λj ρ2=>match uW ρ2 i with
  | some (t,es)=>(oM (cW t es j d)).on (λe=>K.x e ρ2) (λes'=>K.nx (ρ2.set i (some (.ol (ocD t es')))))
  | none=>.bad) ρ1
 | none=>.bad) ρ
variable {b:Expr} {mi me:Ev S D} {pos' tpos:Pos}
theorem i6(t:Bool)(hN:X.N.Nodup)(hi:X.N[i]? = some x)(hx:Loc X.env.scope x)(hs:swapsWith (.Dict [] [] tpos) (some (.Name x pos')) pos.line X.env=pure false)(hf:X.fn x=true\/X.env.scope.names.lookup x=some .local) :
  AS (S:=S) X (.Assign [.Name x pos'] (.Dict [] [] tpos) pos) (D4 t i):=λOK K G F Z H ρ E hO hX St ok eo=>by
 unfold D4 at ok
 split at ok
 case h_2=>exact(hO ok).elim
 rename_i ho
 obtain⟨hl,hop⟩:=dq ho
 cases t with
 | true=>exact gv (jw hN hi hx Ah hs hf) λp hp=>eo.nx F _ _ _ (Same.refl _) ((St.lay (o:=.dT []) hp).store hop hl (.inr ⟨.t [],rfl,p,rfl,⟨St.fh.free hp,St.oh.free hp,[],aS,rfl,.nil⟩,St.fresh_ne hp⟩)) ok
 | false=>exact gv (jw hN hi hx Aj hs hf) λp hp=>eo.nx F _ _ _ (Same.refl _) ((St.lay (o:=.dK []) hp).store hop hl (.inr ⟨.k [],rfl,p,rfl,⟨St.fh.free hp,St.oh.free hp,[],aS,rfl,.nil⟩,St.fresh_ne hp⟩)) ok
theorem fD(hu:X.A.units+1100<cLine)(hN:X.N[i]? = some x)(hv:Vis X.env.scope x)(hi:AE X b mi)(he:AE X e me)
  (hs:swapsWith e (some (.Subscript (.Name x pos') b tpos)) pos.line X.env=pure false)
  (hd:(x==("__debug__" : Str))=false:=by decide) (hcd:(x==("__classdict__" : Str))=false:=by decide):AS X (.Assign [.Subscript (.Name x pos') b tpos] e pos) (Fh i mi me):=λOK K G F Z H ρ E hO hX St ok eo =>
 gv (Cq (by lia) (dH hN hv hd hcd) aN aN hs) (he OK K.x _ G F Z H ρ _ hO hX St ok λd v F1 H1 ρ1 s1 S1 r1 o1=>by
  split at o1
  case h_2=>exact(hO o1).elim
  rename_i te0 hd0
  obtain⟨t0,es0⟩:=te0
  obtain⟨a,ea,_⟩:=S1.ow i _ (.inl (iq hd0))
  refine⟨_,ea,hi OK K.x _ G F1 Z H1 ρ1 _ hO hX S1 o1 λj u F2 H2 ρ2 s2 S2 r2 o2=>?_⟩
  split at o2
  case h_2=>exact(hO o2).elim
  rename_i t es hds
  obtain⟨es',hp,o3⟩:=cy hO o2
  have hown:=iq hds
  obtain⟨a',ea',oa⟩:=S2.ow i _ (.inl hown)
  rw[ea]at ea'
  injection ea' with ea';injection ea' with ea';injection ea' with ea'
  subst ea'
  unfold cW at hp
  split at hp
  case isFalse=>cases hp
  rename_i hc
  cases hp
  rw[ac,zzi]at hc
  cases t with
  | true =>
   obtain⟨ks,rfl⟩:=iT hc.1
   obtain⟨b,rfl,hb⟩:=jJ r2
   obtain⟨kvs,h1,h2,h3⟩:=(show Held X.K F2 H2 a (.t es)from oa.he)
   obtain⟨p1,p2⟩:=jL vh ks (r1.mono s2) h2 h3
   have hlen:kvs.length=es.length:=by have:=congrArg List.length h2;simpa using this.symm
   refine⟨a,_,rfl,DPut.t h1 (S2.fh _ _ hb) (by lia),eo.nx F2 Z _ _ (s1.trans s2) ?_ o3⟩
   have:=S2.change (.inl hown) ea (c':=.t (lQ es (nR ks) d)) (o:=.dT (putK kvs ks v)) ⟨_,aS,p1,p2⟩
   rw[hown]at this
   exact this
  | false =>
   obtain⟨ks,rfl⟩:=d4 hc.1
   obtain rfl:=fV r2
   obtain⟨kvs,h1,h2,h3⟩:=(show Held X.K F2 H2 a (.k es)from oa.he)
   obtain⟨p1,p2⟩:=jL lc ks (r1.mono s2) h2 h3
   have hlen:kvs.length=es.length:=by have:=congrArg List.length h2;simpa using this.symm
   refine⟨a,_,rfl,DPut.k h1 (by lia),eo.nx F2 Z _ _ (s1.trans s2) ?_ o3⟩
   have:=S2.change (.inl hown) ea (c':=.k (lQ es (keyD ks) d)) (o:=.dK (putK kvs ks v)) ⟨_,aS,p1,p2⟩
   rw[hown]at this
   exact this)
end
end L4
namespace HT
open PySem PyProof.Rows
def lexLe:List Int->List Int->Bool
 | [],[]=>true
 | [],_::_=>true
 | _::_,[]=>false
 | x::xs,y::ys=>if x=y then lexLe xs ys else decide (x<=y)
theorem vd(x y:Int)(xs ys:List Int):lexLe (x::xs) (y::ys)=if x=y then lexLe xs ys else decide (x<=y):=rfl
theorem pA:lexLe [] []=true:=rfl
theorem nP(y:Int)(ys:List Int):lexLe [] (y::ys)=true:=rfl
theorem nQ(x:Int)(xs:List Int):lexLe (x::xs) []=false:=rfl
theorem zO(A:Around)(s:Shared)(a:Int)(t:Tok)(c:Int)(u:Tok)(prog:Program)(w:World)(E:zzj)(Q:zzj)(h:Q (.bool (decide (a<=c))) s) :
  wpAny (model prog w) A (richCompare .LtE (.int a t) (.int c u)) Q E s :=
 (PyProof.Rows.le_int h:wpAny (model prog w) A (compareOp .LtE (.int a t) (.int c u)) Q E s)
section
open PySem.SeqAt
open PySem.AutoSeq1 (wpAny_loadPart')
open PySem.MeetsSeq PySem.MeetsSeq2 PySem.MeetsSeq3
theorem o8(l b:Addr)(items items2:Array Value)(n n2:Nat)(dd dd2:Option Addr)(sl sl2:Array (Option Value))(ns ms:List Int)(hi:IntsAre items.toList ns)(hj:IntsAre items2.toList ms) :
  Meets (Builtin.«tuple.__le__» ⟨[.ref l,.ref b],[]⟩)
   (λ_ R s=>s.heap.get? l=some { cls:=.type "tuple",dict:=dd,data:=.seq items n,slots:=sl }/\s.heap.get? b=some { cls:=.type "tuple",dict:=dd2,data:=.seq items2 n2,slots:=sl2 } /\
    R (.ok (.ret (.bool (lexLe ns ms)))) s) :=
 .of_wp λprog w A R s h=>by
  obtain⟨hp,g,d,tk,os⟩:=s;obtain⟨hl,hb,h⟩:=h
  have f2:=AutoSeq1.sub_tuple_tuple
  have z1:items.size=ns.length:=by rw[<-hi.length];simp
  have z2:items2.size=ms.length:=by rw[<-hj.length];simp
  wp_walk using wpAny_loadPart' hl,wpAny_loadPart' hb,KN _ (λrest b s'=>b.1=none/\s'=⟨hp,g,d,tk,os⟩/\∃(vs ws:List Value) (ns' ms':List Int),rest=vs.zip ws /\
   IntsAre vs ns'/\IntsAre ws ms'/\ns'.length+items2.size=ms'.length+items.size/\R (.ok (.ret (.bool (lexLe ns' ms')))) ⟨hp,g,d,tk,os⟩) _
  case turn =>
   rintro⟨y,x⟩ rest b s' ⟨hb',rfl,vs,ws,ns',ms',hz,hvi,hwi,hlen,hR⟩
   cases hvi with
   | nil=>rw[List.zip_nil_left]at hz;cases hz
   | cons a t hvi' =>
    cases hwi with
    | nil=>rw[List.zip_nil_right]at hz;cases hz
    | cons c u hwi' =>
     rw[va]at hz
     injection hz with hyx hrest
     injection hyx with hy hx
     subst hy hx
     rw[vd]at hR
     simp only[eh]at hlen
     obtain⟨e,he,hiff⟩:=t7 A.in1 ⟨hp,g,d,tk,os⟩ a t c u
     refine zza (he prog w _ _ ?_)
     cases e with
     | true =>
      rw[ar (hiff.mp rfl)]at hR
      wp_walk
      exact⟨rfl,rfl,_,_,_,_,hrest,hvi',hwi',by lia,hR⟩
     | false =>
      rw[au (λq=>absurd (hiff.mpr q) pi)]at hR
      have hri:=zO A.in1 ⟨hp,g,d,tk,os⟩ a t c u prog w
      wp_walk using hri
      exact⟨_,rfl,by simpa using hR⟩
  case fin =>
   rintro⟨b1,b2⟩ s' ⟨hb',rfl,vs,ws,ns',ms',hz,hvi,hwi,hlen,hR⟩
   simp only at hb'
   subst hb'
   have hv:lexLe ns' ms'=decide (items.size<=items2.size):=by
    cases hvi with
    | nil =>
     cases hwi with
     | nil =>
      simp only[fi]at hlen
      rw[pA]
      exact(ef (by lia)).symm
     | cons c u hw =>
      simp only[fi,eh]at hlen
      rw[nP]
      exact(ef (by lia)).symm
    | cons a t hv =>
     cases hwi with
     | nil =>
      simp only[fi,eh]at hlen
      rw[nQ]
      exact(bu (by lia)).symm
     | cons c u hw =>
      rw[va]at hz
      cases hz
   rw[hv]at hR
   wp_walk
   exact⟨_,rfl,by simpa[Builtin.Tuple.tupleCompareSizes]using hR⟩
  case h =>
   exact⟨rfl,rfl,items.toList,items2.toList,ns,ms,rfl,hi,hj,by lia,h⟩
end
section
variable {prog:Program}{w:World}{A:Around}{E:zzj}{s:Shared}
theorem le_tupInts{l b:Addr}{items items2:Array Value}{ns ms:List Int}{Q:zzj}(hl:IsTup s.heap l items)(hb:IsTup s.heap b items2)(hi:IntsAre items.toList ns)(hj:IntsAre items2.toList ms)
  (hu:A.units<cLine) (h:Q (.bool (lexLe ns ms)) s):wpAny (model prog w) A (compareOp .LtE (.ref l) (.ref b)) Q E s:=by
 obtain⟨⟨cls,dd,data,sl⟩,ho,hc,n,hd⟩:=id hl
 obtain⟨⟨cls2,dd2,data2,sl2⟩,ho2,hc2,n2,hd2⟩:=id hb
 simp only at hc hd hc2 hd2
 subst hc hd hc2 hd2
 exact richCompare_meets_room (op:=.LtE) ⟨_,ho,rfl⟩ ⟨_,ho2,rfl⟩ PySem.F.slot_tuple_le PySem.F.entry_tuple_le (PySem.F.args_tuple_le_2 _ _) (o8 l b items items2 n n2 dd dd2 sl sl2 ns ms hi hj)
  ⟨ho,ho2,show Value.bool (lexLe ns ms)≠Value.notImplemented/\Q (.bool (lexLe ns ms)) s from⟨(λx=>nomatch x),h⟩⟩ hu
end
end HT
namespace L4
open PySem PySem.Spec PyProof.Rows L2 L3
variable {X:Cx}
def HA(K:PySem.W.Frag):R2:=λx y H Q=>∃a b ns ms,x=.ref a/\y=.ref b/\SqT K H a (ns.map V.int)/\SqT K H b (ms.map V.int)/\Q (.bl (HT.lexLe ns ms)) H
theorem FE(hu:X.A.units<cLine):OpR X (compareOp .LtE) (HA X.K):=by
 intro pins s Z H x y v u Q I rx ry h
 obtain⟨a,b,ns,ms,rfl,rfl,ha,hb,q⟩:=h
 cases rx
 cases ry
 obtain⟨its,r1,p1,_⟩:=I.tuple ha
 obtain⟨its2,r2,p2,_⟩:=I.tuple hb
 have i1:IntsAre its.toArray.toList ns:=intsAre_of r1
 have i2:IntsAre its2.toArray.toList ms:=intsAre_of r2
 exact HT.le_tupInts p1 p2 i1 i2 hu ⟨.bl (HT.lexLe ns ms),H,I,rfl,q⟩
def wx(x y:D):Option Bool:=match x,y with
 | .tuple a,.tuple b=>match intsOf a,intsOf b with
  | some m,some n=>some (HT.lexLe m n)
  | _,_=>none
 | x,y=>HX x y
def qa(x y:D):Option Bool:=match x,y with
 | .tuple a,.tuple b=>match intsOf a,intsOf b with
  | some m,some n=>some (HT.lexLt m n)
  | _,_=>none
 | x,y=>HW x y
def HB(K:Fg):R2:=λx y H Q=>rI0 (λi j=>.bl (decide (i<=j))) x y H Q\/HA K x y H Q
def Hy(K:Fg):R2:=λx y H Q=>rI0 (λi j=>.bl (decide (i<j))) x y H Q\/Hx K x y H Q
theorem FF(hu:X.A.units+1100<cLine):OpR X (compareOp .LtE) (HB X.K):=OpR.or HU (FE (by lia))
theorem uX(hu:X.A.units+1100<cLine):OpR X (compareOp .Lt) (Hy X.K):=OpR.or HS (FD (by lia))
theorem FM{K:Fg}:OpB K (HB K) wx:=by
 intro G F Z H ρ x y dx dy res Q S ox oy e k
 unfold wx at e
 split at e
 ·rename_i a b
  split at e
  ·rename_i m n hm hn
   cases e
   obtain⟨p,vs,rfl,h1,h2⟩:=ox.tuple S.fh
   obtain⟨q,us,rfl,g1,g2⟩:=oy.tuple S.fh
   rw[bY hm]at h2
   rw[bY hn]at g2
   rw[dc h2]at h1
   rw[dc g2]at g1
   exact .inr ⟨p,q,m,n,rfl,rfl,h1,g1,k⟩
  ·cases e
 ·exact .inl (HZ G F Z H ρ x y dx dy res Q S ox oy e k)
theorem u4{K:Fg}:OpB K (Hy K) qa:=by
 intro G F Z H ρ x y dx dy res Q S ox oy e k
 unfold qa at e
 split at e
 ·rename_i a b
  split at e
  ·rename_i m n hm hn
   cases e
   obtain⟨p,vs,rfl,h1,h2⟩:=ox.tuple S.fh
   obtain⟨q,us,rfl,g1,g2⟩:=oy.tuple S.fh
   rw[bY hm]at h2
   rw[bY hn]at g2
   rw[dc h2]at h1
   rw[dc g2]at g1
   exact .inr ⟨p,q,m,n,rfl,rfl,h1,g1,k⟩
  ·cases e
 ·exact .inl (HY G F Z H ρ x y dx dy res Q S ox oy e k)
end L4
namespace PySem
open Sem (wp)
open AutoSeq1 (wpAny_loadPart')
end PySem
namespace L3
open PySem PySem.Spec PyProof.Rows L2 L4
theorem Bk{X:Cx}{pins:zzk}{Z:L2.St}{H:Hp}{s:Shared}{e it:Addr}{i:Nat}{x:V}{x':Value}{tk:Nat}{h2:Heap}(I:Inv X pins Z H s)(fe:g6 X pins H e)(ft:g6 X pins H it)(ru:RelV x x')
  (keep2:∀b o,b≠e->b≠it->s.heap.get? b=some o->h2.get? b=some o) (tup2:h2.get? s.heap.objs.size=some { cls:=.type "tuple",data:=.seq #[.int i tk,x'] }) :
  Inv X pins Z (upd H s.heap.objs.size (.tup [.int i,x])) { s with heap:=h2,toks:=tk+1 }:=by
 refine sO (ch:=[e,it]) I (λc hc=>?_) (⟨tk,rfl⟩:RelV (.int i) (.int i tk)) ru (λb o hch q=>keep2 b o (λz=>hch (by rw[z];exact ak)) (λz=>hch (by rw[z];exact zzg _ ak)) q) tup2
 rcases List.mem_cons.mp hc with rfl|hb
 ·exact fe
 ·rw[List.mem_singleton.mp hb];exact ft
def lJ(ds:List D):List D:=ds.zipIdx.map λp=>PyData.tuple [.int (p.2:Int),p.1]
theorem kj(ds:List D):(lJ ds).length=ds.length:=by simp[lJ]
end L3
namespace L4
open PySem PySem.Spec PyProof.Rows L2 L3
end L4
namespace HT
open PySem PySem.Spec PyProof.Rows
end HT
namespace L4
open PySem PySem.Spec PyProof.Rows L2 L3
def ki:List D->Option D
 | [.tuple ds]=>Bj [.tuple ds]
 | l=>Gs l
def Eb(K:Fg):List V->Hp->VK->Prop:=λxs H Q=>uT K yD xs H Q\/(zR K yD xs H Q\/∃i j,xs=[.int i,.int j]/\Q (.int (if j>i then j else i)) H)
theorem gc{X:Cx}(hc:X.calm=true):CallR X (.builtin "max") (Eb X.K):=CallR.or (yR hc) ((yS hc).or (yT hc))
theorem jS{K:Fg}:iM K (Eb K) ki:=by
 intro G F Z H ρ xs ds res Q S o e k
 unfold ki at e
 split at e
 ·exact .inl (CN G F Z H ρ xs _ res Q S o e k)
 ·exact .inr (FL G F Z H ρ xs ds res Q S o e k)
end L4
namespace L3
open PySem PySem.Spec PyProof.Rows L2 L4
variable {K:Fg}
theorem fS{F F':Hp}{a:Addr}{vs:List V}(s:Same F F')(h:SqL K F a vs):SqL K F' a vs:=s.seq h
def DW(K:Fg)(a:Addr):It :=
 ⟨λi H=>∃xs x,SqL K H a xs/\xs[i]? = some x,λi H y H'=>∃p x,(∀xs,SqL K H a xs->xs[i]? = some x)/\H p=none/\y=.ref p/\H'=upd H p (.tup [.int i,x]),λi H=>∃xs,SqL K H a xs/\xs.length<=i⟩
theorem uG{P:Program}{w:World}{elts:List Expr}{x1:Nat}{pos:Pos}(a it e:Addr)(hai:a≠it)(hei:e≠it)(hea:e≠a) :
  Turn P w K (.Tuple elts x1 pos) (DW K a) [e,it] e (λi h=>(∃old,IsEnum h e it i old)/\h.IsListIter it a i) where
 mem:=by simp
 obj:=λi h st b hb=>by
  obtain⟨⟨old,he⟩,o,e1,c,d⟩:=st
  rcases List.mem_cons.mp hb with rfl|hb
  ·exact⟨_,he,λv z=>nomatch z⟩
  ·rw[List.mem_singleton.mp hb]
   exact⟨o,e1,λv z=>by rw[d]at z;cases z⟩
 keep:=λi h h' st k=>by
  obtain⟨⟨old,he⟩,ht⟩:=st
  exact⟨⟨old,k e (by simp) _ he⟩,ht.at λo e=>k it (by simp) o e⟩
 item:=by
  intro X hP hw hK hc i pins s Z H E I hf st hg
  subst hP hw hK
  obtain⟨xs,x,hq,hx⟩:=hg
  obtain⟨its,rv,p,hz⟩:=I.list hq
  obtain⟨u,hu,ru⟩:=rv.get hx
  obtain⟨⟨old,he⟩,ht⟩:=st
  have D:=Draws.list (prog:=X.prog) (w:=X.w) (A:=X.A.in1) (I.ok.hd hc) it a hai its.toArray
  have hi:i<its.toArray.size:=by simpa using(List.getElem?_eq_some_iff.mp hu).1
  have fe:=hf e (by simp)
  have ft:=hf it (by simp)
  refine wpAny_pyNext_enum_itemD D he ⟨ht,p.isList⟩ hi hei (by simp[hei,hea]) λx' h' tk hP ho hs' hT hsz hk=>?_
  have ex:x'=u:=by
   have:its.toArray[i]? = some x':=hP
   rw[List.getElem?_toArray,hu]at this
   exact(Option.some.inj this).symm
  subst ex
  refine⟨_,rfl,wpAny_letOwnedTupleGo_enum ho λh2 he2 sb2=>?_⟩
  have hpe:s.heap.objs.size≠e:=li (am he)
  have hpi:s.heap.objs.size≠it:=by obtain⟨o,e1,_⟩:=ht;exact li (am e1)
  have keep2:∀b o,b≠e->b≠it->s.heap.get? b=some o->h2.get? b=some o:=λb o h1 h2' q=>(sb2.2 b h1).trans (hk b o h1 h2' q)
  have tup2:h2.get? s.heap.objs.size=some { cls:=.type "tuple",data:=.seq #[.int i tk,x'] }:=(sb2.2 _ hpe).trans hT
  have I1:Inv X pins Z (upd H s.heap.objs.size (.tup [.int i,x])) { s with heap:=h2,toks:=tk+1 }:=Bk I fe ft ru keep2 tup2
  refine⟨.ref s.heap.objs.size,_,I1,rfl,⟨_,x,λys hy=>by rw[I.list_inj hy hq];exact hx,I.fresh,rfl,rfl⟩,⟨⟨_,by simpa using he2⟩,?_⟩,λb hb=>?_⟩
  ·obtain⟨o,e1,r⟩:=hs'.1
   exact⟨o,(sb2.2 it (Ne.symm hei)).trans e1,r⟩
  ·rcases List.mem_cons.mp hb with rfl|hb
   ·rw[aK (Ne.symm hpe)];exact fe.1
   ·rw[List.mem_singleton.mp hb,aK (Ne.symm hpi)];exact ft.1
 done:=by
  intro X hP hw hK hc i pins s Z H E I hf st hg
  subst hP hw hK
  obtain⟨xs,hq,hx⟩:=hg
  obtain⟨its,rv,p,hz⟩:=I.list hq
  obtain⟨⟨old,he⟩,ht⟩:=st
  obtain⟨g0,g1,g2,g3,g4,g5⟩:=hf it (by simp)
  have hl:=rv.length
  have D:=Draws.list (prog:=X.prog) (w:=X.w) (A:=X.A.in1) (I.ok.hd hc) it a hai its.toArray
  have hT:s.TypeIs (.ref e) "enumerate":=⟨_,he,rfl⟩
  unfold pyNext
  refine zza (Ks (gt (name:=Str.ofString "__next__") hT F.slot_enumerate_next
   (gs F.slot_enumerate_next hT F.entry_enumerate_next ?_ (F.args_enumerate_next_1 _))))
  show wpAny _ _ (field (.ref e) 2 >>= _) _ _ _
  refine zza (pI he rfl (x:=.ref it) rfl ?_)
  refine zza (wpAny_nextOf_list_end (I.ok.hd hc) ht p.isList (by simp;lia) λh' x he' hx'=>?_)
  obtain⟨o,ho,hcl⟩:=hx'
  refine zza (Kh (T := "StopIteration") (b:=true) ⟨o,ho,hcl⟩ Ls ?_)
  exact zzb ⟨rfl,I.turned (t':=s.toks) (λb o hb e=>he' b o hb e) g0 g1 g3 g4 g5⟩
 self:=λ_ _ _ _ _ st h=>by
  obtain⟨⟨old,he⟩,ht⟩:=st
  exact wpAny_pyIter_enum he h
theorem uC{F:Hp}{a:Addr}{vs:List V}{ds:List D}(h:SqL K F a vs)(r:RepL K F vs ds):Walk K (DW K a) (lJ ds) F where
 go:=λi G F2 Z H2 ρ s S hi=>by
  have hi':i<vs.length:=by rw[r.length];rw[kj]at hi;exact hi
  exact⟨vs,vs[i],fS S.fh (fS s h),by simp[hi']⟩
 yld:=λi G F2 Z H2 ρ x H3 d s S hd ⟨p,y,hy,hp,hx,hH⟩=>by
  subst hx hH
  unfold lJ at hd
  rw[ik,List.getElem?_zipIdx]at hd
  cases q:ds[i]? with
  | none=>rw[q]at hd;cases hd
  | some d' =>
   rw[q]at hd
   simp at hd
   subst hd
   obtain⟨v,e1,e2⟩:=r.get q
   have:=hy vs (fS S.fh (fS s h))
   rw[e1]at this
   cases this
   obtain⟨s2,S2,r2⟩:=S.newTup hp (RepL.cons (Rep.int (i:Int)) (RepL.cons (e2.mono s) RepL.nil))
   exact⟨_,s2,S2,r2⟩
 stop:=λG F2 Z H2 ρ s S=>⟨vs,fS S.fh (fS s h),by rw[r.length,kj];exact ai _⟩
def Gi(K:Fg)(tl:TA):TI:=λZ H R=>tl Z H λxs H1=>∃a,xs=[.ref a]/\(∃ys,SqL K H1 a ys)/\R (DW K a) H1
theorem Ab{X:Cx}{e:Expr}{tl:TA}{elts:List Expr}{x1:Nat}{tp p pos:Pos}(hg:Gl X "enumerate")(hm:X.mg "enumerate" = none)(ha:PA X [e] tl)(hs:starEach [e] X.env=[(false,eval e X.env)]) :
  PI X (.Tuple elts x1 tp) (.Call (.Name "enumerate" p) [e] [] pos) (Gi X.K tl):=by
 intro pins s Z H R I h
 refine yi (fH I hg hm (show bootBuiltins "enumerate" = some (.type "enumerate") by decide +kernel) ?_ (by decide) (by decide))
 refine ni (thn (ha pos pins s Z H _ I h) λus s1 ⟨vs,H1,I1,r1,q1⟩=>?_) hs rfl
 obtain⟨a,rfl,⟨ys,hq⟩,q⟩:=q1
 obtain⟨u,rfl,ru⟩:=L2.Vals.one r1
 cases ru
 obtain⟨its,rv,pt,hz⟩:=I1.list hq
 have alt:a<s1.heap.objs.size:=by obtain⟨o,e1,_⟩:=pt.isList;exact am e1
 refine call_enumerate_list pt.isList λh' he ht hsz hk=>?_
 refine wpAny_pyIter_enum (s:={ s1 with heap:=h' }) he ?_
 refine⟨s1.heap.objs.size+1,[s1.heap.objs.size+1,s1.heap.objs.size],_,_,H1,rfl,I1.kept (t':=s1.toks) hk,uG a s1.heap.objs.size (s1.heap.objs.size+1) (bi alt) (Nat.succ_ne_self _) (li (se alt)),⟨⟨_,he⟩,ht⟩,λb hb=>?_,q⟩
 rcases List.mem_cons.mp hb with rfl|hb
 ·exact I1.fpOk (Nat.le_succ _) (I1.hok.fresh (Nat.le_succ _))
 ·rw[List.mem_singleton.mp hb]
  exact I1.fpOk (ai _) (I1.hok.fresh (ai _))
end L3
namespace L4
open PySem PySem.Spec PyProof.Rows L2 L3
variable {X:Cx}{e:Expr}{H:Hp}
def n4:List D->Option (List D)
 | [.list ds]=>some (lJ ds)
 | _=>none
section
variable {tg:Expr} {p pos tp:Pos} {elts:List Expr} {x1:Nat}
theorem Bl{F:Hp}{vs:List V}{ds out:List D}{R:It->Hp->Prop}(s:Same F H)(r:RepL X.K F vs ds)(h:n4 ds=some out)(k:∀J,Walk X.K J out F->R J H) :
  ∃a,vs=[.ref a]/\(∃ys,SqL X.K H a ys)/\R (DW X.K a) H:=by
 unfold n4 at h
 split at h
 ·cases h
  obtain⟨v,rfl,r1⟩:=r.one_inv
  obtain⟨a,vs,rfl,a1,a2⟩:=r1.lst_inv
  exact⟨_,rfl,⟨_,s.seq a1⟩,k _ (uC a1 a2)⟩
 ·cases h
theorem BP{ps:Pa (List D)}(hg:Gl X "enumerate")(hm:X.mg "enumerate" = none)(ha:AA X [e] ps)(hs:starEach [e] X.env=[(false,eval e X.env)]):AI X (.Tuple elts x1 tp) (.Call (.Name "enumerate" p) [e] [] pos) (ii n4 ps) :=
 λG F Z H ρ R S w=>uL (Ab hg hm bK hs) (ha G F Z H ρ _ _ _ S w λds vs F1 H1 s1 S1 _ r1 w1=>by
  obtain⟨out,hd,k⟩:=w1.opt
  exact Bl S1.fh r1 hd (k F1 H1 (Same.refl _) S1))
end
inductive Ty where
 | tup|lst|str
def Ty.s:Ty->String
 | .tup => "tuple"
 | .lst => "list"
 | .str => "str"
def onT{S:Type}(t:Ty)(d:D)(m:M S):M S:=match t,d with
 | .tup,.tuple _=>m
 | .lst,.list _=>m
 | .str,.str _=>m
 | _,_=>.bad
def tyW(K:Fg)(T:String)(x:V)(H:Hp):Prop:=tyV K T x H\/(T = "tuple" /\ ∃p xs,x=.ref p/\H p=some (.tup xs))
theorem ES{pins:zzk}{Z:L2.St}{s:Shared}{T:String}{x:V}{v:Value}(I:Inv X pins Z H s)(r:RelV x v)(ty:tyW X.K T x H) :
  s.TypeIs v T/\∀a,v=.ref a->∃ob,s.heap.get? a=some ob/\ob.dict=none:=by
 rcases ty with ty|⟨rfl,p,xs,rfl,h⟩
 ·exact zm I r ty
 ·cases r
  obtain⟨_,its,_,⟨o,e,c,_⟩,ob,e2,d⟩:=I.hok p _ h
  refine⟨⟨o,e,c⟩,λa q=>?_⟩
  cases q
  exact⟨ob,e2,d⟩
def Ea(K:Fg)(f:D->List D->Option D):V->List V->Hp->VK->Prop:=λx xs H Q=>∃G F Z ρ d ds res,StOk K G F Z H ρ/\OR K F H x d/\RepL K F xs ds/\f d ds=some res /\
 ∀y F' H',Same F F'->StOk K G F' Z H' ρ->Rep K F' y res->Q y H'
def tMt(K:Fg)(T:String)(r:V->List V->Hp->VK->Prop)(to:TE)(t:TA):TE:=λZ H Q=>to Z H λx H1=>tyW K T x H1/\t Z H1 λxs H2=>r x xs H2 Q
section
variable {o:Expr} {es:List Expr} {to:TE} {t:TA} {name:Str} {apos cpos:Pos} {T id:String} {r:V->List V->Hp->VK->Prop}
theorem Cz(pa:PlainAttrs T)(slot:Slot T name id)(hty:typeOf (.builtin id)=pure (.type "method_descriptor"))(hm:MtR X id r)(ho:PE X o to)(ha:PA X (e::es) t)
  (hbase:attributeBase o name X.env (eval o X.env)=eval o X.env)
  (hfew:((backTo cpos (starEach (e::es) X.env)).all (λx=>!x.1)&&(backToKw cpos (keywordEach [] X.env)).all (λx=>x.1.isSome)
   && decide ((e::es).length+([]:List Keyword).length+(if([]:List Keyword).isEmpty then 0 else 1)<30))=true)
  (hline:(apos.endLine==cpos.line)=true) (hs:starEach (e::es) X.env=(false,eval e X.env)::starEach es X.env) (hplain:(backTo cpos (starEach es X.env)).any (·.1)=false) :
  PE X (.Call (.Attribute o name apos) (e::es) [] cpos) (tMt X.K T r to t):=by
 intro pins s Z H Q I h
 refine wpAny_Call_method_late hbase hfew hline rfl (thn (ho pins s Z H _ I h) λv s1 ⟨x,H1,I1,r1,ty,q1⟩=>?_)
 obtain⟨h1,h2⟩:=ES I1 r1 ty
 refine⟨T,id,pa,slot,hty,h1,h2,?_⟩
 have hA:=ha cpos pins s1 Z H1 _ I1 q1
 rw[hs]at hA ⊢
 refine Kg (by show(false||(backTo cpos (starEach es X.env)).any (·.1))=false;rw[hplain]<;>rfl) (KM ?_)
 exact thn hA λus s2 ⟨vs,H2,I2,r2,q2⟩=>hm pins s2 Z H2 x vs v us Q I2 r1 r2 q2
end
def HQ(t:Ty)(f:D->List D->Option D)(po:Pu D)(ps:Pa D):Pu D:=λρ=>bd (po ρ) λd=>onT t d (ps (λds=>oM (f d ds)) ρ)
theorem FJ{α:Type}{G:Gh}{F:Hp}{Z:L2.St}{ρ:En}{t:Ty}{d:D}{m:M α}{C:α->Hp->Hp->Prop}{v:V}(S:StOk X.K G F Z H ρ)(hv:VO X.K F Z ρ v d)(w:W X G F Z ρ (onT t d m) C) :
  tyW X.K t.s v H/\W X G F Z ρ m C:=by
 have o:=hv.or S
 cases t with
 | tup =>
  cases d with
  | tuple ds =>
   have r:=o.tup'
   cases r with
   | tup h1 h2=>exact⟨.inr ⟨rfl,_,_,rfl,S.fh _ _ h1⟩,w⟩
  | _=>exact False.elim w
 | lst =>
  cases d with
  | list ds =>
   obtain⟨a,vs,rfl,h1,h2⟩:=o.list S.fh
   exact⟨.inl (.inl ⟨rfl,_,h1⟩),w⟩
  | _=>exact False.elim w
 | str =>
  cases d with
  | str ds =>
   rw[o.str]
   exact⟨.inl rfl,w⟩
  | _=>exact False.elim w
section
variable {o:Expr} {es:List Expr} {name:Str} {apos cpos:Pos} {id:String} {po:Pu D} {ps:Pa D} {pl:Pa (List D)} {ty:Ty}
theorem DG{f:D->List D->Option D}(pa:PlainAttrs ty.s)(slot:Slot ty.s name id)(hty:typeOf (.builtin id)=pure (.type "method_descriptor"))(hm:MtR X id (Ea X.K f))(ho:AO X o po)(ha:AA X (e::es) ps)
  (hbase:attributeBase o name X.env (eval o X.env)=eval o X.env)
  (hfew:((backTo cpos (starEach (e::es) X.env)).all (λx=>!x.1)&&(backToKw cpos (keywordEach [] X.env)).all (λx=>x.1.isSome)
   && decide ((e::es).length+([]:List Keyword).length+(if([]:List Keyword).isEmpty then 0 else 1)<30))=true)
  (hline:(apos.endLine==cpos.line)=true) (hs:starEach (e::es) X.env=(false,eval e X.env)::starEach es X.env) (hplain:(backTo cpos (starEach es X.env)).any (·.1)=false) :
  AP X (.Call (.Attribute o name apos) (e::es) [] cpos) (HQ ty f po ps) :=
 λG F Z H ρ Q S w=>sem (Cz pa slot hty hm aN bK hbase hfew hline hs hplain) (ho G F Z H ρ _ S (w.bind.imp λd F1 H1 s1 S1 w1 v hv=>by
  obtain⟨ht,w2⟩:=FJ S1 hv w1
  refine⟨ht,ha G F1 Z H1 ρ _ _ _ S1 w2 λds vs F2 H2 s2 S2 _ r2 w3=>?_⟩
  obtain⟨res,e,k⟩:=w3.opt
  exact⟨G,F2,Z,ρ,d,ds,res,S2,(hv.mono s2).or S2,r2,e,λy F3 H3 s3 S3 r3=>k F3 H3 s3 S3 y r3⟩))
end
end L4
set_option maxHeartbeats 3200000
namespace L4
open PySem PySem.Spec PyProof.Rows L2
structure VKd(prog:Program)(w:World)(K:Type)[DecidableEq K] where
 is:Heap->K->Value->Prop
 hash:K->Int
 draws:K->Nat
 lv:Nat
 cmp:K->K->Prop
 inj:∀{h:Heap} {v:Value} {x y:K},is h x v->is h y v->x=y
 keeps:∀{h h':Heap} {k:K} {v:Value},is h k v->(∀(b:Addr) (o:Obj) (xs:Array Value) (n:Nat),o.data=.seq xs n->h.get? b=some o->h'.get? b=some o)->is h' k v
 ha:∀{A:Around} {E:zzj} {s:Shared} {k:K} {v:Value} {Q:Int->Shared->Prop},A.units+lv<cLine->is s.heap k v->Q (hash k) { s with toks:=s.toks+draws k }->wpAny (model prog w) A (pyHash v) Q E s
 eq:∀{A:Around} {E:zzj} {s:Shared} {x y:K} {u v:Value} {Q:Bool->Shared->Prop},A.units+lv<cLine->is s.heap x u->is s.heap y v->cmp x y->Q (decide (x=y)) s->wpAny (model prog w) A (eqBool u v) Q E s
 qt:∀{A:Around} {E:zzj} {s:Shared} {k:K} {v:Value} {n:Nat} {Q:Bool->Shared->Prop},lv<=n->is s.heap k v->Q true s->wpAny (model prog w) A (eqIsQuiet n v) Q E s
section
variable {prog:Program}{w:World}{K:Type}[DecidableEq K]
def Ib(knd:KeyKind prog w K):VKd prog w K where
 is:=λ_ k v=>knd.is k v=true
 hash:=knd.hash
 draws:=λ_=>1
 lv:=0
 cmp:=λ_ _=>True
 inj:=λhx hy=>knd.inj _ _ _ hx hy
 keeps:=λh _=>h
 ha:=λ_ h q=>knd.pyHash h q
 eq:=λ_ hx hy _ q=>knd.eqBool hx hy q
 qt:=λ_ h q=>by rw[eqIsQuiet_byValue _ (knd.byValue _ _ h)];exact zzb q
variable (k:VKd prog w K)
abbrev Its(h:Heap):List K->List Value->Prop:=Paired (k.is h)
def TupAt(h:Heap)(ks:List K)(v:Value):Prop:=∃a o items n,v=.ref a/\h.get? a=some o/\o.cls=.type "tuple" /\ o.data=.seq items n/\Its k h ks items.toList
def yM:List K->List K->Prop
 | x::xs,y::ys=>k.cmp x y/\yM xs ys
 | _,_=>True
variable {k}
theorem Its.inj{h:Heap}:∀{x y:List K} {vs:List Value},Its k h x vs->Its k h y vs->x=y:=by
 intro x y vs hx
 induction hx generalizing y with
 | nil=>intro hy;cases hy;rfl
 | cons r _ ih=>intro hy;cases hy with
  | cons r' t'=>rw[k.inj r r',ih t']
theorem Its.keeps{h h':Heap}{ks:List K}{vs:List Value}(x:Its k h ks vs)(kp:∀(b:Addr) (o:Obj) (xs:Array Value) (n:Nat),o.data=.seq xs n->h.get? b=some o->h'.get? b=some o):Its k h' ks vs:=by
 induction x with
 | nil=>exact .nil
 | cons r _ ih=>exact .cons (k.keeps r kp) ih
variable {A:Around}{E:zzj}{s:Shared}{ks x y:List K}{u v:Value}
theorem TupAt.ty(t:TupAt k s.heap ks v):s.TypeIs v "tuple":=by obtain⟨a,o,_,_,rfl,ho,hc,_⟩:=t;exact⟨o,ho,hc⟩
def dr(k:VKd prog w K)(ks:List K):Nat:=(ks.map k.draws).sum
theorem EV{Q:Int->Shared->Prop}(hu:A.units+(k.lv+1)<cLine)(t:TupAt k s.heap ks v)(h:Q (reduceHash (Builtin.Tuple.tupleHashOf (ks.map k.hash))) { s with toks:=s.toks+(dr k ks+1) }):wpAny (model prog w) A (pyHash v) Q E s:=by
 have T:=t.ty
 obtain⟨a,o,items,n,rfl,ho,hc,hd,hi⟩:=t
 unfold pyHash pyHashByItsType
 refine zza (wpAny_cRoomFor_or (.inr (by lia)) ?_)
 refine zza (Ky T F.slot_tuple_hash.lookup ?_)
 show wpAny _ _ (if(some (Value.builtin "tuple.__hash__")==some Value.none)=true then _ else _) Q E s
 rw[au (by rw[beq_builtin_none];exact pi)]
 refine zza (Ky T F.slot_tuple_hash.lookup ?_)
 show wpAny _ _ (callSpecialIfBoundUnlessNone? (.ref a) "__hash__" _ >>= _) Q E s
 refine zza (Mc T F.slot_tuple_hash (gs F.slot_tuple_hash T F.entry_tuple_hash ?_ (F.args_tuple_hash_1 _)))
 show wpAny _ _ (Builtin.Tuple.tupleItemsOf (.ref a) >>= _) _ _ s
 refine zza (wpAny_tupleItemsOf ho hd (zza ?_))
 rw[<-LD]
 refine KN _ (λrest (b:Array Int) s'=>∃done left,ks=done++left/\Its k s.heap left rest/\b.toList=done.map k.hash/\s'={ s with toks:=s.toks+dr k done }) _ ?_ ?_ _ _ ⟨[],ks,rfl,hi,rfl,rfl⟩
 ·rintro c rest b s' ⟨done,left,rfl,hl,hb,rfl⟩
  cases hl with
  | @cons q _ ks' _ h1 hl' =>
   refine zza (k.ha ?_ h1 ?_)
   ·show A.units+1+k.lv<cLine;lia
   ·first
    | exact zzb ⟨done++[q],ks',by simp,hl',by simp[hb],by simp[dr,Nat.add_assoc]⟩
    | exact zza (zzb (zzb ⟨done++[q],ks',by simp,hl',by simp[hb],by simp[dr,Nat.add_assoc]⟩))
 ·rintro b s' ⟨done,left,rfl,hl,hb,rfl⟩
  cases hl
  rw[mo]at h
  show wpAny _ _ (retInt (Builtin.Tuple.tupleHashOf b.toList)) _ _ _
  rw[hb]
  refine wpAny_ret_mkInt ?_
  show wpAny _ _ (if(decide (-(2:Int)^63<=Builtin.Tuple.tupleHashOf (done.map k.hash))&&decide (Builtin.Tuple.tupleHashOf (done.map k.hash)<2^63))=true then _ else _) Q E _
  unfold reduceHash at h
  split
  ·rename_i c;rw[ar c]at h;exact zzb (by simpa[Nat.add_assoc]using h)
  ·rename_i c;rw[au c]at h;exact zza (Kq (zzb (by simpa[Nat.add_assoc]using h)))
theorem Bt{a b:K}{x y:List K}:decide (a::x=b::y)=(decide (a=b)&&decide (x=y)):=by simp
theorem B1{P:Fin->Shared->Prop}{a b:Addr}(hu:A.units+k.lv<cLine)(hx:TupAt k s.heap x (.ref a))(hy:TupAt k s.heap y (.ref b))(hc:yM k x y)(h:P (.done (.ret (.bool (decide (x=y))))) s) :
  wpAny (model prog w) A (Builtin.«tuple.__eq__» ⟨[.ref a,.ref b],[]⟩) P E s:=by
 have T:=hy.ty
 obtain⟨_,oa,xs,na,ea,hoa,_,hda,hia⟩:=hx
 obtain⟨_,ob,ys,nb,eb,hob,_,hdb,hib⟩:=hy
 cases ea
 cases eb
 show wpAny _ _ (isInstance (.ref b) (.type "tuple") >>= _) _ _ s
 refine zza (Kh T isSubtype_tuple_tuple ?_)
 simp only[Bool.not_true,tu,Cn]
 refine zza (wpAny_tupleItemsOf hoa hda (zza (wpAny_tupleItemsOf hob hdb (zza ?_))))
 refine KN _ (λrest r s'=>r.1=none/\s'=s/\∃x' y' xs' ys',rest=List.zip xs' ys'/\Its k s.heap x' xs'/\Its k s.heap y' ys'/\yM k x' y'/\decide (x'=y')=decide (x=y)/\(xs'.length==ys'.length)=(xs.size==ys.size))
  _ ?_ ?_ _ _ ⟨rfl,rfl,x,y,xs.toList,ys.toList,rfl,hia,hib,hc,rfl,by simp⟩
 ·rintro⟨u,v⟩ rest r s' ⟨hr,rfl,x',y',xs',ys',hz,hx',hy',cm,hdec,hlen⟩
  cases hx' with
  | nil=>simp at hz
  | cons h1 hx'' =>
   cases hy' with
   | nil=>simp at hz
   | cons h2 hy'' =>
    simp only[va,List.cons.injEq,Prod.mk.injEq]at hz
    obtain⟨⟨rfl,rfl⟩,rfl⟩:=hz
    refine zza (k.eq hu h1 h2 cm.1 ?_)
    rw[Bt]at hdec
    split
    ·rename_i hk
     simp only[wT,kw]at hk
     rw[<-hdec,bu hk,Kv]at h
     exact zza (zzb (zzb (zzb h)))
    ·rename_i hk
     simp only[wT,kw,Decidable.not_not]at hk
     rw[ef hk,Bool.true_and]at hdec
     exact zzb ⟨rfl,rfl,_,_,_,_,rfl,hx'',hy'',cm.2,hdec,by simpa using hlen⟩
 ·rintro⟨r1,r2⟩ s' ⟨hr,rfl,x',y',xs',ys',hz,hx',hy',_,hdec,hlen⟩
  simp only at hr
  subst hr
  refine zzb ?_
  show P (.done (.ret (.bool (xs.size==ys.size)))) s'
  have e:(xs.size==ys.size)=decide (x=y):=by
   rw[<-hdec,<-hlen]
   cases hx' with
   | nil=>cases hy' with
    | nil=>simp
    | cons _ _=>simp
   | cons _ _=>cases hy' with
    | nil=>simp
    | cons _ _=>simp at hz
  rw[e];exact h
theorem EW{Q:Bool->Shared->Prop}(hu:A.units+(k.lv+1)<cLine)(hx:TupAt k s.heap x u)(hy:TupAt k s.heap y v)(hc:yM k x y)(h:Q (decide (x=y)) s):wpAny (model prog w) A (eqBool u v) Q E s:=by
 have hx0:=hx
 have hy0:=hy
 obtain⟨a,_,_,_,rfl,_,_,_,_⟩:=hx0
 obtain⟨b,_,_,_,rfl,_,_,_,_⟩:=hy0
 unfold eqBool
 try with_reducible refine ev ?_
 show wpAny _ _ (if(Value.ref a==Value.ref b)=true then _ else _) Q E s
 split
 ·rename_i hab
  have e:a=b:=by have:=eq_of_beq hab;injection this
  subst e
  have e2:x=y:=by
   obtain⟨_,_,_,_,e1,ho,_,hd,hi⟩:=hx
   obtain⟨_,_,_,_,e2,ho',_,hd',hi'⟩:=hy
   cases e1;cases e2
   rw[ho]at ho';cases ho'
   rw[hd]at hd';cases hd'
   exact Its.inj hi hi'
  exact zza (Kq (zzb (by simpa[e2]using h)))
 ·exact zza (wpAny_richCompare_same_room (op:=.Eq) hx.ty hy.ty F.slot_tuple_eq
   (gs F.slot_tuple_eq hx.ty F.entry_tuple_eq (B1 (by show A.units+1+k.lv<cLine;lia) hx hy hc ⟨_,rfl,(λe=>nomatch e),wpAny_truthy_bool h⟩) (F.args_tuple_eq_2 _ _)) (by lia))
theorem EU{n:Nat}{Q:Bool->Shared->Prop}(hn:k.lv+1<=n)(t:TupAt k s.heap ks v)(h:Q true s):wpAny (model prog w) A (eqIsQuiet n v) Q E s:=by
 have T:=t.ty
 obtain⟨a,o,items,_,rfl,ho,_,hd,hi⟩:=t
 obtain⟨n,rfl⟩:∃m,n=m+1:=⟨n - 1,by lia⟩
 unfold eqIsQuiet
 refine zza (Ky T F.slot_tuple_eq.lookup ?_)
 show wpAny _ _ (isInstance (.ref a) (.type "tuple") >>= _) _ _ s
 refine zza (Kh T isSubtype_tuple_tuple ?_)
 simp only[Bool.not_true,tu,Cn]
 refine zza (wP ho hd (zza ?_))
 show wpAny _ _ (forIn items _ _) _ _ s
 rw[<-LD]
 refine KN _ (λrest r s'=>r.1=none/\s'=s/\∃ks,Its k s.heap ks rest) _ ?_ ?_ _ _ ⟨rfl,rfl,ks,hi⟩
 ·rintro c rest r s' ⟨hr,rfl,_,hl⟩
  cases hl with
  | cons h1 hl' =>
   refine zza (k.qt (by lia) h1 ?_)
   simp only[Bool.not_true,tu,Cn]
   exact zzb ⟨rfl,rfl,_,hl'⟩
 ·rintro⟨r1,r2⟩ s' ⟨hr,rfl,_⟩
  simp only at hr
  subst hr
  exact zzb h
def wz(k:VKd prog w K):VKd prog w (List K) where
 is:=TupAt k
 hash:=λks=>reduceHash (Builtin.Tuple.tupleHashOf (ks.map k.hash))
 draws:=λks=>dr k ks+1
 lv:=k.lv+1
 cmp:=yM k
 inj:=λhx hy=>by
  obtain⟨_,_,_,_,e1,ho,_,hd,hi⟩:=hx
  obtain⟨_,_,_,_,e2,ho',_,hd',hi'⟩:=hy
  subst e1;cases e2
  rw[ho]at ho';cases ho'
  rw[hd]at hd';cases hd'
  exact Its.inj hi hi'
 keeps:=λ⟨a,o,items,n,e,ho,hc,hd,hi⟩ kp=>⟨a,o,items,n,e,kp _ _ _ _ hd ho,hc,hd,hi.keeps kp⟩
 ha:=λhu t q=>EV hu t q
 eq:=λhu hx hy hc q=>EW hu hx hy hc q
 qt:=λhn t q=>EU hn t q
end
end L4
namespace L4
open PySem PySem.Spec PyProof.Rows L2 L3
variable {α:Type}{n:NK}{K:Fg}{x qual p0 p1:Str}{st:Stmt}{f:Addr}{fd:FuncData}{w:World}{v:Value}
section
variable {prog:Program} {A:Around} {E:zzj} {s:Shared}
theorem qh{b:Bool}{Q:Int->Shared->Prop}(h:Q (hashInt (if b then 1 else 0)) { s with toks:=s.toks+1 }):wpAny (model prog w) A (pyHash (.bool b)) Q E s:=by
 have hr:=rawHash_range (if b then 1 else 0)
 unfold pyHash
 have hv:[Value.bool b].any Value.onHeap=false:=rfl
 refine zza ?_
 rw[cRoomFor,au (by rw[hv];exact pi)];refine zzb ?_
 refine zza (Ky (LJ s b) F.slot_bool_hash.lookup ?_)
 show wpAny _ _ (if(some (Value.builtin "int.__hash__")==some Value.none)=true then _ else _) Q E s
 rw[au (by rw[beq_builtin_none];exact pi)]
 refine zza (Ky (LJ s b) F.slot_bool_hash.lookup ?_)
 show wpAny _ _ (callSpecialIfBoundUnlessNone? (.bool b) "__hash__" _ >>= _) Q E s
 refine zza (Mc (LJ s b) F.slot_bool_hash
  (gs F.slot_bool_hash (LJ s b) entry_int_hash
   (show wpAny _ _ (do ret (<-mkInt (rawHash (if b then 1 else 0)))) _ _ s from wpAny_ret_mkInt ?_) (args_int_hash _)))
 show wpAny _ _ (if(decide (-(2:Int)^63<=rawHash (if b then 1 else 0))&&decide (rawHash (if b then 1 else 0)<2^63))=true then _ else _) Q E _
 rw[ar (by rw[ef hr.1,ef hr.2];rfl)]
 exact zzb h
def pC:Bool->Value->Bool
 | b,.bool c=>c==b
 | _,_=>false
theorem iW{b:Bool}(h:pC b v=true):v=.bool b:=by
 cases v<;>simp_all [pC]
def xi(prog:Program)(w:World):KeyKind prog w Bool where
 is:=pC
 hash:=λb=>hashInt (if b then 1 else 0)
 inj:=λv a b ha hb=>by have:=iW ha;have:=iW hb;simp_all
 byValue:=λk v h=>by rw[iW h];rfl
 pyHash:=λhv h=>by rw[iW hv];exact qh h
 eqBool:=λhu hv h=>by
  rw[iW hu,iW hv]
  exact PySem.SeqAt.EqAt.bool_bool _ _ _ _ _ _ (by rename_i a b _ _ _;cases a<;>cases b<;>exact h)
 «strs»:=λk x t v h=>by simp[pC]at h
end
section
variable {prog:Program} {K K2:Type} [DecidableEq K] [DecidableEq K2]
def sumK(k:VKd prog w K)(l:VKd prog w K2)(dj:∀(h:Heap) (a:K) (b:K2) (v:Value),k.is h a v->l.is h b v->False):VKd prog w (K ⊕ K2) where
 is:=λh x v=>match x with
  | .inl a=>k.is h a v
  | .inr b=>l.is h b v
 hash:=λx=>match x with
  | .inl a=>k.hash a
  | .inr b=>l.hash b
 draws:=λx=>match x with
  | .inl a=>k.draws a
  | .inr b=>l.draws b
 lv:=k.lv+l.lv
 cmp:=λx y=>match x,y with
  | .inl a,.inl b=>k.cmp a b
  | .inr a,.inr b=>l.cmp a b
  | _,_=>False
 inj:=λ{h v x y} hx hy=>by
  cases x<;>cases y
  ·rw[k.inj hx hy]
  ·exact(dj _ _ _ _ hx hy).elim
  ·exact(dj _ _ _ _ hy hx).elim
  ·rw[l.inj hx hy]
 keeps:=λ{h h' x v} hx kp=>by
  cases x
  ·exact k.keeps hx kp
  ·exact l.keeps hx kp
 ha:=λ{A E s x v Q} hu hx q=>by
  cases x
  ·exact k.ha (by lia) hx q
  ·exact l.ha (by lia) hx q
 eq:=λ{A E s x y u v Q} hu hx hy hc q=>by
  cases x<;>cases y
  ·exact k.eq (by lia) hx hy hc (by simpa using q)
  ·exact hc.elim
  ·exact hc.elim
  ·exact l.eq (by lia) hx hy hc (by simpa using q)
 qt:=λ{A E s x v n Q} hn hx q=>by
  cases x
  ·exact k.qt (by lia) hx q
  ·exact l.qt (by lia) hx q
theorem oE{k:VKd prog w K}(h:∀x y,k.cmp x y):∀x y,yM k x y
 | [],_=>True.intro
 | _::_,[]=>True.intro
 | a::x,b::y=>⟨h a b,oE h x y⟩
end
section
variable (P:Program) (w:World)
def iK:VKd P w Int:=Ib (intKind P w)
def rK:VKd P w (List (List Int)):=wz (wz (iK P w))
theorem IA(h:Heap)(a:Int)(b:List (List Int))(v:Value)(x:(iK P w).is h a v)(y:(rK P w).is h b v):False:=by
 obtain⟨c,_,_,_,rfl,_⟩:=y
 have x':Value.isInt a (.ref c)=true:=x
 obtain⟨t,e⟩:=Value.isInt_shape x'
 cases e
def mK:VKd P w (Int ⊕ List (List Int)):=sumK (iK P w) (rK P w) (IA P w)
def pK:VKd P w (List (Int ⊕ List (List Int))):=wz (mK P w)
def nK:HeapKind P w (Int×List (List Int)) where
 is:=λh k a=>(pK P w).is h [.inl k.1,.inr k.2] (.ref a)
 hash:=λk=>(NK.t k.1 k.2).hash
 draws:=λk=>(pK P w).draws [.inl k.1,.inr k.2]
 room:=λA=>A.units+3<cLine
 inj:=λ{h a x y} hx hy=>by have:=(pK P w).inj hx hy;simp at this;exact Prod.ext this.1 this.2
 keeps:=λ{h h' k a d o es ep} hk ho hd hs=>(pK P w).keeps hk λb ob xs n e1 e2=>by
  have hne:b≠d:=by rintro rfl;rw[ho]at e2;cases e2;rw[hd]at e1;cases e1
  exact(hs.2 b hne).trans e2
 pyHash:=λhu hk h=>(pK P w).ha hu hk h
 eqBool:=λ{A E s x y a b Q} hu hx hy h=>(pK P w).eq hu hx hy ⟨True.intro,oE (oE λ_ _=>True.intro) _ _,True.intro⟩ (by
  have e:decide (x=y)=decide (([.inl x.1,.inr x.2]:List (Int ⊕ List (List Int)))=[.inl y.1,.inr y.2]):=by
   refine decide_eq_decide.mpr ⟨λe=>by rw[e],λe=>by simp at e;exact Prod.ext e.1 e.2⟩
  rw[<-e];exact h)
 quiet:=λhk h=>(pK P w).qt (show 3<=8 by decide) hk h
variable {P w} {H:Hp} {h:Heap}
theorem BE(i:Int)(t:Tok):(iK P w).is h i (.int i t):=by
 show Value.isInt i (.int i t)=true
 simp[Value.isInt]
theorem DC{r:List Int}{b:Addr}(ok:HOk P w H h)(e:H b=some (.tup (r.map V.int))):(wz (iK P w)).is h r (.ref b):=by
 obtain⟨z,its,v,⟨o,h1,h2,n,h3⟩,z2⟩:=(show ObjOk P w H h b (.tup (r.map V.int))from ok _ _ e)
 refine⟨b,o,its.toArray,n,rfl,h1,h2,h3,?_⟩
 clear h3 e z z2
 induction r generalizing its with
 | nil=>cases v;exact .nil
 | cons i r ih =>
  cases v with
  | cons q t =>
   obtain⟨tk,rfl⟩:=(show ∃tk,_=Value.int i tk from q)
   exact .cons (BE i tk) (ih _ t)
theorem DB{rs:List (List Int)}{bs:List Addr}{e:Addr}(ok:HOk P w H h)(he:H e=some (.tup (bs.map V.ref)))(p:Paired (λr b=>H b=some (.tup (r.map V.int))) rs bs):(rK P w).is h rs (.ref e):=by
 obtain⟨z,its,v,⟨o,h1,h2,n,h3⟩,z2⟩:=(show ObjOk P w H h e (.tup (bs.map V.ref))from ok _ _ he)
 refine⟨e,o,its.toArray,n,rfl,h1,h2,h3,?_⟩
 clear h3 he z z2
 induction p generalizing its with
 | nil=>cases v;exact .nil
 | cons q _ ih =>
  cases v with
  | cons r t =>
   cases (show _=Value.ref _ from r)
   exact .cons (DC ok q) (ih _ t)
theorem GL{p:Int}{rs:List (List Int)}{c e:Addr}(ok:HOk P w H h)(hc:H c=some (.tup [.int p,.ref e]))(he:(rK P w).is h rs (.ref e)):(nK P w).is h (p,rs) c:=by
 obtain⟨_,its,v,⟨o,h1,h2,n,h3⟩,_⟩:=(show ObjOk P w H h c (.tup [.int p,.ref e])from ok _ _ hc)
 obtain⟨u1,u2,rfl,r1,r2⟩:=Vals.two v
 obtain⟨tk,rfl⟩:=(show ∃tk,_=Value.int p tk from r1)
 cases (show _=Value.ref _ from r2)
 have q:(mK P w).is h (.inl p) (.int p tk):=BE (h:=h) p tk
 have q2:(mK P w).is h (.inr rs) (.ref e):=he
 exact⟨c,o,_,n,rfl,h1,h2,h3,.cons q (.cons q2 .nil)⟩
end
section
variable {P:Program} {A:Around} {E:zzj} {s:Shared}
theorem D3{a:Addr}{o:Obj}{es:Array DictEntry}{ep:Nat}{key dflt:Value}{hs:Int}{m:Nat}{j:Option Nat}{Q:zzj}(ho:s.heap.get? a=some o)(hd:o.data=.dict es ep)(hz:es.size<=sizeLine)
  (hh:∀Q:Int->Shared->Prop,Q hs { s with toks:=s.toks+m }->wpAny (model P w) A (pyHash key) Q E s)
  (hf:∀Q:Option Nat->Shared->Prop,Q j { s with toks:=s.toks+m }->wpAny (model P w) A (dictFind a key hs) Q E { s with toks:=s.toks+m })
  (hl:∀i,j=some i->∃e,es[i]? = some e/\Q e.val { s with toks:=s.toks+m })
  (hn:j=none->Q dflt { s with heap:=s.heap.update a (Obj.mapDictKeys (·.push ⟨hs,key,dflt⟩)),toks:=s.toks+m }):wpAny (model P w) A (dictSetDefault a key dflt) Q E s:=by
 unfold dictSetDefault
 try with_reducible refine ev ?_
 refine zza (hh _ (zza (hf _ ?_)))
 cases j with
 | some i =>
  obtain⟨e,he,q⟩:=hl i rfl
  refine zza (LI (s:={ s with toks:=s.toks+m }) ho hd ?_)
  rw[he]
  exact zza (Kq (zzb q))
 | none=>exact zza (Kq (zza (wpAny_updateDictKeys (hz:=hz) (s:={ s with toks:=s.toks+m }) ho hd (zzb (hn rfl)))))
def cP(ns:List NK)(n:NK):Option Nat:=ns.findIdx? λm=>decide (m=n)
theorem Da:∀{l:List NK} {n:NK} {j:Nat},l.Nodup->l[j]? = some n->cP l n=some j:=by
 intro l
 induction l with
 | nil=>intro n j _ h;simp at h
 | cons a l ih =>
  intro n j nd h
  rw[List.nodup_cons]at nd
  unfold cP
  rw[List.findIdx?_cons]
  cases j with
  | zero=>simp at h;simp[h]
  | succ j =>
   simp at h
   have hm:n∈l:=wn h
   have ne:¬ a=n:=λe=>nd.1 (e▸hm)
   have:=ih nd.2 h
   unfold cP at this
   simp[ne,this]
theorem Dc{l:List NK}(h:∀j:Nat,l[j]? ≠ some n):cP l n=none:=by
 unfold cP
 rw[List.findIdx?_eq_none_iff]
 intro x hx
 simp only[kw]
 rintro rfl
 obtain⟨j,hj⟩:=List.getElem?_of_mem hx
 exact h j hj
def qL(P:Program)(w:World)(h:Heap):NK->Value->Prop
 | .b b,v=>v=.bool b
 | .t p rs,v=>∃c,v=.ref c/\(nK P w).is h (p,rs) c
theorem _root_.L3.KeyAt.is{H:Hp}{h:Heap}(ok:HOk P w H h)(k:KeyAt H n v):qL P w h n v:=by
 cases n with
 | b b=>exact k
 | t p rs=>obtain⟨c,e,bs,h1,h2,h3,h4⟩:=k;exact⟨c,h1,GL ok h2 (DB ok h3 h4)⟩
def _root_.L3.NK.isB:NK->Bool
 | .b _=>true
 | _=>false
theorem Au(hu:A.units+3<cLine)(k:qL P w s.heap n v):∃m,∀Q:Int->Shared->Prop,Q n.hash { s with toks:=s.toks+m }->wpAny (model P w) A (pyHash v) Q E s:=by
 cases n with
 | b b=>cases (show v=.bool b from k);exact⟨1,λQ q=>qh q⟩
 | t p rs=>obtain⟨c,rfl,h⟩:=k;exact⟨_,λQ q=>(nK P w).pyHash hu h q⟩
theorem A2{h:Heap}:∀{xs:List (NK×Value×Value)},(∀x∈xs,qL P w h x.1 x.2.1)->(xs.all λx=>x.1.isB)=true->∃ys:List (Bool×Value),xs=ys.map λy=>(NK.b y.1,.bool y.1,y.2)
 | [],_,_=>⟨[],rfl⟩
 | (n,u,v)::xs,k,q=>by
  rw[KR,ac]at q
  obtain⟨ys,e⟩:=A2 (λx m=>k x (zzg _ m)) q.2
  have k0:=k _ ak
  cases n with
  | b b=>cases (show u=.bool b from k0);exact⟨(b,v)::ys,by rw[e];rfl⟩
  | t _ _=>cases q.1
theorem A1{h:Heap}:∀{xs:List (NK×Value×Value)},(∀x∈xs,qL P w h x.1 x.2.1)->(xs.all λx=>!x.1.isB)=true->∃ys:List ((Int×List (List Int))×Addr×Value),(xs=ys.map λy=>(NK.t y.1.1 y.1.2,.ref y.2.1,y.2.2))/\∀y∈ys,(nK P w).is h y.1 y.2.1
 | [],_,_=>⟨[],rfl,λ_ m=>nomatch m⟩
 | (n,u,v)::xs,k,q=>by
  rw[KR,ac]at q
  obtain⟨ys,e,ks⟩:=A1 (λx m=>k x (zzg _ m)) q.2
  have k0:=k _ ak
  cases n with
  | b b=>cases q.1
  | t p rs =>
   obtain⟨c,rfl,hc⟩:=k0
   refine⟨((p,rs),c,v)::ys,by rw[e];rfl,λy m=>?_⟩
   rcases List.mem_cons.mp m with rfl|m
   ·exact hc
   ·exact ks y m
theorem Av{a:Addr}{o:Obj}{xs:List (NK×Value×Value)}{key:Value}{Q:Option Nat->Shared->Prop}(hu:A.units+3<cLine)(ho:s.heap.get? a=some o)(N:NumO a o xs)(k:∀x∈xs,qL P w s.heap x.1 x.2.1)
  (hk:qL P w s.heap n key) (ka:(xs.all λx=>x.1.isB==n.isB)=true) (q:Q (cP (xs.map (·.1)) n) s):wpAny (model P w) A (dictFind a key n.hash) Q E s:=by
 obtain⟨_,_,⟨es,ep,hd,he⟩,nd,_,_⟩:=N
 cases n with
 | b b =>
  cases (show key=.bool b from hk)
  obtain⟨ys,rfl⟩:=A2 k (by simpa[NK.isB]using ka)
  refine wpAny_dictFind_of (knd:=xi P w) (k:=b) (show pC b (.bool b)=true by simp[pC]) ho hd ?_ ?_
  ·intro e hm
   have:e∈es.toList:=Array.mem_toList_iff.mpr hm
   rw[he]at this
   simp only[ib,List.mem_map]at this
   obtain⟨y,_,rfl⟩:=this
   exact⟨y.1,by show pC y.1 (.bool y.1)=true;simp[pC],rfl⟩
  ·have e:(es.findIdx? λe=>(xi P w).is b e.key)=cP ((ys.map λy=>(NK.b y.1,Value.bool y.1,y.2)).map (·.1)) (.b b):=by
    have e0:(es.findIdx? λe=>(xi P w).is b e.key)=es.toList.findIdx? λe=>(xi P w).is b e.key:=by obtain⟨l⟩:=es;simp
    rw[e0,he]
    unfold cP
    rw[ib,List.findIdx?_map,ib,List.findIdx?_map]
    congr 1
    funext y
    show pC b (.bool y.1)=decide (NK.b y.1=NK.b b)
    simp only[pC,NK.b.injEq]
    cases y.1<;>cases b<;>rfl
   rw[e];exact q
 | t p rs =>
  obtain⟨c,rfl,hc⟩:=hk
  obtain⟨ys,rfl,ks⟩:=A1 k (by simpa[NK.isB]using ka)
  have hxs:es.toList=ys.map (entryOfKey (nK P w)):=by rw[he,ib];rfl
  have nd':(ys.map (·.1)).Nodup:=by
   rw[ib]at nd
   have:(ys.map (·.1)).map (λk=>NK.t k.1 k.2)=ys.map ((λx=>x.1)∘λy=>(NK.t y.1.1 y.1.2,Value.ref y.2.1,y.2.2)):=by rw[ib];rfl
   rw[<-this]at nd
   exact List.Pairwise.of_map _ (λa b h e=>h (by rw[e])) nd
  have at':∀(j:Nat) (y:(Int×List (List Int))×Addr×Value),ys[j]? = some y->((ys.map λy=>(NK.t y.1.1 y.1.2,Value.ref y.2.1,y.2.2)).map (·.1))[j]? = some (NK.t y.1.1 y.1.2):=by
   intro j y h;simp[h]
  refine wpAny_dictFind_heap (knd:=nK P w) (k:=(p,rs)) hu hc ho hd hxs ks nd' (λh=>?_) λj pr h=>?_
  ·have e:=Dc (l:=(ys.map λy=>(NK.t y.1.1 y.1.2,Value.ref y.2.1,y.2.2)).map (·.1)) (n:=.t p rs) λj e=>by
    simp only[ib,ik,Option.map_eq_some_iff]at e
    obtain⟨y,e1,e2⟩:=e
    simp only[Function.comp,NK.t.injEq]at e2
    refine h j y.2 ?_
    rw[e1,<-e2.1,<-e2.2]
   rw[e]at q;exact q
  ·rw[Da nd (at' _ _ h)]at q;exact q
end
theorem C2{us:List α}{n:Nat}(h:us.length=n+1):∃a r,us=a::r/\r.length=n:=by
 cases us with
 | nil=>exact absurd h (Nat.succ_ne_zero n).symm
 | cons a r=>exact⟨a,r,rfl,Nat.succ.inj h⟩
theorem Ir{us:List α}(h:us.length=1):∃a0,us=[a0]:=by
 obtain⟨a0,r,rfl,h0⟩:=C2 h
 obtain rfl:=List.eq_nil_of_length_eq_zero h0
 exact⟨a0,rfl⟩
theorem Iq{us:List α}(h:us.length=2):∃a0 a1,us=[a0,a1]:=by
 obtain⟨a0,r,rfl,h0⟩:=C2 h
 obtain⟨a1,rfl⟩:=Ir h0
 exact⟨a0,a1,rfl⟩
theorem Ip{us:List α}(h:us.length=3):∃a0 a1 a2,us=[a0,a1,a2]:=by
 obtain⟨a0,r,rfl,h0⟩:=C2 h
 obtain⟨a1,a2,rfl⟩:=Iq h0
 exact⟨a0,a1,a2,rfl⟩
theorem JI{us:List α}(h:us.length=4):∃a0 a1 a2 a3,us=[a0,a1,a2,a3]:=by
 obtain⟨a0,r,rfl,h0⟩:=C2 h
 obtain⟨a1,a2,a3,rfl⟩:=Ip h0
 exact⟨a0,a1,a2,a3,rfl⟩
theorem vP(F:Fun K x qual st f fd)
  (h:∀(kV doc pm:Value) (an:Option Addr) (cdv ct:Value) (u0:Value),bindArgs (PySem.W.fnOf x qual (dY st) (cp st) (aI st) .none kV doc pm an cdv ct) ⟨[u0],[]⟩=pure (List.zip [p0] [u0])):Binds K fd [p0] [] :=
 F.binds λa b c d e g us hl=>by obtain⟨u0,rfl⟩:=Ir hl;exact h a b c d e g u0
theorem yX(F:Fun K x qual st f fd)
  (h:∀(kV doc pm:Value) (an:Option Addr) (cdv ct:Value) (u0 u1:Value),bindArgs (PySem.W.fnOf x qual (dY st) (cp st) (aI st) .none kV doc pm an cdv ct) ⟨[u0,u1],[]⟩=pure (List.zip [p0,p1] [u0,u1])):Binds K fd [p0,p1] [] :=
 F.binds λa b c d e g us hl=>by obtain⟨u0,u1,rfl⟩:=Iq hl;exact h a b c d e g u0 u1
theorem GH{p2:Str}(F:Fun K x qual st f fd)
  (h:∀(kV doc pm:Value) (an:Option Addr) (cdv ct:Value) (u0 u1 u2:Value),bindArgs (PySem.W.fnOf x qual (dY st) (cp st) (aI st) .none kV doc pm an cdv ct) ⟨[u0,u1,u2],[]⟩=pure (List.zip [p0,p1,p2] [u0,u1,u2])):Binds K fd [p0,p1,p2] [] :=
 F.binds λa b c d e g us hl=>by obtain⟨u0,u1,u2,rfl⟩:=Ip hl;exact h a b c d e g u0 u1 u2
theorem GG{p2 p3:Str}(F:Fun K x qual st f fd)
  (h:∀(kV doc pm:Value) (an:Option Addr) (cdv ct:Value) (u0 u1 u2 u3:Value),bindArgs (PySem.W.fnOf x qual (dY st) (cp st) (aI st) .none kV doc pm an cdv ct) ⟨[u0,u1,u2,u3],[]⟩=pure (List.zip [p0,p1,p2,p3] [u0,u1,u2,u3])):Binds K fd [p0,p1,p2,p3] [] :=
 F.binds λa b c d e g us hl=>by obtain⟨u0,u1,u2,u3,rfl⟩:=JI hl;exact h a b c d e g u0 u1 u2 u3
end L4
namespace TS
open PySem PyProof.Rows
variable {st:SortSt}{xs:Array Keyed}{i j z n:Nat}{p:Keyed}{Q:Option Nat->SortSt->Prop}
def kr(rk:Value->Int)(xs:Array Keyed)(i:Nat):Int:=(xs[i]?.map λp=>rk p.1).getD 0
def Asc(rk:Value->Int)(xs:Array Keyed)(lo hi:Nat):Prop:=∀i j:Nat,lo<=i->i<=j->j<hi->kr rk xs i<=kr rk xs j
def Dsc(rk:Value->Int)(xs:Array Keyed)(lo hi:Nat):Prop:=∀i j:Nat,lo<=i->i<=j->j<hi->kr rk xs j<=kr rk xs i
def mq(prog:Program)(w:World)(A:Around)(s:Shared)(κ:SortKind)(rk:Value->Int)(a₀:Array Keyed):Prop :=
 ∀x y,x∈a₀.toList->y∈a₀.toList->∀(E:zzj) (Q:Bool->Shared->Prop),Q (decide (rk x.1<rk y.1)) s->wpAny (model prog w) A (keyLt' κ x.1 y.1) Q E s
abbrev Runs:=Array (Nat×Nat×Nat)
structure SB(κ:SortKind)(a₀:Array Keyed)(lo:Nat)(old:Array Keyed)(P:Runs)(st:SortSt):Prop where
 pm:(arrOf st).Perm a₀
 kd:kindOf st=κ
 fl:failedOf st=none
 kp:∀i,i<lo->(arrOf st)[i]? = old[i]?
 pe:pendingOf st=P
section
variable {prog:Program} {w:World} {A:Around} {E:zzj} {s:Shared} {κ:SortKind} {rk:Value->Int} {a₀ old:Array Keyed} {lo:Nat} {P:Runs}
theorem SB.sz(h:SB κ a₀ lo old P st):(arrOf st).size=a₀.size:=h.pm.size_eq
theorem SB.to(h:SB κ a₀ lo old P st)(hp:xs.Perm (arrOf st))(hk:∀i,i<lo->xs[i]? = (arrOf st)[i]?):SB κ a₀ lo old P (setArr st xs) :=
 ⟨hp.trans h.pm,h.kd,h.fl,λi hi=>(hk i hi).trans (h.kp i hi),h.pe⟩
theorem SB.mem(h:SB κ a₀ lo old P st)(e:(arrOf st)[i]? = some p):p∈a₀.toList :=
 (Array.perm_iff_toList_perm.mp h.pm).mem_iff.mp (by
  obtain⟨hl,e⟩:=Array.getElem?_eq_some_iff.mp e
  rw[<-e];simp)
theorem wH(e:xs[i]? = some p):kr rk xs i=rk p.1:=by unfold kr;rw[e];rfl
theorem tJ{ys:Array Keyed}(e:xs[i]? = ys[j]?):kr rk xs i=kr rk ys j:=by unfold kr;rw[e]
theorem EL{Q:Keyed->SortSt->Prop}(e:xs[i]? = some p)(q:Q p st):wpS (model prog w) A E s (elem' xs i) Q st:=by
 rw[elem'_eq,e];exact xv q
theorem Il{x y:Keyed}{Q:Option Bool->SortSt->Prop}(hC:mq prog w A s κ rk a₀)(hk:kindOf st=κ)(hx:x∈a₀.toList)(hy:y∈a₀.toList)(q:Q (some (decide (rk x.1<rk y.1))) st) :
  wpS (model prog w) A E s (lt' x y) Q st:=by
 rw[lt'_eq]
 refine py (wpS_get ?_)
 rw[hk]
 refine py (wpS_lift (Ks (hC x y hx hy _ _ ⟨rfl,?_⟩)))
 exact xv q
theorem uo{Q:Option Bool->SortSt->Prop}(hC:mq prog w A s κ rk a₀)(h:SB κ a₀ lo old P st)(hi:i<a₀.size)(hj:j<a₀.size)(q:Q (some (decide (kr rk (arrOf st) i<kr rk (arrOf st) j))) st) :
  wpS (model prog w) A E s (ltAt' i j) Q st:=by
 have e1:(arrOf st)[i]? = some ((arrOf st)[i]'(by rw[h.sz];exact hi)):=bj _
 have e2:(arrOf st)[j]? = some ((arrOf st)[j]'(by rw[h.sz];exact hj)):=bj _
 rw[ltAt'_eq]
 refine py (wpS_get ?_)
 refine py (EL e1 (py (EL e2 ?_)))
 refine Il hC h.kd (h.mem e1) (h.mem e2) ?_
 rw[wH e1,wH e2]at q
 exact q
theorem qV{Q:Unit->SortSt->Prop}(q:Q () (setArr st (mirror (arrOf st) i j ((j - i) / 2)))):wpS (model prog w) A E s (reverseSlice' i j) Q st:=by
 rw[reverseSlice'_eq]
 exact wpS_modify q
theorem vg(hj:j<=xs.size)(k:Nat):kr rk (mirror xs i j ((j - i) / 2)) k=if i<=k/\k<j then kr rk xs (i+j - 1 - k)else kr rk xs k:=by
 have e:=getElem?_mirror_all (i:=i) hj k
 split
 ·rename_i c;rw[ar c]at e;exact tJ e
 ·rename_i c;rw[au c]at e;exact tJ e
theorem j4{lo:Nat}(hj:j<=xs.size)(hl:lo<=i):∀k,k<lo->(mirror xs i j ((j - i) / 2))[k]? = xs[k]?:=λk hk=>by
 rw[getElem?_mirror_all hj k,au (by lia)]
theorem nI(hj:j<=xs.size)(e:∀k,i<=k->k<j->kr rk xs k=kr rk xs (j - 1))(k:Nat):kr rk (mirror xs i j ((j - i) / 2)) k=kr rk xs k:=by
 rw[vg hj]
 split
 ·rename_i c;rw[e k c.1 c.2,e _ (by lia) (by lia)]
 ·rfl
abbrev Asl:=Option (Option Nat)×Nat
abbrev Dsl:=Option (Option Nat)×Nat×Nat
def upW(lo a z:Nat):StateT SortSt Sem Asl:=forIn [a:z] ((none,a):Asl) λ_ c=>do
 match <-ltAt' (lo+c.snd) (lo+c.snd - 1)with
 | some b=>if b=true then pure (ForInStep.done (none,c.snd))else pure (ForInStep.yield (none,c.snd+1))
 | _=>pure (ForInStep.done (some none,c.snd))
def Bo(lo n z:Nat):StateT SortSt Sem (Option Nat):=do
 reverseSlice' lo (lo+n)
 let c <-upW lo n z
 match c.fst with
 | some r=>pure r
 | none=>pure (some c.snd)
def dnW(lo n z:Nat):StateT SortSt Sem Dsl:=forIn [n:z] ((none,n,0):Dsl) λ_ c=>do
 match <-ltAt' (lo+c.snd.fst) (lo+c.snd.fst - 1)with
 | some b =>
  if b=true then
   if c.snd.snd>0 then do
    reverseSlice' (lo+c.snd.fst - (c.snd.snd+1)) (lo+c.snd.fst)
    pure (ForInStep.yield (none,c.snd.fst+1,0))
   else pure (ForInStep.yield (none,c.snd.fst+1,0))
  else do
   match <-ltAt' (lo+c.snd.fst - 1) (lo+c.snd.fst)with
   | some g=>if g=true then pure (ForInStep.done (none,c.snd.fst,c.snd.snd))else pure (ForInStep.yield (none,c.snd.fst+1,c.snd.snd+1))
   | _=>pure (ForInStep.done (some none,c.snd.fst,c.snd.snd))
 | _=>pure (ForInStep.done (some none,c.snd.fst,c.snd.snd))
def t4(lo n z:Nat):StateT SortSt Sem (Option Nat):=do
 liftM (rule "list.sort.descending-run")
 let c <-dnW lo (n+1) z
 match c.fst with
 | some r=>pure r
 | none =>
  if c.snd.snd>0 then do
   reverseSlice' (lo+c.snd.fst - (c.snd.snd+1)) (lo+c.snd.fst)
   Bo lo c.snd.fst z
  else Bo lo c.snd.fst z
theorem Fj(lo z:Nat):countRun' lo z=(do
  let c <-upW lo 1 z
  match c.fst with
  | some r=>pure r
  | none =>
   if(c.snd==z)=true then pure (some c.snd)
   else if c.snd>1 then do
    match <-ltAt' lo (lo+c.snd - 1)with
    | some b=>if b=true then pure (some c.snd)else do
      reverseSlice' lo (lo+c.snd)
      t4 lo c.snd z
    | _=>pure none
   else t4 lo c.snd z):=by
 rw[countRun'_eq]
 unfold t4 Bo dnW upW
 dsimp only
 have tl:∀(x:StateT SortSt Sem Asl),(x >>= λc3=>match c3.fst with|some r=>pure r|none=>pure (some c3.snd):StateT SortSt Sem (Option Nat))=(x >>= λc3=>match c3.fst with|none=>pure (some c3.snd)|some r=>pure r):=λx=>by
  congr 1;funext c3;rcases c3 with ⟨_|r3,n3⟩<;>rfl
 congr 1
 funext c
 rcases c with ⟨_|r,n⟩
 ·dsimp only
  split
  ·rfl
  ·split
   ·congr 1
    funext x
    cases x with
    | none=>rfl
    | some b =>
     dsimp only
     split
     ·rfl
     ·congr 1;funext _;congr 1;funext _;congr 1;funext c2
      rcases c2 with ⟨_|r2,n2,q2⟩
      ·dsimp only
       split
       ·congr 1;funext _;congr 1;funext _;congr 1;funext c3;rcases c3 with ⟨_|r3,n3⟩<;>rfl
       ·congr 1;funext _;congr 1;funext c3;rcases c3 with ⟨_|r3,n3⟩<;>rfl
      ·rfl
   ·congr 1;funext _;congr 1;funext c2
    rcases c2 with ⟨_|r2,n2,q2⟩
    ·dsimp only
     split
     ·congr 1;funext _;congr 1;funext _;congr 1;funext c3;rcases c3 with ⟨_|r3,n3⟩<;>rfl
     ·congr 1;funext _;congr 1;funext c3;rcases c3 with ⟨_|r3,n3⟩<;>rfl
    ·rfl
 ·rfl
end
section
variable {prog:Program} {w:World} {A:Around} {E:zzj} {s:Shared} {κ:SortKind} {rk:Value->Int} {a₀ old:Array Keyed} {lo:Nat} {P:Runs}
theorem Asc.snoc{lo m:Nat}(h:Asc rk xs lo (lo+m))(h1:1<=m)(q:¬ kr rk xs (lo+m)<kr rk xs (lo+m - 1)):Asc rk xs lo (lo+(m+1)):=λi j hi hij hj=>by
 by_cases c:j<lo+m
 ·exact h i j hi hij c
 ·by_cases c2:i=j
  ·subst c2;exact Ko _
  ·have e:j=lo+m:=by lia
   subst e
   have:=h i (lo+m - 1) hi (by lia) (by lia)
   lia
theorem DX{a:Nat}{Q:Asl->SortSt->Prop}(hC:mq prog w A s κ rk a₀)(hz:lo+z<=a₀.size)(h1:1<=a)(ha:a<=z)(h:SB κ a₀ lo old P st)(ho:Asc rk (arrOf st) lo (lo+a))
  (q:∀n,a<=n->n<=z->Asc rk (arrOf st) lo (lo+n)->(n=z\/kr rk (arrOf st) (lo+n)<kr rk (arrOf st) (lo+n - 1))->Q (none,n) st):wpS (model prog w) A E s (upW lo a z) Q st:=by
 refine Ln (I:=λx c st'=>st'=st/\c=(none,x)/\Asc rk (arrOf st) lo (lo+x)) (λx c st' hx hxz I=>?_) (λc st' I=>?_) ⟨rfl,rfl,ho⟩
 ·obtain⟨rfl,rfl,o⟩:=I
  refine py (uo hC h (by dsimp only;lia) (by dsimp only;lia) ?_)
  dsimp only
  by_cases c:kr rk (arrOf st') (lo+x)<kr rk (arrOf st') (lo+x - 1)
  ·rw[ef c]
   exact xv (q x hx (by lia) o (.inr c))
  ·rw[bu c]
   exact xv ⟨rfl,rfl,o.snoc (by lia) c⟩
 ·obtain⟨rfl,rfl,o⟩:=I
  have e:max a z=z:=by lia
  rw[e]at o ⊢
  exact q z ha (ai _) o (.inl rfl)
def Run(κ:SortKind)(rk:Value->Int)(a₀ old:Array Keyed)(lo z:Nat)(P:Runs)(m:Nat)(st:SortSt):Prop:=SB κ a₀ lo old P st/\1<=m/\m<=z/\Asc rk (arrOf st) lo (lo+m)
theorem Bn(hC:mq prog w A s κ rk a₀)(hz:lo+z<=a₀.size)(h1:1<=n)(hn:n<=z)(h:SB κ a₀ lo old P st)(ho:Dsc rk (arrOf st) lo (lo+n))
  (q:∀m st',Run κ rk a₀ old lo z P m st'->Q (some m) st'):wpS (model prog w) A E s (Bo lo n z) Q st:=by
 have hl:lo+n<=(arrOf st).size:=by rw[h.sz];lia
 have h':=h.to (mirror_perm (arrOf st) lo (lo+n) ((lo+n - lo) / 2)) (j4 hl (ai _))
 unfold Bo
 refine py (qV (py (DX hC hz h1 hn h' (λi j hi hij hj=>?_) λm m1 m2 o _=>xv (q m _ ⟨h',by lia,m2,o⟩))))
 show kr rk (mirror (arrOf st) lo (lo+n) _) i<=kr rk (mirror (arrOf st) lo (lo+n) _) j
 rw[vg hl,vg hl,ar ⟨hi,by lia⟩,ar ⟨by lia,hj⟩]
 exact ho _ _ (by lia) (by lia) (by lia)
theorem Dsc.snoc{ys:Array Keyed}{lo m:Nat}(h:Dsc rk xs lo (lo+m))(h1:1<=m)(e:∀k,kr rk ys k=kr rk xs k)(q:kr rk xs (lo+m)<=kr rk xs (lo+m - 1)):Dsc rk ys lo (lo+(m+1)):=λi j hi hij hj=>by
 rw[e,e]
 by_cases c:j<lo+m
 ·exact h i j hi hij c
 ·by_cases c2:i=j
  ·subst c2;exact Ko _
  ·have e:j=lo+m:=by lia
   subst e
   have:=h i (lo+m - 1) hi (by lia) (by lia)
   lia
def Flat(rk:Value->Int)(xs:Array Keyed)(lo m q:Nat):Prop:=q+1<=m/\∀k,lo+m - (q+1)<=k->k<lo+m->kr rk xs k=kr rk xs (lo+m - 1)
theorem IN{Q:Dsl->SortSt->Prop}(hC:mq prog w A s κ rk a₀)(hz:lo+z<=a₀.size)(h1:1<=n)(hn:n<=z)(h:SB κ a₀ lo old P st)(ho:Dsc rk (arrOf st) lo (lo+n))
  (q:∀m r st',SB κ a₀ lo old P st'->n<=m->m<=z->Dsc rk (arrOf st') lo (lo+m)->Flat rk (arrOf st') lo m r->Q (none,m,r) st'):wpS (model prog w) A E s (dnW lo n z) Q st:=by
 refine Ln (I:=λx c st'=>∃r,c=(none,x,r)/\SB κ a₀ lo old P st'/\Dsc rk (arrOf st') lo (lo+x)/\Flat rk (arrOf st') lo x r) (λx c st' hx hxz I=>?_) (λc st' I=>?_) ⟨0,rfl,h,ho,by lia,λk k1 k2=>by congr 1;lia⟩
 ·obtain⟨r,rfl,h',o,fl⟩:=I
  have hl:lo+x<=(arrOf st').size:=by rw[h'.sz];lia
  refine py (uo hC h' (by dsimp only;lia) (by dsimp only;lia) ?_)
  dsimp only
  by_cases c:kr rk (arrOf st') (lo+x)<kr rk (arrOf st') (lo+x - 1)
  ·rw[ef c]
   rw[ar rfl]
   split
   ·rename_i hr
    have hr':0<r:=hr
    have hfl:∀k,lo+x - (r+1)<=k->k<lo+x->kr rk (arrOf st') k=kr rk (arrOf st') (lo+x - 1):=fl.2
    have kp:=nI (rk:=rk) hl hfl
    have fl1:=fl.1
    refine py (qV (xv ⟨0,rfl,h'.to (mirror_perm _ _ _ _) (j4 hl (by lia)),o.snoc (by lia) kp (by lia),by lia,λk k1 k2=>by congr 1;lia⟩))
   ·exact xv ⟨0,rfl,h',o.snoc (by lia) (λ_=>rfl) (by lia),by lia,λk k1 k2=>by congr 1;lia⟩
  ·rw[bu c]
   rw[au (by decide)]
   refine py (uo hC h' (by lia) (by lia) ?_)
   by_cases c2:kr rk (arrOf st') (lo+x - 1)<kr rk (arrOf st') (lo+x)
   ·rw[ef c2]
    exact xv (q x r st' h' hx (by lia) o fl)
   ·rw[bu c2]
    refine xv ⟨r+1,rfl,h',o.snoc (by lia) (λ_=>rfl) (by lia),by have:=fl.1;lia,λk k1 k2=>?_⟩
    have e:kr rk (arrOf st') (lo+x)=kr rk (arrOf st') (lo+x - 1):=by lia
    rw[show lo+(x+1) - 1=lo+x by lia,e]
    by_cases c3:k=lo+x
    ·rw[c3];exact e
    ·exact fl.2 k (by lia) (by lia)
 ·obtain⟨r,rfl,h',o,fl⟩:=I
  have e:max n z=z:=by lia
  rw[e]at o fl ⊢
  exact q z r st' h' hn (ai _) o fl
theorem wX(hC:mq prog w A s κ rk a₀)(hz:lo+z<=a₀.size)(hn:n+1<=z)(h:SB κ a₀ lo old P st)(ho:Dsc rk (arrOf st) lo (lo+(n+1)))
  (q:∀m st',Run κ rk a₀ old lo z P m st'->Q (some m) st'):wpS (model prog w) A E s (t4 lo n z) Q st:=by
 unfold t4
 refine py (wpS_lift (Kq ⟨rfl,py (IN hC hz (by lia) hn h ho λm r st' h' m1 m2 o fl=>?_)⟩))
 dsimp only
 have hl:lo+m<=(arrOf st').size:=by rw[h'.sz];lia
 have fl1:=fl.1
 split
 ·have kp:=nI (rk:=rk) hl fl.2
  refine py (qV (Bn hC hz (by lia) m2 (h'.to (mirror_perm _ _ _ _) (j4 hl (by lia))) (λi j hi hij hj=>?_) q))
  show kr rk (mirror (arrOf st') _ _ _) j<=kr rk (mirror (arrOf st') _ _ _) i
  rw[kp,kp]
  exact o i j hi hij hj
 ·exact Bn hC hz (by lia) m2 h' o q
theorem Fi(hC:mq prog w A s κ rk a₀)(hz:lo+z<=a₀.size)(h1:1<=z)(h:SB κ a₀ lo old P st)
  (q:∀m st',Run κ rk a₀ old lo z P m st'->Q (some m) st'):wpS (model prog w) A E s (countRun' lo z) Q st:=by
 rw[Fj]
 refine py (DX hC hz (ai 1) h1 h (λi j hi hij hj=>by rw[show i=j by lia];exact Ko _) λn n1 n2 o e=>?_)
 dsimp only
 by_cases c:n=z
 ·rw[ar (by simpa using c)]
  exact xv (q n st ⟨h,n1,n2,o⟩)
 ·rw[au (by simpa using c)]
  have lt:=e.resolve_left c
  split
  ·refine py (uo hC h (by lia) (by lia) ?_)
   by_cases c2:kr rk (arrOf st) lo<kr rk (arrOf st) (lo+n - 1)
   ·rw[ef c2]
    exact xv (q n st ⟨h,n1,n2,o⟩)
   ·rw[bu c2]
    dsimp only
    rw[au (by decide)]
    have hl:lo+n<=(arrOf st).size:=by rw[h.sz];lia
    have fl:∀k,lo<=k->k<lo+n->kr rk (arrOf st) k=kr rk (arrOf st) (lo+n - 1):=λk k1 k2=>by
     have a1:=o lo k (ai _) k1 k2
     have a2:=o k (lo+n - 1) k1 (by lia) (by lia)
     lia
    have kp:=nI (rk:=rk) hl fl
    have dd:Dsc rk (arrOf st) lo (lo+n):=λi j hi hij hj=>by rw[fl i hi (by lia),fl j (by lia) hj];exact Ko _
    exact py (qV (wX hC hz (by lia) (h.to (mirror_perm _ _ _ _) (j4 hl (ai _))) (dd.snoc n1 kp (by lia)) q))
  ·have e1:n=1:=by lia
   subst e1
   have dd:Dsc rk (arrOf st) lo (lo+1):=λi j hi hij hj=>by rw[show i=j by lia];exact Ko _
   exact wX hC hz (by lia) h (dd.snoc (ai _) (λ_=>rfl) (by lia)) q
theorem AZ{src d:Nat}(hs:src<xs.size)(hd:d<=src)(k:Nat):kr rk (bubble xs src d) k=if k=src - d then kr rk xs src else if src - d<k/\k<=src then kr rk xs (k - 1)else kr rk xs k:=by
 have e:=getElem?_bubble hs d hd k
 split
 ·rename_i c;rw[ar c]at e;exact tJ e
 ·rename_i c
  rw[au c]at e
  split
  ·rename_i c2;rw[ar c2]at e;exact tJ e
  ·rename_i c2;rw[au c2]at e;exact tJ e
theorem GI{ok:Nat}{Q:Bool->SortSt->Prop}(hC:mq prog w A s κ rk a₀)(hn:lo+n<=a₀.size)(hk:ok<=n)(h:SB κ a₀ lo old P st)(ho:Asc rk (arrOf st) lo (lo+ok))
  (q:∀st',SB κ a₀ lo old P st'->Asc rk (arrOf st') lo (lo+n)->Q true st'):wpS (model prog w) A E s (binarySort' lo n ok) Q st:=by
 rw[binarySort'_eq]
 refine py (wpS_mono (Ln (I:=λk c st'=>c=(none,())/\SB κ a₀ lo old P st'/\Asc rk (arrOf st') lo (lo+min k n))
  (Q:=λc st'=>c=(none,())/\SB κ a₀ lo old P st'/\Asc rk (arrOf st') lo (lo+n)) (λk c st' hk1 hkn I=>?_) (λc st' I=>?_) ⟨rfl,h,λi j hi hij hj=>?_⟩) λc st' I=>?_)
 ·obtain⟨rfl,h',o⟩:=I
  rw[show min k n=k by lia]at o
  have hsz:lo+k<(arrOf st').size:=by rw[h'.sz];lia
  refine py (wpS_mono (Ln (I:=λx c st2=>st2=st'/\∃l r,c=(none,l,r)/\l<=r/\r<=k/\r - l<=k - x /\
    (∀i,i<l->kr rk (arrOf st') (lo+i)<=kr rk (arrOf st') (lo+k))/\(∀i,r<=i->i<k->kr rk (arrOf st') (lo+k)<kr rk (arrOf st') (lo+i)))
   (Q:=λc st2=>st2=st'/\∃l r,c=(none,l,r)/\l<=k/\(∀i,i<l->kr rk (arrOf st') (lo+i)<=kr rk (arrOf st') (lo+k))/\(∀i,l<=i->i<k->kr rk (arrOf st') (lo+k)<kr rk (arrOf st') (lo+i)))
   (λx c st2 _ hx J=>?_) (λc st2 J=>?_) ⟨rfl,0,k,rfl,by lia,by lia,by lia,λi hi=>by lia,λi i1 i2=>by lia⟩) λc st2 J=>?_)
  ·obtain⟨rfl,l,r,rfl,lr,rk',sz,b1,b2⟩:=J
   dsimp only
   by_cases c:l>=r
   ·rw[ar c]
    exact xv ⟨rfl,l,r,rfl,by lia,b1,λi i1 i2=>b2 i (by lia) i2⟩
   ·rw[au c]
    refine py (uo hC h' (by lia) (by lia) ?_)
    by_cases c2:kr rk (arrOf st2) (lo+k)<kr rk (arrOf st2) (lo+(l+r) / 2)
    ·rw[ef c2]
     refine xv ⟨rfl,l,(l+r) / 2,rfl,by lia,by lia,by lia,b1,λi i1 i2=>?_⟩
     have:=o (lo+(l+r) / 2) (lo+i) (by lia) (by lia) (by lia)
     lia
    ·rw[bu c2]
     refine xv ⟨rfl,(l+r) / 2+1,r,rfl,by lia,by lia,by lia,λi i1=>?_,b2⟩
     have:=o (lo+i) (lo+(l+r) / 2) (by lia) (by lia) (by lia)
     lia
  ·obtain⟨rfl,l,r,rfl,lr,rk',sz,b1,b2⟩:=J
   exact⟨rfl,l,r,rfl,by lia,b1,λi i1 i2=>b2 i (by lia) i2⟩
  ·obtain⟨rfl,l,r,rfl,lk,b1,b2⟩:=J
   show wpS _ _ _ _ (moveDown' (lo+k) (lo+l) >>= λ_=>pure (ForInStep.yield (none,()))) _ _
   rw[moveDown'_eq]
   have ed:lo+k - (lo+k - (lo+l))=lo+l:=by lia
   refine py (wpS_modify (xv ⟨rfl,h'.to (bubble_perm _ _ _) (λi hi=>?_),λi j hi hij hj=>?_⟩))
   ·rw[getElem?_bubble hsz _ (by lia),au (by lia),au (by lia)]
   ·rw[show min (k+1) n=k+1 by lia]at hj
    show kr rk (bubble (arrOf st2) (lo+k) (lo+k - (lo+l))) i<=kr rk (bubble (arrOf st2) (lo+k) (lo+k - (lo+l))) j
    rw[AZ hsz (by lia),AZ hsz (by lia),ed]
    have t1:∀i,lo<=i->i<lo+l->kr rk (arrOf st2) i<=kr rk (arrOf st2) (lo+k):=λi i1 i2=>by
     have:=b1 (i - lo) (by lia)
     rwa [show lo+(i - lo)=i by lia]at this
    have t2:∀i,lo+l<=i->i<lo+k->kr rk (arrOf st2) (lo+k)<kr rk (arrOf st2) i:=λi i1 i2=>by
     have:=b2 (i - lo) (by lia) (by lia)
     rwa [show lo+(i - lo)=i by lia]at this
    split
    ·split
     ·exact Ko _
     ·split
      ·exact Int.le_of_lt (t2 _ (by lia) (by lia))
      ·lia
    ·split
     ·split
      ·lia
      ·split
       ·exact o _ _ (by lia) (by lia) (by lia)
       ·lia
     ·split
      ·exact t1 _ hi (by lia)
      ·split
       ·exact o _ _ (by lia) (by lia) (by lia)
       ·exact o _ _ (by lia) (by lia) (by lia)
 ·obtain⟨rfl,h',o⟩:=I
  rw[show min (max (max ok 1) n) n=n by lia]at o
  exact⟨rfl,h',o⟩
 ·by_cases c:ok=0
  ·rw[show i=j by lia];exact Ko _
  ·exact ho i j hi hij (by lia)
 ·obtain⟨rfl,h',o⟩:=I
  exact xv (q st' h' o)
end
abbrev SM':=StateT SortSt Sem
end TS
namespace TS
end TS
namespace TS
open PySem PyProof.Rows
section
variable {rk:Value->Int}
abbrev Le(rk:Value->Int)(x y:Keyed):Prop:=rk x.1<=rk y.1
theorem BG{a:Array Keyed}(h:Asc rk a 0 a.size):a.toList.Pairwise (Le rk):=by
 rw[List.pairwise_iff_getElem]
 intro i j hi hj hij
 have hi':i<a.size:=by simpa using hi
 have hj':j<a.size:=by simpa using hj
 have:=h i j (aw _) (Kw hij) hj'
 rw[wH (bj hi'),wH (bj hj')]at this
 simpa using this
end
end TS
namespace TS
end TS
namespace TS
end TS
namespace TS
open PySem PyProof.Rows
section
variable {rk:Value->Int}
def Cov:List (Nat×Nat×Nat)->Nat->Nat->Prop
 | [],lo,hi=>lo=hi
 | (s,n,_)::r,lo,hi=>s=lo/\1<=n/\Cov r (lo+n) hi
structure Rn(κ:SortKind)(rk:Value->Int)(a₀:Array Keyed)(hi:Nat)(st:SortSt):Prop where
 pm:(arrOf st).Perm a₀
 kd:kindOf st=κ
 fl:failedOf st=none
 cv:Cov (pendingOf st).toList 0 hi
 so:∀x∈(pendingOf st).toList,Asc rk (arrOf st) x.1 (x.1+x.2.1)
 le:hi<=a₀.size
variable {prog:Program}{w:World}{A:Around}{E:zzj}{s:Shared}{κ:SortKind}{a₀:Array Keyed}
end
end TS
namespace TS
end TS
namespace TS
open PySem PyProof.Rows
variable {vs:List Value}{n:Nat}{a:Addr}{o:Obj}
abbrev Cu:=Option Unit×Unit
def JU(pw:Nat):SM' (ForInStep Cu):=do
 let st <-get
 match (if(pendingOf st).size>1 then(pendingOf st)[(pendingOf st).size - 2]? else none)with
 | some (_,_,o) =>
  if o<=pw then pure (.done (none,()))
  else do
   let b <-mergeAt' ((pendingOf st).size - 2)
   if(!b)=true then pure (.done (some (),()))else pure (.yield (none,()))
 | _=>pure (.done (none,()))
def addW(lo n:Nat):SM' (ForInStep (Option Unit×Nat)):=do
 modify λc=>setPending c ((pendingOf c).push (lo,n,0))
 pure (.yield (none,lo+n))
def wg(z lo n:Nat):SM' (ForInStep (Option Unit×Nat)):=do
 let st <-get
 match (pendingOf st).back? with
 | some (s1,n1,_)=>do
  let c <-forIn [0:z] ((none,()):Cu) λ_ _=>JU (power' z (2*s1+n1) (2*s1+n1+n1+n) z)
  match c.1 with
  | some r=>pure (.done (some r,lo))
  | none=>do
   modify λc=>setPending c ((pendingOf c).modify ((pendingOf c).size - 1) λx=>(x.1,x.2.1,power' z (2*s1+n1) (2*s1+n1+n1+n) z))
   addW lo n
 | _=>addW lo n
def FV(P:Runs):Nat:=if((if P.size - 2>0 then P[P.size - 2 - 1]?.map (·.2.1)else none).any (· < (P[P.size - 2+1]?.elim 0 (·.2.1))))=true then P.size - 2 - 1 else P.size - 2
def ED:SM' (ForInStep Cu):=do
 let st <-get
 if(pendingOf st).size<=1 then pure (.done (none,()))
 else do
  let b <-mergeAt' (FV (pendingOf st))
  if(!b)=true then pure (.done (some (),()))else pure (.yield (none,()))
theorem B8:sortRuns'=(do
  let st <-get
  let c <-forIn [0:(arrOf st).size] ((none,0):Option Unit×Nat) λ_ c =>
   if c.2>=(arrOf st).size then pure (.done (none,c.2))
   else do
    match <-countRun' c.2 ((arrOf st).size - c.2)with
    | some f =>
     if f<minRun' (arrOf st).size (arrOf st).size 0 then do
      liftM (rule "list.sort.binary-insertion")
      let b <-binarySort' c.2 (min ((arrOf st).size - c.2) (minRun' (arrOf st).size (arrOf st).size 0)) f
      if(!b)=true then pure (.done (some (),c.2))
      else wg (arrOf st).size c.2 (min ((arrOf st).size - c.2) (minRun' (arrOf st).size (arrOf st).size 0))
     else wg (arrOf st).size c.2 f
    | _=>pure (.done (some (),c.2))
  match c.1 with
  | some r=>pure r
  | none=>do
   let c <-forIn [0:(arrOf st).size] ((none,()):Cu) λ_ _=>ED
   match c.1 with
   | some r=>pure r
   | none=>pure ()):=by
 kernel_rfl
section
variable {z:Nat} {rk:Value->Int} {prog:Program} {w:World} {A:Around} {E:zzj} {s:Shared} {κ:SortKind} {a₀:Array Keyed}
def Rp(κ:SortKind)(rk:Value->Int)(a₀:Array Keyed)(lo n:Nat)(st:SortSt):Prop:=Rn κ rk a₀ lo st/\1<=n/\lo+n<=a₀.size/\Asc rk (arrOf st) lo (lo+n)
theorem yp:∀n,n<64->minRun' n n 0=n:=by decide +kernel
theorem xC{st:SortSt}{Q:ForInStep (Option Unit×Nat)->SortSt->Prop}(h:Rp κ rk a₀ 0 n st)(hp:pendingOf st = #[])(q:∀st',Rn κ rk a₀ n st'->(pendingOf st').size<=1->Q (.yield (none,n)) st'):wpS (model prog w) A E s (wg z 0 n) Q st:=by
 obtain⟨r,n1,le,o⟩:=h
 unfold wg
 refine py (wpS_get ?_)
 rw[hp]
 show wpS (model prog w) A E s (addW 0 n) Q st
 unfold addW
 have e:0+n=n:=Nat.zero_add n
 rw[e]
 refine py (wpS_modify (xv (q _ ⟨r.pm,r.kd,r.fl,?_,λx hx=>?_,by omega⟩ ?_)))
 ·show Cov ((pendingOf st).push (0,n,0)).toList 0 n
  rw[hp]
  exact⟨rfl,n1,by show 0+n=n;exact e⟩
 ·have hx':x∈((pendingOf st).push (0,n,0)).toList:=hx
  rw[hp]at hx'
  rw[List.mem_singleton.mp hx'];exact o
 ·show((pendingOf st).push (0,n,0)).size<=1
  rw[hp];exact ai _
theorem B7{st:SortSt}{Q:Unit->SortSt->Prop}(hC:mq prog w A s κ rk a₀)(h2:1<=a₀.size)(h64:a₀.size<64)(h:Rn κ rk a₀ 0 st)(q:∀st',(arrOf st').Perm a₀->failedOf st'=none->Asc rk (arrOf st') 0 a₀.size->Q () st')(hp0:pendingOf st = #[]):wpS (model prog w) A E s sortRuns' Q st:=by
 rw[B8]
 refine py (wpS_get ?_)
 have hsz:(arrOf st).size=a₀.size:=h.pm.size_eq
 rw[hsz,yp _ h64]
 refine py (wpS_mono (Ln (I:=λx c st'=>∃lo,c=(none,lo)/\Rn κ rk a₀ lo st'/\(x=0/\lo=0/\pendingOf st' = #[]\/lo=a₀.size/\(pendingOf st').size<=1)) (Q:=λc st'=>c=(none,a₀.size)/\Rn κ rk a₀ a₀.size st'/\(pendingOf st').size<=1) (λx c st' _ hx I=>?_) (λc st' I=>?_) ⟨0,rfl,h,.inl ⟨rfl,rfl,hp0⟩⟩) λc st' I=>?_)
 ·obtain⟨lo,rfl,r,hl⟩:=I
  have rle:=r.le
  dsimp only
  split
  ·rcases hl with ⟨_,rfl,_⟩|⟨rfl,hp⟩
   ·omega
   ·exact xv ⟨rfl,r,hp⟩
  ·rename_i c
   rcases hl with ⟨hx0,rfl,hp⟩|⟨rfl,hp⟩
   ·have sb:SB κ a₀ 0 (arrOf st') (pendingOf st') st':=⟨r.pm,r.kd,r.fl,λ_ _=>rfl,rfl⟩
    have back:∀st2 n,SB κ a₀ 0 (arrOf st') (pendingOf st') st2->1<=n->0+n<=a₀.size->Asc rk (arrOf st2) 0 (0+n)->Rp κ rk a₀ 0 n st2:=λst2 n b n1 n2 o=>by
     refine⟨⟨b.pm,b.kd,b.fl,by rw[b.pe,hp];rfl,λx hx=>?_,r.le⟩,n1,n2,o⟩
     rw[b.pe,hp]at hx
     cases hx
    refine py (Fi hC (by omega) (by omega) sb λm st2 ⟨b2,m1,m2,o2⟩=>?_)
    dsimp only
    split
    ·refine py (wpS_lift (Kq ⟨rfl,py (GI hC (by omega) (by omega) b2 o2 λst3 b3 o3=>?_)⟩))
     rw[au (by decide)]
     have em:min (a₀.size - 0) a₀.size=a₀.size:=by omega
     rw[em]at o3 ⊢
     exact xC (back st3 _ b3 (by omega) (by omega) o3) (by rw[b3.pe,hp]) λst4 r4 p4=>⟨_,rfl,r4,.inr ⟨rfl,p4⟩⟩
    ·have em:m=a₀.size:=by omega
     subst em
     exact xC (back st2 _ b2 m1 (by omega) o2) (by rw[b2.pe,hp]) λst4 r4 p4=>⟨_,rfl,r4,.inr ⟨rfl,p4⟩⟩
   ·omega
 ·obtain⟨lo,rfl,r,hl⟩:=I
  rcases hl with ⟨h0,_⟩|⟨rfl,hp⟩
  ·omega
  ·exact⟨rfl,r,hp⟩
 ·obtain⟨rfl,r,hp⟩:=I
  dsimp only
  refine py (wpS_mono (Ln (I:=λx c st2=>c=(none,())/\Rn κ rk a₀ a₀.size st2/\(pendingOf st2).size<=1) (Q:=λc st2=>c=(none,())/\Rn κ rk a₀ a₀.size st2/\(pendingOf st2).size<=1) (λx c st2 _ hx I=>?_) (λc st2 I=>I) ⟨rfl,r,hp⟩) λc st2 I=>?_)
  ·obtain⟨rfl,r2,sz⟩:=I
   unfold ED
   refine py (wpS_get ?_)
   rw[ar sz]
   exact xv ⟨rfl,r2,sz⟩
  ·obtain⟨rfl,r2,sz⟩:=I
   dsimp only
   refine xv (q st2 r2.pm r2.fl ?_)
   have cv:=r2.cv
   have so:=r2.so
   have hl:(pendingOf st2).toList.length<=1:=by rw[be];exact sz
   match hP:(pendingOf st2).toList,hl,cv,so with
   | [],_,cv,_=>have:0=a₀.size:=cv;omega
   | [(a,n,p)],_,cv,so =>
    obtain⟨rfl,_,e⟩:=cv
    have e':0+n=a₀.size:=e
    have:=so (0,n,p) ak
    dsimp only at this
    rw[e']at this
    exact this
   | _::_::_,hl,_,_=>simp at hl
end
def mid(s:Shared)(a:Addr)(vs:List Value):Shared:={ s with heap:=((s.heap.update a (Obj.mapSeq λ_=>#[])).push (seqObj "tuple" vs.toArray 0)).push (seqObj "list" #[] 0) }
section
variable {prog:Program} {w:World} {A:Around} {E:zzj} {s:Shared} {κ:SortKind} {rk:Value->Int}
theorem AJ{P:Fin->Shared->Prop}(ho:s.heap.get? a=some (seqObj "list" vs.toArray n))(h64:vs.length<64)
  (hk:2<=vs.length->∀Q:SortKind->Shared->Prop,Q κ (mid s a vs)->wpAny (model prog w) A (keyKind' vs.toArray) Q E (mid s a vs)) (hC:2<=vs.length->mq prog w A (mid s a vs) κ rk (pairsOf vs))
  (h:∀out:Array Value,out.toList.Perm vs->out.toList.Pairwise (λx y=>rk x<=rk y)->P (.done (.ret .none)) { s with heap:=sortedHeap s.heap a vs out }):wpAny (model prog w) A (Builtin.«list.sort» ⟨[.ref a],[]⟩) P E s:=by
 have hz:vs.length<=sizeLine:=ce (Kw h64) (by decide)
 have hlt:=am ho
 obtain⟨ep,ho1⟩:∃ep,(s.heap.update a (Obj.mapSeq λ_=>#[])).get? a=some (seqObj "list" #[] ep):=⟨_,L7 ho λ_=>#[]⟩
 have ho2:(mid s a vs).heap.get? a=some (seqObj "list" #[] ep):=by
  unfold mid
  dsimp only
  rw[Go,Go]
  ·exact ho1
  ·rw[Ba];exact bi hlt
  ·rw[LW,Ba];exact bi (se hlt)
 rw[list_sort_plain]
 refine zza (LX ho rfl (zza (LL ho rfl (zza (seqEpoch_at ho1 rfl (zza (wpAny_newTuple (zza (wpAny_newList (ev ?_)))))))  (by simpa using hz) (aw _))))
 have mem:∀p∈(pairsOf vs).toList,p.1=p.2/\p.1∈vs:=λp hp=>by
  rw[pairsOf_toList]at hp
  exact mem_zip_self hp
 have fin:∀c:SortSt,(arrOf c).Perm (pairsOf vs)->Asc rk (arrOf c) 0 (arrOf c).size->P (.done (.ret .none)) { s with heap:=sortedHeap s.heap a vs ((arrOf c).map (·.2)) }:=λc hp ha=>by
  have hp':=Array.perm_iff_toList_perm.mp hp
  have e:((arrOf c).map (·.2)).toList=(arrOf c).toList.map (·.1):=by
   rw[Array.toList_map]
   exact ix λp q=>(mem p (hp'.mem_iff.mp q)).1.symm
  refine h _ ?_ ?_
  ·rw[e]
   have:=hp'.map (·.1)
   rwa [pairsOf_toList,List.map_fst_zip (ai _)]at this
  ·rw[e,LK]
   exact BG ha
 have size2:∀c:SortSt,(arrOf c).Perm (pairsOf vs)->((arrOf c).map (·.2)).size<=sizeLine+1:=λc hp=>by
  rw[LC,hp.size_eq,pairsOf_size];omega
 have vz:vs.toArray.size=vs.length:=ay ..
 show wpAny (model prog w) A _ P E (mid s a vs)
 by_cases c:vs.length<2
 ·rw[ar (by rw[vz];exact c),ar (by rw[vz];exact c)]
  refine zza (zzb ?_)
  dsimp only
  rw[StateT.run_pure]
  refine zza (zzb (zza (seqEpoch_at ho2 rfl (zza (LL ho2 rfl ?_ (aw _) (size2 (SortSt.mk' general' (vs.toArray.zip vs.toArray) #[] 7 none) (Array.Perm.refl _)))))))
  rw[au (by simp)]
  refine zzb (fin (SortSt.mk' general' (vs.toArray.zip vs.toArray) #[] 7 none) (Array.Perm.refl _) λi j _ ij hj=>?_)
  have hj':j<(pairsOf vs).size:=hj
  rw[pairsOf_size]at hj'
  rw[show i=j by omega]
  exact Ko _
 ·rw[au (by rw[vz];exact c),au (by rw[vz];exact c)]
  refine zza (hk (by omega) _ ?_)
  have so:=B7 (E:=E) (hC (by omega)) (by rw[pairsOf_size];omega) (by rw[pairsOf_size];exact h64) (hp0:=rfl) (st:=SortSt.mk' κ (vs.toArray.zip vs.toArray) #[] 7 none) (Q:=λ_ c=>(arrOf c).Perm (pairsOf vs)/\failedOf c=none/\Asc rk (arrOf c) 0 (pairsOf vs).size)
   ⟨Array.Perm.refl _,rfl,rfl,rfl,(λx hx=>by cases hx),aw _⟩ (λc a1 a2 a3=>⟨a1,a2,a3⟩)
  refine zza (Kr so (λr s' ⟨e,a1,a2,a3⟩=>?_) λ_ _ e=>e)
  subst e
  obtain⟨⟨⟩,c⟩:=r
  dsimp only at a1 a2 a3 ⊢
  refine zza (seqEpoch_at ho2 rfl (zza (LL ho2 rfl ?_ (aw _) (size2 c a1))))
  rw[a2]
  dsimp only
  rw[au (by simp)]
  exact zzb (fin c a1 (by rw[a1.size_eq];exact a3))
theorem Dt{l:Addr}{Q:List Value->Shared->Prop}(ho:s.heap.get? l=some o)(hc:o.cls=.type "list" \/ o.cls=.type "tuple")(hd:o.data=.seq vs.toArray n)(hz:vs.length<=sizeLine)
  (h:Q vs { s with heap:=(s.heap.push (seqObj "list" #[] 0)).update s.heap.objs.size (Obj.mapSeq (· ++ vs.toArray)) }):wpAny (model prog w) A (collect (.ref l)) Q E s:=by
 have ho':(s.heap.push (seqObj "list" #[] 0)).get? l=some o:=zzc _ ho
 have e0:(s.heap.push (seqObj "list" #[] 0)).get? s.heap.objs.size=some (seqObj "list" #[] 0):=zze _ rfl
 unfold collect
 refine zza (wpAny_runValue (om entry_proto_collect' ?_))
 show wpAny (model prog w) _ (newList [] >>= λx=>again (.builtin "list.__iadd__" ⟨[x,.ref l],[]⟩)) _ _ s
 refine zza (wpAny_newList (zzb ⟨LB _ (by decide +kernel),om entry_list_iadd' ?_⟩))
 show wpAny (model prog w) _ (Builtin.List.listExtendWith (.ref s.heap.objs.size) (.ref l) (.ref s.heap.objs.size)) _ _ { s with heap:=s.heap.push (seqObj "list" #[] 0) }
 unfold Builtin.List.listExtendWith
 have sz:(((· ++ vs.toArray):Array Value->Array Value) #[]).size<=sizeLine+1:=by
  show(#[]++vs.toArray).size<=_
  rw[Array.size_append,ay]
  simp only[ay,fi]
  omega
 have tail:wpAny (model prog w) A (do
   let o <-load s.heap.objs.size
   match o.data with
   | .seq xs _=>pure xs.toList
   | _=>unsupported "internal:collect") Q E { s with heap:=(s.heap.push (seqObj "list" #[] 0)).update s.heap.objs.size (Obj.mapSeq (· ++ vs.toArray)) }:=by
  refine zza (wpAny_load (L7 e0 _) ?_)
  show wpAny (model prog w) A (pure ((#[]:Array Value)++vs.toArray).toList) Q E _
  rw[show((#[]:Array Value)++vs.toArray).toList=vs by simp]
  exact zzb h
 rcases hc with hc|hc
 ·refine zza (Ix (T := "list") ⟨o,ho',hc⟩ ?_)
  rw[ar (by rw[show(Value.type "list" == Value.type "list")=true from rfl];simp)]
  refine zza (LX ho' hd (zza (LX (xs:=#[]) (n:=0) e0 rfl ?_)))
  rw[au (by simp)]
  exact zza (LL (xs:=#[]) (n:=0) e0 rfl (zzb tail) (aw _) sz)
 ·refine zza (Ix (T := "tuple") ⟨o,ho',hc⟩ ?_)
  rw[ar (by rw[show(Value.type "tuple" == Value.type "tuple")=true from rfl];simp)]
  refine zza (LX ho' hd (zza (LX (xs:=#[]) (n:=0) e0 rfl ?_)))
  rw[au (by simp)]
  exact zza (LL (xs:=#[]) (n:=0) e0 rfl (zzb tail) (aw _) sz)
def dP(s:Shared)(vs:List Value):Shared:={ s with heap:=s.heap.push (seqObj "list" vs.toArray 0) }
theorem js{x:Value}{Q:zzj}(col:∀(E':zzj) (Q':List Value->Shared->Prop),(∀vs s2,(vs.length<64/\∃(κ:SortKind) (rk:Value->Int),
   (2<=vs.length->∀(E':zzj) (Q:SortKind->Shared->Prop),Q κ (mid (dP s2 vs) s2.heap.objs.size vs)->wpAny (model prog w) A.in1.in1 (keyKind' vs.toArray) Q E' (mid (dP s2 vs) s2.heap.objs.size vs)) /\
   (2<=vs.length->mq prog w A.in1.in1 (mid (dP s2 vs) s2.heap.objs.size vs) κ rk (pairsOf vs)) /\
   ∀out:Array Value,out.toList.Perm vs->out.toList.Pairwise (λx y=>rk x<=rk y)->Q (.ref s2.heap.objs.size) { s2 with heap:=sortedHeap (dP s2 vs).heap s2.heap.objs.size vs out })->Q' vs s2)->wpAny (model prog w) A.in1 (collect x) Q' E' s) :
  wpAny (model prog w) A (call (.builtin "sorted") [x]) Q E s:=by
 refine Calls.call_function_entry kind_sorted plain_sorted entry_sorted (args_sorted1 _) ?_
 unfold Builtin.«sorted»
 refine zza (m:=checkCount "sorted" 1 1 _) (zzb (zza (col _ _ λvs s2 ⟨hz,κ,rk,hk,hC,h⟩=>zza (wpAny_newList ?_))))
 have hg:(dP s2 vs).heap.get? s2.heap.objs.size=some (seqObj "list" vs.toArray 0):=zze _ rfl
 show wpAny _ _ _ _ _ (dP s2 vs)
 exact zza (ev (gs slot_list_sort ⟨_,hg,rfl⟩ entry_list_sort (AJ hg hz (λc=>hk c _) hC λout a1 a2=>⟨_,rfl,zzb ⟨_,rfl,h out a1 a2⟩⟩) (args_list_sort _)))
theorem qQ{h:Heap}{out:Array Value}{b:Addr}(hab:b≠a)(e:h.get? b=some o):(sortedHeap h a vs out).get? b=some o:=by
 have hlt:b<h.objs.size:=am e
 unfold sortedHeap
 rw[Lm _ _ _ _ hab,Go _ _ _ (by rw[LW,Ba];exact bi (se hlt)),Go _ _ _ (by rw[Ba];exact bi hlt),Lm _ _ _ _ hab]
 exact e
theorem uJ{h:Heap}{out:Array Value}(ho:h.get? a=some (seqObj "list" vs.toArray n)):∃e,(sortedHeap h a vs out).get? a=some (seqObj "list" out e):=by
 have hlt:a<h.objs.size:=am ho
 obtain⟨ep,e1⟩:∃ep,(h.update a (Obj.mapSeq λ_=>#[])).get? a=some (seqObj "list" #[] ep):=⟨_,L7 ho λ_=>#[]⟩
 unfold sortedHeap
 refine⟨_,L7 (n:=ep) (xs:=#[]) ?_ λ_=>out⟩
 rw[Go _ _ _ (by rw[LW,Ba];exact bi (se hlt)),Go _ _ _ (by rw[Ba];exact bi hlt)]
 exact e1
theorem CV{b:Addr}(e:s.heap.get? b=some o):(mid (dP s vs) s.heap.objs.size vs).heap.get? b=some o:=by
 have hlt:b<s.heap.objs.size:=am e
 unfold mid dP
 dsimp only
 rw[Go _ _ _ (by rw[LW,Ba,LW];exact bi (se (se hlt))),Go _ _ _ (by rw[Ba,LW];exact bi (se hlt)),Lm _ _ _ _ (bi hlt)]
 exact zzc _ e
end
end TS
namespace L4
open PySem PySem.Spec PyProof.Rows L2 L3
variable {α:Type}
section
open HT
theorem vc:∀a:List Int,lexLt a a=false
 | []=>rfl
 | x::a=>by rw[lexLt_cons,ar rfl];exact vc a
theorem wC:∀{a b c:List Int},lexLt a b=true->lexLt b c=true->lexLt a c=true
 | [],[],_,h,_=>by cases h
 | [],_::_,[],_,h=>by cases h
 | [],_::_,_::_,_,_=>rfl
 | _::_,[],_,h,_=>by cases h
 | _::_,_::_,[],_,h=>by cases h
 | x::a,y::b,z::c,h1,h2=>by
  rw[lexLt_cons]at h1 h2 ⊢
  by_cases e1:x=y
  ·by_cases e2:y=z
   ·rw[ar e1]at h1;rw[ar e2]at h2;rw[ar (e1.trans e2)]
    exact wC h1 h2
   ·rw[au e2,zzi]at h2
    rw[au (by omega),zzi];omega
  ·rw[au e1,zzi]at h1
   by_cases e2:y=z
   ·rw[au (by omega),zzi];omega
   ·rw[au e2,zzi]at h2
    rw[au (by omega),zzi];omega
theorem nL:∀{a b:List Int},lexLt a b=false->lexLt b a=false->a=b
 | [],[],_,_=>rfl
 | [],_::_,h,_=>by cases h
 | _::_,[],_,h=>by cases h
 | x::a,y::b,h1,h2=>by
  rw[lexLt_cons]at h1 h2
  by_cases e:x=y
  ·rw[ar e]at h1;rw[ar e.symm]at h2
   rw[e,nL h1 h2]
  ·rw[au e,kw]at h1
   rw[au (λz=>e z.symm),kw]at h2
   omega
theorem Ik{a b:List Int}(h:lexLt a b=true):lexLt b a=false:=by
 cases q:lexLt b a with
 | false=>rfl
 | true=>have:=wC h q;rw[vc]at this;cases this
end
theorem yJ{p q:α->Bool}{l:List α}{x:α}(h:∀y∈l,p y=true->q y=true)(hx:x∈l)(h1:p x=false)(h2:q x=true):l.countP p<l.countP q:=by
 induction l with
 | nil=>cases hx
 | cons y l ih =>
  have hm:∀z∈l,p z=true->q z=true:=λz hz=>h z (zzg _ hz)
  have le:l.countP p<=l.countP q:=List.countP_mono_left hm
  rw[List.countP_cons,List.countP_cons]
  rcases List.mem_cons.mp hx with rfl|hx
  ·rw[h1,h2];simp;omega
  ·have:=ih hm hx
   have hy:=h y ak
   cases e:p y with
   | false=>simp;omega
   | true=>rw[hy e];simp;omega
def rankOf{α:Type}(l:List α)(k:α->List Int)(x:α):Int:=(l.countP λu=>HT.lexLt (k u) (k x):Nat)
theorem qW{l:List α}{k:α->List Int}{x y:α}(hx:x∈l)(hy:y∈l):decide (rankOf l k x<rankOf l k y)=HT.lexLt (k x) (k y):=by
 have up:∀x y,x∈l->HT.lexLt (k x) (k y)=true->rankOf l k x<rankOf l k y:=λx y hx h=>by
  have:=yJ (p:=λu=>HT.lexLt (k u) (k x)) (q:=λu=>HT.lexLt (k u) (k y)) (l:=l) (λz _ hz=>wC hz h) hx (vc _) h
  unfold rankOf;omega
 cases e:HT.lexLt (k x) (k y)with
 | true=>exact ef (up x y hx e)
 | false =>
  rw[kw]
  intro z
  cases e2:HT.lexLt (k y) (k x)with
  | true=>have:=up y x hy e2;omega
  | false =>
   have ek:=nL e e2
   unfold rankOf at z
   rw[ek]at z
   omega
def vn:D->Bool
 | .tuple ds=>match intsOf ds with
  | some (_::_)=>true
  | _=>false
 | _=>false
def rF:D->Bool
 | .int _=>true
 | _=>false
def bR(ds:List D):Bool:=decide (ds.length<64)&&(ds.all rF||ds.all vn)
def keyD:D->List Int
 | .int i=>[i]
 | .tuple ds=>(intsOf ds).getD []
 | _=>[]
def leK(x y:D):Bool:=!HT.lexLt (keyD y) (keyD x)
def b8(ds:List D):List D:=ds.mergeSort leK
theorem cG(ds:List D):(b8 ds).Perm ds:=List.mergeSort_perm ds leK
theorem FS(x y z:D)(h1:leK x y=true)(h2:leK y z=true):leK x z=true:=by
 unfold leK at *
 rw[wT]at *
 cases e:HT.lexLt (keyD z) (keyD x)with
 | false=>rfl
 | true =>
  exfalso
  cases e2:HT.lexLt (keyD x) (keyD y)with
  | true=>have:=wC e e2;rw[h2]at this;cases this
  | false=>rw[nL e2 h1,h2]at e;cases e
theorem C4(x y:D):(leK x y||leK y x)=true:=by
 unfold leK
 cases e:HT.lexLt (keyD y) (keyD x)with
 | false=>rfl
 | true=>rw[Ik e];rfl
theorem gp(ds:List D):(b8 ds).Pairwise λx y=>leK x y=true:=List.pairwise_mergeSort FS C4 ds
theorem kE{R:D->D->Prop}:∀{a b:List D},(∀x∈b,∀y∈b,R x y->R y x->x=y)->a.Perm b->a.Pairwise R->b.Pairwise R->a=b
 | [],b,_,hp,_,_=>by simpa using hp.symm.eq_nil
 | x::r,b,hR,hp,ha,hb=>by
  cases b with
  | nil=>exact absurd hp.length_eq (by simp)
  | cons y t =>
   rw[Lu]at ha hb
   have hx:x∈y::t:=hp.mem_iff.mp ak
   have hy:y∈x::r:=hp.mem_iff.mpr ak
   have e:x=y:=by
    rcases List.mem_cons.mp hx with e|hx'
    ·exact e
    ·rcases List.mem_cons.mp hy with e|hy'
     ·exact e.symm
     ·exact hR x hx y ak (ha.1 y hy') (hb.1 x hx')
   subst e
   rw[kE (λx hx y hy=>hR x (zzg _ hx) y (zzg _ hy)) (List.Perm.cons_inv hp) ha.2 hb.2]
theorem iV{d:D}(h:vn d=true):∃n r,d=.tuple ((n::r).map PyData.int):=by
 unfold vn at h
 split at h
 ·rename_i ds
  split at h
  ·rename_i n r e;exact⟨n,r,by rw[bY e]⟩
  ·cases h
 ·cases h
theorem iU{d:D}(h:rF d=true):∃n,d=.int n:=by
 cases d<;>first|exact⟨_,rfl⟩|cases h
theorem C8{ds:List D}(h:bR ds=true):∀x∈ds,∀y∈ds,keyD x=keyD y->x=y:=λx hx y hy e=>by
 unfold bR at h
 rw[ac]at h
 replace h:=h.2
 rw[um,ir,ir]at h
 rcases h with h|h
 ·obtain⟨n,rfl⟩:=iU (h x hx)
  obtain⟨m,rfl⟩:=iU (h y hy)
  have e':[n]=[m]:=e
  injection e' with e'
  rw[e']
 ·obtain⟨n,r,rfl⟩:=iV (h x hx)
  obtain⟨m,t,rfl⟩:=iV (h y hy)
  have kt:∀l:List Int,keyD (.tuple (l.map PyData.int))=l:=λl=>by
   show(intsOf (l.map PyData.int)).getD []=l
   rw[nX];rfl
  rw[kt,kt]at e
  rw[e]
theorem mX{ds r:List D}(h:bR ds=true)(hp:r.Perm ds)(hs:r.Pairwise λx y=>leK x y=true):r=b8 ds :=
 kE (λx hx y hy h1 h2=>C8 h x ((cG ds).mem_iff.mp hx) y ((cG ds).mem_iff.mp hy) (by
  unfold leK at h1 h2
  rw[wT]at h1 h2
  exact nL h2 h1)) (hp.trans (cG ds).symm) hs (gp ds)
theorem Ad{β:Type}{f:α->β}:∀{out:List β} {l:List α},out.Perm (l.map f)->∃l':List α,l'.Perm l/\l'.map f=out:=by
 intro out l h
 generalize e:l.map f=m at h
 induction h generalizing l with
 | nil =>
  cases l with
  | nil=>exact⟨[],.refl _,rfl⟩
  | cons y l=>cases e
 | @cons x a b hp ih =>
  cases l with
  | nil=>cases e
  | cons y l =>
   rw[ax]at e
   injection e with e1 e2
   obtain⟨l',h1,h2⟩:=ih e2
   exact⟨y::l',h1.cons y,by rw[ax,h2,e1]⟩
 | @swap x y a =>
  match l,e with
  | u::v::l,e =>
   rw[ax,ax]at e
   injection e with e1 e2
   injection e2 with e2 e3
   exact⟨v::u::l,.swap _ _ _,by rw[ax,ax,e1,e2,e3]⟩
 | @trans a b c h1 h2 ih1 ih2 =>
  obtain⟨l1,p1,q1⟩:=ih2 e
  obtain⟨l2,p2,q2⟩:=ih1 q1
  exact⟨l2,p2.trans p1,q2⟩
end L4
namespace L4
open PySem PySem.Spec PyProof.Rows L2 L3 TS
theorem lH{prog:Program}{w:World}{A:Around}{s:Shared}{b fin:Bool}{Q:Bool->Shared->Prop}:∀{vs us:List Value} {ns ms:List Int} (i:Nat),IntsAre vs ns->IntsAre us ms->fin=decide (vs.length<us.length)->Q (HT.lexLt ns ms) s ->
  PySem.W.KatLex prog w A b fin Q (vs.zip us) i s
 | _,_,_,_,i,.nil,.nil,e,q=>by
  subst e
  exact q
 | _,_,_,_,i,.nil,.cons _ _ _,e,q=>by
  subst e
  exact q
 | _,_,_,_,i,.cons _ _ _,.nil,e,q=>by
  subst e
  exact q
 | _,_,_,_,i,.cons x t h1,.cons y u h2,e,q=>by
  rw[va]
  refine PySem.W.kat_cons (wpAny_eqBool_int ?_)
  rw[HT.lexLt_cons]at q
  by_cases c:x=y
  ·rw[ar c]at q
   rw[show(x==y)=true by simpa using c]
   exact PySem.W.kat_yes (lH (i+1) h1 h2 (by rw[e];simp) q)
  ·rw[au c]at q
   rw[show(x==y)=false by simpa using c]
   refine PySem.W.kat_no ?_
   cases hb:(b&&i==0)with
   | true=>exact oneLt_int q
   | false=>exact PySem.W.kat_one _ _ (lt_int q)
theorem triples{K:Fg}{F:Hp}:∀{vs:List V} {ds:List D} {its:List Value},RepL K F vs ds->Vals vs its->∃L:List (V×D×Value),L.map (·.1)=vs/\L.map (·.2.1)=ds/\L.map (·.2.2)=its/\∀t∈L,Rep K F t.1 t.2.1/\RelV t.1 t.2.2
 | _,_,_,.nil,r=>by cases r;exact⟨[],rfl,rfl,rfl,λ_ h=>by cases h⟩
 | _,_,_,.cons h t,r=>by
  cases r with
  | cons r rr =>
   obtain⟨L,e1,e2,e3,e4⟩:=triples t rr
   refine⟨(_,_,_)::L,by rw[ax,e1],by rw[ax,e2],by rw[ax,e3],λx hx=>?_⟩
   rcases List.mem_cons.mp hx with rfl|hx
   ·exact⟨h,r⟩
   ·exact e4 x hx
theorem sr{K:Fg}{F:Hp}:∀{L:List (V×D×Value)},(∀t∈L,Rep K F t.1 t.2.1/\RelV t.1 t.2.2)->RepL K F (L.map (·.1)) (L.map (·.2.1))/\Vals (L.map (·.1)) (L.map (·.2.2))
 | [],_=>⟨.nil,.nil⟩
 | x::L,h=>by
  obtain⟨h1,h2⟩:=h x ak
  obtain⟨h3,h4⟩:=sr (L:=L) λt ht=>h t (zzg _ ht)
  exact⟨.cons h1 h3,.cons h2 h4⟩
def zQ(K:Fg):List V->Hp->VK->Prop:=λxs H Q=>∃(G:Gh) (F:Hp) (Z:L2.St) (ρ:En) (x:V) (d:D) (ds:List D),xs=[x]/\StOk K G F Z H ρ/\OR K F H x d/\cn d=some ds/\bR ds=true /\
 ∀l vs,H l=none->RepL K F vs (b8 ds)->Q (.ref l) (upd H l (.lst vs))
def wY:List D->Option (List D)
 | [d]=>match cn d with
  | some ds=>if bR ds then some (b8 ds)else none
  | none=>none
 | _=>none
theorem AN{ds:List D}(h:bR ds=true):PyData.canLayAll0 ds=true:=by
 have all:∀l:List D,(∀d∈l,d.canLay0=true)->PyData.canLayAll0 l=true:=by
  intro l
  induction l with
  | nil=>intro _;simp[PyData.canLayAll0]
  | cons a l ih =>
   intro h
   simp only[PyData.canLayAll0,ac]
   exact⟨h a ak,ih λd hd=>h d (zzg _ hd)⟩
 refine all ds λd hd=>?_
 unfold bR at h
 rw[ac]at h
 replace h:=h.2
 rw[um,ir,ir]at h
 rcases h with h|h
 ·obtain⟨n,rfl⟩:=iU (h d hd)
  simp[PyData.canLay0]
 ·obtain⟨n,r,rfl⟩:=iV (h d hd)
  simp only[PyData.canLay0]
  refine all _ λd hd=>?_
  obtain⟨m,_,rfl⟩:=List.mem_map.mp hd
  simp[PyData.canLay0]
theorem lf{h:Heap}:∀{vs:List Value} {ns:List Int} {as:List Addr},ReadsAll h vs (ns.map PyData.int) as->IntsAre vs ns
 | _,[],_,r=>by rw[Ch]at r;cases r;exact .nil
 | _,n::ns,_,r=>by
  rw[ax]at r
  cases r with
  | cons a b =>
   cases a with
   | int i t=>exact .cons n t (lf b)
theorem all_ints:∀{ds:List D},ds.all rF=true->∃ns:List Int,ds=ns.map PyData.int
 | [],_=>⟨[],rfl⟩
 | d::ds,h=>by
  rw[KR,ac]at h
  obtain⟨n,rfl⟩:=iU h.1
  obtain⟨ns,rfl⟩:=all_ints h.2
  exact⟨n::ns,rfl⟩
theorem kF{X:Cx}{pins:zzk}{Z σ':L2.St}{H F:Hp}{s:Shared}{G:Gh}{ρ:En}{vs:List V}{ds:List D}{its:List Value}{Q:VK}(I:Inv X pins Z H s)(S:StOk X.K G F σ' H ρ)(rl:RepL X.K F vs ds)(rv:Vals vs its)(hz:vs.length<=sizeLine)(hok:bR ds=true)
  (k:∀l vs,H l=none->RepL X.K F vs (b8 ds)->Q (.ref l) (upd H l (.lst vs))):its.length<64/\∃(κ:SortKind) (rk:Value->Int),
   (2<=its.length->∀(E':zzj) (Q:SortKind->Shared->Prop),Q κ (mid (dP s its) s.heap.objs.size its)->wpAny (model X.prog X.w) X.A.in1.in1 (keyKind' its.toArray) Q E' (mid (dP s its) s.heap.objs.size its)) /\
   (2<=its.length->mq X.prog X.w X.A.in1.in1 (mid (dP s its) s.heap.objs.size its) κ rk (pairsOf its)) /\
   ∀out:Array Value,out.toList.Perm its->out.toList.Pairwise (λx y=>rk x<=rk y)->EP X pins Z Q (.ref s.heap.objs.size) { s with heap:=sortedHeap (dP s its).heap s.heap.objs.size its out }:=by
 have lay:=AN hok
 have I1:Inv X pins Z H (mid (dP s its) s.heap.objs.size its):=I.kept (t':=s.toks) λb o e=>CV e
 obtain⟨as,ra⟩:=(ca I1).2 (rl.mono S.fh) lay rv
 generalize hs1:mid (dP s its) s.heap.objs.size its=s1 at I1 ra
 have emap:its.map (SeqAt.readOf s1.heap)=ds:=SeqAt.readsAll_map ds _ _ lay ra
 let kf:Value->List Int:=λv=>keyD (SeqAt.readOf s1.heap v)
 have hmem:∀x,x∈(pairsOf its).toList->x.1∈its:=λx hx=>by
  rw[pairsOf_toList]at hx
  exact(mem_zip_self hx).2
 have hzl:its.length<=sizeLine:=by rw[<-rv.length];exact hz
 have fin:∀out:Array Value,out.toList.Perm its->out.toList.Pairwise (λx y=>rankOf its kf x<=rankOf its kf y)->EP X pins Z Q (.ref s.heap.objs.size) { s with heap:=sortedHeap (dP s its).heap s.heap.objs.size its out }:=λout o1 o2=>by
  obtain⟨L,e1,e2,e3,e4⟩:=triples rl rv
  rw[<-e3]at o1
  obtain⟨L',p1,p2⟩:=Ad o1
  have e4':∀t∈L',Rep X.K F t.1 t.2.1/\RelV t.1 t.2.2:=λt ht=>e4 t (p1.mem_iff.mp ht)
  have rd:∀t∈L',SeqAt.readOf s1.heap t.2.2=t.2.1:=λt ht=>by
   obtain⟨a1,a2⟩:=e4' t ht
   have:t.2.1∈ds:=by rw[<-e2];exact List.mem_map.mpr ⟨t,p1.mem_iff.mp ht,rfl⟩
   have al:∀l:List D,PyData.canLayAll0 l=true->∀d∈l,d.canLay0=true:=by
    intro l
    induction l with
    | nil=>intro _ d hd;cases hd
    | cons a l ih =>
     intro h d hd
     simp only[PyData.canLayAll0,ac]at h
     rcases List.mem_cons.mp hd with rfl|hd
     ·exact h.1
     ·exact ih h.2 d hd
   have hcl:=al ds lay _ this
   obtain⟨bs,rb⟩:=(ca I1).1 (a1.mono S.fh) hcl a2
   exact SeqAt.readOf_eq hcl rb
  obtain⟨u1,u2⟩:=sr e4'
  have es:L'.map (·.2.1)=b8 ds:=by
   refine mX hok (by rw[<-e2];exact p1.map _) ?_
   rw[<-p2,LK]at o2
   rw[LK]
   refine List.Pairwise.imp_of_mem (λ{x y} hx hy h=>?_) o2
   have mx:x.2.2∈its:=by rw[<-e3];exact List.mem_map.mpr ⟨x,p1.mem_iff.mp hx,rfl⟩
   have my:y.2.2∈its:=by rw[<-e3];exact List.mem_map.mpr ⟨y,p1.mem_iff.mp hy,rfl⟩
   have q:=qW (k:=kf) my mx
   rw[bu (by omega)]at q
   show(!HT.lexLt (keyD y.2.1) (keyD x.2.1))=true
   rw[<-rd x hx,<-rd y hy]
   show(!HT.lexLt (kf y.2.2) (kf x.2.2))=true
   rw[<-q];rfl
  rw[es]at u1
  rw[p2]at u2
  obtain⟨ep,he⟩:=uJ (out:=out) (show(dP s its).heap.get? s.heap.objs.size=some (seqObj "list" its.toArray 0)from zze _ rfl)
  refine⟨.ref s.heap.objs.size,upd H s.heap.objs.size (.lst (L'.map (·.1))),I.laid (t':=s.toks) (λb o q=>qQ (bi (am q)) (zzc _ q)) (ai _) ⟨?_,out.toList,ep,u2,?_⟩,rfl,k _ _ (I.hok.fresh (ai _)) u1⟩
  ·rw[u2.length,<-p2,zzd,p1.length_eq,<-zzd (f:=λt:V×D×Value=>t.2.2),e3];exact hzl
  ·exact he
 have h64:its.length<64:=by
  have h:=hok
  unfold bR at h
  rw[ac,zzi]at h
  rw[<-rv.length,rl.length];exact h.1
 have hok':=hok
 unfold bR at hok'
 rw[ac]at hok'
 replace hok':=hok'.2
 rw[um]at hok'
 rcases hok' with hI|hT
 ·obtain⟨ns,rfl⟩:=all_ints hI
  have ia:IntsAre its ns:=lf ra
  have kfi:∀{m:Int} {t:Tok},kf (.int m t)=[m]:=λ{m t}=>by
   show keyD (SeqAt.readOf s1.heap (.int m t))=[m]
   rw[SeqAt.readOf_eq (d:=.int m) (by simp[PyData.canLay0]) (.int m t)]
   rfl
  refine⟨h64,oneType',rankOf its kf,λh2 E' Q' q=>?_,λh2 x y hx hy E' Q' q=>?_,fin⟩
  ·match its,ia,h2,q with
   | v1::v2::rest,ia,_,q =>
    rw[keyKind_ints ia]
    exact zzb q
  ·have hx':=hmem x hx
   have hy':=hmem y hy
   rw[qW hx' hy']at q
   obtain⟨m1,t1,e1⟩:=ia.all _ hx'
   obtain⟨m2,t2,e2⟩:=ia.all _ hy'
   rw[e1,e2]at q ⊢
   rw[kfi,kfi]at q
   rw[keyLt'_oneType]
   refine oneLt_int ?_
   have:HT.lexLt [m1] [m2]=decide (m1<m2):=by
    rw[HT.lexLt_cons]
    split
    ·rename_i e;rw[e];simp[HT.lexLt_nil_nil]
    ·rfl
   rw[this]at q
   exact q
 ·rw[ir]at hT
  have each:∀v∈its,∃(a:Addr) (o:Obj) (xs:List Value) (n:Nat) (m:Int) (ms:List Int),v=.ref a/\s1.heap.get? a=some o/\o.cls=.type "tuple" /\ o.data=.seq xs.toArray n/\IntsAre xs (m::ms)/\kf v=m::ms:=λv hv=>by
   obtain⟨dv,bs,rd,hl,_⟩:=SeqAt.readsAll_mem ds its _ lay ra v hv
   have er:=SeqAt.readOf_eq hl rd
   have hin:dv∈ds:=by rw[<-emap,<-er];exact List.mem_map.mpr ⟨v,hv,rfl⟩
   obtain⟨m,ms,rfl⟩:=iV (hT dv hin)
   cases rd with
   | tuple g1 g2 g3 g4 =>
    rename_i a o vs' n
    refine⟨a,o,vs'.toList,n,m,ms,rfl,g1,g2,by rw[g3],lf g4,?_⟩
    show keyD (SeqAt.readOf s1.heap (.ref a))=_
    rw[er]
    show(intsOf ((m::ms).map PyData.int)).getD []=_
    rw[nX];rfl
  refine⟨h64,tuples' true,rankOf its kf,λh2 E' Q' q=>?_,λh2 x y hx hy E' Q' q=>?_,fin⟩
  ·have fs:∀l:List Value,(∀v∈l,v∈its)->∃fs:List Value,PySem.W.KatTups s1.heap l fs/\fs.length=l.length/\∀v∈fs,∃i t,v=.int i t:=by
    intro l
    induction l with
    | nil=>intro _;exact⟨[],trivial,rfl,λ_ h=>by cases h⟩
    | cons v l ih =>
     intro hl
     obtain⟨fs,f1,f2,f3⟩:=ih λv hv=>hl v (zzg _ hv)
     obtain⟨a,o,xs,n,m,ms,rfl,g1,g2,g3,g4,_⟩:=each v (hl v ak)
     cases g4 with
     | cons _ t g5 =>
      refine⟨.int m t::fs,PySem.W.KatTups.cons g1 g2 g3 (by simp) f1,by simp[f2],λv hv=>?_⟩
      rcases List.mem_cons.mp hv with rfl|hv
      ·exact⟨_,_,rfl⟩
      ·exact f3 v hv
   obtain⟨fs,f1,f2,f3⟩:=fs its λ_ h=>h
   refine PySem.W.kat_kind f1 (by omega) (T:=.type "int") (λv hv=>?_) rfl q
   obtain⟨i,t,rfl⟩:=f3 v hv
   exact PySem.W.Looks.now
  ·have hx':=hmem x hx
   have hy':=hmem y hy
   rw[qW hx' hy']at q
   obtain⟨a1,o1,xs1,n1,m1,ms1,e1,g1,g2,g3,g4,g5⟩:=each _ hx'
   obtain⟨a2,o2,xs2,n2,m2,ms2,e2,k1,k2,k3,k4,k5⟩:=each _ hy'
   rw[g5,k5]at q
   rw[e1,e2]
   refine PySem.W.kat_lt g1 g3 k1 k3 ?_
   have:=lH (prog:=X.prog) (w:=X.w) (A:=X.A.in1.in1) (b:=true) (Q:=Q') 0 g4 k4 rfl q
   simpa using this
theorem yN{X:Cx}:CallR X (.builtin "sorted") (zQ X.K):=by
 intro pins s Z H xs us Q I r h0
 obtain⟨G,F,σ',ρ,x,d,ds,rfl,S,ho,hd,hok,k⟩:=h0
 obtain⟨u,rfl,ru⟩:=L2.Vals.one r
 have hseq:∃(p:Addr) (o:Obj) (n:Nat) (vs:List V) (its:List Value),u=.ref p/\s.heap.get? p=some o/\(o.cls=.type "list" \/ o.cls=.type "tuple")/\o.data=.seq its.toArray n/\Vals vs its/\vs.length<=sizeLine/\RepL X.K F vs ds:=by
  cases d with
  | list es =>
   cases hd
   obtain⟨a,vs,rfl,h1,h2⟩:=ho.list S.fh
   cases ru
   obtain⟨its,rv,pl,hz⟩:=I.list h1
   obtain⟨o,e1,e2,n,e3⟩:=pl.isList
   exact⟨a,o,n,vs,its,rfl,e1,.inl e2,e3,rv,hz,h2⟩
  | tuple es =>
   cases hd
   obtain⟨a,vs,rfl,h1,h2⟩:=ho.tuple S.fh
   cases ru
   obtain⟨its,rv,⟨o,e1,e2,n,e3⟩,hz⟩:=I.tuple h1
   exact⟨a,o,n,vs,its,rfl,e1,.inr e2,e3,rv,hz,h2⟩
  | _=>cases hd
 obtain⟨p,o,n,vs,its,rfl,hp,hcl,hdat,rv,hz,rl⟩:=hseq
 have I2:Inv X pins Z H { s with heap:=(s.heap.push (seqObj "list" #[] 0)).update s.heap.objs.size (Obj.mapSeq (· ++ its.toArray)) }:=I.kept (t':=s.toks) λb o e=>by
  have hlt:b<s.heap.objs.size:=am e
  rw[Lm _ _ _ _ (bi hlt)]
  exact zzc _ e
 exact js λE' Q' q=>Dt hp hcl hdat (by rw[<-rv.length];exact hz) (q _ _ (kF I2 S rl rv hz hok k))
theorem CM{K:Fg}:qM K (zQ K) wY:=by
 intro G F Z H ρ xs ds res Q S o e k
 unfold wY at e
 split at e
 ·rename_i d
  split at e
  ·rename_i es hes
   split at e
   ·rename_i hok
    cases e
    obtain⟨v,r,rfl,ho,hr⟩:=bn o
    obtain rfl:=bF hr
    refine⟨G,F,Z,ρ,v,d,es,rfl,S,ho,hes,hok,λl vs hl rp=>?_⟩
    obtain⟨S2,r2⟩:=S.newLst hl rp
    exact k _ F _ (Same.refl _) S2 r2
   ·cases e
  ·cases e
 ·cases e
end L4
namespace TS
open PySem PyProof.Rows
variable {es:Array DictEntry}{ep:Nat}
def DR(h:Heap)(d:Addr)(es:Array DictEntry)(ep:Nat):Prop:=∃o,h.get? d=some o/\o.ExactDict/\o.data=.dict es ep
theorem DR.ty{s:Shared}{d:Addr}(x:DR s.heap d es ep):s.TypeIs (.ref d) "dict":=let ⟨o,e,c,_⟩:=x;⟨o,e,c.1⟩
theorem DR.kp{h h':Heap}{d:Addr}(x:DR h d es ep)(k:∀o,h.get? d=some o->h'.get? d=some o):DR h' d es ep:=let ⟨o,e,r⟩:=x;⟨o,k o e,r⟩
section
variable {prog:Program} {w:World} {A:Around} {E:zzj} {s:Shared} {d it:Addr} {i:Nat}
theorem Dg{Q:zzj}(lo:(d==sysModules)=false)(x:DR s.heap d es ep)(q:Q (.ref s.heap.objs.size) { s with heap:=s.heap.push { cls:=.type "dict_keyiterator",data:=.fields #[.ref d,.int 0 0,.int es.size 0,.int ep 0] } }) :
  wpAny (model prog w) A (pyIter (.ref d)) Q E s:=by
 obtain⟨o,e1,e2,e3⟩:=id x
 refine wpAny_pyIter_slot x.ty F.slot_dict_iter (gs F.slot_dict_iter x.ty F.entry_dict_iter ?_ (F.args_dict_iter_1 _))
 unfold Builtin.«dict.__iter__»
 refine zza ?_
 unfold Builtin.Dict.dictSlotNone
 refine zza (K9 x.ty (show wpAny (model prog w) _ (pure (Value.ref d)) _ _ s from zzb ?_))
 refine(show wpAny (model prog w) _ (Builtin.Dict.showsAll d >>= _) _ _ s from ?_)
 unfold Builtin.Dict.showsAll
 rw[au (by rw[lo];decide)]
 refine zza (zzb (zza (LI e1 e3 (zza (wpAny_dictEpoch e1 e3 (zza (sd (zzb ⟨_,rfl, "dict_keyiterator",_,⟨_,zze _ rfl,rfl⟩,F.slot_dict_keyiterator_next.lookup,?_⟩))))))))
 simpa[rawInt]using q
theorem wA{n:Nat}{Q:Option Value->Shared->Prop}(hit:s.heap.IsKeyIter it d i es.size ep)(x:DR s.heap d es ep)
  (q1:∀(hi:i<es.size) (h':Heap),h'.IsKeyIter it d (i+1) es.size ep->Heap.SameBut it s.heap h'->Q (some es[i].key) { s with heap:=h' })
  (q2:es.size<=i->A.handled=none/\∀h',Heap.ExtBut it s.heap h'->Q none { s with heap:=h' }):wpAny (model prog w) A (pyNext (.ref it)) Q E s:=by
 obtain⟨o,ho,hc,hd⟩:=id hit
 obtain⟨od,f1,f2,f3⟩:=id x
 have T:=hit.typeIs
 have no:Builtin.Dict_items.ownsTuple "dict_keyiterator" = false:=by decide
 have pos:¬ ((i:Int)<0):=by omega
 unfold pyNext
 refine zza (Ks (gt (name:=Str.ofString "__next__") T F.slot_dict_keyiterator_next (gs F.slot_dict_keyiterator_next T F.entry_dict_keyiterator_next ?_ (F.args_dict_keyiterator_next_1 _))))
 refine zza (zzb (zza (zza (zza (Lf T (zzb (zza (wpAny_fieldsOf ho hd ?_))))))))
 simp only[no,tu,Cn]
 refine(show wpAny (model prog w) _ (if(Value.ref d==Value.none)=true then _ else _) _ _ s from ?_)
 rw[au (show ¬ ((Value.ref d==Value.none)=true)from λz=>Bool.noConfusion z)]
 refine zza (zzb (zza (LI f1 f3 ?_)))
 rw[au (by simp)]
 refine zza (zzb (zza (wpAny_dictEpoch f1 f3 ?_)))
 rw[au (by simp)]
 refine zzb ?_
 by_cases hi:i<es.size
 ·simp only[pos,Cn,Er,bj hi]
  refine zza (zza (Lf T (zzb (zza (wpAny_isOneOf_keyiter T ?_)))))
  refine(show wpAny (model prog w) _ (setField (.ref it) 1 (rawInt ((i:Int)+1)) >>= _) _ _ s from zza (Kl ho hd (by simp) ?_))
  have hit':(s.heap.update it (Obj.mapFields (·.setIfInBounds 1 (rawInt ((i:Int)+1))))).IsKeyIter it d (i+1) es.size ep :=
   ⟨_,lu _ ho (ye (io hd _)),(KG ..).trans hc,by rw[io hd];simp[rawInt]⟩
  refine zza (ev (zza (wpAny_isOneOf_keyiter (s:={ s with heap:=s.heap.update it (Obj.mapFields (·.setIfInBounds 1 (rawInt ((i:Int)+1)))) }) hit'.typeIs ?_)))
  refine(show wpAny (model prog w) _ (pure es[i].key) _ _ _ from zzb (zzb ⟨_,rfl,zzb (q1 hi _ hit' (Heap.SameBut.update ..))⟩))
 ·obtain⟨hh,q⟩:=q2 (by omega)
  simp only[pos,Cn,Er,ua (show es.size<=i by omega)]
  refine zza (zza (Lf T (zzb ?_)))
  refine(show wpAny (model prog w) _ (setField (.ref it) 0 .none >>= _) _ _ s from zza (Kl ho hd (by simp) ?_))
  refine(show wpAny (model prog w) _ (newExc (.type "StopIteration") [] >>= _) _ _ _ from zza ?_)
  simp only[newExc,newTuple]
  refine zza (sd ?_ (by size_fits))
  refine zza (m:=firstArgMember _ _) (wpAny_of_eq (a:=Value.none) (by first|rfl|(simp only[firstArgMember];rfl)) ?_)
  refine sd ?_ (by size_fits)
  simp only[raiseNew]
  refine zza (wpAny_handled ?_)
  rw[show A.in1.handled=none from hh]
  refine zza (zzb (wpAny_throw ?_))
  refine zza (Kh (T := "StopIteration") (b:=true) (by exact⟨_,zze _ rfl,rfl⟩) Ls ?_)
  exact zzb (q _ (((Heap.SameBut.update ..).extBut.push _).push _))
theorem sF(lo:(d==sysModules)=false):PySem.W.KdlSrc prog w "dict" d d es.size (λi v=>∃e,es[i]? = some e/\v=e.key) (λh=>DR h d es ep) where
 type:=λ_ x=>x.ty
 there:=λh x=>let ⟨_,e,_⟩:=x;⟨am e,am e⟩
 keep:=λ_ _ x k=>x.kp λo e=>k d (.inl rfl) o e
 notList:=by decide
 notTuple:=by decide
 hint:=λ_ _ _ _ x q=>PySem.W.kdl_hint_dict x.ty q
 iter:=λA s hh x=>by
  have hne:d≠s.heap.objs.size:=by obtain⟨_,e,_⟩:=x;exact bi (am e)
  refine⟨_,λi h=>h.IsKeyIter s.heap.objs.size d i es.size ep/\DR h d es ep,λE Q q=>Dg lo x q,⟨?_,?_,?_,?_,?_⟩,⟨_,zze _ rfl,rfl,rfl⟩,x.kp λo e=>zzc _ e⟩
  ·intro b hb
   rw[List.mem_singleton.mp hb]
   exact ak
  ·intro i h h' st k
   exact⟨st.1.at λo e=>k _ ak o e,st.2.kp λo e=>k d (by simp) o e⟩
  ·intro i s1 Q E hi st q
   refine wA (n:=0) st.1 st.2 (λhi h' a1 a2=>q _ h' s1.toks ⟨_,bj hi,rfl⟩ ⟨a1,st.2.kp λo e=>a2.extBut d o hne e⟩ λb o hb e=>a2.extBut b o (λz=>hb (by simp[z])) e) λz=>absurd hi (by omega)
  ·intro s1 Q E st q
   exact wA (n:=0) st.1 st.2 (λhi=>absurd hi (ug _)) λ_=>⟨hh,λh' a=>q h' s1.toks λb o hb e=>a b o (λz=>hb (by simp[z])) e⟩
  ·intro i s1 Q E st q
   exact wpAny_pyIter_keyiter st.1 q
end
end TS
namespace L4
open PySem PySem.Spec PyProof.Rows L2 L3 TS
variable {K:Fg}{X:Cx}{G:Gh}{F H:Hp}{Z:L2.St}{ρ:En}{w:World}
theorem _root_.L3.StOk.seeT(S:StOk K G F Z H ρ){b:Addr}{vs:List V}{ds:List D}(hb:H b=some (.tup vs))(r:RepL K F vs ds):∃F',Same F F'/\StOk K G F' Z H ρ/\Rep K F' (.ref b) (.tuple ds):=by
 cases e:F b with
 | some o =>
  have:=S.fh b o e
  rw[hb]at this
  cases this
  exact⟨F,Same.refl _,S,.tup e r⟩
 | none =>
  have og:G.O b=none:=by
   cases q:G.O b with
   | none=>rfl
   | some o =>
    have:=S.oh b o q
    rw[hb]at this
    cases this
    exact((S.fo b _ q).2:False).elim
  refine⟨upd F b (.tup vs),dm e,S.freeze hb e og (λi c ho z=>?_),.tup aS (r.mono (dm e))⟩
  obtain⟨a,e1,oa⟩:=S.ow i c ho
  rw[z]at e1
  injection e1 with e1;injection e1 with e1;injection e1 with e1
  subst e1
  exact(oa.he.notup hb:False)
theorem Ce:∀k:Key,Rep K F (kV k) (L3.keyD k)
 | .inl i=>.int i
 | .inr x=>.str x
theorem nj{K:Fg}{F:Hp}:∀ks:List Key,RepL K F (ks.map kV) (ks.map L3.keyD)
 | []=>.nil
 | k::ks=>.cons (Ce k) (nj ks)
theorem zw:∀{kvs:List (List Key×V)} {xs:List (List Key×Addr×Value)} {F:Hp},KT H kvs xs->StOk K G F Z H ρ ->
  ∃F',Same F F'/\StOk K G F' Z H ρ/\RepL K F' (xs.map λq=>V.ref q.2.1) (kvs.map λp=>nR p.1)/\Vals (xs.map λq=>V.ref q.2.1) (xs.map λq=>Value.ref q.2.1):=by
 intro kvs xs F r S
 induction r generalizing F with
 | nil=>exact⟨F,Same.refl _,S,.nil,.nil⟩
 | @cons p q ps qs h t ih =>
  obtain⟨h1,h2,h3⟩:=h
  obtain⟨F1,s1,S1,r1⟩:=S.seeT h2 (nj p.1)
  obtain⟨F2,s2,S2,r2,v2⟩:=ih S1
  exact⟨F2,s1.trans s2,S2,.cons (r1.mono s2) r2,.cons rfl v2⟩
theorem zI{P:Program}{k:Key}{u:Value}(r:(aO P w).is k u=true):RelV (kV k) u:=by
 rcases bH (k:=k) (v:=u) r with ⟨i,t,rfl,rfl⟩|⟨i,t,rfl,rfl⟩
 ·exact⟨t,rfl⟩
 ·exact⟨t,rfl⟩
theorem uD{P:Program}:∀{es:List DictEntry} {vs:List (Key×Value)},Pairs (aO P w) es vs->Vals (vs.map λp=>kV p.1) (es.map (·.key)):=by
 intro es vs r
 induction r with
 | nil=>exact .nil
 | cons a b _ ih=>exact .cons (zI a) ih
theorem wF{κ:Type}{kvs:List (κ×V)}{vs:List (κ×Value)}(r:KV kvs vs):Vals (kvs.map (·.2)) (vs.map (·.2))/\kvs.map (·.1)=vs.map (·.1):=by
 unfold KV at r
 induction r with
 | nil=>exact⟨.nil,rfl⟩
 | cons h t ih=>exact⟨.cons h.2 ih.1,by rw[ax,ax,h.1,ih.2]⟩
theorem qr{pins:zzk}{σ':L2.St}{s:Shared}{x:V}{es:List (D×D)}(I:Inv X pins Z H s)(S:StOk X.K G F σ' H ρ)(ho:OR X.K F H x (.dict es))(hnx:ja es=false) :
  ∃a F' vs ds ep,x=.ref a/\Same F F'/\StOk X.K G F' σ' H ρ/\(a==sysModules)=false/\DR s.heap a ds ep/\ds.size<=sizeLine/\vs.length=ds.size/\Vals vs (ds.toList.map (·.key))/\RepL X.K F' vs (es.map (·.1)):=by
 obtain⟨a,rfl,⟨kvs,h1,h2,h3⟩|⟨kvs,h1,h2,h3⟩⟩:=ho.dict S.fh hnx
 ·obtain⟨z,y,xs,kt,o,ds,ep,e1,e2,e3,e4,_⟩:=t9 I.hok h1
  obtain⟨F',s1,S1,r1,v1⟩:=zw kt S
  have el:ds.size=kvs.length:=by
   rw[<-be,e4,zzd]
   have:=r1.length
   rw[zzd,zzd]at this
   exact this
  refine⟨a,F',_,ds,ep,rfl,s1,S1,y,⟨o,e1,e2,e3⟩,by omega,?_,?_,by rw[h2];exact r1⟩
  ·rw[zzd,el]
   have:=r1.length
   rw[zzd,zzd]at this
   exact this
  ·rw[e4,ib]
   exact v1
 ·obtain⟨z,y,vs,kv,o,ds,ep,e1,e2,e3,e4,e5,_⟩:=qq I.hok h1
  obtain⟨_,ek⟩:=wF kv
  have vp:=uD e5
  have el:ds.size=kvs.length:=by
   have:=vp.length
   simp only[zzd,be]at this
   have e:=congrArg List.length ek
   rw[zzd,zzd]at e
   omega
  refine⟨a,F,kvs.map λp=>kV p.1,ds,ep,rfl,Same.refl _,S,y,⟨o,e1,e2,e3⟩,by omega,by rw[zzd];omega,?_,?_⟩
  ·have e:=congrArg (List.map kV) ek
   rw[ib,ib]at e
   have e':kvs.map (λp=>kV p.1)=vs.map (λp=>kV p.1):=e
   rw[e']
   exact vp
  ·rw[h2]
   have e:kvs.map (λp=>kV p.1)=(kvs.map (·.1)).map kV:=by rw[ib];rfl
   have e':kvs.map (λp=>L3.keyD p.1)=(kvs.map (·.1)).map L3.keyD:=by rw[ib];rfl
   rw[e,e']
   exact nj _
theorem nU{ds:Array DictEntry}{acc:Array Value}(h:ItemsOf (λi v=>∃e,ds[i]? = some e/\v=e.key) acc ds.size):acc.toList=ds.toList.map (·.key):=by
 apply K7
 intro j
 rw[ic,ik,ic]
 cases q:acc[j]? with
 | some v =>
  obtain⟨e,e1,rfl⟩:=h.2 j v q
  rw[e1];rfl
 | none =>
  have:ds.size<=j:=by rw[<-h.1];exact Array.getElem?_eq_none_iff.mp q
  rw[ua this];rfl
def uS(K:Fg):List V->Hp->VK->Prop:=λxs H Q=>∃(G:Gh) (F:Hp) (Z:L2.St) (ρ:En) (x:V) (es:List (D×D)),xs=[x]/\StOk K G F Z H ρ/\OR K F H x (.dict es)/\ja es=false /\
 ∀l vs F',H l=none->Same F F'->StOk K G F' Z H ρ->RepL K F' vs (es.map (·.1))->Q (.ref l) (upd H l (.lst vs))
theorem vK(hc:X.calm=true):CallR X (.type "list") (uS X.K):=by
 intro pins s Z H xs us Q I r h0
 obtain⟨G,F,σ',ρ,x,es,rfl,S,ho,hnx,k⟩:=h0
 obtain⟨u,rfl,ru⟩:=L2.Vals.one r
 obtain⟨a,F',vs,ds,ep,rfl,s1,S1,lo,dr,hz,hl,rv,rl⟩:=qr I S ho hnx
 cases ru
 refine PySem.W.kdl_call (sF lo) (I.ok.hd hc) dr hz λh' tk acc c kp e it=>?_
 refine⟨.ref s.heap.objs.size,upd H s.heap.objs.size (.lst vs),I.laid (t':=tk) kp (ai _) ⟨by rw[hl];exact hz,acc.toList,c,by rw[nU it];exact rv,by rw[Array.toArray_toList];exact e⟩,rfl,k _ _ _ (I.hok.fresh (ai _)) s1 S1 rl⟩
def lg:List D->Option (List D)
 | [.dict es]=>if ja es then none else some (es.map (·.1))
 | l=>wZ l
theorem vL(hc:X.calm=true):CallR X (.type "list") (λxs H Q=>(∃p ys,xs=[.ref p]/\(SqL X.K H p ys\/SqT X.K H p ys)/\∀l,H l=none->Q (.ref l) (upd H l (.lst ys)))\/uS X.K xs H Q):=CallR.or rQ (vK hc)
theorem Ap:qM K (λxs H Q=>(∃p ys,xs=[.ref p]/\(SqL K H p ys\/SqT K H p ys)/\∀l,H l=none->Q (.ref l) (upd H l (.lst ys)))\/uS K xs H Q) lg:=by
 intro G F Z H ρ xs ds res Q S o e k
 by_cases hd:∃es,ds=[.dict es]
 ·obtain⟨es,rfl⟩:=hd
  cases hnx:ja es with
  | true=>simp[lg,hnx]at e
  | false =>
  have e:some (es.map (·.1))=some res:=by simpa[lg,hnx]using e
  cases e
  obtain⟨v,r,rfl,ho,hr⟩:=bn o
  obtain rfl:=bF hr
  refine .inr ⟨G,F,Z,ρ,v,es,rfl,S,ho,hnx,λl vs F' hl s1 S1 rp=>?_⟩
  obtain⟨S2,r2⟩:=S1.newLst hl rp
  exact k _ F' _ s1 S2 r2
 ·have e':wZ ds=some res:=by
   rw[<-e]
   unfold lg
   split
   ·rename_i es;exact absurd ⟨es,rfl⟩ hd
   ·rfl
  exact .inl (CO G F Z H ρ xs ds res Q S o e' k)
theorem uk{prog:Program}{A:Around}{E:zzj}{s:Shared}{T:String}{r d:Addr}{n:Nat}{P:Nat->Value->Prop}{OK:Heap->Prop}{Q:List Value->Shared->Prop}(K:PySem.W.KdlSrc prog w T r d n P OK)(hh:A.handled=none)(hok:OK s.heap)(hn:n<=sizeLine)
  (q:∀h' tk acc,(∀b o,s.heap.get? b=some o->h'.get? b=some o)->ItemsOf P acc n->Q acc.toList { s with heap:=h',toks:=tk }):wpAny (model prog w) A (collect (.ref r)) Q E s:=by
 have hlt:=K.there _ hok
 have e0:(s.heap.push (seqObj "list" #[] 0)).get? s.heap.objs.size=some (seqObj "list" #[] 0):=zze _ rfl
 have key:∀R:Result->Shared->Prop,(∀h' tk acc c,(∀b o,s.heap.get? b=some o->h'.get? b=some o)->h'.get? s.heap.objs.size=some { cls:=.type "list",dict:=none,data:=.seq acc c,slots:=#[] }->ItemsOf P acc n->R (.ok (.ret (.ref s.heap.objs.size))) { s with heap:=h',toks:=tk }) ->
   codeAny (model prog w) A (.builtin "proto.collect" ⟨[.ref r],[]⟩) R s:=λR hR=>by
  refine om entry_proto_collect' ?_
  rw[ny PySem.F.plain_proto_collect _]
  show wpAny (model prog w) A.in1 (newList [] >>= λx=>again (.builtin "list.__iadd__" ⟨[x,.ref r],[]⟩)) _ _ s
  refine zza (wpAny_newList (zzb ⟨LB _ (by decide +kernel),om entry_list_iadd' ?_⟩))
  rw[ny PySem.F.plain_list_iadd _]
  show wpAny (model prog w) A.in1 (Builtin.List.listExtendWith (.ref s.heap.objs.size) (.ref r) (.ref s.heap.objs.size)) _ _ { s with heap:=s.heap.push (seqObj "list" #[] 0) }
  exact PySem.W.kdl_extend (s:={ s with heap:=s.heap.push (seqObj "list" #[] 0) }) K hh (K.keep _ _ hok λb _ o e=>zzc _ e) _ (li hlt.1) (li hlt.2) _ 0 e0 (λh' tk acc c kp e it=>hR h' tk acc c (λb o z=>kp b o (bi (am z)) (zzc _ z)) e it) hn
 unfold collect
 refine zza (wpAny_runValue (key _ λh' tk acc c kp e it=>?_))
 show wpAny (model prog w) A (load s.heap.objs.size >>= _) _ _ _
 exact zza (wpAny_load e (zzb (q h' tk acc kp it)))
def zP(K:Fg):List V->Hp->VK->Prop:=λxs H Q=>zQ K xs H Q\/∃(G:Gh) (F:Hp) (Z:L2.St) (ρ:En) (x:V) (es:List (D×D)),xs=[x]/\StOk K G F Z H ρ/\OR K F H x (.dict es)/\ja es=false/\bR (es.map (·.1))=true /\
 ∀l vs F',H l=none->Same F F'->StOk K G F' Z H ρ->RepL K F' vs (b8 (es.map (·.1)))->Q (.ref l) (upd H l (.lst vs))
theorem cH(hc:X.calm=true):CallR X (.builtin "sorted") (zP X.K):=by
 intro pins s Z H xs us Q I r h0
 rcases h0 with h0|⟨G,F,σ',ρ,x,es,rfl,S,ho,hnx,hok,k⟩
 ·exact yN pins s Z H xs us Q I r h0
 obtain⟨u,rfl,ru⟩:=L2.Vals.one r
 obtain⟨a,F',vs,ds,ep,rfl,s1,S1,lo,dr,hz,hl,rv,rl⟩:=qr I S ho hnx
 cases ru
 refine js λE' Q' q=>uk (sF lo) (I.ok.hd hc) dr hz λh' tk acc kp it=>q _ _ ?_
 have I2:Inv X pins Z H { s with heap:=h',toks:=tk }:=I.kept (t':=tk) kp
 refine kF I2 S1 rl (by rw[nU it];exact rv) (by rw[hl];exact hz) hok λl vs hl rp=>k l vs F' hl s1 S1 rp
def cS:List D->Option (List D)
 | [.dict es]=>if ja es then none else if bR (es.map (·.1))then some (b8 (es.map (·.1)))else none
 | l=>wY l
theorem eF:qM K (zP K) cS:=by
 intro G F Z H ρ xs ds res Q S o e k
 by_cases hd:∃es,ds=[.dict es]
 ·obtain⟨es,rfl⟩:=hd
  cases hnx:ja es with
  | true=>simp[cS,hnx]at e
  | false =>
  have e':(if bR (es.map (·.1))then some (b8 (es.map (·.1)))else none)=some res:=by simpa[cS,hnx]using e
  split at e'
  ·rename_i hok
   cases e'
   obtain⟨v,r,rfl,ho,hr⟩:=bn o
   obtain rfl:=bF hr
   refine .inr ⟨G,F,Z,ρ,v,es,rfl,S,ho,hnx,hok,λl vs F' hl s1 S1 rp=>?_⟩
   obtain⟨S2,r2⟩:=S1.newLst hl rp
   exact k _ F' _ s1 S2 r2
  ·cases e'
 ·have e':wY ds=some res:=by
   rw[<-e]
   unfold cS
   split
   ·rename_i es;exact absurd ⟨es,rfl⟩ hd
   ·rfl
  exact .inl (CM G F Z H ρ xs ds res Q S o e' k)
end L4
namespace L4
open PySem PySem.Spec PyProof.Rows L2 L3
variable {X:Cx}{x:Str}{A:Around}{E:zzj}{o:Obj}{K:Fg}{a:Addr}{n:NK}{u:Value}{y:V}{j:Nat}
section
variable {prog:Program} {w:World} {s:Shared}
theorem u6(d:Addr)(hd:(d==sysModules)=false) :
  MeetsIn prog w (Builtin.«dict.__len__» ⟨[.ref d],[]⟩) (λ_ R s=>∃o es ep,s.heap.get? d=some o/\o.data=.dict es ep/\R (.ok (.ret (.int es.size s.toks))) { s with toks:=s.toks+1 }) :=
 .of_wp λA R s ⟨o,es,ep,ho,hdat,h⟩=>by
  show wpAny _ _ (dictSize d >>= _) _ _ s
  unfold dictSize
  refine zza (zza (LI ho hdat (zzb ?_)))
  show wpAny _ _ (Builtin.Dict.pendingCount d >>= _) _ _ s
  refine zza (wpAny_pendingCount_other hd ?_)
  refine wpAny_ret_mkInt ?_
  rw[Nat.add_zero];exact h
theorem oJ{d:Addr}{es:Array DictEntry}{ep:Nat}{Q:zzj}(hd:(d==sysModules)=false)(ho:s.heap.get? d=some o)(hc:o.cls=.type "dict")(hdat:o.data=.dict es ep)(hfit:(es.size:Int)<2^63)
  (h:Q (.int es.size (s.toks+1)) { s with toks:=s.toks+1+1 }):wpAny (model prog w) A (call (.builtin "len") [.ref d]) Q E s:=by
 have ty:s.TypeIs (.ref d) "dict":=⟨o,ho,hc⟩
 refine Calls.call_function_entry kind_len plain_len entry_len (args_len1 _) ?_
 unfold Builtin.«len»
 refine zza (m:=oneArg "len" _) (zzb ?_)
 refine zza (m:=callSpecial? (.ref d) (Str.ofString "__len__")) (gt (name:=Str.ofString "__len__") ty F.slot_dict_len
  (Kf F.slot_dict_len ty F.entry_dict_len (F.args_dict_len_1 _) (u6 d hd) ⟨o,es,ep,ho,hdat,?_⟩))
 show wpAny _ _ _ _ _ { s with toks:=s.toks+1 }
 refine zza (ev (zzb ?_))
 refine zza (wpAny_letGo ?_)
 show wpAny _ _ (if((es.size:Nat):Int)<0 then _ else _) _ _ _
 rw[au (by lia)]
 show wpAny _ _ (if((es.size:Nat):Int)>=2^63 then _ else _) _ _ _
 rw[au (by lia)]
 exact zza (wpAny_mkInt (zzb ⟨_,rfl,h⟩))
end
def Ed:List V->Hp->VK->Prop:=λxs H Q=>∃a n,xs=[.ref a]/\((∃kvs,H a=some (.dT kvs)/\n=kvs.length)\/∃kvs,H a=some (.dK kvs)/\n=kvs.length)/\Q (.int (n:Nat)) H
theorem yV:CallR X (.builtin "len") Ed:=by
 intro pins s Z H xs us Q I r h0
 obtain⟨a,n,rfl,hd,q⟩:=h0
 obtain⟨u,rfl,ru⟩:=L2.Vals.one r
 cases ru
 rcases hd with ⟨kvs,e,rfl⟩|⟨kvs,e,rfl⟩
 ·obtain⟨z,lo,xs,kt,o,es,ep,h1,h2,h3,h4,_⟩:=t9 I.hok e
  have el:es.size=kvs.length:=by
   rw[<-be,h4,zzd]
   exact(Paired.length kt).symm
  refine oJ lo h1 h2.1 h3 (by rw[el];rw[KH]at z;lia) ?_
  rw[el]
  exact⟨.int _,H,I.tok _,⟨_,rfl⟩,q⟩
 ·exact IS I (.inl e) λt s' I'=>⟨.int _,H,I',⟨_,rfl⟩,q⟩
def Ee(K:Fg):List V->Hp->VK->Prop:=λxs H Q=>Fm K xs H Q\/Ed xs H Q
theorem qB:CallR X (.builtin "len") (Ee X.K):=CallR.or aY yV
theorem wy:iM K (Ee K) t6:=by
 intro G F Z H ρ xs ds res Q S o e k
 unfold t6 at e
 split at e
 ·rename_i es
  split at e
  ·cases e
  ·rename_i nx
   cases e
   obtain⟨v,r,rfl,ho,hr⟩:=bn o
   obtain rfl:=bF hr
   obtain⟨a,rfl,hh⟩:=ho.dict S.fh (by simpa using nx)
   refine .inr ⟨a,es.length,rfl,?_,k _ F H (Same.refl _) S (.int _)⟩
   rcases hh with ⟨kvs,h1,h2,_⟩|⟨kvs,h1,h2,_⟩
   ·exact .inl ⟨kvs,h1,by have:=congrArg List.length h2;simpa using this⟩
   ·exact .inr ⟨kvs,h1,by have:=congrArg List.length h2;simpa using this⟩
 ·exact .inl (bT G F Z H ρ xs ds res Q S o e k)
def nv(o:Obj)(n:NK)(u v:Value):Obj:=Obj.mapDictKeys (·.push ⟨n.hash,u,v⟩) o
theorem _root_.L3.NumO.push{xs:List (NK×Value×Value)}{t:Tok}(N:NumO a o xs)(hn:n∉xs.map (·.1))(hl:xs.length<sizeLine) :
  NumO a (nv o n u (.int xs.length t)) (xs++[(n,u,.int xs.length t)]):=by
 obtain⟨h1,h2,⟨es,ep,h3,h4⟩,h5,h6,h7⟩:=N
 refine⟨h1,h2.mapDictKeys _,⟨_,ep+1,KI h3 _,?_⟩,?_,by simp;lia,?_⟩
 ·simp[h4,nkE]
 ·rw[eg,Kn]
  refine⟨h5,by simp,λa ha b hb=>?_⟩
  simp only[ax,Ch,Lx]at hb
  subst hb
  exact λe=>hn (e▸ha)
 ·intro i x hx
  by_cases c:i<xs.length
  ·rw[di c]at hx;exact h7 i x hx
  ·rw[re (by lia)]at hx
   have:i - xs.length=0:=by
    by_cases c2:i - xs.length=0
    ·exact c2
    ·obtain⟨m,e⟩:∃m,i - xs.length=m+1:=⟨i - xs.length - 1,by lia⟩
     rw[e]at hx;simp at hx
   rw[this]at hx
   simp at hx
   subst hx
   have:i=xs.length:=by lia
   exact⟨t,by rw[this]⟩
def Ec:List V->Hp->VK->Prop:=λxs H Q=>∃a o ys,xs=[.ref a]/\H a=some (.obj o)/\NumO a o ys/\Q (.int (ys.length:Nat)) H
theorem yU:CallR X (.builtin "len") Ec:=by
 intro pins s Z H xs us Q I r h0
 obtain⟨a,o,ys,rfl,ho,N,q⟩:=h0
 obtain⟨u,rfl,ru⟩:=L2.Vals.one r
 cases ru
 have e:=(show ObjOk X.prog X.w H s.heap a (.obj o)from I.hok _ _ ho)
 obtain⟨h1,h2,⟨es,ep,h3,h4⟩,_,h6,_⟩:=N
 have el:es.size=ys.length:=by rw[<-be,h4,zzd]
 refine oJ h1 e h2.1 h3 (by rw[el];rw[KH]at h6;lia) ?_
 rw[el]
 exact⟨.int _,H,I.tok _,⟨_,rfl⟩,q⟩
section
variable {P:Program} {w:World} {s:Shared}
theorem xg{d:Addr}{key dflt:Value}{Q:zzj}(hd:(d==sysModules)=false)(T:s.TypeIs (.ref d) "dict")(h:∀E,wpAny (model P w) A.in1 (dictSetDefault d key dflt) Q E s) :
  wpAny (model P w) A (call (.builtin "dict.setdefault") [.ref d,key,dflt]) Q E s :=
 Kf (S:=λA R s=>s.TypeIs (.ref d) "dict" /\ ∀E,wpAny (model P w) A.in1 (dictSetDefault d key dflt) (λv s'=>R (.ok (.ret v)) s') E s) PySem.F.slot_dict_setdefault T PySem.F.entry_dict_setdefault (PySem.F.args_dict_setdefault_3 _ _ _) (.of_wp λA R s ⟨T,h⟩=>by
  unfold Builtin.«dict.setdefault»
  refine zza ?_
  unfold Builtin.Dict.keyAndDefault
  refine zza (K9 T ?_)
  show wpAny _ _ (pure (d,key,some dflt)) _ _ s
  refine zzb ?_
  show wpAny _ _ (if(d==sysModules)=true then _ else(dictSetDefault d key dflt >>= _)) _ _ s
  rw[au (by rw[hd];exact pi)]
  exact zza (Kr (h _) (λv s' q=>zzb ⟨v,rfl,q⟩) λ_ _ e=>e)) ⟨T,λE=>h E⟩
end
section
variable {pins:zzk} {Z:L2.St} {H:Hp} {s:Shared} {z:V} {r:Value} {Q:VK}
theorem IR{kvs:List (Key×V)}{k:Key}(I:Inv X pins Z H s)(e:H a=some (.dK kvs))(ry:RelV (kV k) u)(rz:RelV z r)
  (q1:∀v,eX kvs k=some v->Q v H) (q2:eX kvs k=none->kvs.length<sizeLine/\Q z (upd H a (.dK (putK kvs k z)))) :
  wpAny (model X.prog X.w) A (call (.builtin "dict.setdefault") [.ref a,u,r]) (L2.EP X pins Z Q) E s:=by
 obtain⟨z0,hd,vs,rel,dd⟩:=qq I.hok e
 have T:=dd.typeIs
 obtain⟨o,es,ep,ho,hc,hdat,hk,hp,hn⟩:=dd
 have hes:es.size=kvs.length:=by
  have e1:=hp.length
  have e2:es.toList.length=es.size:=by simp
  have e3:=rel.length
  lia
 have ei:(es.findIdx? λe=>(aO X.prog X.w).is k e.key)=es.toList.findIdx? λe=>(aO X.prog X.w).is k e.key:=by obtain⟨l⟩:=es;simp
 refine xg hd T λE=>D3 (hs:=(aO X.prog X.w).hash k) (m:=1) (j:=es.findIdx? λe=>(aO X.prog X.w).is k e.key) ho hdat (by lia) (λQ q=>(aO X.prog X.w).pyHash (fg ry) q)
  (λQ q=>wpAny_dictFind_of (s:={ s with toks:=s.toks+1 }) (fg ry) ho hdat hk q) (λi hi=>?_) λhi=>?_
 ·rw[ei]at hi
  obtain⟨en,h1,_,h3⟩:=hp.at hi
  have rv:=rel.val k
  rw[h3]at rv
  cases hv:eX kvs k with
  | none=>rw[hv]at rv;exact rv.elim
  | some v =>
   rw[hv]at rv
   refine⟨en,by simpa using h1,v,H,I.tok _,rv,q1 v hv⟩
 ·rw[ei]at hi
  have hidx:(vs.findIdx? λkv=>decide (kv.1=k))=none:=by rw[<-hp.findIdx k];exact hi
  have hnot:=not_mem_of_findIdx_none hidx
  have hany:¬ (vs.any λkv=>decide (kv.1=k))=true:=by
   rw[List.any_eq_true];rintro⟨kv,hkv,he⟩
   exact hnot (List.mem_map.mpr ⟨kv,hkv,of_decide_eq_true he⟩)
  have hv:eX kvs k=none:=by
   have h1:=rel.any k
   have h2:=mS k kvs
   rw[h1]at h2
   cases hq:eX kvs k with
   | none=>rfl
   | some v=>rw[hq]at h2;exact absurd h2 hany
  obtain⟨hl,q⟩:=q2 hv
  have hl2:(putK kvs k z).length<=sizeLine:=by have:=dw kvs k z;lia
  have nw:(s.heap.update a (Obj.mapDictKeys (·.push ⟨(aO X.prog X.w).hash k,u,r⟩))).DictOf (aO X.prog X.w) a (stored vs k r):=by
   refine⟨_,_,ep+1,lu _ ho (Obj.isFreed_of_dict (KI hdat _)),hc.mapDictKeys _,KI hdat _,hk.push (fg ry) _,?_,?_⟩
   ·rw[stored,au hany]
    have:=hp.append (fg ry) ((aO X.prog X.w).hash k) r
    obtain⟨l⟩:=es
    simpa using this
   ·rw[stored,au hany,eg,Kn]
    refine⟨hn,by simp,λa ha b hb=>?_⟩
    simp only[ax,Ch,Lx]at hb
    subst hb
    exact λe=>hnot (e▸ha)
  have he:∃q,(s.heap.update a (Obj.mapDictKeys (·.push ⟨(aO X.prog X.w).hash k,u,r⟩))).get? a=some q:=let ⟨q,_,_,hq,_⟩:=nw;⟨q,hq⟩
  exact⟨z,_,iZ I (by rw[e];exact True.intro) (Heap.SameBut.update ..) he (vC hl2 hd (rel.put k rz) nw),rz,q⟩
theorem IQ{xs:List (NK×Value×Value)}(hu:A.units+4<cLine)(I:Inv X pins Z H s)(e:H a=some (.obj o))(N:NumO a o xs)(ks:∀x∈xs,KeyAt H x.1 x.2.1)(hk:KeyAt H n u)(rz:RelV z r)
  (ka:(xs.all λx=>x.1.isB==n.isB)=true)
  (q1:∀i,cP (xs.map (·.1)) n=some i->Q (.int (i:Nat)) H) (q2:cP (xs.map (·.1)) n=none->Q z (upd H a (.obj (nv o n u r)))) :
  wpAny (model X.prog X.w) A (call (.builtin "dict.setdefault") [.ref a,u,r]) (L2.EP X pins Z Q) E s:=by
 have ho:=(show ObjOk X.prog X.w H s.heap a (.obj o)from I.hok _ _ e)
 have N0:=N
 obtain⟨h1,h2,⟨es,ep,h3,h4⟩,h5,h6,h7⟩:=N0
 have el:es.size=xs.length:=by rw[<-be,h4,zzd]
 refine xg h1 ⟨o,ho,h2.1⟩ λE=>?_
 obtain⟨m,hh⟩:=Au (E:=E) (s:=s) (A:=A.in1) (P:=X.prog) (w:=X.w) (by show A.units+1+3<cLine;lia) (hk.is I.hok)
 refine D3 (hs:=n.hash) (m:=m) (j:=cP (xs.map (·.1)) n) ho h3 (by lia) hh
  (λQ q=>Av (s:={ s with toks:=s.toks+m }) (by show A.units+1+3<cLine;lia) ho N (λx hx=>(ks x hx).is I.hok) (hk.is I.hok) ka q) (λi hi=>?_) λhi=>?_
 ·have hlt:i<xs.length:=by
   unfold cP at hi
   have:=(List.findIdx?_eq_some_iff_getElem.mp hi).1
   simpa using this
  have hx:xs[i]? = some xs[i]:=de hlt
  obtain⟨t,et⟩:=h7 i _ hx
  have hes:es.toList[i]? = some (nkE xs[i]):=by rw[h4,ik,hx];rfl
  refine⟨nkE xs[i],by simpa using hes,.int i,H,I.tok _,?_,q1 i hi⟩
  exact⟨t,et⟩
 ·exact⟨z,upd H a (.obj (nv o n u r)),iZ (ob:=.obj (nv o n u r)) I (by rw[e];exact True.intro) (Heap.SameBut.update ..) ⟨_,lu _ ho (Obj.isFreed_of_dict (KI h3 _))⟩ (show(s.heap.update a (Obj.mapDictKeys (·.push ⟨n.hash,u,r⟩))).get? a=some (nv o n u r)from lu _ ho (Obj.isFreed_of_dict (KI h3 _))),rz,q2 hi⟩
end
def G1(H:Hp)(a:Addr):Prop:=IsD H a\/∃o xs,H a=some (.obj o)/\NumO a o xs
theorem Di{pins:zzk}{Z:L2.St}{H:Hp}{s:Shared}(I:Inv X pins Z H s)(d:G1 H a) :
  s.TypeIs (.ref a) "dict" /\ (∀b,Value.ref a=.ref b->∃ob,s.heap.get? b=some ob/\ob.dict=none):=by
 rcases d with d|⟨o,xs,e,N⟩
 ·obtain⟨h1,h2,_⟩:=vv I d;exact⟨h1,h2⟩
 ·have ho:=(show ObjOk X.prog X.w H s.heap a (.obj o)from I.hok _ _ e)
  exact⟨⟨o,ho,N.2.1.1⟩,λb q=>by cases q;exact⟨o,ho,N.2.1.2.1⟩⟩
def SdK(H:Hp)(a:Addr)(y z:V)(Q:VK):Prop:=∃kvs k,H a=some (.dK kvs)/\y=kV k/\(∀v,eX kvs k=some v->Q v H)/\(eX kvs k=none->kvs.length<sizeLine/\Q z (upd H a (.dK (putK kvs k z))))
def SdN(H:Hp)(a:Addr)(y z:V)(Q:VK):Prop:=∃o xs n,H a=some (.obj o)/\NumO a o xs/\(∀x∈xs,KeyAt H x.1 x.2.1)/\(∀u,RelV y u->KeyAt H n u)/\(xs.all λx=>x.1.isB==n.isB)=true /\
 (∀i,cP (xs.map (·.1)) n=some i->Q (.int (i:Nat)) H)/\(cP (xs.map (·.1)) n=none->∀u r,RelV y u->RelV z r->Q z (upd H a (.obj (nv o n u r))))
def tSd(td ty tx:TE):TE:=λZ H Q=>td Z H λx H1=>∃a,x=.ref a/\G1 H1 a/\ty Z H1 λy H2=>tx Z H2 λz H3=>SdK H3 a y z Q\/SdN H3 a y z Q
section
variable {o e f:Expr} {apos cpos:Pos} {td ty tx:TE}
theorem Ek(hu:X.A.units+4<cLine)(ho:PE X o td)(he:PE X e ty)(hf:PE X f tx)(m:M2 X o "setdefault" apos e f cpos):PE X (.Call (.Attribute o "setdefault" apos) [e,f] [] cpos) (tSd td ty tx):=by
 intro pins s Z H Q I h
 refine wpAny_Call_method m.base m.few m.line KW PySem.F.slot_dict_setdefault PySem.F.type_dict_setdefault (thn (ho pins s Z H _ I h) λu s1 ⟨x,H1,I1,rx,a,ex,d,q1⟩=>?_)
 subst ex
 obtain rfl:u=Value.ref a:=rx
 obtain⟨t1,t2⟩:=Di I1 d
 refine⟨t1,t2,?_⟩
 rw[m.trees]
 refine Kg rfl (KM (ve (thn (he pins s1 Z H1 _ I1 q1) λiv s2 ⟨y,H2,I2,ry,q2⟩ =>
  ve (thn (hf pins s2 Z H2 _ I2 q2) λfv s3 ⟨z,H3,I3,rz,q3⟩=>Kp ?_))))
 rcases q3 with ⟨kvs,k,h1,rfl,h2,h3⟩|⟨o,xs,n,h1,h2,h3,h4,h5,h6,h7⟩
 ·exact IR I3 h1 ry rz h2 h3
 ·exact IQ hu I3 h1 h2 h3 (h4 _ ry) rz h5 h6 λc=>h7 c _ _ ry rz
end
def rowsOf:List D->Option (List (List Int))
 | []=>some []
 | .tuple l::r=>match intsOf l,rowsOf r with
  | some i,some is=>some (i::is)
  | _,_=>none
 | _=>none
def yl:D->Option NK
 | .bool b=>some (.b b)
 | .tuple [.int p,.tuple rs]=>match rowsOf rs with
  | some l=>some (.t p l)
  | none=>none
 | _=>none
section
variable {F:Hp}
theorem zH{ns:List Int}(r:Rep K F y (.tuple (ns.map PyData.int))):∃b,y=.ref b/\F b=some (.tup (ns.map V.int)):=by
 obtain⟨b,vs,rfl,h1,h2⟩:=r.tup_inv
 have:vs=ns.map V.int:=by
  clear h1 r
  induction ns generalizing vs with
  | nil=>cases h2;rfl
  | cons n ns ih=>cases h2 with|cons q t=>cases q;rw[ih _ t];rfl
 exact⟨b,rfl,this▸h1⟩
theorem zG:∀{rs:List D} {l:List (List Int)} {vs:List V},rowsOf rs=some l->RepL K F vs rs->∃bs,vs=bs.map V.ref/\Paired (λr b=>F b=some (.tup (r.map V.int))) l bs:=by
 intro rs
 induction rs with
 | nil=>intro l vs e r;cases e;cases r;exact⟨[],rfl,.nil⟩
 | cons d rs ih =>
  intro l vs e r
  cases d with
  | tuple t =>
   dsimp only[rowsOf]at e
   split at e
   case h_2=>cases e
   rename_i i is h1 h2
   cases e
   rw[bY h1]at r
   cases r with
   | cons q r =>
    obtain⟨b,rfl,hb⟩:=zH q
    obtain⟨bs,rfl,hp⟩:=ih h2 r
    exact⟨b::bs,rfl,.cons hb hp⟩
  | _=>cases e
theorem EB{d:D}(r:Rep K F y d)(e:yl d=some n)(ru:RelV y u):KeyAt F n u:=by
 unfold yl at e
 split at e
 ·cases e;cases r;exact ru
 ·split at e
  case h_2=>cases e
  rename_i p rs _ l hl
  cases e
  obtain⟨c,vs,rfl,h1,h2⟩:=r.tup_inv
  cases h2 with
  | cons q1 t =>
   cases t with
   | cons q2 t2 =>
    cases t2
    cases q1
    obtain⟨b,vs2,rfl,h3,h4⟩:=q2.tup_inv
    obtain⟨bs,rfl,hp⟩:=zG hl h4
    exact⟨c,b,bs,ru,h1,h3,hp⟩
 ·cases e
end
def CD(ρ:En)(j:Nat):Option (List NK):=match ρ[j]? with
 | some (some (.ol (.n ns)))=>some ns
 | _=>none
theorem sQ{ρ:En}{ns:List NK}(h:CD ρ j=some ns):ρ[j]? = some (some (.ol (.n ns))):=by
 unfold CD at h
 split at h
 ·rename_i q;cases h;exact q
 ·cases h
def Aw(ns:List NK)(d:D):Option (D×List NK):=match yl d with
 | some n=>if decide (ns.length<sizeLine)&&(ns.all λm=>m.isB==n.isB)then some (match cP ns n with
   | some i=>(.int (i:Nat),ns)
   | none=>(.int (ns.length:Nat),ns++[n]))else none
 | none=>none
def sdD(es:List (D×D))(d z:D):Option (D×List (D×D)):=if dg d&&decide (es.length<sizeLine)then some (match e6 es d with
  | some v=>(v,es)
  | none=>(z,lQ es d z))else none
section
variable {S:Type}
def Ij(j:Nat)(me:Ev S D):Ev S D:=λx k ρ=>match CD ρ j with
 | some _=>me x (λd ρ1=>match CD ρ1 j with
  | some ns=>(oM (Aw ns d)).on (λe=>x e ρ1) (λp=>k p.1 (ρ1.set j (some (.ol (.n p.2)))))
  | none=>.bad) ρ
 | none=>.bad
def mSd(i:Nat)(me mf:Ev S D):Ev S D:=λx k ρ=>match uW ρ i with
 | some _=>me x (λd ρ1=>mf x (λz ρ2=>match uW ρ2 i with
  | some (false,es)=>(oM (sdD es d z)).on (λe=>x e ρ2) (λp=>k p.1 (ρ2.set i (some (.ol (.k p.2)))))
  | _=>.bad) ρ1) ρ
 | none=>.bad
def zB(i:Nat):SM S:=λK ρ=>match jf ρ i with
 | true=>K.nx (ρ.set i (some (.ol (.n []))))
 | false=>.bad
variable {e f:Expr} {me mf:Ev S D} {p p2 pos pos' tpos apos cpos lpos:Pos}
theorem set_same{ρ:En}{a:Option AV}(h:ρ[j]? = some a):ρ.set j a=ρ:=by
 apply K7
 intro i
 by_cases c:i=j
 ·subst c
  rw[ut (List.getElem?_eq_some_iff.mp h).1,h]
 ·rw[ss (Ne.symm c)]
theorem GS(hu:X.A.units+1100<cLine)(hN:X.N[j]? = some x)(hv:Vis X.env.scope x)(he:AE X e me)(hg:Gl X "len")(hm:X.mg "len" = none)
  (m:M2 X (.Name x p) "setdefault" apos e (.Call (.Name "len" lpos) [.Name x p2] [] tpos) cpos)
  (hd:(x==("__debug__" : Str))=false:=by decide) (hcd:(x==("__classdict__" : Str))=false:=by decide) (hs:starEach [.Name x p2] X.env=[(false,eval (.Name x p2) X.env)]:=by rfl) :
  AE X (.Call (.Attribute (.Name x p) "setdefault" apos) [e,.Call (.Name "len" lpos) [.Name x p2] [] tpos] [] cpos) (Ij j me) :=
 λOK xx k G F Z H ρ Q hO hX St ok kk=>sem (Ek (by lia) (dH hN hv hd hcd) aN (jM yU hg hm (show bootBuiltins "len" = some (.builtin "len") by decide +kernel) (gz (dH hN hv hd hcd) kQ hs) (by decide) (by decide) hs rfl) m) (by
  unfold Ij at ok
  split at ok
  case h_2=>exact(hO ok).elim
  rename_i ns0 h0
  obtain⟨a,ea,oa⟩:=St.ow j _ (.inl (sQ h0))
  obtain⟨o0,xs0,g1,g2,_⟩:=(show Held X.K F H a (.n ns0)from oa.he)
  refine⟨_,ea,a,rfl,.inr ⟨o0,xs0,g1,g2⟩,he OK xx _ G F Z H ρ _ hO hX St ok λd y F1 H1 ρ1 s1 S1 r1 o1=>?_⟩
  split at o1
  case h_2=>exact(hO o1).elim
  rename_i ns h1
  obtain⟨q,hq,o2⟩:=cy hO o1
  have hown:=sQ h1
  obtain⟨a',ea',oa'⟩:=S1.ow j _ (.inl hown)
  rw[ea]at ea'
  injection ea' with ea';injection ea' with ea';injection ea' with ea'
  subst ea'
  obtain⟨o,xs,g1,g2,g3,g4⟩:=(show Held X.K F1 H1 a (.n ns)from oa'.he)
  unfold Aw at hq
  split at hq
  case h_2=>cases hq
  rename_i n hn
  split at hq
  case isFalse=>cases hq
  rename_i hc
  rw[ac,zzi]at hc
  subst g3
  refine⟨_,ea,?_⟩
  unfold Hc
  show Ec [V.ref a] H1 (λz H3=>SdK H3 a y z Q\/SdN H3 a y z Q)
  refine⟨a,o,xs,rfl,g1,g2,.inr ⟨o,xs,n,g1,g2,λx m=>(g4 x m).mono S1.fh,λu ru=>(EB r1 hn ru).mono S1.fh,?_,λi hi=>?_,λhi u r ru rr=>?_⟩⟩
  ·have:=hc.2
   rw[List.all_map]at this
   exact this
  ·rw[hi]at hq
   cases hq
   rw[set_same hown]at o2
   exact kk _ _ F1 H1 ρ1 s1 S1 (.int _) o2
  ·rw[hi]at hq
   cases hq
   obtain⟨t,rfl⟩:=(show ∃t,r=Value.int xs.length t from rr)
   have nn:n∉xs.map (·.1):=λhm=>by
    unfold cP at hi
    have:=List.findIdx?_eq_none_iff.mp hi n hm
    simp at this
   have S2:=S1.change (.inl hown) ea (c':=.n (xs.map (·.1)++[n])) (o:=.obj (nv o n u (.int xs.length t))) ⟨_,_,aS,g2.push nn (by simpa using hc.1),by simp,λx m=>by
    rcases List.mem_append.mp m with m|m
    ·exact g4 x m
    ·rw[Lx]at m;subst m;exact EB r1 hn ru⟩
   rw[hown]at S2
   refine kk _ _ F1 _ _ s1 S2 ?_ o2
   simp only[zzd]
   exact .int _)
theorem EO(hu:X.A.units+1100<cLine){i:Nat}(hN:X.N[i]? = some x)(hv:Vis X.env.scope x)(he:AE X e me)(hf:AE X f mf)(m:M2 X (.Name x p) "setdefault" apos e f cpos)
  (hd:(x==("__debug__" : Str))=false:=by decide) (hcd:(x==("__classdict__" : Str))=false:=by decide) :
  AE X (.Call (.Attribute (.Name x p) "setdefault" apos) [e,f] [] cpos) (mSd i me mf) :=
 λOK xx k G F Z H ρ Q hO hX St ok kk=>sem (Ek (by lia) (dH hN hv hd hcd) aN aN m) (by
  unfold mSd at ok
  split at ok
  case h_2=>exact(hO ok).elim
  rename_i te0 h0
  obtain⟨t0,es0⟩:=te0
  obtain⟨a,ea,oa⟩:=St.ow i _ (.inl (iq h0))
  have hdn:G1 H a:=by
   cases t0 with
   | true=>obtain⟨kvs,g,_⟩:=(show Held X.K F H a (.t es0)from oa.he);exact .inl (.inr ⟨kvs,.inl g⟩)
   | false=>obtain⟨kvs,g,_⟩:=(show Held X.K F H a (.k es0)from oa.he);exact .inl (.inl ⟨kvs,.inl g⟩)
  refine⟨_,ea,a,rfl,hdn,he OK xx _ G F Z H ρ _ hO hX St ok λd y F1 H1 ρ1 s1 S1 r1 o1=>?_⟩
  refine hf OK xx _ G F1 Z H1 ρ1 _ hO hX S1 o1 λz zv F2 H2 ρ2 s2 S2 r2 o2=>?_
  split at o2
  case h_2=>exact(hO o2).elim
  rename_i es hds
  obtain⟨q,hq,o3⟩:=cy hO o2
  unfold sdD at hq
  split at hq
  case isFalse=>cases hq
  rename_i hc
  rw[ac,zzi]at hc
  have hown:ρ2[i]? = some (some (.ol (.k es))):=iq hds
  obtain⟨a',ea',oa'⟩:=S2.ow i _ (.inl hown)
  rw[ea]at ea'
  injection ea' with ea';injection ea' with ea';injection ea' with ea'
  subst ea'
  obtain⟨kvs,h1,h2,h3⟩:=(show Held X.K F2 H2 a (.k es)from oa'.he)
  obtain⟨ks,rfl⟩:=d4 hc.1
  obtain rfl:=fV r1
  have hlen:kvs.length=es.length:=by have:=congrArg List.length h2;simpa using this.symm
  refine .inl ⟨kvs,ks,h1,rfl,λv hv=>?_,λhv=>⟨by lia,?_⟩⟩
  ·rcases j9 lc ks h2 h3 with ⟨d,v',e1,e2,e3⟩|⟨e1,e2⟩
   ·rw[hv]at e2;cases e2
    rw[e1]at hq
    cases hq
    rw[set_same hown]at o3
    exact kk d v F2 H2 ρ2 (s1.trans s2) S2 e3 o3
   ·rw[hv]at e2;cases e2
  ·rcases j9 lc ks h2 h3 with ⟨d,v',e1,e2,e3⟩|⟨e1,e2⟩
   ·rw[hv]at e2;cases e2
   ·rw[e1]at hq
    cases hq
    obtain⟨p1,p2⟩:=jL lc ks r2 h2 h3
    have S3:=S2.change (.inl hown) ea (c':=.k (lQ es (L3.keyD ks) z)) (o:=.dK (putK kvs ks zv)) ⟨_,aS,p1,p2⟩
    rw[hown]at S3
    exact kk z zv F2 _ _ (s1.trans s2) S3 r2 o3)
def lj:Obj:={ cls:=.type "dict",data:=.dict #[] }
def E2:TE:=λ_ H Q=>∀p,H p=none->(p==sysModules)=false->Q (.ref p) (upd H p (.obj lj))
theorem Ai:PE X (.Dict [] [] pos) E2:=λpins s Z H Q I h =>
 wpAny_Dict_empty ⟨.ref s.heap.objs.size,_,I.laid (a:=s.heap.objs.size) (o:=.obj lj) (t':=s.toks) (λ_ _ q=>zzc _ q) (ai _) (show(s.heap.push lj).get? s.heap.objs.size=some lj from zze _ rfl),rfl,
  h _ (I.hok.fresh (ai _)) (by have:=I.big;rw[beq_eq_false_iff_ne];exact li this)⟩
theorem BJ{i:Nat}(hN:X.N.Nodup)(hi:X.N[i]? = some x)(hx:Loc X.env.scope x)(hs:swapsWith (.Dict [] [] tpos) (some (.Name x pos')) pos.line X.env=pure false)(hf:X.fn x=true\/X.env.scope.names.lookup x=some .local) :
  AS (S:=S) X (.Assign [.Name x pos'] (.Dict [] [] tpos) pos) (zB i):=λOK K G F Z H ρ E hO hX St ok eo=>by
 unfold zB at ok
 split at ok
 case h_2=>exact(hO ok).elim
 rename_i ho
 obtain⟨hl,hop⟩:=dq ho
 exact gv (jw hN hi hx Ai hs hf) λp hp hpm=>eo.nx F _ _ _ (Same.refl _) ((St.lay (o:=.obj lj) hp).store hop hl (.inr ⟨.n [],rfl,p,rfl,⟨St.fh.free hp,St.oh.free hp,lj,[],aS,⟨hpm,⟨rfl,rfl,rfl⟩,⟨#[],_,rfl,rfl⟩,.nil,aw _,λ_ _ h=>by simp at h⟩,rfl,λ_ m=>nomatch m⟩,St.fresh_ne hp⟩)) ok
end
section
variable {α:Type} {l:List α}
theorem ln0(h:l.length=0):l=[]:=List.eq_nil_of_length_eq_zero h
theorem lnS{n:Nat}(h:l.length=n+1):∃a t,l=a::t/\t.length=n :=
 List.recOn (motive:=λl=>l.length=n+1->∃a t,l=a::t/\t.length=n) l (λh=>(Nat.succ_ne_zero n h.symm).elim) (λa t _ h=>⟨a,t,rfl,Nat.succ.inj h⟩) h
theorem ln1(h:l.length=1):∃a,l=[a]:=by obtain⟨a,t,e,q⟩:=lnS h;exact⟨a,by rw[e,ln0 q]⟩
theorem ln2(h:l.length=2):∃a b,l=[a,b]:=by obtain⟨a,t,rfl,q⟩:=lnS h;obtain⟨b,rfl⟩:=ln1 q;exact⟨a,b,rfl⟩
theorem ln3(h:l.length=3):∃a b c,l=[a,b,c]:=by obtain⟨a,t,rfl,q⟩:=lnS h;obtain⟨b,c,rfl⟩:=ln2 q;exact⟨a,b,c,rfl⟩
theorem ln4(h:l.length=4):∃a b c d,l=[a,b,c,d]:=by obtain⟨a,t,rfl,q⟩:=lnS h;obtain⟨b,c,d,rfl⟩:=ln3 q;exact⟨a,b,c,d,rfl⟩
end
section
variable {h:Heap} {mg:zzl} {qual:Str} {st:Stmt} {f T:Addr} {oc:Value} {od an:Option Addr} {osl:Array (Option Value)} {kV doc pm cdv ct:Value}
def Fa(K:Fg)(x:Str)(st:Stmt):Prop:=∃f fd,PySem.W.nsIn K mainGlobals x=some (some (.ref f))/\Fun K x x st f fd
theorem cL(a:PySem.W.nsIn K mainGlobals x=some (some (.ref f)))(l:K.lookup f=some ⟨oc,od,.func (PySem.W.fnOf x x (dY st) (cp st) (aI st) .none kV doc pm an cdv ct),osl⟩)
  (c:PySem.W.codeIn K cdv x=true) (k:PySem.W.keepIn K (.ref f)=true):Fa K x st:=⟨f,_,a,Gk l c k⟩
def Iz:Option (Option Value)->Bool
 | some none=>true
 | _=>false
theorem IT{l:List Str}(X:K.In h)(G:h.Ns mainGlobals mg)(z:(l.all λx=>Iz (PySem.W.nsIn K mainGlobals x))=true):∀x∈l,mg x=none:=λx hx=>by
 have q:=List.all_eq_true.mp z x hx
 generalize e:PySem.W.nsIn K mainGlobals x=o at q
 match o,q with
 | some none,_=>exact PySem.W.mg_none_of X G e
end
end L4
namespace WD
open PySem PyProof.Rows
section
variable {prog:Program}{w:World}{A:Around}{E:zzj}
theorem CU{s:Shared}{a:Addr}{o:Obj}{xs:Array Value}{k:Nat}{name:Str}{u:Tok}{Q:zzj}
  (hx:s.heap.get? a=some o) (hc:o.cls=.type "list") (hdat:o.data=.seq xs k) (hd:o.dict=none) (hmiss:typeLookup (.type "list") name=pure none) (hname:(["__module__", "__name__", "__qualname__", "__doc__", "__annotations__"]:List Str).contains name=false) (hA:A.handled=none) (hsz:name.length+100<=sizeLine)
  (h:∀h' tk e,Heap.NewExcOf s.heap h' e "AttributeError" -> E (.ref e) { s with heap:=h',toks:=tk }) :
  wpAny (model prog w) A (getAttrBy (.ref a) (.str name u) false) Q E s:=by
 obtain⟨c,dct,dat,sl⟩:=o
 simp only at hc hdat hd
 subst hc hdat hd
 obtain⟨hp,g,d,tk,os⟩:=s
 have hT:∀tk',(⟨hp,g,d,tk',os⟩:Shared).TypeIs (.ref a) "list":=λ_=>⟨_,hx,rfl⟩
 have f1:=Lr
 have f3:=F.slot_list_getattribute.lookup
 have f4:=F.slot_list_getattribute.bind (.ref a)
 have f5:=am_list_getattr_none
 unfold getAttrBy
 repeat (any_goals (first|assumption|exact hT _|((with_reducible show wpAny _ _ (call (Value.builtin "list.__getattribute__") _ _) _ _ _);refine LZ F.slot_list_getattribute (hT _) am_entry_list_getattribute (F.args_list_getattribute_2 _ _) (meets_getattribute_miss_list a xs k sl name _ hmiss hname hsz) ⟨hx,hA,λh' tk' e hx'=>?_⟩)|wp_step))
 obtain⟨t',u',he⟩:=hx'.there
 show wpAny _ _ (getattributeRaised _ _ _ _ _ _ _) _ _ _
 unfold getattributeRaised
 repeat (any_goals (first|assumption|wp_step))
 exact h _ _ _ hx'.of
theorem miss?{s:Shared}{a:Addr}{o:Obj}{xs:Array Value}{k:Nat}{name:Str}{Q:Option Value->Shared->Prop}
  (hx:s.heap.get? a=some o) (hc:o.cls=.type "list") (hdat:o.data=.seq xs k) (hd:o.dict=none) (hmiss:typeLookup (.type "list") name=pure none) (hname:(["__module__", "__name__", "__qualname__", "__doc__", "__annotations__"]:List Str).contains name=false) (hA:A.handled=none) (hsz:name.length+100<=sizeLine)
  (h:∀h' tk e,Heap.NewExcOf s.heap h' e "AttributeError" -> Q none { s with heap:=h',toks:=tk }) :
  wpAny (model prog w) A (getAttr? (.ref a) name) Q E s:=by
 unfold getAttr? getAttrBy?
 obtain⟨hp,g,d,tk,os⟩:=s
 repeat (any_goals (first|assumption|(with_reducible refine CU (s:=⟨hp,g,d,_,os⟩) hx hc hdat hd hmiss hname hA hsz λh' tk' e hx'=>?_)|wp_step))
 obtain⟨oe,vs,he,hec,hed,_⟩:=hx'.there
 have f1:=Lr
 obtain⟨c,dct,dat,sl⟩:=oe
 simp only at hec hed
 subst hec hed
 repeat (any_goals (first|assumption|wp_step))
 exact h _ _ _ hx'
end
end WD
namespace L4
open PySem PySem.Spec PyProof.Rows L2 L3
variable {X:Cx}{pos p apos cpos:Pos}{K:Fg}{F H H':Hp}{xs vs:List V}{pins:zzk}{Z:L2.St}{A:Around}{e e2:Expr}{i x1:Nat}{x:Str}{elts:List Expr}
section
variable {s:Shared} {a b:Addr} {y v:V} {u r:Value} {E:zzj}
theorem vE{Q:Unit->Shared->Prop}(hu:A.units+1<cLine)(I:Inv X pins Z H s)(g:DPut H a y v H')(ry:RelV y u)(rv:RelV v r)
  (h:∀s',Inv X pins Z H' s'->(∀b o,b≠a->s.heap.get? b=some o->s'.heap.get? b=some o)->Q () s') :
  wpAny (model X.prog X.w) A (dictSet a u r) Q E s:=by
 rcases g with ⟨kvs,k,e,ey,l,eH⟩|⟨kvs,k,b,e,ey,eb,l,eH⟩
 ·subst ey eH
  obtain⟨z,hd,vs,rel,dd⟩:=qq I.hok e
  have hz:vs.length<=sizeLine:=by rw[<-rel.length];exact z
  have hl:(putK kvs k v).length<=sizeLine:=by have:=dw kvs k v;lia
  refine wpAny_dictSet_pairs (hsz:=hz) (fg ry) dd λh' dd' hs=>h _ ?_ λb o n e=>(hs.2 b n).trans e
  have he:∃q,h'.get? a=some q:=let ⟨q,_,_,hq,_⟩:=dd';⟨q,hq⟩
  exact iZ I (by rw[e];exact True.intro) hs he (vC hl hd (rel.put k rv) dd')
 ·subst ey eH
  cases (show u=Value.ref b from ry)
  obtain⟨z,hd,xs,rel,dd⟩:=t9 I.hok e
  have hz:xs.length<=sizeLine:=by rw[<-Paired.length rel];exact z
  have hl:(putK kvs k v).length<=sizeLine:=by have:=dw kvs k v;lia
  refine wpAny_dictSet_heap (hsz:=hz) (show(tupleKind (aO X.prog X.w)).room A from by first|exact hu|exact oz (ai _) hu|(show A.units<cLine;lia)) (fJ I.hok eb) dd λh' dd' hs=>h _ ?_ λb o n e=>(hs.2 b n).trans e
  obtain⟨q,es,ep,hq,h2,h3,h4,_,h5⟩:=dd'
  refine iZ I (by rw[e];exact True.intro) hs ⟨q,hq⟩ ⟨hl,hd,_,(rel.put k eb rv).keeps λc ys ec=>?_,q,es,ep,hq,h2,h3,h4,h5⟩
  rw[aK (EC ec e (λz=>nomatch z))]
  exact ec
theorem gI(g:DPut H a y v H'):H a≠none/\∀b,b≠a->H' b=H b:=by
 rcases g with ⟨kvs,k,e,ey,l,eH⟩|⟨kvs,k,b,e,ey,eb,l,eH⟩
 ·subst eH;exact⟨by rw[e];exact(λz=>nomatch z),λb n=>aK n⟩
 ·subst eH;exact⟨by rw[e];exact(λz=>nomatch z),λb n=>aK n⟩
end
inductive PutAll(K:PySem.W.Frag)(d:Addr):Hp->List V->Hp->Prop where
 | nil {H:Hp}:PutAll K d H [] H
 | cons {H H1 H':Hp} {t:Addr} {k v:V} {rest:List V}:SqT K H t [k,v]->DPut H d k v H1->PutAll K d H1 rest H'->PutAll K d H (.ref t::rest) H'
theorem fZ:entryFor table "dict.update.loop" = some Builtin.«dict.update.loop»:=entryFor_of_tree (by kernel_rfl)
theorem bX:plainId "dict.update.loop" = true:=by decide +kernel
section
theorem IP{R:Result->Shared->Prop}(hh:A.handled=none)(hu:A.units+2<cLine){d it p:Addr}(f1:it≠X.env.locals)(f3:it∈X.ex\/X.s₀.heap.objs.size<=it)
  (f4:∀x c,X.env.cells.lookup x=some c->c≠it) (f5:∀p∈X.pn++pins,p.1≠it):∀(rest:List V) (i:Nat) (j:Int) (u:Tok) (s:Shared) (H H':Hp),Inv X pins Z H s->H it=none->s.heap.IsListIter it p i ->
  (∀H1,(∀b,b≠d->H1 b=H b)->SqL X.K H1 p xs)->xs.drop i=rest->PutAll X.K d H rest H'->(∀s',Inv X pins Z H' s'->R (.ok (.ret .none)) s') ->
  codeAny (model X.prog X.w) A (.builtin "dict.update.loop" ⟨[.ref d,.ref it,.int j u,.none],[]⟩) R s:=by
 intro rest
 induction rest with
 | nil =>
  intro i j u s H H' I f0 st kp hd P hR
  cases P
  refine om fZ ?_
  rw[ny bX _]
  show wpAny _ A.in1 (pyNext (.ref it) >>= _) _ _ s
  obtain⟨its,rv,pl,hz⟩:=I.list (kp H λ_ _=>rfl)
  have hl:=rv.length
  have hl2:=congrArg List.length hd
  rw[Kj,fi]at hl2
  refine zza (Mb (show A.in1.handled=none from hh) st pl.isList (by simp;lia) λh' eb=>?_)
  exact zza (zzb (zzb (hR _ (I.turned (t':=s.toks) (λb o hb e=>eb b o hb e) f0 f1 f3 f4 f5))))
 | cons q rest ih =>
  intro i j u s H H' I f0 st kp hd P hR
  cases P with
  | @cons _ H1 _ t k v _ tq g P =>
  refine om fZ ?_
  rw[ny bX _]
  show wpAny _ A.in1 (pyNext (.ref it) >>= _) _ _ s
  obtain⟨its,rv,pl,hz⟩:=I.list (kp H λ_ _=>rfl)
  have hx:xs[i]? = some (.ref t):=by
   have:=congrArg (λl=>l[0]?) hd
   simpa using this
  obtain⟨w,hw,rw'⟩:=rv.get hx
  cases (show w=Value.ref t from rw')
  refine zza (LV st pl.isList (x:=.ref t) (by simpa using hw) λh' st' sb=>?_)
  dsimp only
  have I1:Inv X pins Z H { s with heap:=h' }:=I.turned (t':=s.toks) (λb o hb e=>(sb.2 b hb).trans e) f0 f1 f3 f4 f5
  obtain⟨tt,vt,pt,_⟩:=I1.tuple tq
  cases vt with
  | cons rk vt =>
  cases vt with
  | cons rv' vt =>
  cases vt
  obtain⟨ot,et,ct,n,dt⟩:=pt
  refine zza (ev ?_)
  have hT:({ s with heap:=h' }:Shared).TypeIs (.ref t) "tuple":=⟨ot,et,ct⟩
  obtain⟨c,dct,dat,sl⟩:=ot
  simp only at ct dt
  subst ct dt
  refine zza (wpAny_tryCatch ?_)
  unfold Builtin.Dict.pairItems
  refine zza (Ix hT ?_)
  rw[ar (by decide)]
  refine zza (wP et rfl ?_)
  refine zzb ?_
  show wpAny _ _ (holding [_,_] (dictSet d _ _)) _ _ _
  have nd:it≠d:=λz=>(gI g).1 (by rw[<-z];exact f0)
  refine ev (vE (by show A.units+1+1<cLine;exact hu) I1 g rk rv' λs2 I2 k2=>?_)
  refine zzb ⟨KA bX _,?_⟩
  exact ih (i+1) _ _ s2 H1 H' I2 (((gI g).2 it nd).trans f0) (st'.at λo e=>k2 it o nd e) (λH2 h2=>kp H2 λb n=>(h2 b n).trans ((gI g).2 b n)) (by rw[<-Lz,hd];rfl) P hR
end
section
variable {s:Shared} {E:zzj}
theorem tG:typeLookup (.type "list") "keys" = pure none:=by rw[Lj,KB];kernel_rfl
theorem vN{p:Addr}{ob:HO}{Q:zzj}(hh:A.handled=none)(hu:A.units+10<cLine)(I:Inv X pins Z H s)(hob:ob=.dK []\/ob=.dT [])
  (hq:∀H1,(∀b,b≠s.heap.objs.size->H1 b=H b)->SqL X.K H1 p xs) (P:PutAll X.K s.heap.objs.size (upd H s.heap.objs.size ob) xs H') (h:∀s',Inv X pins Z H' s'->Q (.ref s.heap.objs.size) s') :
  wpAny (model X.prog X.w) A (call (.type "dict") [.ref p]) Q E s:=by
 refine callType_codes (Q₁:=λobj s₁=>obj=.ref s.heap.objs.size/\s₁={ s with heap:=s.heap.push { cls:=.type "dict",data:=.dict #[] } }) F.kt_called_dict (F.kt_typeCall_dict_1 _) F.entry_dict_init (kt_code_dict_new _ ⟨rfl,rfl⟩) ?_
 rintro obj s₁ ⟨rfl,rfl⟩
 have I1:Inv X pins Z (upd H s.heap.objs.size ob) { s with heap:=s.heap.push { cls:=.type "dict",data:=.dict #[] },toks:=s.toks }:=by
  rcases hob with rfl|rfl
  ·exact I.laid (λ_ _ q=>zzc _ q) (ai _) (oB s.heap I.big)
  ·exact I.laid (λ_ _ q=>zzc _ q) (ai _) (oA s.heap I.big)
 have hT:({ s with heap:=s.heap.push { cls:=.type "dict",data:=.dict #[] } }:Shared).TypeIs (.ref s.heap.objs.size) "dict":=⟨_,zze _ rfl,rfl⟩
 refine⟨hT,F.args_dict_init_2 _ _,?_⟩
 unfold Builtin.«dict.__init__»
 refine zza ?_
 unfold Builtin.Dict.selfAndRest
 refine zza (K9 hT ?_)
 show wpAny _ _ (pure (s.heap.objs.size,[Value.ref p])) _ _ _
 refine zzb ?_
 show wpAny _ _ (Builtin.Dict.updateFrom "dict.__init__" s.heap.objs.size (.ref p) [] .none) _ _ _
 unfold Builtin.Dict.updateFrom
 have q1:=hq (upd H s.heap.objs.size ob) (λb n=>aK n)
 obtain⟨its,rv,pl,hz⟩:=I1.list q1
 obtain⟨o,n,e,c,d,dt⟩:=id pl
 refine zza (Ix ⟨o,e,c⟩ ?_)
 rw[ar (by decide)]
 refine zza (WD.miss? (A:=A.in1.in1) e c dt d tG (by decide) hh (by rw[KH];decide) λh2 tk2 ex ne=>?_)
 simp only[Option.isNone_none,KF]
 have I2:=I1.kept (h':=h2) (t':=tk2) ne.keeps
 obtain⟨its2,rv2,pl2,_⟩:=I2.list q1
 refine zza (Kq ?_)
 refine zza (LH pl2.isList ?_)
 obtain⟨f0,f1,f2,f3,f4,f5⟩:=I2.fpOk (H':=upd H s.heap.objs.size ob) (ai _) (I2.hok.fresh (ai _))
 refine zzb ⟨KA bX _,?_⟩
 exact IP (A:=A.in1) hh (by show A.units+1+2<cLine;lia) f1 f3 f4 f5 xs 0 _ _ _ _ H' (I2.kept (t':=tk2) λb o e=>zzc _ e) f0 ⟨_,zze _ rfl,rfl,rfl⟩ (λH2 h2=>hq H2 λb n=>(h2 b n).trans (aK n)) rfl P λs' J=>⟨rfl,h s' J⟩
end
def lm(t:Bool):HO:=if t then .dT []else .dK []
def Jl(K:PySem.W.Frag)(t:Bool)(te:TE):TE:=λZ H Q=>te Z H λx H1=>∃a xs,x=.ref a/\∀p,H1 p=none->(∀H2:Hp,(∀b,b≠p->H2 b=H1 b)->SqL K H2 a xs)/\∃H',PutAll K p (upd H1 p (lm t)) xs H'/\Q (.ref p) H'
section
variable {te:TE}
theorem CB(t:Bool)(hc:X.calm=true)(hu:X.A.units+10<cLine)(hg:Gl X "dict")(hm:X.mg "dict" = none)(ha:PE X e te)(he:starEach [e] X.env=[(false,eval e X.env)]) :
  PE X (.Call (.Name "dict" p) [e] [] pos) (Jl X.K t te):=by
 intro pins s Z H Q I h
 refine yi (fH I hg hm (show bootBuiltins "dict" = some (.type "dict") by decide +kernel) ?_ (by decide) (by decide))
 refine ni (T := "dict") ?_ he rfl
 rw[he]
 show wpAny _ _ (spliced ((false,eval e X.env)::backTo pos [])) _ _ s
 refine ve (thn (ha pins s Z H _ I h) λv s1 ⟨x,H1,I1,r1,q1⟩=>?_)
 obtain⟨a,xs,rfl,k⟩:=q1
 cases r1
 refine Kp ?_
 obtain⟨hq,H',P,q⟩:=k s1.heap.objs.size (I1.hok.fresh (ai _))
 exact vN (I1.ok.hd hc) hu I1 (ob:=lm t) (by cases t;exact .inl rfl;exact .inr rfl) hq P λs' J=>⟨.ref s1.heap.objs.size,_,J,rfl,q⟩
end
def ig(t:Bool):List (D×D)->List D->Option (List (D×D))
 | es,[]=>some es
 | es,.tuple [k,d]::r=>(cW t es k d).bind λes1=>ig t es1 r
 | _,_=>none
theorem Ej{p:Addr}{t:Bool}{es es1:List (D×D)}{kd d:D}{x v:V}(hh:Held K F H p (ocD t es))(sm:Same F H)(rk:Rep K F x kd)(rv:Rep K F v d)(hp:cW t es kd d=some es1) :
  ∃H1,DPut H p x v H1/\Held K F H1 p (ocD t es1):=by
 unfold cW at hp
 split at hp
 case isFalse=>cases hp
 rename_i hc
 cases hp
 rw[ac,zzi]at hc
 cases t with
 | true =>
  obtain⟨ks,rfl⟩:=iT hc.1
  obtain⟨b,rfl,hb⟩:=jJ rk
  obtain⟨kvs,h1,h2,h3⟩:=(show Held K F H p (.t es)from hh)
  obtain⟨p1,p2⟩:=jL vh ks rv h2 h3
  have hlen:kvs.length=es.length:=by have:=congrArg List.length h2;simpa using this.symm
  exact⟨_,DPut.t h1 (sm _ _ hb) (by lia),⟨_,aS,p1,p2⟩⟩
 | false =>
  obtain⟨ks,rfl⟩:=d4 hc.1
  obtain rfl:=fV rk
  obtain⟨kvs,h1,h2,h3⟩:=(show Held K F H p (.k es)from hh)
  obtain⟨p1,p2⟩:=jL lc ks rv h2 h3
  have hlen:kvs.length=es.length:=by have:=congrArg List.length h2;simpa using this.symm
  exact⟨_,DPut.k h1 (by lia),⟨_,aS,p1,p2⟩⟩
theorem Cj{p:Addr}{t:Bool}(fp:F p=none):∀{vs:List V} {ds:List D} {es es':List (D×D)} {H:Hp},RepL K F vs ds->Held K F H p (ocD t es)->Same F H->ig t es ds=some es' ->
  ∃H',PutAll K p H vs H'/\Held K F H' p (ocD t es')/\∀b,b≠p->H' b=H b:=by
 intro vs
 induction vs with
 | nil =>
  intro ds es es' H r hh sm e
  cases r
  cases e
  exact⟨H,.nil,hh,λ_ _=>rfl⟩
 | cons x vs ih =>
  intro ds es es' H r hh sm e
  cases r with
  | cons r1 r2 =>
  unfold ig at e
  split at e
  ·rename_i q;cases q
  ·rename_i k d r q
   cases q
   obtain⟨es1,e1,e2⟩:=Option.bind_eq_some_iff.mp e
   obtain⟨a,ws,rfl,ha,rw'⟩:=r1.tup_inv
   cases rw' with
   | cons rk rw' =>
   cases rw' with
   | cons rv rw' =>
   cases rw'
   obtain⟨H1,g,hh1⟩:=Ej hh sm rk rv e1
   have nb:=(gI g).2
   have sm1:Same F H1:=λb o z=>by rw[nb b (λy=>by rw[y,fp]at z;cases z)];exact sm b o z
   obtain⟨H',P,hh2,n2⟩:=ih r2 hh1 sm1 e2
   exact⟨H',.cons (SqT.of (sm _ _ ha)) g P,hh2,λb n=>(n2 b n).trans (nb b n)⟩
  ·cases e
def w9(t:Bool):D->Option (List (D×D))
 | .list ds=>ig t [] ds
 | _=>none
def Jq{S:Type}(t:Bool)(i:Nat)(me:Ev S D):SM S:=λK ρ=>me K.x (λd ρ1=>match jf ρ1 i with
 | true=>(oM (w9 t d)).on (λe=>K.x e ρ1) (λes=>K.nx (ρ1.set i (some (.ol (ocD t es)))))
 | false=>.bad) ρ
theorem GP{S:Type}(t:Bool){me:Ev S D}{pos' tpos:Pos}(hc:X.calm=true)(hu:X.A.units+1100<cLine)(hg:Gl X "dict")(hm:X.mg "dict" = none)(hN:X.N.Nodup)(hi:X.N[i]? = some x)(hx:Loc X.env.scope x)(hk:AE X e me)(he:starEach [e] X.env=[(false,eval e X.env)])
  (hs:swapsWith (.Call (.Name "dict" p) [e] [] tpos) (some (.Name x pos')) pos.line X.env=pure false) (hf:X.fn x=true\/X.env.scope.names.lookup x=some .local) :
  AS (S:=S) X (.Assign [.Name x pos'] (.Call (.Name "dict" p) [e] [] tpos) pos) (Jq t i me):=λOK K G F Z H ρ E hO hX St ok eo =>
 gv (jw hN hi hx (CB t hc (by lia) hg hm aN he) hs hf) (hk OK K.x _ G F Z H ρ _ hO hX St ok λd v F1 H1 ρ1 s1 S1 r1 o1=>by
  split at o1
  case h_2=>exact(hO o1).elim
  rename_i hq
  obtain⟨es,hd,o3⟩:=cy hO o1
  obtain⟨hl,hop⟩:=dq hq
  unfold w9 at hd
  split at hd
  case h_2=>cases hd
  rename_i ds
  obtain⟨a,vs,rfl,h1,h2⟩:=r1.lst_inv
  refine⟨a,vs,rfl,λp hp=>?_⟩
  have fp:=S1.fh.free hp
  have op:=S1.oh.free hp
  have smU:∀H2:Hp,(∀b,b≠p->H2 b=H1 b)->Same F1 H2:=λH2 h b o z=>by rw[h b (λy=>by rw[y,fp]at z;cases z)];exact S1.fh b o z
  obtain⟨H',P,hh,n⟩:=Cj (t:=t) (es:=[]) (H:=upd H1 p (lm t)) fp h2 (by cases t<;>exact⟨[],aS,rfl,.nil⟩) (smU _ λb n=>aK n) hd
  refine⟨λH2 h=>(smU H2 h).seq h1,H',P,?_⟩
  obtain⟨o,ho⟩:=hh.some
  have eH:H'=upd H1 p o:=funext λb=>by
   by_cases z:b=p
   ·rw[z,ho,aS]
   ·rw[n b z,aK z,aK z]
  subst eH
  exact eo.nx F1 _ _ _ s1 ((S1.lay (o:=o) hp).store hop hl (.inr ⟨ocD t es,rfl,p,rfl,⟨fp,op,hh⟩,S1.fresh_ne hp⟩)) o3)
def G8(td:TE):TE:=λZ H Q=>td Z H λx H1=>∃a kvs,x=.ref a/\H1 a=some (.dK kvs)/\∀l,H1 l=none->Q (.ref l) (upd H1 l (.lst (kvs.map (·.2))))
section
variable {o:Expr} {td:TE}
theorem vk{κ:Type}{vs:List (κ×Value)}{acc:Array Value}(h:ItemsOf (λi v=>∃k,vs[i]? = some (k,v)) acc vs.length):acc.toList=vs.map (·.2):=by
 apply K7
 intro j
 rw[ic,ik]
 cases q:acc[j]? with
 | some v =>
  obtain⟨k,e1⟩:=h.2 j v q
  rw[e1];rfl
 | none =>
  have:vs.length<=j:=by rw[<-h.1];exact Array.getElem?_eq_none_iff.mp q
  rw[List.getElem?_eq_none this];rfl
theorem Cy(hc:X.calm=true)(hg:Gl X "list")(hm:X.mg "list" = none)(ho:PE X o td)
  (hbase:attributeBase o "values" X.env (eval o X.env)=eval o X.env) (hline:(apos.endLine==cpos.line)=true)
  (he:starEach [.Call (.Attribute o "values" apos) [] [] cpos] X.env=[(false,eval (.Call (.Attribute o "values" apos) [] [] cpos) X.env)]) :
  PE X (.Call (.Name "list" p) [.Call (.Attribute o "values" apos) [] [] cpos] [] pos) (G8 td):=by
 intro pins s Z H Q I h
 refine yi (fH I hg hm (show bootBuiltins "list" = some (.type "list") by decide +kernel) ?_ (by decide) (by decide))
 refine ni (T := "list") ?_ he rfl
 rw[he]
 show wpAny _ _ (spliced ((false,eval (.Call (.Attribute o "values" apos) [] [] cpos) X.env)::backTo pos [])) _ _ s
 refine ve (wpAny_Call_method0_late hbase hline (thn (ho pins s Z H _ I h) λu s1 ⟨x,H1,I1,rx,a,kvs,ex,e,q1⟩=>?_))
 subst ex
 obtain rfl:u=Value.ref a:=rx
 obtain⟨z,hd,vs,rel,dd⟩:=qq I1.hok e
 have hnd:∃ob,s1.heap.get? a=some ob/\ob.dict=none:=by obtain⟨ob,_,_,h1,h2,_⟩:=dd;exact⟨ob,h1,h2.2.1⟩
 refine⟨"dict", "dict.values",KW,PySem.F.slot_dict_values,PySem.F.type_dict_values,dd.typeIs,λb q=>by cases q;exact hnd,Kg rfl (PySem.evalArgs_none ?_)⟩
 refine Kf PySem.F.slot_dict_values dd.typeIs PySem.F.entry_dict_values (PySem.F.args_dict_values_1 _) (meets_dict_values (aO X.prog X.w) a hd) ⟨⟨vs,dd⟩,Kp ?_⟩
 obtain⟨ep,da⟩:=dd.dictAt
 have hlen:vs.length=kvs.length:=rel.length.symm
 have kp:∀b u,s1.heap.get? b=some u->(s1.heap.push { cls:=.type "dict_values",data:=.fields #[.ref a] }).get? b=some u:=λb u q=>zzc _ q
 have I2:=I1.kept (t':=s1.toks) kp
 have da2:(s1.heap.push { cls:=.type "dict_values",data:=.fields #[.ref a] }).DictAt (aO X.prog X.w) a vs ep:=da.at' λo e=>kp _ _ e
 refine PySem.W.kdl_call (s:={ s1 with heap:=s1.heap.push { cls:=.type "dict_values",data:=.fields #[.ref a] } }) (PySem.W.kdl_values (knd:=aO X.prog X.w) (kvs:=vs) (ep:=ep)) (I1.ok.hd hc) ⟨⟨_,zze _ rfl,rfl,rfl⟩,da2⟩ (by lia) λh' tk acc c kp2 e2 it=>?_
 refine⟨.ref _,_,I2.laid (t':=tk) kp2 (ai _) (show ObjOk X.prog X.w _ h' _ (.lst (kvs.map (·.2)))from⟨by simp;lia,acc.toList,c,?_,by rw[Array.toArray_toList];exact e2⟩),rfl,q1 _ (I2.hok.fresh (ai _))⟩
 rw[vk it]
 exact(wF rel).1
end
def Eo(i:Nat):Pu (List D):=λρ=>match uW ρ i with
 | some (false,es)=>.ret (es.map (·.2))
 | _=>.bad
theorem DH{p2:Pos}(hc:X.calm=true)(hN:X.N[i]? = some x)(hv:Vis X.env.scope x)(hg:Gl X "list")(hm:X.mg "list" = none)
  (hbase:attributeBase (.Name x p2) "values" X.env (eval (.Name x p2) X.env)=eval (.Name x p2) X.env) (hline:(apos.endLine==cpos.line)=true)
  (he:starEach [.Call (.Attribute (.Name x p2) "values" apos) [] [] cpos] X.env=[(false,eval (.Call (.Attribute (.Name x p2) "values" apos) [] [] cpos) X.env)]:=by rfl)
  (hd:(x==("__debug__" : Str))=false:=by decide) (hcd:(x==("__classdict__" : Str))=false:=by decide) :
  AL X (.Call (.Name "list" p) [.Call (.Attribute (.Name x p2) "values" apos) [] [] cpos] [] pos) (Eo i):=λG F Z H ρ Q S w =>
 sem (Cy hc hg hm (dH hN hv hd hcd) hbase hline he) (by
  unfold Eo at w
  split at w
  case h_2=>exact w.elim
  rename_i es hds
  have hown:ρ[i]? = some (some (.ol (.k es))):=iq hds
  obtain⟨a,ea,oa⟩:=S.ow i _ (.inl hown)
  obtain⟨kvs,h1,h2,h3⟩:=(show Held X.K F H a (.k es)from oa.he)
  refine⟨_,ea,a,kvs,rfl,h1,λl hl=>?_⟩
  obtain⟨S2,r2⟩:=S.newLst hl h3
  exact w F _ (Same.refl _) S2 _ r2)
def DV(K:Fg)(a b:Addr):It :=
 ⟨λi H=>∃xs x ys y,SqL K H a xs/\xs[i]? = some x/\SqL K H b ys/\ys[i]? = some y,
  λi H r H'=>∃p x y,(∀xs,SqL K H a xs->xs[i]? = some x)/\(∀ys,SqL K H b ys->ys[i]? = some y)/\H p=none/\r=.ref p/\H'=upd H p (.tup [x,y]),
  λi H=>∃xs ys,SqL K H a xs/\SqL K H b ys/\(xs.length<=i\/ys.length<=i)⟩
structure Zl(h:Heap)(z p q i1 i2 l1 l2:Addr)(f0 u v:Value)(k1 k2:Nat):Prop where
 z0:IsZip h z p q f0
 p0:IsPair h p (.ref i1) (.ref i2)
 q0:IsPair h q u v
 a0:h.IsListIter i1 l1 k1
 b0:h.IsListIter i2 l2 k2
theorem wN{h h':Heap}{i l:Addr}{k:Nat}(x:h.IsListIter i l k)(kp:∀o,h.get? i=some o->h'.get? i=some o):h'.IsListIter i l k:=let ⟨o,e,r⟩:=x;⟨o,kp o e,r⟩
theorem xN{P:Program}{w:World}(a b z p q i1 i2:Addr)(D:ZipApart z p q i1 i2 a b) :
  Turn P w K (.Tuple elts x1 pos) (DV K a b) [z,p,q,i1,i2] z (λi h=>∃u v,Zl h z p q i1 i2 a b .none u v i i) where
 mem:=by simp
 obj:=λi h ⟨u,v,T⟩ c hc=>by
  simp only[eE,we,xz]at hc
  rcases hc with rfl|rfl|rfl|rfl|rfl
  ·exact⟨_,T.z0,λv z=>nomatch z⟩
  ·exact⟨_,T.p0,λv z=>nomatch z⟩
  ·exact⟨_,T.q0,λv z=>nomatch z⟩
  ·obtain⟨o,e1,c,d⟩:=T.a0
   exact⟨o,e1,λv z=>by rw[d]at z;cases z⟩
  ·obtain⟨o,e1,c,d⟩:=T.b0
   exact⟨o,e1,λv z=>by rw[d]at z;cases z⟩
 keep:=λi h h' ⟨u,v,T⟩ k=>⟨u,v,k z (by simp) _ T.z0,k p (by simp) _ T.p0,k q (by simp) _ T.q0,wN T.a0 λo e=>k i1 (by simp) o e,wN T.b0 λo e=>k i2 (by simp) o e⟩
 item:=by
  intro X hP hw hK hc i pins s Z H E I hf ⟨u,v,T⟩ hg
  subst hP hw hK
  obtain⟨xs,x,ys,y,hq,hx,hq2,hy⟩:=hg
  obtain⟨its,rv,pa,hz⟩:=I.list hq
  obtain⟨jts,rv2,pb,hz2⟩:=I.list hq2
  obtain⟨x',hu,ru⟩:=rv.get hx
  obtain⟨y',hu2,ru2⟩:=rv2.get hy
  have hT:s.TypeIs (.ref z) "zip":=⟨_,T.z0,rfl⟩
  unfold pyNext
  refine zza (Ks (gt (name:=Str.ofString "__next__") hT xt
   (gs xt hT Ld (zip_next_item D T.z0 T.p0 T.q0 T.a0 T.b0 (show s.heap.IsList a its.toArray from pa.isList) (show s.heap.IsList b jts.toArray from pb.isList) (x:=x') (y:=y') (by simpa using hu) (by simpa using hu2) λh1 z1 q1 a1 b1 t1 _ k1=>zzb ?_) (K8 _))))
  refine⟨_,rfl,wpAny_letOwnedTupleGo_zip z1 λh2 z2 (m2:Heap.SameBut z h1 h2)=>?_⟩
  have lt:∀{c o},s.heap.get? c=some o->s.heap.objs.size≠c:=λe=>li (am e)
  have ltz:=lt T.z0
  have ltp:=lt T.p0
  have ltq:=lt T.q0
  have lt1:s.heap.objs.size≠i1:=by obtain⟨_,e,_⟩:=T.a0;exact lt e
  have lt2:s.heap.objs.size≠i2:=by obtain⟨_,e,_⟩:=T.b0;exact lt e
  have keep2:∀c o,c∉[z,p,q,i1,i2]->s.heap.get? c=some o->h2.get? c=some o:=λc o hc e=>by
   simp only[eE,we,xz,not_or]at hc
   exact m2.extBut _ _ hc.1 (k1 c o hc.1 hc.2.2.1 hc.2.2.2.1 hc.2.2.2.2 e)
  have tup2:h2.get? s.heap.objs.size=some { cls:=.type "tuple",data:=.seq #[x',y'] }:=m2.extBut _ _ ltz t1
  have I1:Inv X pins Z (upd H s.heap.objs.size (.tup [x,y])) { s with heap:=h2,toks:=s.toks }:=sO I hf ru ru2 keep2 tup2
  refine⟨.ref s.heap.objs.size,_,I1,rfl,⟨_,x,y,λys' hy'=>by rw[I.list_inj hy' hq];exact hx,λys' hy'=>by rw[I.list_inj hy' hq2];exact hy,I.fresh,rfl,rfl⟩,
   ⟨x',y',z2,m2.extBut _ _ D.TIz (k1 _ _ D.TIz D.TITO D.TIi1 D.TIi2 T.p0),m2.extBut _ _ D.TOz q1,wN a1 λo e=>m2.extBut _ _ D.i1z e,wN b1 λo e=>m2.extBut _ _ D.i2z e⟩,λc hc=>?_⟩
  have nc:c≠s.heap.objs.size:=by
   simp only[eE,we,xz]at hc
   rcases hc with rfl|rfl|rfl|rfl|rfl
   ·exact ltz.symm
   ·exact ltp.symm
   ·exact ltq.symm
   ·exact lt1.symm
   ·exact lt2.symm
  rw[aK nc]
  exact(hf c hc).1
 done:=by
  intro X hP hw hK hc i pins s Z H E I hf ⟨u,v,T⟩ hg
  subst hP hw hK
  obtain⟨xs,ys,hq,hq2,hl⟩:=hg
  obtain⟨its,rv,pa,hz⟩:=I.list hq
  obtain⟨jts,rv2,pb,hz2⟩:=I.list hq2
  have l1:=rv.length
  have l2:=rv2.length
  have hT:s.TypeIs (.ref z) "zip":=⟨_,T.z0,rfl⟩
  unfold pyNext
  refine zza (Ks (gt (name:=Str.ofString "__next__") hT xt
   (gs xt hT Ld (zip_next_end (I.ok.hd hc) D T.z0 T.p0 T.q0 T.a0 T.b0 (show s.heap.IsList a its.toArray from pa.isList) (show s.heap.IsList b jts.toArray from pb.isList)
    (hl.imp (λh=>by simp;lia) (λh=>by simp;lia)) λh' e k he=>?_) (K8 _))))
  obtain⟨o,ho,hcl⟩:=he
  refine zza (Kh (T := "StopIteration") (b:=true) ⟨o,ho,hcl⟩ Ls ?_)
  exact zzb ⟨rfl,fc (t':=s.toks) I hf λc o hc e=>by
   simp only[eE,we,xz,not_or]at hc
   exact k c o hc.1 hc.2.2.1 hc.2.2.2.1 hc.2.2.2.2 e⟩
 self:=λ_ _ _ _ _ ⟨u,v,T⟩ h=>wpAny_pyIter_zip T.z0 h
theorem xI{a b:Addr}{ws:List V}{as bs:List D}(h:SqL K F a vs)(r:RepL K F vs as)(h2:SqL K F b ws)(r2:RepL K F ws bs):Walk K (DV K a b) (mM as bs) F where
 go:=λi G F2 Z H2 ρ s S hi=>by
  simp only[mM,List.length_zipWith]at hi
  have i1:i<vs.length:=by rw[r.length];lia
  have i2:i<ws.length:=by rw[r2.length];lia
  exact⟨vs,vs[i],ws,ws[i],(S.fh.seq (s.seq h)),by simp[i1],(S.fh.seq (s.seq h2)),by simp[i2]⟩
 yld:=λi G F2 Z H2 ρ x H3 d s S hd ⟨p,y,y',hy,hy',hp,hx,hH⟩=>by
  subst hx hH
  unfold mM at hd
  rw[List.getElem?_zipWith]at hd
  cases e:as[i]? with
  | none=>rw[e]at hd;cases hd
  | some d1 =>
   cases e':bs[i]? with
   | none=>rw[e,e']at hd;cases hd
   | some d2 =>
    rw[e,e']at hd
    simp at hd
    subst hd
    obtain⟨v,g1,g2⟩:=r.get e
    obtain⟨v',g3,g4⟩:=r2.get e'
    have z1:=hy vs ((S.fh.seq (s.seq h)))
    have z2:=hy' ws ((S.fh.seq (s.seq h2)))
    rw[g1]at z1
    rw[g3]at z2
    cases z1
    cases z2
    obtain⟨s2,S2,r2⟩:=S.newTup hp (RepL.cons (g2.mono s) (RepL.cons (g4.mono s) RepL.nil))
    exact⟨_,s2,S2,r2⟩
 stop:=λG F2 Z H2 ρ s S=>⟨vs,ws,(S.fh.seq (s.seq h)),(S.fh.seq (s.seq h2)),by
  rw[r.length,r2.length];simp only[mM,List.length_zipWith];lia⟩
def ID(K:Fg)(tl:TA):TI:=λZ H R=>tl Z H λxs H1=>∃a b,xs=[.ref a,.ref b]/\(∃ys,SqL K H1 a ys)/\(∃ys,SqL K H1 b ys)/\R (DV K a b) H1
theorem Ct{e1:Expr}{tl:TA}{tp:Pos}(hg:Gl X "zip")(hm:X.mg "zip" = none)(ha:PA X [e1,e2] tl)
  (hs:starEach [e1,e2] X.env=[(false,eval e1 X.env),(false,eval e2 X.env)]) (hs2:starEach [e2] X.env=[(false,eval e2 X.env)]) :
  PI X (.Tuple elts x1 tp) (.Call (.Name "zip" p) [e1,e2] [] pos) (ID X.K tl):=by
 intro pins s Z H R I h
 refine Call_ (fH I hg hm (show bootBuiltins "zip" = some (.type "zip") by decide +kernel) (ni (thn (ha pos pins s Z H _ I h) λus s1 ⟨vs,H1,I1,r1,q1⟩=>?_) (by rw[hs,hs2]) (by rw[hs2];rfl)) (by decide) (by decide))
 obtain⟨a,b,rfl,⟨ys,hq⟩,⟨zs,hq2⟩,q⟩:=q1
 cases r1 with
 | cons r rr =>
  cases rr with
  | cons r' rr =>
   cases rr
   cases r
   cases r'
   obtain⟨its,rv,pt,hz⟩:=I1.list hq
   obtain⟨jts,rv2,pt2,hz2⟩:=I1.list hq2
   have la:a<s1.heap.objs.size:=by obtain⟨o,e1,_⟩:=pt.isList;exact am e1
   have lb:b<s1.heap.objs.size:=by obtain⟨o,e1,_⟩:=pt2.isList;exact am e1
   refine call_zip_2 (show s1.heap.IsList a its.toArray from pt.isList) (show s1.heap.IsList b jts.toArray from pt2.isList) λh' z0 p0 q0 a0 b0 _ hk=>?_
   refine wpAny_pyIter_zip (s:={ s1 with heap:=h' }) z0 ?_
   refine⟨s1.heap.objs.size+4,[s1.heap.objs.size+4,s1.heap.objs.size+2,s1.heap.objs.size+3,s1.heap.objs.size,s1.heap.objs.size+1],_,_,H1,rfl,I1.kept (t':=s1.toks) hk,xN a b _ _ _ _ _ (zipApart_new la lb),⟨_,_,⟨z0,p0,q0,a0,b0⟩⟩,λc hc=>?_,q⟩
   have:s1.heap.objs.size<=c:=by
    simp only[eE,we,xz]at hc
    rcases hc with rfl|rfl|rfl|rfl|rfl<;>simp
   exact I1.fpOk this (I1.hok.fresh this)
def t5:List D->Option (List D)
 | [.list as,.list bs]=>some (mM as bs)
 | _=>none
section
variable {tg e1:Expr} {ps:(List D->M (List D))->Pu (List D)} {tp:Pos}
theorem BY{ds out:List D}{R:It->Hp->Prop}(s:Same F H)(r:RepL X.K F vs ds)(h:t5 ds=some out)(k:∀J,Walk X.K J out F->R J H) :
  ∃a b,vs=[.ref a,.ref b]/\(∃ys,SqL X.K H a ys)/\(∃ys,SqL X.K H b ys)/\R (DV X.K a b) H:=by
 unfold t5 at h
 split at h
 ·cases h
  obtain⟨v,u,rfl,r1,r2⟩:=r.two_inv
  obtain⟨a,as,rfl,a1,a2⟩:=r1.lst_inv
  obtain⟨b,bs,rfl,b1,b2⟩:=r2.lst_inv
  exact⟨_,_,rfl,⟨_,s.seq a1⟩,⟨_,s.seq b1⟩,k _ (xI (a1) a2 (b1) b2)⟩
 ·cases h
theorem DI{ps:Pa (List D)}(hg:Gl X "zip")(hm:X.mg "zip" = none)(ha:AA X [e1,e2] ps)(hs:starEach [e1,e2] X.env=[(false,eval e1 X.env),(false,eval e2 X.env)])(hs2:starEach [e2] X.env=[(false,eval e2 X.env)]):AI X (.Tuple elts x1 tp) (.Call (.Name "zip" p) [e1,e2] [] pos) (ii t5 ps) :=
 λG F Z H ρ R S w=>uL (Ct hg hm bK hs hs2) (ha G F Z H ρ _ _ _ S w λds vs F1 H1 s1 S1 _ r1 w1=>by
  obtain⟨out,hd,k⟩:=w1.opt
  exact BY S1.fh r1 hd (k F1 H1 (Same.refl _) S1))
end
def Jv:V->List V->Hp->VK->Prop:=λx vs H Q=>∃l xs y,∃k:Int,x=.ref l/\vs=[.int k,y]/\H l=some (.lst xs)/\0<=k/\k.toNat<=xs.length/\xs.length<sizeLine/\Q .non (upd H l (.lst (xs.take k.toNat++y::xs.drop k.toNat)))
theorem xK{us:List Value}(k:Nat)(r:Vals xs us):Vals (xs.take k) (us.take k):=by
 induction r generalizing k with
 | nil=>rw[List.take_nil,List.take_nil];exact .nil
 | cons q _ ih=>cases k with
  | zero=>exact .nil
  | succ k=>exact .cons q (ih k)
theorem xL{us:List Value}(k:Nat)(r:Vals xs us):Vals (xs.drop k) (us.drop k):=by
 induction r generalizing k with
 | nil=>rw[List.drop_nil,List.drop_nil];exact .nil
 | cons q t ih=>cases k with
  | zero=>exact .cons q t
  | succ k=>exact ih k
theorem yB(l:Addr)(its:Array Value)(n:Nat)(k:Int)(t:Tok)(u:Value)(h0:0<=k)(hk:k.toNat<=its.size)(hz:its.size<sizeLine) :
  Meets (Builtin.«list.insert» ⟨[.ref l,.int k t,u],[]⟩) (λ_ R s=>s.heap.get? l=some { cls:=.type "list",data:=.seq its n }/\∀f:Array Value->Array Value,f its=(its.toList.take k.toNat++u::its.toList.drop k.toNat).toArray->R (.ok (.ret Value.none)) { s with heap:=s.heap.update l (Obj.mapSeq f) }):=λprog w A R s h=>by
 have h1 : -(2^63)<=k:=by lia
 have h2:k<2^63:=by rw[KH]at hz;lia
 refine PySem.AutoListH.list_insert_list_int_val_1 l its n k t u (by rw[fitsIndex_both h1 h2];decide) (by lia) prog w A R s ⟨h.1,h.2 _ ?_⟩
 have h3:min k.toNat its.size=k.toNat:=by lia
 simp only[show ¬ (k<0) by lia,Cn,h3]
 obtain⟨il⟩:=its
 simp
 exact List.take_of_length_le (by simp)
theorem ym:MtM X "list.insert" Jv:=by
 intro pins s Z H x vs v us Q I rx rv h
 obtain⟨l,xs,y,k,rfl,rfl,hH,h0,hk,hz,q⟩:=h
 cases rx
 obtain⟨u1,u2,rfl,r1,r2⟩:=L2.Vals.two rv
 obtain⟨t,rfl⟩:=(show ∃t,u1=Value.int k t from r1)
 obtain⟨z,its,n,r,hl,e⟩:=I.lstM hH
 refine LZ F.slot_list_insert ⟨_,e,rfl⟩ F.entry_list_insert (F.args_list_insert_3 _ _ _) (yB l its.toArray n k t u2 h0 (by rw[ay];lia) (by rw[ay];lia)) ⟨e,λf hf=>?_⟩
 refine⟨.non,_,I.lset (its':=its.take k.toNat++u2::its.drop k.toNat) (t':=s.toks) hH e (by simpa using hf) ((xK _ r).append (.cons r2 (xL _ r))) ?_,rfl,q⟩
 simp
 lia
def CY(ds as:List D):Option (List D):=match as with
 | [.int k,d]=>if decide (0<=k)&&decide (k.toNat<=ds.length)&&decide (ds.length<sizeLine)then some (ds.take k.toNat++d::ds.drop k.toNat)else none
 | _=>none
theorem xV{ds:List D}(k:Nat)(r:RepL K F vs ds):RepL K F (vs.take k) (ds.take k):=by
 induction vs generalizing ds k with
 | nil=>cases r;rw[List.take_nil,List.take_nil];exact .nil
 | cons v vs ih=>cases r with
  | cons q t=>cases k with
   | zero=>exact .nil
   | succ k=>exact .cons q (ih k t)
theorem xW{ds:List D}(k:Nat)(r:RepL K F vs ds):RepL K F (vs.drop k) (ds.drop k):=by
 induction vs generalizing ds k with
 | nil=>cases r;rw[List.drop_nil,List.drop_nil];exact .nil
 | cons v vs ih=>cases r with
  | cons q t=>cases k with
   | zero=>exact .cons q t
   | succ k=>exact ih k t
theorem GN{S:Type}{ms:Ev S (List D)}{pos':Pos}(hN:X.N[i]? = some x)(hv:Vis X.env.scope x)(he:AEa X [e,e2] ms)
  (hbase:attributeBase (.Name x pos') "insert" X.env (eval (.Name x pos') X.env)=eval (.Name x pos') X.env)
  (hfew:((backTo cpos (starEach [e,e2] X.env)).all (λx=>!x.1)&&(backToKw cpos (keywordEach [] X.env)).all (λx=>x.1.isSome)
   && decide ([e,e2].length+([]:List Keyword).length+(if([]:List Keyword).isEmpty then 0 else 1)<30))=true)
  (hline:(apos.endLine==cpos.line)=true) (hs:starEach [e,e2] X.env=(false,eval e X.env)::starEach [e2] X.env) (hplain:(backTo cpos (starEach [e2] X.env)).any (·.1)=false)
  (hsw:swapsWith (.Call (.Attribute (.Name x pos') "insert" apos) [e,e2] [] cpos) none pos.line X.env=pure false) (hd:(x==("__debug__" : Str))=false:=by decide) (hcd:(x==("__classdict__" : Str))=false:=by decide) :
  AS X (.Expr (.Call (.Attribute (.Name x pos') "insert" apos) [e,e2] [] cpos) pos) (xU i CY ms):=λOK K G F Z H ρ E hO hX St ok eo =>
 gv (mw (Ak LQ PySem.F.slot_list_insert PySem.F.type_list_insert ym (dH hN hv hd hcd) bK hbase hfew hline hs hplain) hsw) (by
  unfold xU at ok
  split at ok
  case h_2=>exact(hO ok).elim
  ·rename_i ds0 h0
   obtain⟨a,vs0,ea,hh,_⟩:=dU St h0
   refine⟨_,ea,.inl ⟨rfl,vs0,.inl (.inl hh)⟩,he OK K.x _ G F Z H ρ _ hO hX St ok λas ws F1 H1 ρ1 s1 S1 _ r1 o1=>?_⟩
   split at o1
   case h_2=>exact(hO o1).elim
   rename_i ds hds
   obtain⟨ds',hf,o2⟩:=cy hO o1
   obtain⟨a',vs,ea',hh1,rv⟩:=dU S1 hds
   rw[ea]at ea'
   injection ea' with ea';injection ea' with ea';injection ea' with ea'
   subst ea'
   unfold CY at hf
   split at hf
   case h_2=>cases hf
   rename_i k d
   split at hf
   case isFalse=>cases hf
   rename_i hc
   cases hf
   simp only[ac,zzi]at hc
   obtain⟨v1,v2,rfl,q1,q2⟩:=r1.two_inv
   cases q1
   have hlen:=rv.length
   refine⟨a,vs,v2,k,rfl,rfl,hh1,hc.1.1,by lia,by lia,?_⟩
   exact eo.nx F1 Z _ _ s1 (mz S1 hds ea ((xV _ rv).append (.cons q2 (xW _ rv)))) o2)
theorem xP(l:Addr)(items:Array Value)(n:Nat)(dd:Option Addr)(sl:Array (Option Value))(k:Int)(t:Tok)(j:Nat)(hi:∀i:Nat,i<items.size->∃m u,items[i]? = some (.int m u))
  (hj:∃u,items[j]? = some (.int k u)) (hb:∀i:Nat,i<j->∀u,items[i]? ≠ some (.int k u)) (hs:(j:Int)<2^63) :
  Meets (Builtin.«tuple.index» ⟨[.ref l,.int k t],[]⟩) (λA R s=>s.heap.get? l=some { cls:=.type "tuple",dict:=dd,data:=.seq items n,slots:=sl }/\R (.ok (.ret (.int (j:Nat) s.toks))) { s with toks:=s.toks+1 }) :=
 .of_wp λprog w A R s h=>by
  obtain⟨hp,g,d,tk,os⟩:=s;obtain⟨hl,h⟩:=h
  obtain⟨uj,ej⟩:=hj
  have hlt:j<items.size:=by
   rcases Lo j items.size with z|z
   ·exact z
   ·rw[ua z]at ej;cases ej
  wp_walk using wpAny_loadPart' hl
  refine(show wpAny (model prog w) A.in1 (forIn [:min items.size items.size] ((none,()):Option Fin×Unit) (λ(i:Nat) (_:Option Fin×Unit)=>(match items[i]? with
   | some y=>do
    let b <-eqBool y (.int k t)
    if b=true then do
     let r <-retInt (i:Int)
     pure (ForInStep.done (some r,()))
    else pure (ForInStep.yield (none,()))
   | _=>pure (ForInStep.yield (none,())):Sem (ForInStep (Option Fin×Unit))))) _ _ _ from ?_)
  rw[Std.Legacy.Range.forIn_eq_forIn_range']
  have er:List.range' ([:min items.size items.size]:Std.Legacy.Range).start ([:min items.size items.size]:Std.Legacy.Range).size ([:min items.size items.size]:Std.Legacy.Range).step=List.range' 0 items.size:=by simp[Std.Legacy.Range.size]
  rw[er]
  refine KN _ (λrest (b:Option Fin×Unit) s'=>b.1=none/\s'=⟨hp,g,d,tk,os⟩/\∃i,i<=j/\rest=List.range' i (items.size - i)) _ ?_ ?_ _ _ ⟨rfl,rfl,0,aw _,rfl⟩
  ·rintro x rest b s' ⟨_,rfl,i,hij,er⟩
   obtain⟨m,em⟩:∃m,items.size - i=m+1:=⟨items.size - i - 1,by lia⟩
   rw[em,List.range'_succ]at er
   injection er with e1 e2
   subst e1
   obtain⟨q,u,eq⟩:=hi x (by lia)
   rw[eq]
   dsimp only
   refine zza (wpAny_eqBool_int ?_)
   by_cases c:q=k
   ·subst c
    have:x=j:=by
     by_cases z:x=j
     ·exact z
     ·exact absurd eq (hb x (by lia) u)
    subst this
    rw[ar (by simp)]
    refine zza (show wpAny _ _ (mkInt (x:Int) >>= λv=>ret v) _ _ _ from zza (wpAny_mkInt (show wpAny _ _ (pure (Fin.done (Flow.ret (.int (x:Int) tk)))) _ _ _ from zzb ?_)))
    refine zzb ?_
    exact zzb ⟨_,rfl,h⟩
   ·rw[au (by simpa using c)]
    refine zzb ⟨rfl,rfl,x+1,?_,?_⟩
    ·by_cases z:x=j
     ·subst z;rw[ej]at eq;cases eq;exact absurd rfl c
     ·lia
    ·rw[e2];congr 1;lia
  ·rintro b s' ⟨_,rfl,i,hij,er⟩
   have:=congrArg List.length er
   rw[List.length_range',fi]at this
   lia
def nZ:D->List D->Option D
 | .tuple ds,[.int k]=>match intsOf ds with
  | some ns=>match ns.findIdx? (λm=>decide (m=k))with
   | some j=>some (.int (j:Nat))
   | none=>none
  | none=>none
 | _,_=>none
theorem iX{K:Fg}{F:Hp}:∀{ns:List Int} {vs:List V} {us:List Value},RepL K F vs (ns.map PyData.int)->Vals vs us->∀(i:Nat),(∀m,ns[i]? = some m->∃t,us[i]? = some (.int m t))/\us.length=ns.length
 | [],vs,us,r,v,i=>by cases r;cases v;exact⟨λm h=>by simp at h,rfl⟩
 | n::ns,vs,us,r,v,i=>by
  cases r with
  | cons a b =>
   cases v with
   | cons c e =>
    have:=a.int_inv
    subst this
    obtain⟨t,rfl⟩:=c
    refine⟨λm h=>?_,by simp[(iX b e 0).2]⟩
    cases i with
    | zero=>simp at h;subst h;exact⟨t,by simp⟩
    | succ i=>obtain⟨u,hu⟩:=(iX b e i).1 m (by simpa using h);exact⟨u,by simpa using hu⟩
theorem AD:MtR X "tuple.index" (Ea X.K nZ):=by
 intro pins s Z H x xs v us Q I rx rxs ⟨G,F,σ',ρ,d,ds,res,S,ho,hr,e,k⟩
 unfold nZ at e
 split at e
 case h_2=>cases e
 rename_i ts q
 split at e
 case h_2=>cases e
 rename_i ns hns
 split at e
 case h_2=>cases e
 rename_i j hj
 cases e
 obtain⟨a,vs,rfl,h1,h2⟩:=ho.tuple S.fh
 rw[bY hns]at h2
 obtain⟨its,rv,pt,hz⟩:=I.tuple h1
 cases hr with
 | cons hy hn =>
  cases hn
  have:=hy.int_inv
  subst this
  obtain⟨u,rfl,ru⟩:=vals1 rxs
  obtain⟨t,rfl⟩:=ru
  cases rx
  obtain⟨ob,e1,e2,n,e3⟩:=pt
  obtain⟨cl,dd,da,sl⟩:=ob
  dsimp only at e2 e3
  subst e2 e3
  have hl:=(iX h2 rv 0).2
  obtain⟨hlt,hpj,hbf⟩:=List.findIdx?_eq_some_iff_getElem.mp hj
  have hlen:=rv.length
  refine LZ PySem.F.slot_tuple_index ⟨_,e1,rfl⟩ PySem.F.entry_tuple_index (PySem.F.args_tuple_index_2 _ _) (xP a its.toArray n dd sl q t j (λi hi=>?_) ?_ (λi hi u hc=>?_) (by rw[KH]at hz;lia)) ⟨e1,?_⟩
  ·have hi2:i<ns.length:=by simpa[hl]using hi
   obtain⟨u,hu⟩:=(iX h2 rv i).1 ns[i] (de hi2)
   exact⟨_,u,by simpa using hu⟩
  ·obtain⟨u,hu⟩:=(iX h2 rv j).1 ns[j] (de hlt)
   have:ns[j]=q:=by simpa using hpj
   rw[this]at hu
   exact⟨u,by simpa using hu⟩
  ·have hi2:i<ns.length:=by lia
   obtain⟨u2,hu⟩:=(iX h2 rv i).1 ns[i] (de hi2)
   have hc':its[i]? = some (.int q u):=by simpa using hc
   rw[hu]at hc'
   injection hc' with hc'
   injection hc' with hc'
   have:=hbf i hi
   simp[hc']at this
  ·exact⟨.int _,H,I.tok _,⟨_,rfl⟩,k _ F H (Same.refl _) S (.int _)⟩
end L4
namespace WD
open PySem PyProof.Rows
theorem kC:typeLookup (.type "zip") "__getattr__" = pure none:=by rw[Lj,KB];kernel_rfl
theorem uA:typeLookup (.type "zip") "keys" = pure none:=by rw[Lj,KB];kernel_rfl
theorem rN:entryFor table "zip.__getattribute__" = some Builtin.«object.__getattribute__» :=
 entryFor_alias (id' := "object.__getattribute__") (by kernel_rfl) (by decide +kernel) (by decide +kernel) (by kernel_rfl)
theorem EQ(a:Addr)(xs:Array Value)(sl:Array (Option Value))(u:Tok) :
  Meets (Builtin.«object.__getattribute__» ⟨[.ref a,.str "keys" u],[]⟩) (λA R s=>s.heap.get? a=some { cls:=.type "zip",dict:=none,data:=.fields xs,slots:=sl }/\raisesAttr (.ref a) "keys" A R s) :=
 Meets.of_wp λprog w A R s hs=>by
  obtain⟨hp,g,d,tk,os⟩:=s
  obtain⟨hx,hs⟩:=hs
  have hT:(⟨hp,g,d,tk,os⟩:Shared).TypeIs (.ref a) "zip":=⟨_,hx,rfl⟩
  have hmiss:=uA
  unfold Builtin.«object.__getattribute__»
  repeat (any_goals (first|assumption|wp_step))
  try rw[au (by decide)]
  repeat (any_goals (first|assumption|wp_step))
  exact wpAny_raiseAttrError hs.1 hs.2 (attrMsg_fits (by decide +kernel) (by rw[KH];decide))
section
variable {prog:Program}{w:World}{A:Around}{E:zzj}
theorem ER{s:Shared}{a:Addr}{xs:Array Value}{sl:Array (Option Value)}{u:Tok}{Q:zzj}
  (hx:s.heap.get? a=some { cls:=.type "zip",dict:=none,data:=.fields xs,slots:=sl }) (hA:A.handled=none)
  (h:∀h' tk e,Heap.NewExcOf s.heap h' e "AttributeError" -> E (.ref e) { s with heap:=h',toks:=tk }) :
  wpAny (model prog w) A (getAttrBy (.ref a) (.str "keys" u) false) Q E s:=by
 obtain⟨hp,g,d,tk,os⟩:=s
 have hT:∀tk',(⟨hp,g,d,tk',os⟩:Shared).TypeIs (.ref a) "zip":=λ_=>⟨_,hx,rfl⟩
 have f1:=Lr
 have f3:=F.slot_zip_getattribute.lookup
 have f4:=F.slot_zip_getattribute.bind (.ref a)
 have f5:=kC
 unfold getAttrBy
 repeat (any_goals (first|assumption|exact hT _|((with_reducible show wpAny _ _ (call (Value.builtin "zip.__getattribute__") _ _) _ _ _);refine LZ F.slot_zip_getattribute (hT _) rN (F.args_zip_getattribute_2 _ _) (EQ a xs sl _) ⟨hx,hA,λh' tk' e hx'=>?_⟩)|wp_step))
 obtain⟨t',u',he⟩:=hx'.there
 show wpAny _ _ (getattributeRaised _ _ _ _ _ _ _) _ _ _
 unfold getattributeRaised
 repeat (any_goals (first|assumption|wp_step))
 exact h _ _ _ hx'.of
theorem zip?{s:Shared}{a:Addr}{xs:Array Value}{sl:Array (Option Value)}{Q:Option Value->Shared->Prop}
  (hx:s.heap.get? a=some { cls:=.type "zip",dict:=none,data:=.fields xs,slots:=sl }) (hA:A.handled=none)
  (h:∀h' tk e,Heap.NewExcOf s.heap h' e "AttributeError" -> Q none { s with heap:=h',toks:=tk }) :
  wpAny (model prog w) A (getAttr? (.ref a) "keys") Q E s:=by
 unfold getAttr? getAttrBy?
 obtain⟨hp,g,d,tk,os⟩:=s
 repeat (any_goals (first|assumption|(with_reducible refine ER (s:=⟨hp,g,d,_,os⟩) hx hA λh' tk' e hx'=>?_)|wp_step))
 obtain⟨oe,vs,he,hec,hed,_⟩:=hx'.there
 have f1:=Lr
 obtain⟨c,dct,dat,sl⟩:=oe
 simp only at hec hed
 subst hec hed
 repeat (any_goals (first|assumption|wp_step))
 exact h _ _ _ hx'
end
end WD
namespace PySem
open PyProof.Rows
variable {l1 l2 z p q i1 i2:Addr}{xs ys:Array Value}{Q:zzj}{b:Bool}
section
variable {prog:Program} {w:World} {A:Around} {E:zzj} {s:Shared}
structure Zm(h:Heap)(z p q i1 i2 l1 l2:Addr)(f0 u v:Value)(k1 k2:Nat):Prop where
 z0:IsZip h z p q f0
 p0:IsPair h p (.ref i1) (.ref i2)
 q0:IsPair h q u v
 a0:h.IsListIter i1 l1 k1
 b0:h.IsTupleIter i2 l2 k2
theorem xG{k:Nat}{x y u v:Value}(D:ZipApart z p q i1 i2 l1 l2)
  (T:Zm s.heap z p q i1 i2 l1 l2 .none u v k k) (e1:s.heap.IsList l1 xs) (e2:s.heap.IsTuple l2 ys) (hx:xs[k]? = some x) (hy:ys[k]? = some y)
  (hQ:∀h',Zm h' z p q i1 i2 l1 l2 (rawInt s.heap.objs.size) x y (k+1) (k+1)->IsPair h' s.heap.objs.size x y ->
   (∀c o,c≠z->c≠q->c≠i1->c≠i2->s.heap.get? c=some o->h'.get? c=some o)->Q (.ref s.heap.objs.size) { s with heap:=h' }) :
  wpAny (model prog w) A (Builtin.«zip.__next__» ⟨[.ref z],[]⟩) (λfin s'=>∃r,fin=.done (.ret r)/\Q r s') E s:=by
 have z0:=T.z0
 show wpAny _ _ (field (.ref z) 2 >>= _) _ _ _
 refine zza (pI z0 rfl (x:=.bool false) rfl ?_)
 show wpAny _ _ (field (.ref z) 3 >>= _) _ _ _
 refine zza (pI z0 rfl (x:=.ref p) rfl (zza (wP T.p0 rfl ?_)))
 show wpAny _ _ (Builtin.SmallTypes.ownedTupleIsFree (.ref z) >>= _) _ _ _
 refine zza ?_
 unfold Builtin.SmallTypes.ownedTupleIsFree
 refine zza (pI z0 rfl (x:=.none) rfl (zzb ?_))
 simp only[KF]
 refine zza (Kq (zza (pI z0 rfl (x:=.ref q) rfl ?_)))
 refine zza (Lp z0 (by simp) λg1 (z1:IsZip g1 z p q .ellipsis) (m1:Heap.SameBut z s.heap g1)=>zza ?_)
 simp only[List.zipIdx_cons,List.zipIdx_nil,Ll,List.forIn_nil]
 refine zza (zza (wpAny_onRaise ?_))
 show wpAny _ _ (Builtin.SmallTypes.nextOf (.ref i1) >>= _) _ _ _
 refine zza (wpAny_nextOf_list_item (T.a0.at λo e=>m1.extBut _ _ D.i1z e) (e1.extBut m1.extBut D.l1z) hx λg2 a2 (m2:Heap.SameBut i1 g1 g2)=>zzb ?_)
 have q2:IsPair g2 q u v:=m2.extBut _ _ D.TOi1 (m1.extBut _ _ D.TOz T.q0)
 refine zza (wP q2 rfl (zza (wpAny_updateSeq_pair q2 λg3 (q3:IsPair g3 q x v) (m3:Heap.SameBut q g2 g3)=>zza (wpAny_letGo (zzb ?_)))))
 refine zza (zza (wpAny_onRaise ?_))
 show wpAny _ _ (Builtin.SmallTypes.nextOf (.ref i2) >>= _) _ _ _
 refine zza (nG (T.b0.at λo e=>m3.extBut _ _ D.TOi2.symm (m2.extBut _ _ D.i12.symm (m1.extBut _ _ D.i2z e)))
  (((e2.extBut m1.extBut D.l2z).extBut m2.extBut D.l2i1).extBut m3.extBut D.l2TO) hy λg4 b4 (m4:Heap.SameBut i2 g3 g4)=>zzb ?_)
 have q4:IsPair g4 q x v:=m4.extBut _ _ D.TOi2 q3
 refine zza (wP q4 rfl (zza (wpAny_updateSeq_pair q4 λg5 (q5:IsPair g5 q x y) (m5:Heap.SameBut q g4 g5)=>zza (wpAny_letGo (zzb (zzb ?_))))))
 refine zza (wP q5 rfl (zza (wpAny_newTuple ?_)))
 have sz:g5.objs.size=s.heap.objs.size:=by rw[m5.1,m4.1,m3.1,m2.1,m1.1]
 have z5:IsZip g5 z p q .ellipsis:=m5.extBut _ _ D.TOz.symm (m4.extBut _ _ D.i2z.symm (m3.extBut _ _ D.TOz.symm (m2.extBut _ _ D.i1z.symm z1)))
 have k5:∀c o,c≠z->c≠q->c≠i1->c≠i2->s.heap.get? c=some o->g5.get? c=some o:=λc o c1 c2 c3 c4 e =>
  m5.extBut _ _ c2 (m4.extBut _ _ c4 (m3.extBut _ _ c2 (m2.extBut _ _ c3 (m1.extBut _ _ c1 e))))
 have a5:g5.IsListIter i1 l1 (k+1):=a2.at λo e=>m5.extBut _ _ D.TOi1.symm (m4.extBut _ _ D.i12 (m3.extBut _ _ D.TOi1.symm e))
 have b5:g5.IsTupleIter i2 l2 (k+1):=b4.at λo e=>m5.extBut _ _ D.TOi2.symm e
 have lz:z<g5.objs.size:=am z5
 show wpAny _ _ (Builtin.SmallTypes.ownedTupleHandOut (.ref z) (.ref g5.objs.size) >>= _) _ _ _
 refine zza ?_
 unfold Builtin.SmallTypes.ownedTupleHandOut
 have z6:IsZip (g5.push { cls:=.type "tuple",data:=.seq #[x,y] }) z p q .ellipsis:=zzc _ z5
 refine zza (Lp z6 (by simp) λg7 (z7:IsZip g7 z p q (rawInt g5.objs.size)) m7=>?_)
 refine Lp z7 (by simp) λg8 (z8:IsZip g8 z p q (rawInt g5.objs.size)) m8=>?_
 have up:∀c o,c≠z->g5.get? c=some o->g8.get? c=some o:=λc o c1 e=>m8.extBut _ _ c1 (m7.extBut _ _ c1 (zzc _ e))
 have t8:IsPair g8 g5.objs.size x y:=m8.extBut _ _ (li lz) (m7.extBut _ _ (li lz) (zze _ rfl))
 rw[sz]at z8 t8
 refine zzb ⟨_,rfl,?_⟩
 show Q (.ref g5.objs.size) _
 rw[sz]
 exact hQ g8 ⟨z8,up _ _ D.TIz (k5 _ _ D.TIz D.TITO D.TIi1 D.TIi2 T.p0),up _ _ D.TOz q5,a5.at λo e=>up _ o D.i1z e,b5.at λo e=>up _ o D.i2z e⟩ t8 λc o c1 c2 c3 c4 e=>up c o c1 (k5 c o c1 c2 c3 c4 e)
structure Zn(h:Heap)(z p q i1 i2 l1 l2 t:Addr)(b:Bool)(k:Nat):Prop where
 z0:h.get? z=some { cls:=.type "zip",dict:=none,data:=.fields #[rawInt t,.bool b,.bool false,.ref p,.ref q],slots:=#[] }
 p0:IsPair h p (.ref i1) (.ref i2)
 a0:h.IsListIter i1 l1 k
 b0:h.IsTupleIter i2 l2 k
 t0:∃o,h.get? t=some o
theorem pL{t:Addr}{k:Nat}{Q:Bool->Shared->Prop}(nt:t≠z)(np:p≠z)(n1:i1≠z)(n2:i2≠z)(T:Zn s.heap z p q i1 i2 l1 l2 t b k)
  (h:∀g,Zn g z p q i1 i2 l1 l2 t true k->Heap.SameBut z s.heap g->Q false { s with heap:=g }):wpAny (model prog w) A (Builtin.SmallTypes.ownedTupleIsFree (.ref z)) Q E s:=by
 unfold Builtin.SmallTypes.ownedTupleIsFree
 obtain⟨o,ho⟩:=T.t0
 refine zza (pI T.z0 rfl (x:=rawInt t) rfl ?_)
 show wpAny _ _ (loadIfAlive ((t:Int).toNat) >>= _) _ _ _
 rw[Er]
 refine zza (PySem.W.kdx_alive ho ?_)
 simp only[Option.isNone_some,tu,Cn]
 refine zza (pI T.z0 rfl (x:=.bool b) rfl ?_)
 cases b with
 | true =>
  simp only[bne_self_eq_false,tu,Cn]
  refine zzb ?_
  have e:s={ s with heap:=s.heap }:=by cases s;rfl
  rw[e]
  exact h s.heap T (Heap.SameBut.refl z s.heap)
 | false =>
  rw[ar (by decide)]
  refine zza (Lp T.z0 (by simp) λg z1 m=>zzb (h g ⟨z1,m.extBut _ _ np T.p0,T.a0.at λo e=>m.extBut _ _ n1 e,T.b0.at λo e=>m.extBut _ _ n2 e,o,m.extBut _ _ nt ho⟩ m))
theorem xF{t:Addr}{k:Nat}{x y:Value}(D:ZipApart z p q i1 i2 l1 l2)(nt:t≠z)(nt1:t≠i1)(nt2:t≠i2)
  (T:Zn s.heap z p q i1 i2 l1 l2 t b k) (e1:s.heap.IsList l1 xs) (e2:s.heap.IsTuple l2 ys) (hx:xs[k]? = some x) (hy:ys[k]? = some y)
  (hQ:∀h',Zn h' z p q i1 i2 l1 l2 t true (k+1)->IsPair h' s.heap.objs.size x y->(∀c o,c≠z->c≠i1->c≠i2->s.heap.get? c=some o->h'.get? c=some o)->Q (.ref s.heap.objs.size) { s with heap:=h' }) :
  wpAny (model prog w) A (Builtin.«zip.__next__» ⟨[.ref z],[]⟩) (λfin s'=>∃r,fin=.done (.ret r)/\Q r s') E s:=by
 have z0:=T.z0
 show wpAny _ _ (field (.ref z) 2 >>= _) _ _ _
 refine zza (pI z0 rfl (x:=.bool false) rfl ?_)
 show wpAny _ _ (field (.ref z) 3 >>= _) _ _ _
 refine zza (pI z0 rfl (x:=.ref p) rfl (zza (wP T.p0 rfl ?_)))
 show wpAny _ _ (Builtin.SmallTypes.ownedTupleIsFree (.ref z) >>= _) _ _ _
 refine zza (pL nt D.TIz D.i1z D.i2z T λg1 T1 (m1:Heap.SameBut z s.heap g1)=>?_)
 simp only[tu,Cn]
 refine zza ?_
 rw[<-LD]
 simp only[Ll,List.forIn_nil]
 refine zza (zza (ev ?_))
 show wpAny _ _ (Builtin.SmallTypes.nextOf (.ref i1) >>= _) _ _ _
 refine zza (wpAny_nextOf_list_item T1.a0 (e1.extBut m1.extBut D.l1z) hx λg2 a2 (m2:Heap.SameBut i1 g1 g2)=>zzb (zzb ?_))
 refine zza (zza (ev ?_))
 show wpAny _ _ (Builtin.SmallTypes.nextOf (.ref i2) >>= _) _ _ _
 refine zza (nG (T1.b0.at λo e=>m2.extBut _ _ D.i12.symm e) ((e2.extBut m1.extBut D.l2z).extBut m2.extBut D.l2i1) hy λg3 b3 (m3:Heap.SameBut i2 g2 g3)=>zzb (zzb (zzb ?_)))
 refine zza (wpAny_newTuple ?_ (show 2<=sizeLine by decide))
 have sz:g3.objs.size=s.heap.objs.size:=by rw[m3.1,m2.1,m1.1]
 have up:∀c o,c≠z->c≠i1->c≠i2->s.heap.get? c=some o->g3.get? c=some o:=λc o c1 c2 c3 e=>m3.extBut _ _ c3 (m2.extBut _ _ c2 (m1.extBut _ _ c1 e))
 have pu:∀c o,g3.get? c=some o->(g3.push { cls:=.type "tuple",data:=.seq #[x,y] }).get? c=some o:=λc o e=>zzc _ e
 refine zzb ⟨_,rfl,?_⟩
 show Q (.ref g3.objs.size) _
 have tt:IsPair (g3.push { cls:=.type "tuple",data:=.seq #[x,y] }) g3.objs.size x y:=zze _ rfl
 rw[sz]at tt ⊢
 obtain⟨o,ho⟩:=T.t0
 exact hQ _ ⟨pu _ _ (m3.extBut _ _ D.i2z.symm (m2.extBut _ _ D.i1z.symm T1.z0)),pu _ _ (up _ _ D.TIz D.TIi1 D.TIi2 T.p0),a2.at λo e=>pu _ _ (m3.extBut _ _ D.i12 e),b3.at λo e=>pu _ _ e,o,pu _ _ (up _ _ nt nt1 nt2 ho)⟩ tt λc o c1 c2 c3 e=>pu _ _ (up _ _ c1 c2 c3 e)
theorem zh{t:Addr}{k:Nat}{Q:Fin->Shared->Prop}(hh:A.handled=none)(D:ZipApart z p q i1 i2 l1 l2)(nt:t≠z)
  (T:Zn s.heap z p q i1 i2 l1 l2 t b k) (e1:s.heap.IsList l1 xs) (hx:xs[k]? = none)
  (hE:∀h' e,(∀c o,c≠z->c≠i1->s.heap.get? c=some o->h'.get? c=some o)->(∃o,h'.get? e=some o/\o.cls=.type "StopIteration")->E (.ref e) { s with heap:=h' }) :
  wpAny (model prog w) A (Builtin.«zip.__next__» ⟨[.ref z],[]⟩) Q E s:=by
 have z0:=T.z0
 show wpAny _ _ (field (.ref z) 2 >>= _) _ _ _
 refine zza (pI z0 rfl (x:=.bool false) rfl ?_)
 show wpAny _ _ (field (.ref z) 3 >>= _) _ _ _
 refine zza (pI z0 rfl (x:=.ref p) rfl (zza (wP T.p0 rfl ?_)))
 show wpAny _ _ (Builtin.SmallTypes.ownedTupleIsFree (.ref z) >>= _) _ _ _
 refine zza (pL nt D.TIz D.i1z D.i2z T λg1 T1 (m1:Heap.SameBut z s.heap g1)=>?_)
 simp only[tu,Cn]
 refine zza ?_
 rw[<-LD]
 simp only[Ll,List.forIn_nil]
 refine zza (zza (ev ?_))
 show wpAny _ _ (Builtin.SmallTypes.nextOf (.ref i1) >>= _) _ _ _
 exact zza (wpAny_nextOf_list_end hh T1.a0 (e1.extBut m1.extBut D.l1z) hx λg2 e (m2:Heap.ExtBut i1 g1 g2) he=>hE g2 e (λc o c1 c2 x=>m2 _ _ c2 (m1.extBut _ _ c1 x)) he)
abbrev zM1(h:Heap)(l1:Addr):Heap:=h.push { cls:=.type "list_iterator",data:=.fields #[.ref l1,.int 0 0] }
abbrev zM2(h:Heap)(l1 l2:Addr):Heap:=(zM1 h l1).push { cls:=.type "tuple_iterator",data:=.fields #[.ref l2,.int 0 0] }
abbrev zM3(h:Heap)(l1 l2:Addr):Heap:=(zM2 h l1 l2).push { cls:=.type "tuple",data:=.seq #[.ref h.objs.size,.ref (zM1 h l1).objs.size] }
abbrev zM4(h:Heap)(l1 l2:Addr):Heap:=(zM3 h l1 l2).push { cls:=.type "tuple",data:=.seq #[.none,.none] }
abbrev zM5(h:Heap)(l1 l2:Addr):Heap:=(zM4 h l1 l2).push { cls:=.type "zip",data:=.fields #[.none,.bool false,.bool false,.ref (zM2 h l1 l2).objs.size,.ref (zM3 h l1 l2).objs.size] }
theorem zg(l1 l2:Addr)(xs ys:Array Value) :
  Meets (Builtin.«zip.__new__» ⟨[.type "zip",.ref l1,.ref l2],[]⟩) (λ_ R s=>s.heap.IsList l1 xs/\s.heap.IsTuple l2 ys /\
   R (.ok (.ret (.ref (zM4 s.heap l1 l2).objs.size))) { s with heap:=zM5 s.heap l1 l2 }) :=
 .of_wp λprog w A R s h=>by
  obtain⟨hp,g,d,tk,os⟩:=s;obtain⟨e1,e2,h⟩:=h
  have hsub:=sub_zip
  have L1:Heap.IsList (Shared.heap ⟨hp,g,d,tk,os⟩) l1 xs:=e1
  have L2:Heap.IsTuple (Shared.heap ⟨hp.push { cls:=.type "list_iterator",data:=.fields #[.ref l1,.int 0 0] },g,d,tk,os⟩) l2 ys:=by
   obtain⟨o,ho,r⟩:=e2
   exact⟨o,zzc _ ho,r⟩
  wp_walk using LH L1,Lq L2
  exact⟨_,rfl,h⟩
theorem xH(e1:s.heap.IsList l1 xs)(e2:s.heap.IsTuple l2 ys)
  (h:∀h',Zm h' (s.heap.objs.size+4) (s.heap.objs.size+2) (s.heap.objs.size+3) s.heap.objs.size (s.heap.objs.size+1) l1 l2 .none .none .none 0 0 ->
   (∀c o,s.heap.get? c=some o->h'.get? c=some o)->Q (.ref (s.heap.objs.size+4)) { s with heap:=h' }) :
  wpAny (model prog w) A (call (.type "zip") [.ref l1,.ref l2]) Q E s:=by
 refine callType_new F.called_zip (by decide) (F.typeCall_zip_2 _ _) (F.newCall_zip_2 _ _) (λobj=>F.args_object_init_3 obj _ _) F.entry_zip_new
  (zg l1 l2 xs ys) ⟨e1,e2,?_⟩
 have y1:(zM1 s.heap l1).objs.size=s.heap.objs.size+1:=r0 ..
 have y2:(zM2 s.heap l1 l2).objs.size=s.heap.objs.size+2:=by rw[r0,y1]
 have y3:(zM3 s.heap l1 l2).objs.size=s.heap.objs.size+3:=by rw[r0,y2]
 have y4:(zM4 s.heap l1 l2).objs.size=s.heap.objs.size+4:=by rw[r0,y3]
 have g5:(zM5 s.heap l1 l2).get? (zM4 s.heap l1 l2).objs.size=some _:=zze _ rfl
 have g4:(zM5 s.heap l1 l2).get? (zM3 s.heap l1 l2).objs.size=some _:=zzc _ (zze _ rfl)
 have g3:(zM5 s.heap l1 l2).get? (zM2 s.heap l1 l2).objs.size=some _:=zzc _ (zzc _ (zze _ rfl))
 have g2:(zM5 s.heap l1 l2).get? (zM1 s.heap l1).objs.size=some _:=zzc _ (zzc _ (zzc _ (zze _ rfl)))
 have g1:(zM5 s.heap l1 l2).get? s.heap.objs.size=some _:=zzc _ (zzc _ (zzc _ (zzc _ (zze _ rfl))))
 show _/\_
 rw[y2,y3,y4]at g5
 rw[y1,y2]at g3
 rw[y3]at g4
 rw[y1]at g2
 rw[y4]
 exact⟨⟨_,g5,rfl⟩,h _ ⟨g5,g3,g4,⟨_,g1,rfl,rfl⟩,⟨_,g2,rfl,rfl⟩⟩ λc o x=>zzc _ (zzc _ (zzc _ (zzc _ (zzc _ x))))⟩
end
end PySem
namespace L4
open PySem PySem.Spec PyProof.Rows L2 L3
variable {X:Cx}{xs ys:List V}{p z q i1 i2 l1 l2:Addr}{pos:Pos}
inductive PutZ(d:Addr):Hp->List (V×V)->Hp->Prop where
 | nil {H:Hp}:PutZ d H [] H
 | cons {H H1 H':Hp} {k v:V} {rest:List (V×V)}:DPut H d k v H1->PutZ d H1 rest H'->PutZ d H ((k,v)::rest) H'
section
variable {pins:zzk} {Z:L2.St} {A:Around} {E:zzj}
theorem xE{k:Nat}{x y:V}{rest:List (V×V)}(h:(xs.drop k).zip (ys.drop k)=(x,y)::rest):xs[k]? = some x/\ys[k]? = some y/\(xs.drop (k+1)).zip (ys.drop (k+1))=rest:=by
 cases hx:xs.drop k with
 | nil=>rw[hx]at h;simp at h
 | cons a as =>
  cases hy:ys.drop k with
  | nil=>rw[hy]at h;simp at h
  | cons b bs =>
   rw[hx,hy,va]at h
   injection h with h1 h2
   injection h1 with h1 h3
   subst h1 h3
   refine⟨?_,?_,?_⟩
   ·have:=congrArg (λl=>l[0]?) hx;simpa using this
   ·have:=congrArg (λl=>l[0]?) hy;simpa using this
   ·rw[<-Lz,<-Lz,hx,hy];exact h2
theorem Dp{R:Result->Shared->Prop}(hh:A.handled=none)(hu:A.units+2<cLine){d t:Addr}(D:ZipApart z p q i1 i2 l1 l2)(nt:t≠z)(nt1:t≠i1)(nt2:t≠i2)(nd:∀c∈[z,p,q,i1,i2],c≠d)(ntd:t≠d)(hlen:xs.length=ys.length) :
  ∀(rest:List (V×V)) (k:Nat) (b:Bool) (j:Int) (u:Tok) (s:Shared) (H H':Hp),Inv X pins Z H s->(∀c∈[z,p,q,i1,i2],g6 X pins H c)->Zn s.heap z p q i1 i2 l1 l2 t b k ->
  (∀H1:Hp,(∀b,b≠d->H1 b=H b)->SqL X.K H1 l1 xs/\SqT X.K H1 l2 ys)->(xs.drop k).zip (ys.drop k)=rest->PutZ d H rest H'->(∀s',Inv X pins Z H' s'->R (.ok (.ret .none)) s') ->
  codeAny (model X.prog X.w) A (.builtin "dict.update.loop" ⟨[.ref d,.ref z,.int j u,.none],[]⟩) R s:=by
 intro rest
 induction rest with
 | nil =>
  intro k b j u s H H' I hf T kp hr P hR
  cases P
  refine om fZ ?_
  rw[ny bX _]
  show wpAny _ A.in1 (pyNext (.ref z) >>= _) _ _ s
  obtain⟨q1,q2⟩:=kp H λ_ _=>rfl
  obtain⟨its,rv,pl,hz⟩:=I.list q1
  have hl:=rv.length
  have hk:xs.length<=k:=by
   have:=congrArg List.length hr
   rw[List.length_zip,Kj,Kj,fi]at this
   lia
  have hT:s.TypeIs (.ref z) "zip":=⟨_,T.z0,rfl⟩
  refine zza ?_
  unfold pyNext
  refine zza (Ks (gt (name:=Str.ofString "__next__") hT xt
   (gs xt hT Ld (zh (A:=A.in1.in1) (by simpa using hh) D nt T (show s.heap.IsList l1 its.toArray from pl.isList) (by simp;lia) λh' e kk he=>?_) (K8 _))))
  obtain⟨o,ho,hcl⟩:=he
  refine zza (Kh (T := "StopIteration") (b:=true) ⟨o,ho,hcl⟩ Ls ?_)
  refine zzb ?_
  exact zza (zzb (zzb (hR _ (fc (t':=s.toks) I hf λc o hc e=>by
   simp only[eE,we,xz,not_or]at hc
   exact kk c o hc.1 hc.2.2.2.1 e))))
 | cons xy rest ih =>
  intro k b j u s H H' I hf T kp hr P hR
  obtain⟨x,y⟩:=xy
  cases P with
  | cons g P =>
  refine om fZ ?_
  rw[ny bX _]
  show wpAny _ A.in1 (pyNext (.ref z) >>= _) _ _ s
  obtain⟨q1,q2⟩:=kp H λ_ _=>rfl
  obtain⟨its,rv,pl,hz⟩:=I.list q1
  obtain⟨jts,rv2,pt,hz2⟩:=I.tuple q2
  obtain⟨hx,hy,hr2⟩:=xE hr
  obtain⟨x',hu1,ru⟩:=rv.get hx
  obtain⟨y',hu2,ru2⟩:=rv2.get hy
  have hT:s.TypeIs (.ref z) "zip":=⟨_,T.z0,rfl⟩
  refine zza ?_
  unfold pyNext
  refine zza (Ks (gt (name:=Str.ofString "__next__") hT xt
   (gs xt hT Ld (xF D nt nt1 nt2 T (show s.heap.IsList l1 its.toArray from pl.isList) (show s.heap.IsTuple l2 jts.toArray from pt) (x:=x') (y:=y') (by simpa using hu1) (by simpa using hu2) λh1 T1 t1 k1=>zzb ?_) (K8 _))))
  have I1:Inv X pins Z H { s with heap:=h1 }:=fc (t':=s.toks) I hf λc o hc e=>by
   simp only[eE,we,xz,not_or]at hc
   exact k1 c o hc.1 hc.2.2.2.1 hc.2.2.2.2 e
  dsimp only
  refine zza (ev ?_)
  have hT2:({ s with heap:=h1 }:Shared).TypeIs (.ref s.heap.objs.size) "tuple":=⟨_,t1,rfl⟩
  refine zza (wpAny_tryCatch ?_)
  unfold Builtin.Dict.pairItems
  refine zza (Ix hT2 ?_)
  rw[ar (by decide)]
  refine zza (wP t1 rfl ?_)
  refine zzb ?_
  show wpAny _ _ (holding [_,_] (dictSet d _ _)) _ _ _
  refine ev (vE (s:={ s with heap:=h1 }) (by show A.units+1+1<cLine;exact hu) I1 g ru ru2 λs2 I2 k2=>?_)
  refine zzb ⟨KA bX _,?_⟩
  have ne:=(gI g).2
  refine ih (k+1) true _ _ s2 _ H' I2 (λc hc=>⟨(ne c (nd c hc)).trans (hf c hc).1,(hf c hc).2⟩) ⟨k2 _ _ (nd z (by simp)) T1.z0,k2 _ _ (nd p (by simp)) T1.p0,T1.a0.at λo e=>k2 _ _ (nd i1 (by simp)) e,T1.b0.at λo e=>k2 _ _ (nd i2 (by simp)) e,?_⟩ (λH2 h2=>kp H2 λb n=>(h2 b n).trans (ne b n)) hr2 P hR
  obtain⟨o,ho⟩:=T1.t0
  exact⟨o,k2 _ _ ntd ho⟩
end
section
variable {pins:zzk} {Z:L2.St} {A:Around} {E:zzj}
theorem Br{R:Result->Shared->Prop}(hh:A.handled=none)(hu:A.units+2<cLine){d:Addr}(D:ZipApart z p q i1 i2 l1 l2)(nd:∀c∈[z,p,q,i1,i2],c≠d)(hlen:xs.length=ys.length)(hne:xs≠[])
  {j:Int} {u:Tok} {s:Shared} {H H':Hp} {a b:Value} (I:Inv X pins Z H s) (hf:∀c∈[z,p,q,i1,i2],g6 X pins H c) (T:Zm s.heap z p q i1 i2 l1 l2 .none a b 0 0)
  (kp:∀H1:Hp,(∀b,b≠d->H1 b=H b)->SqL X.K H1 l1 xs/\SqT X.K H1 l2 ys) (hd:d<s.heap.objs.size) (P:PutZ d H (xs.zip ys) H') (hR:∀s',Inv X pins Z H' s'->R (.ok (.ret .none)) s') :
  codeAny (model X.prog X.w) A (.builtin "dict.update.loop" ⟨[.ref d,.ref z,.int j u,.none],[]⟩) R s:=by
 obtain⟨x,xr,rfl⟩:∃x r,xs=x::r:=by cases xs with|nil=>exact absurd rfl hne|cons x r=>exact⟨x,r,rfl⟩
 obtain⟨y,yr,rfl⟩:∃y r,ys=y::r:=by cases ys with|nil=>simp at hlen|cons y r=>exact⟨y,r,rfl⟩
 rw[va]at P
 cases P with
 | cons g P =>
 refine om fZ ?_
 rw[ny bX _]
 show wpAny _ A.in1 (pyNext (.ref z) >>= _) _ _ s
 obtain⟨q1,q2⟩:=kp H λ_ _=>rfl
 obtain⟨its,rv,pl,hz⟩:=I.list q1
 obtain⟨jts,rv2,pt,hz2⟩:=I.tuple q2
 obtain⟨x',hu1,ru⟩:=rv.get (i:=0) (x:=x) (by simp)
 obtain⟨y',hu2,ru2⟩:=rv2.get (i:=0) (x:=y) (by simp)
 have hT:s.TypeIs (.ref z) "zip":=⟨_,T.z0,rfl⟩
 have lt:∀{c o},s.heap.get? c=some o->s.heap.objs.size≠c:=λe=>li (am e)
 have ltz:=lt T.z0
 have lt1:s.heap.objs.size≠i1:=by obtain⟨_,e,_⟩:=T.a0;exact lt e
 have lt2:s.heap.objs.size≠i2:=by obtain⟨_,e,_⟩:=T.b0;exact lt e
 refine zza ?_
 unfold pyNext
 refine zza (Ks (gt (name:=Str.ofString "__next__") hT xt
  (gs xt hT Ld (xG D T (show s.heap.IsList l1 its.toArray from pl.isList) (show s.heap.IsTuple l2 jts.toArray from pt) (x:=x') (y:=y') (by simpa using hu1) (by simpa using hu2) λh1 T1 t1 k1=>zzb ?_) (K8 _))))
 have I1:Inv X pins Z H { s with heap:=h1 }:=fc (t':=s.toks) I hf λc o hc e=>by
  simp only[eE,we,xz,not_or]at hc
  exact k1 c o hc.1 hc.2.2.1 hc.2.2.2.1 hc.2.2.2.2 e
 dsimp only
 refine zza (ev ?_)
 have hT2:({ s with heap:=h1 }:Shared).TypeIs (.ref s.heap.objs.size) "tuple":=⟨_,t1,rfl⟩
 refine zza (wpAny_tryCatch ?_)
 unfold Builtin.Dict.pairItems
 refine zza (Ix hT2 ?_)
 rw[ar (by decide)]
 refine zza (wP t1 rfl ?_)
 refine zzb ?_
 show wpAny _ _ (holding [_,_] (dictSet d _ _)) _ _ _
 refine ev (vE (s:={ s with heap:=h1 }) (by show A.units+1+1<cLine;exact hu) I1 g ru ru2 λs2 I2 k2=>?_)
 refine zzb ⟨KA bX _,?_⟩
 have ne:=(gI g).2
 refine Dp hh hu (t:=s.heap.objs.size) D ltz lt1 lt2 nd (li hd) hlen (xr.zip yr) 1 false _ _ s2 _ H' I2 (λc hc=>⟨(ne c (nd c hc)).trans (hf c hc).1,(hf c hc).2⟩) ⟨k2 _ _ (nd z (by simp)) T1.z0,k2 _ _ (nd p (by simp)) T1.p0,T1.a0.at λo e=>k2 _ _ (nd i1 (by simp)) e,T1.b0.at λo e=>k2 _ _ (nd i2 (by simp)) e,_,k2 _ _ (li hd) t1⟩ (λH2 h2=>kp H2 λb n=>(h2 b n).trans (ne b n)) (by simp) P hR
theorem vM{ob:HO}{a b:Value}{H H':Hp}{s:Shared}{Q:zzj}(hh:A.handled=none)(hu:A.units+10<cLine)(D:ZipApart z p q i1 i2 l1 l2)(hlen:xs.length=ys.length)(hne:xs≠[])
  (I:Inv X pins Z H s) (hf:∀c∈[z,p,q,i1,i2],g6 X pins H c) (T:Zm s.heap z p q i1 i2 l1 l2 .none a b 0 0) (hob:ob=.dK []\/ob=.dT [])
  (hq:∀H1:Hp,(∀b,b≠s.heap.objs.size->H1 b=H b)->SqL X.K H1 l1 xs/\SqT X.K H1 l2 ys) (P:PutZ s.heap.objs.size (upd H s.heap.objs.size ob) (xs.zip ys) H') (h:∀s',Inv X pins Z H' s'->Q (.ref s.heap.objs.size) s') :
  wpAny (model X.prog X.w) A (call (.type "dict") [.ref z]) Q E s:=by
 refine callType_codes (Q₁:=λobj s₁=>obj=.ref s.heap.objs.size/\s₁={ s with heap:=s.heap.push { cls:=.type "dict",data:=.dict #[] } }) F.kt_called_dict (F.kt_typeCall_dict_1 _) F.entry_dict_init (kt_code_dict_new _ ⟨rfl,rfl⟩) ?_
 rintro obj s₁ ⟨rfl,rfl⟩
 have I1:Inv X pins Z (upd H s.heap.objs.size ob) { s with heap:=s.heap.push { cls:=.type "dict",data:=.dict #[] },toks:=s.toks }:=by
  rcases hob with rfl|rfl
  ·exact I.laid (λ_ _ q=>zzc _ q) (ai _) (oB s.heap I.big)
  ·exact I.laid (λ_ _ q=>zzc _ q) (ai _) (oA s.heap I.big)
 have hT:({ s with heap:=s.heap.push { cls:=.type "dict",data:=.dict #[] } }:Shared).TypeIs (.ref s.heap.objs.size) "dict":=⟨_,zze _ rfl,rfl⟩
 have lt:∀{c o},s.heap.get? c=some o->c≠s.heap.objs.size:=λe=>bi (am e)
 have nd:∀c∈[z,p,q,i1,i2],c≠s.heap.objs.size:=λc hc=>by
  simp only[eE,we,xz]at hc
  rcases hc with rfl|rfl|rfl|rfl|rfl
  ·exact lt T.z0
  ·exact lt T.p0
  ·exact lt T.q0
  ·obtain⟨_,e,_⟩:=T.a0;exact lt e
  ·obtain⟨_,e,_⟩:=T.b0;exact lt e
 refine⟨hT,F.args_dict_init_2 _ _,?_⟩
 unfold Builtin.«dict.__init__»
 refine zza ?_
 unfold Builtin.Dict.selfAndRest
 refine zza (K9 hT ?_)
 show wpAny _ _ (pure (s.heap.objs.size,[Value.ref z])) _ _ _
 refine zzb ?_
 show wpAny _ _ (Builtin.Dict.updateFrom "dict.__init__" s.heap.objs.size (.ref z) [] .none) _ _ _
 unfold Builtin.Dict.updateFrom
 have z1:(s.heap.push { cls:=.type "dict",data:=.dict #[] }).get? z=some { cls:=.type "zip",dict:=none,data:=.fields #[.none,.bool false,.bool false,.ref p,.ref q],slots:=#[] }:=zzc _ T.z0
 refine zza (Ix ⟨_,z1,rfl⟩ ?_)
 rw[ar (by decide)]
 refine zza (WD.zip? (A:=A.in1.in1) z1 hh λh2 tk2 ex ne=>?_)
 simp only[Option.isNone_none,KF]
 have up:∀c o,s.heap.get? c=some o->h2.get? c=some o:=λc o e=>ne.keeps c o (zzc _ e)
 have I2:=I1.kept (h':=h2) (t':=tk2) ne.keeps
 refine zza (Kq ?_)
 refine zza (wpAny_pyIter_zip (s:={ s with heap:=h2,toks:=tk2 }) (up _ _ T.z0) ?_)
 refine zzb ⟨KA bX _,?_⟩
 refine Br (A:=A.in1) hh (by show A.units+1+2<cLine;lia) D nd hlen hne I2 (λc hc=>⟨(aK (nd c hc)).trans (hf c hc).1,(hf c hc).2⟩) ⟨up _ _ T.z0,up _ _ T.p0,up _ _ T.q0,T.a0.at λo e=>up _ _ e,T.b0.at λo e=>up _ _ e⟩ (λH2 h2=>hq H2 λb n=>(h2 b n).trans (aK n)) ?_ P λs' J=>⟨rfl,h s' J⟩
 exact am (ne.keeps _ _ (zze s.heap rfl))
end
def Hf(K:PySem.W.Frag)(t:Bool)(tl:TA):TE:=λZ H Q=>tl Z H λvs H1=>∃l1 l2 xs ys,vs=[.ref l1,.ref l2]/\xs.length=ys.length/\xs≠[]/\SqL K H1 l1 xs/\SqT K H1 l2 ys /\
 ∀p,H1 p=none->(∀H2:Hp,(∀b,b≠p->H2 b=H1 b)->SqL K H2 l1 xs/\SqT K H2 l2 ys)/\∃H',PutZ p (upd H1 p (lm t)) (xs.zip ys) H'/\Q (.ref p) H'
theorem CA{e1 e2:Expr}{tl:TA}{p p2 pos2:Pos}(t:Bool)(hc:X.calm=true)(hu:X.A.units+10<cLine)(hg:Gl X "dict")(hm:X.mg "dict" = none)(hgz:Gl X "zip")(hmz:X.mg "zip" = none)(ha:PA X [e1,e2] tl)
  (he:starEach [.Call (.Name "zip" p2) [e1,e2] [] pos2] X.env=[(false,eval (.Call (.Name "zip" p2) [e1,e2] [] pos2) X.env)])
  (hs:starEach [e1,e2] X.env=[(false,eval e1 X.env),(false,eval e2 X.env)]) (hs2:starEach [e2] X.env=[(false,eval e2 X.env)]) :
  PE X (.Call (.Name "dict" p) [.Call (.Name "zip" p2) [e1,e2] [] pos2] [] pos) (Hf X.K t tl):=by
 intro pins s Z H Q I h
 refine yi (fH I hg hm (show bootBuiltins "dict" = some (.type "dict") by decide +kernel) ?_ (by decide) (by decide))
 refine ni (T := "dict") ?_ he rfl
 rw[he]
 show wpAny _ _ (spliced ((false,eval (.Call (.Name "zip" p2) [e1,e2] [] pos2) X.env)::backTo pos [])) _ _ s
 refine ve (yi (fH I hgz hmz (show bootBuiltins "zip" = some (.type "zip") by decide +kernel) (ni (T := "zip") (thn (ha pos2 pins s Z H _ I h) λus s1 ⟨vs,H1,I1,r1,q1⟩=>?_) (by rw[hs,hs2]) (by rw[hs2];rfl)) (by decide) (by decide)))
 obtain⟨a,b,xs,ys,rfl,hlen,hne,hq,hq2,k⟩:=q1
 cases r1 with
 | cons r rr =>
  cases rr with
  | cons r' rr =>
   cases rr
   cases r
   cases r'
   obtain⟨its,rv,pl,hz⟩:=I1.list hq
   obtain⟨jts,rv2,pt,hz2⟩:=I1.tuple hq2
   have la:a<s1.heap.objs.size:=by obtain⟨o,e1,_⟩:=pl.isList;exact am e1
   have lb:b<s1.heap.objs.size:=by obtain⟨o,e1,_⟩:=pt;exact am e1
   refine xH (show s1.heap.IsList a its.toArray from pl.isList) (show s1.heap.IsTuple b jts.toArray from pt) λh' T hk=>?_
   refine Kp ?_
   have I2:=I1.kept (t':=s1.toks) hk
   obtain⟨k1,H',P,q⟩:=k h'.objs.size (I2.hok.fresh (ai _))
   refine vM (s:={ s1 with heap:=h' }) (I1.ok.hd hc) hu (zipApart_new la lb) hlen hne I2 (λc hc=>?_) T (ob:=lm t) (by cases t;exact .inl rfl;exact .inr rfl) k1 P λs' J=>⟨.ref h'.objs.size,_,J,rfl,q⟩
   have:s1.heap.objs.size<=c:=by
    simp only[eE,we,xz]at hc
    rcases hc with rfl|rfl|rfl|rfl|rfl<;>simp
   exact I1.fpOk this (I1.hok.fresh this)
theorem Ci{K:Fg}{F:Hp}{t:Bool}(fp:F p=none):∀{vs ws:List V} {as bs:List D} {es es':List (D×D)} {H:Hp},RepL K F vs as->RepL K F ws bs->Held K F H p (ocD t es)->Same F H->ig t es (mM as bs)=some es' ->
  ∃H',PutZ p H (vs.zip ws) H'/\Held K F H' p (ocD t es')/\∀b,b≠p->H' b=H b:=by
 intro vs
 induction vs with
 | nil=>intro ws as bs es es' H r r2 hh sm e;cases r;cases e;exact⟨H,.nil,hh,λ_ _=>rfl⟩
 | cons v vs ih =>
  intro ws as bs es es' H r r2 hh sm e
  cases r with
  | cons r1 r =>
  cases r2 with
  | nil=>cases e;exact⟨H,.nil,hh,λ_ _=>rfl⟩
  | cons q1 q =>
   obtain⟨es1,e1,e2⟩:=Option.bind_eq_some_iff.mp (show(cW t es _ _).bind _=some es' from e)
   obtain⟨H1,g,hh1⟩:=Ej hh sm r1 q1 e1
   have nb:=(gI g).2
   have sm1:Same F H1:=λb o z=>by rw[nb b (λy=>by rw[y,fp]at z;cases z)];exact sm b o z
   obtain⟨H',P,hh2,n2⟩:=ih r q hh1 sm1 e2
   exact⟨H',.cons g P,hh2,λb n=>(n2 b n).trans (nb b n)⟩
def yG(t:Bool):List D->Option (List (D×D))
 | [.list as,.tuple bs]=>if decide (as.length=bs.length) && !as.isEmpty then ig t [] (mM as bs)else none
 | _=>none
def Ho{S:Type}(t:Bool)(i:Nat)(ms:Ev S (List D)):SM S:=λK ρ=>ms K.x (λds ρ1=>match jf ρ1 i with
 | true=>(oM (yG t ds)).on (λe=>K.x e ρ1) (λes=>K.nx (ρ1.set i (some (.ol (ocD t es)))))
 | false=>.bad) ρ
theorem xn{S:Type}(t:Bool){i:Nat}{x:Str}{e1 e2:Expr}{ms:Ev S (List D)}{p p2 pos2 pos' tpos:Pos}(hc:X.calm=true)(hu:X.A.units+1100<cLine)(hg:Gl X "dict")(hm:X.mg "dict" = none)(hgz:Gl X "zip")(hmz:X.mg "zip" = none)(hN:X.N.Nodup)(hi:X.N[i]? = some x)(hx:Loc X.env.scope x)(hk:AEa X [e1,e2] ms)
  (he:starEach [.Call (.Name "zip" p2) [e1,e2] [] pos2] X.env=[(false,eval (.Call (.Name "zip" p2) [e1,e2] [] pos2) X.env)])
  (hs1:starEach [e1,e2] X.env=[(false,eval e1 X.env),(false,eval e2 X.env)]) (hs2:starEach [e2] X.env=[(false,eval e2 X.env)])
  (hs:swapsWith (.Call (.Name "dict" p) [.Call (.Name "zip" p2) [e1,e2] [] pos2] [] tpos) (some (.Name x pos')) pos.line X.env=pure false) (hf:X.fn x=true\/X.env.scope.names.lookup x=some .local) :
  AS (S:=S) X (.Assign [.Name x pos'] (.Call (.Name "dict" p) [.Call (.Name "zip" p2) [e1,e2] [] pos2] [] tpos) pos) (Ho t i ms):=λOK K G F Z H ρ E hO hX St ok eo =>
 gv (jw hN hi hx (CA t hc (by lia) hg hm hgz hmz bK he hs1 hs2) hs hf) (hk OK K.x _ G F Z H ρ _ hO hX St ok λds vs F1 H1 ρ1 s1 S1 _ r1 o1=>by
  split at o1
  case h_2=>exact(hO o1).elim
  rename_i hq
  obtain⟨es,hd,o3⟩:=cy hO o1
  obtain⟨hl,hop⟩:=dq hq
  unfold yG at hd
  split at hd
  case h_2=>cases hd
  rename_i as bs
  split at hd
  case isFalse=>cases hd
  rename_i hcc
  rw[ac,zzi]at hcc
  obtain⟨v,u,rfl,q1,q2⟩:=r1.two_inv
  obtain⟨a,ws,rfl,h1,h2⟩:=q1.lst_inv
  obtain⟨b,zs,rfl,h3,h4⟩:=q2.tup_inv
  have l1:=h2.length
  have l2:=h4.length
  refine⟨a,b,ws,zs,rfl,by lia,λz=>?_,S1.fh.seq h1,SqT.of (S1.fh _ _ h3),λp hp=>?_⟩
  ·subst z
   cases h2
   cases hcc.2
  have fp:=S1.fh.free hp
  have op:=S1.oh.free hp
  have smU:∀H2:Hp,(∀b,b≠p->H2 b=H1 b)->Same F1 H2:=λH2 h b o z=>by rw[h b (λy=>by rw[y,fp]at z;cases z)];exact S1.fh b o z
  obtain⟨H',P,hh,n⟩:=Ci (t:=t) (es:=[]) (H:=upd H1 p (lm t)) fp h2 h4 (by cases t<;>exact⟨[],aS,rfl,.nil⟩) (smU _ λb n=>aK n) hd
  refine⟨λH2 h=>⟨(smU H2 h).seq h1,SqT.of (smU H2 h _ _ h3)⟩,H',P,?_⟩
  obtain⟨o,ho⟩:=hh.some
  have eH:H'=upd H1 p o:=funext λb=>by
   by_cases z:b=p
   ·rw[z,ho,aS]
   ·rw[n b z,aK z,aK z]
  subst eH
  exact eo.nx F1 _ _ _ s1 ((S1.lay (o:=o) hp).store hop hl (.inr ⟨ocD t es,rfl,p,rfl,⟨fp,op,hh⟩,S1.fresh_ne hp⟩)) o3)
noncomputable def kh:List D->Option (List D):=Classical.choose (⟨aZ,rfl⟩:∃f,f=aZ)
theorem jC:kh=aZ:=Md (⟨aZ,rfl⟩:∃f,f=aZ)
section
variable {a tg:Expr} {ps:Pa (List D)} {p:Pos}
theorem qJ(hg:Gl X "range")(hm:X.mg "range" = none)(ha:AA X [a] ps)(hs:starEach [a] X.env=[(false,eval a X.env)]):AI X tg (.Call (.Name "range" p) [a] [] pos) (ii kh ps):=by
 rw[jC]
 exact bt hg hm ha hs
end
def JO(K:Fg)(n:Nat)(t:TGs):TG:=λv Z H Q=>∃a xs,v=.ref a/\SqL K H a xs/\xs.length=n/\t xs Z H Q
def B0{S:Type}(d:D)(k:D->D->M S):M S:=match d with
 | .list [a,b]=>k a b
 | _=>.bad
def EJ{S:Type}(ts:List D->(En->M S)->En->M S):Tg S:=λd k ρ=>B0 d λa b=>ts [a,b] k ρ
section
variable {S:Type} {n:Nat} {es:List Expr} {k:Nat}
theorem Ft{t:TGs}{m:Nat}(hc:X.calm=true)(h:PGs X es t)(hn:(assignEach es X.env).length=m)(hst:(assignEach es X.env).findIdx? (·.1)=none):PG X (.Tuple es k pos) (JO X.K m t):=by
 rintro pins s Z H v u Q I r ⟨a,xs,rfl,hq,hl,hw⟩
 cases r
 obtain⟨its,rv,p,_⟩:=I.list hq
 rw[assign_Tuple]
 refine zza (wpAny_standAt ?_)
 unfold unpack
 rw[hst,show(assignEach es X.env).length=its.toArray.size by simp[hn,<-hl,rv.length]]
 refine zza (ev (PySem.W.kun_itemsOf (I.ok.hd hc) p.isList λh' hx=>?_))
 have I1:Inv X pins Z H { s with heap:=h' }:=I.kept (t':=s.toks) λb o e=>hx b o (bi (am e)) e
 exact h pins _ Z H xs _ Q I1 (by simpa using rv) hw
theorem DJ{sts:List D->(En->M S)->En->M S}(hc:X.calm=true)(h:AGs X n es sts)(hn:(assignEach es X.env).length=2)(hst:(assignEach es X.env).findIdx? (·.1)=none):AG X n (.Tuple es k pos) (EJ sts):=by
 intro OK kn G F Z H ρ v d Q hO St r ok k2
 have ho:∃ds,d=.list ds/\ds.length=2/\OK (sts ds kn ρ):=by
  unfold EJ B0 at ok
  split at ok
  ·exact⟨_,rfl,rfl,ok⟩
  ·exact(hO ok).elim
 obtain⟨ds,rfl,hl,ok⟩:=ho
 obtain⟨a,vs,rfl,h1,h2⟩:=r.lst_inv
 refine E8 (Ft hc q8 hn hst) ⟨_,_,rfl,St.fh.seq h1,by rw[h2.length];exact hl,?_⟩
 exact h OK kn G F Z H ρ _ ds _ hO St h2 ok k2
end
end L4
namespace WS
open PySem PySem.SetTable
variable {j i:Nat}{xs:Array Nat}{h:Int}{α:Type}
def run(m i:Nat):List Nat:=List.range' i (runEnd m i+1 - i)
def lp(m:Nat)(q:Nat×Nat):Nat×Nat:=leap m q.1 q.2
def rdL(m:Nat):Nat->Nat×Nat->List Nat
 | 0,_=>[]
 | n+1,q=>run m q.1++rdL m n (lp m q)
def Rd(m:Nat)(h:Int):List Nat:=rdL m (turns m) (bits h % (m+1),bits h)
def Mk(m:Nat):Prop:=m=7\/m=31\/m=127
def itr(m:Nat):Nat->Nat×Nat->Nat×Nat
 | 0,q=>q
 | n+1,q=>itr m n (lp m q)
theorem kJ(m i:Nat):i<=runEnd m i:=by unfold runEnd;split<;>omega
theorem uQ(m i:Nat):runEnd m i<=i+9:=by unfold runEnd;split<;>omega
theorem zC{m:Nat}(h:i<=m):runEnd m i<=m:=by unfold runEnd;split<;>omega
theorem j7(m:Nat):∀(a b:Nat) (q:Nat×Nat),itr m (a+b) q=itr m b (itr m a q)
 | 0,b,q=>by rw[Nat.zero_add];rfl
 | a+1,b,q=>by rw[Nat.add_right_comm];exact j7 m a b (lp m q)
theorem wK(m:Nat):∀(n N:Nat) (q:Nat×Nat),n<N->(itr m n q).1∈rdL m N q
 | _,0,_,h=>by omega
 | 0,N+1,q,_=>by
  refine List.mem_append.mpr (.inl ?_)
  have:=kJ m q.1
  exact List.mem_range'_1.mpr ⟨ai _,by show q.1<q.1+(runEnd m q.1+1 - q.1);omega⟩
 | n+1,N+1,q,h=>List.mem_append.mpr (.inr (wK m n N (lp m q) (by omega)))
theorem EE(m:Nat):∀(n:Nat) (q:Nat×Nat),(itr m n q).2=q.2 / 32^n
 | 0,q=>by show q.2=q.2 / 1;rw[Nat.div_one]
 | n+1,q=>by
  show(itr m n (lp m q)).2=_
  rw[EE m n,Nat.pow_succ,Nat.mul_comm,<-Nat.div_div_eq_div_mul]
  rfl
theorem Im(m:Nat)(q:Nat×Nat):(lp m q).1<=m:=Nat.le_of_lt_succ (Nat.mod_lt _ (Nat.succ_pos _))
theorem EF{m:Nat}:∀(n:Nat) (q:Nat×Nat),q.1<=m->(itr m n q).1<=m
 | 0,q,h=>h
 | n+1,q,_=>EF n (lp m q) (Im m q)
theorem Dv(h:Int):bits h<2^64:=by unfold bits;omega
def Ao(m:Nat):Nat->Nat->List Nat
 | 0,_=>[]
 | n+1,i=>i::Ao m n ((i*5+1) % (m+1))
theorem Io(m i:Nat):lp m (i,0)=((i*5+1) % (m+1),0):=by
 show((i*5+1+0 / 32) % (m+1),0 / 32)=_
 simp
theorem nA(m:Nat):∀(n i j:Nat),j∈Ao m n i->∃a,a<n/\itr m a (i,0)=(j,0)
 | 0,_,_,h=>by cases h
 | n+1,i,j,h=>by
  rcases List.mem_cons.mp h with rfl|h
  ·exact⟨0,by omega,rfl⟩
  ·obtain⟨a,ha,e⟩:=nA m n _ j h
   exact⟨a+1,by omega,by show itr m a (lp m (i,0))=_;rw[Io];exact e⟩
def full(m:Nat):Bool:=(List.range (m+1)).all (λj=>(Ao m (m+1) 0).contains j)&&(Ao m (m+2) 0)[m+1]? == some 0
theorem wv(m:Nat):∀(n i k j:Nat),(Ao m n i)[k]? = some j->itr m k (i,0)=(j,0)
 | 0,_,_,_,h=>by cases h
 | n+1,i,0,j,h=>by cases h;rfl
 | n+1,i,k+1,j,h=>by show itr m k (lp m (i,0))=_;rw[Io];exact wv m n _ k j h
theorem Dk{m:Nat}(h:Mk m):full m=true:=by
 rcases h with rfl|rfl|rfl<;>decide +kernel
theorem cyc{m:Nat}(h:Mk m)(hi:i<=m)(hj:j<=m):∃n,n<=m/\itr m n (i,0)=(j,0):=by
 have f:=Dk h
 unfold full at f
 rw[ac,ir,beq_iff_eq]at f
 obtain⟨f1,f2⟩:=f
 obtain⟨a,ha,ea⟩:=nA m _ _ _ (List.contains_iff_mem.mp (f1 i (List.mem_range.mpr (by omega))))
 obtain⟨b,hb,eb⟩:=nA m _ _ _ (List.contains_iff_mem.mp (f1 j (List.mem_range.mpr (by omega))))
 have ez:=wv m _ _ _ _ f2
 by_cases hab:a<=b
 ·refine⟨b - a,by omega,?_⟩
  rw[<-ea,<-j7,Nat.add_sub_cancel' hab,eb]
 ·refine⟨m+1+b - a,by omega,?_⟩
  rw[<-ea,<-j7,show a+(m+1+b - a)=(m+1)+b by omega,j7,ez,eb]
theorem cov{m:Nat}(hm:Mk m)(h:Int)(hj:j<=m):j∈Rd m h:=by
 have h2:(itr m 13 (bits h % (m+1),bits h)).2=0:=by
  rw[EE]
  have:=Dv h
  exact Nat.div_eq_of_lt (bo this (by decide))
 have h1:(itr m 13 (bits h % (m+1),bits h)).1<=m:=EF 13 _ (Nat.le_of_lt_succ (Nat.mod_lt _ (Nat.succ_pos _)))
 obtain⟨n,hn,e⟩:=cyc hm h1 hj
 have:=wK m (13+n) (turns m) (bits h % (m+1),bits h) (by unfold turns;omega)
 rw[j7,show itr m 13 (bits h % (m+1),bits h)=((itr m 13 (bits h % (m+1),bits h)).1,0)from Prod.ext rfl h2,e]at this
 exact this
theorem zM{m:Nat}:∀(n:Nat) (q:Nat×Nat),q.1<=m->∀j∈rdL m n q,j<=m
 | 0,_,_,_,h=>by cases h
 | n+1,q,hq,j,h=>by
  rcases List.mem_append.mp h with h|h
  ·have h':j∈List.range' q.1 (runEnd m q.1+1 - q.1):=h
   have:=(List.mem_range'_1.mp h').2
   have:=zC hq
   omega
  ·exact zM n _ (Im m q) j h
theorem BU{m:Nat}(x:j∈Rd m h):j<=m:=zM _ _ (Nat.le_of_lt_succ (Nat.mod_lt _ (Nat.succ_pos _))) j x
theorem wa{m:Nat}:∀(n:Nat) (q:Nat×Nat),(rdL m n q).length<=10*n
 | 0,_=>ai _
 | n+1,q=>by
  show(run m q.1++rdL m n (lp m q)).length<=_
  rw[zzf]
  have:=wa (m:=m) n (lp m q)
  have:(run m q.1).length<=10:=by
   show(List.range' _ _).length<=10
   rw[List.length_range']
   have:=uQ m q.1
   omega
  omega
def Up(xs:Array Nat):Prop:=xs.toList.Pairwise (· < ·)
theorem Up.lt(U:Up xs){a b u v:Nat}(h:a<b)(ha:xs[a]? = some u)(hb:xs[b]? = some v):u<v:=by
 rw[<-ic]at ha hb
 obtain⟨h1,e1⟩:=List.getElem?_eq_some_iff.mp ha
 obtain⟨h2,e2⟩:=List.getElem?_eq_some_iff.mp hb
 have:=List.pairwise_iff_getElem.mp U a b h1 h2 h
 rw[e1,e2]at this
 exact this
theorem oO{xs:Array Nat}(U:Up xs)(j:Nat):∀(fuel lo hi:Nat),hi - lo<=fuel->lo<=hi->hi<=xs.size->(∀i u,i<lo->xs[i]? = some u->u<j)->(∀i u,hi<=i->xs[i]? = some u->j<=u) ->
  (∀i u,i<below.go xs j fuel lo hi->xs[i]? = some u->u<j)/\(∀i u,below.go xs j fuel lo hi<=i->xs[i]? = some u->j<=u)/\below.go xs j fuel lo hi<=xs.size
 | 0,lo,hi,h1,h2,h3,a,b=>by
  have:lo=hi:=by omega
  subst this
  exact⟨a,b,h3⟩
 | fuel+1,lo,hi,h1,h2,h3,a,b=>by
  unfold below.go
  by_cases hl:lo<hi
  ·rw[ar hl]
   have hm:(lo+hi) / 2<xs.size:=by omega
   have em:xs[(lo+hi) / 2]? = some (xs.getD ((lo+hi) / 2) j):=by rw[nu,bj hm];rfl
   dsimp only
   by_cases hv:xs.getD ((lo+hi) / 2) j<j
   ·rw[ar hv]
    refine oO U j fuel _ hi (by omega) (by omega) h3 (λi u hi' e=>?_) b
    by_cases q:i=(lo+hi) / 2
    ·subst q;rw[em]at e;cases e;exact hv
    ·exact K5 (U.lt (show i<(lo+hi) / 2 by omega) e em) hv
   ·rw[au hv]
    refine oO U j fuel lo _ (by omega) (by omega) (by omega) a (λi u hi' e=>?_)
    by_cases q:i=(lo+hi) / 2
    ·subst q;rw[em]at e;cases e;omega
    ·have:=U.lt (show(lo+hi) / 2<i by omega) em e;omega
  ·rw[au hl]
   have:lo=hi:=by omega
   subst this
   exact⟨a,b,h3⟩
theorem gM(U:Up xs)(j:Nat):(∀i u,i<below xs j->xs[i]? = some u->u<j)/\(∀i u,below xs j<=i->xs[i]? = some u->j<=u)/\below xs j<=xs.size :=
 oO U j xs.size 0 xs.size (by omega) (by omega) (ai _) (λi u h=>by omega) (λi u h e=>by rw[ua h]at e;cases e)
theorem below_at(U:Up xs)(e:xs[i]? = some j):below xs j=i:=by
 obtain⟨a,b,c⟩:=gM U j
 have hi:i<xs.size:=(Array.getElem?_eq_some_iff.mp e).1
 rcases Nat.lt_trichotomy (below xs j) i with h|h|h
 ·have g:=bj (show below xs j<xs.size by omega)
  have:=b _ _ (ai _) g
  have:=U.lt h g e
  omega
 ·exact h
 ·have:=a _ _ h e;omega
theorem vQ(U:Up xs)(e:xs[i]? = some j):below xs (j+1)=i+1:=by
 obtain⟨a,b,c⟩:=gM U (j+1)
 rcases Nat.lt_trichotomy (below xs (j+1)) (i+1)with h|h|h
 ·have:=b i _ (by omega) e;omega
 ·exact h
 ·have g:=bj (show i+1<xs.size by omega)
  have:=a _ _ h g
  have:=U.lt (Ku i) e g
  omega
theorem Dy(U:Up xs):below xs 0=0:=by
 obtain⟨a,b,c⟩:=gM U 0
 rcases Nat.eq_zero_or_pos (below xs 0)with h|h
 ·exact h
 ·have g:=bj (show 0<xs.size by omega)
  have:=a _ _ h g;omega
theorem xM(U:Up xs)(hj:j∉xs.toList):Up (insertAt xs (below xs j) j):=by
 obtain⟨a,b,c⟩:=gM U j
 unfold Up
 rw[LM]
 have ha:∀u∈xs.toList.take (below xs j),u<j:=λu hu=>by
  obtain⟨i,hi,e⟩:=List.mem_take_iff_getElem.mp hu
  exact a i u (by omega) (by rw[<-ic];exact List.getElem?_eq_some_iff.mpr ⟨by omega,e⟩)
 have hb:∀u∈xs.toList.drop (below xs j),j<u:=λu hu=>by
  have hm:=List.mem_of_mem_drop hu
  obtain⟨i,hi,e⟩:=List.mem_drop_iff_getElem.mp hu
  have:=b (below xs j+i) u (by omega) (by rw[<-ic];exact List.getElem?_eq_some_iff.mpr ⟨by omega,e⟩)
  have:u≠j:=λz=>hj (z▸hm)
  omega
 rw[Lg,Lu]
 refine⟨List.Pairwise.sublist (List.take_sublist _ _) U,⟨hb,List.Pairwise.sublist (List.drop_sublist _ _) U⟩,λu hu v hv=>?_⟩
 rcases List.mem_cons.mp hv with rfl|hv
 ·exact ha u hu
 ·exact K5 (ha u hu) (hb v hv)
def On(m:Nat)(h:Int)(P:List Nat)(j:Nat):Prop:=∃k:Nat,(Rd m h)[k]? = some j/\∀k',k'<k->∀x,(Rd m h)[k']? = some x->x∈P
theorem On.mono{m:Nat}{P P':List Nat}(x:On m h P j)(s:∀y∈P,y∈P'):On m h P' j:=let ⟨k,a,b⟩:=x;⟨k,a,λk' hk y e=>s y (b k' hk y e)⟩
structure Tb(t:SetTable)(es:Array (Int×Value)):Prop where
 km:Mk t.mask
 du:t.dummies = #[]
 sz:t.place.size=es.size
 up:Up t.place
 le:∀j∈t.place.toList,j<=t.mask
 pl:t.plain=true
 fu:t.place.size<=t.mask
 rd:∀e j,(e,j)∈es.toList.zip t.place.toList->On t.mask e.1 t.place.toList j
section
variable {t:SetTable} {es:Array (Int×Value)}
theorem Tb.fill(T:Tb t es):t.fill=t.place.size:=by unfold SetTable.fill;rw[T.du];rfl
theorem Tb.fits(T:Tb t es):t.fits es.size=true:=by
 have:=T.fu
 simp only[SetTable.fits,T.fill,T.sz,ac,beq_iff_eq,zzi,true_and]
 rw[<-T.sz];exact this
theorem wR(j:Nat):has #[] j=false:=rfl
theorem Tb.slot_in(T:Tb t es)(e:t.place[i]? = some j):t.slot j=.live i:=by
 unfold SetTable.slot
 dsimp only
 rw[below_at T.up e,ar (by rw[e];exact beq_self_eq_true _)]
theorem Tb.slot_out(T:Tb t es)(h:j∉t.place.toList):t.slot j=.empty:=by
 unfold SetTable.slot
 dsimp only
 rw[au,T.du,wR,au (by decide)]
 intro z
 have z':=eq_of_beq z
 rw[<-ic]at z'
 exact h (wn z')
def At(m:Nat)(p:Probe)(l:List Nat):Prop:=p.dummy=none/\∃n,l=List.range' p.j (p.more+1)++rdL m n (lp m (p.i,p.perturb))
theorem BD(t:SetTable)(h:Int):At t.mask (t.probeStart h) (Rd t.mask h):=by
 refine⟨rfl,t.mask+14,?_⟩
 show run t.mask (bits h % (t.mask+1))++rdL t.mask (t.mask+14) (lp t.mask _)=_
 unfold run probeStart
 dsimp only
 have:=kJ t.mask (bits h % (t.mask+1))
 rw[show runEnd t.mask (bits h % (t.mask+1)) - bits h % (t.mask+1)+1=runEnd t.mask (bits h % (t.mask+1))+1 - bits h % (t.mask+1) by omega]
theorem xk{p:Probe}{x:Nat}{l:List Nat}(a:At t.mask p (x::l)):x=p.j/\(l≠[]->At t.mask (t.advance p) l):=by
 obtain⟨hd,n,e⟩:=a
 rw[List.range'_succ,List.cons_append]at e
 injection e with e1 e2
 refine⟨e1,λhl=>?_⟩
 unfold SetTable.advance
 by_cases hm:p.more>0
 ·rw[ar hm]
  refine⟨hd,n,?_⟩
  dsimp only
  rw[show p.more - 1+1=p.more by omega]
  exact e2
 ·rw[au hm]
  have h0:p.more=0:=by omega
  rw[h0]at e2
  cases n with
  | zero=>exact absurd e2 hl
  | succ n =>
   refine⟨hd,n,?_⟩
   have:=kJ t.mask (lp t.mask (p.i,p.perturb)).1
   show l=List.range' (lp t.mask (p.i,p.perturb)).1 (runEnd t.mask (lp t.mask (p.i,p.perturb)).1 - (lp t.mask (p.i,p.perturb)).1+1)++rdL t.mask n (lp t.mask (lp t.mask (p.i,p.perturb)))
   rw[show runEnd t.mask (lp t.mask (p.i,p.perturb)).1 - (lp t.mask (p.i,p.perturb)).1+1=runEnd t.mask (lp t.mask (p.i,p.perturb)).1+1 - (lp t.mask (p.i,p.perturb)).1 by omega]
   exact e2
theorem EG(T:Tb t es){f:Nat->Int}{h:Int}:∀(q fuel:Nat) (p:Probe) (l:List Nat) (j0:Nat),At t.mask p l->l[q]? = some j0->j0∉t.place.toList->(∀k,k<q->∀x,l[k]? = some x->x∈t.place.toList)->q<fuel ->
  (probe.go t f h fuel p=some (.empty j0 none)/\∀k,k<q->∀i j,l[k]? = some j->t.place[i]? = some j->f i≠h) \/
  ∃(k i j:Nat) (nx:Probe),k<q/\l[k]? = some j/\t.place[i]? = some j/\f i=h/\probe.go t f h fuel p=some (.candidate j i nx)/\At t.mask nx (l.drop (k+1))/\∀k',k'<k->∀i j,l[k']? = some j->t.place[i]? = some j->f i≠h
 | q,fuel+1,p,[],j0,a,e0,hj,hu,hf=>by cases e0
 | 0,fuel+1,p,x::l,j0,a,e0,hj,hu,hf=>by
  cases e0
  obtain⟨rfl,_⟩:=xk a
  refine .inl ⟨?_,λk hk=>absurd hk (by omega)⟩
  unfold probe.go
  rw[T.slot_out hj,a.1]
 | q+1,fuel+1,p,x::l,j0,a,e0,hj,hu,hf=>by
  have e0':l[q]? = some j0:=e0
  have hl:l≠[]:=λz=>by rw[z]at e0';cases e0'
  obtain⟨rfl,hn⟩:=xk a
  have hx:=hu 0 (by omega) _ rfl
  obtain⟨i,hi,ei⟩:=List.getElem_of_mem hx
  have ei':t.place[i]? = some p.j:=by rw[<-ic];exact List.getElem?_eq_some_iff.mpr ⟨hi,ei⟩
  have one:∀i',t.place[i']? = some p.j->i'=i:=λi' e=>by
   rcases Nat.lt_trichotomy i' i with z|z|z
   ·have:=T.up.lt z e ei';omega
   ·exact z
   ·have:=T.up.lt z ei' e;omega
  unfold probe.go
  rw[T.slot_in ei']
  dsimp only
  by_cases hh:(f i==h)=true
  ·rw[ar hh]
   exact .inr ⟨0,i,_,_,by omega,rfl,ei',eq_of_beq hh,rfl,hn hl,λk' hk=>absurd hk (by omega)⟩
  ·rw[au hh]
   have h0:∀i' j,(p.j::l)[0]? = some j->t.place[i']? = some j->f i'≠h:=λi' j e1 e2=>by
    cases e1
    rw[one i' e2]
    exact λz=>hh (by rw[z];exact beq_self_eq_true _)
   rcases EG T q fuel _ l j0 (hn hl) e0' hj (λk hk x e=>hu (k+1) (by omega) x e) (by omega)with ⟨r,c⟩|⟨k,i2,j2,nx,r1,r2,r3,r4,r5,r6,r7⟩
   ·refine .inl ⟨r,λk hk=>?_⟩
    cases k with
    | zero=>exact h0
    | succ k=>exact c k (by omega)
   ·refine .inr ⟨k+1,i2,j2,nx,by omega,r2,r3,r4,r5,r6,λk' hk=>?_⟩
    cases k' with
    | zero=>exact h0
    | succ k'=>exact r7 k' (by omega)
theorem Tb.room(T:Tb t es):∃j,j<=t.mask/\j∉t.place.toList:=by
 by_cases h:∃j,j<=t.mask/\j∉t.place.toList
 ·exact h
 ·exfalso
  have sub:List.range (t.mask+1) ⊆ t.place.toList:=λj hj=>by
   by_cases hm:j∈t.place.toList
   ·exact hm
   ·exact absurd ⟨j,by have:=List.mem_range.mp hj;omega,hm⟩ h
  have:=List.nodup_range.length_le_of_subset sub
  rw[ba,be]at this
  have:=T.fu
  omega
theorem ql{P:List Nat}:∀(l:List Nat) (j:Nat),j∈l->j∉P->∃(k j0:Nat),l[k]? = some j0/\j0∉P/\∀k',k'<k->∀x,l[k']? = some x->x∈P
 | [],_,h,_=>by cases h
 | x::l,j,h,hj=>by
  by_cases hx:x∈P
  ·rcases List.mem_cons.mp h with rfl|h
   ·exact absurd hx hj
   ·obtain⟨k,j0,a,b,c⟩:=ql l j h hj
    refine⟨k+1,j0,a,b,λk' hk y e=>?_⟩
    cases k' with
    | zero=>cases e;exact hx
    | succ k'=>exact c k' (by omega) y e
  ·exact⟨0,x,rfl,hx,λk' hk=>absurd hk (by omega)⟩
theorem Tb.free(T:Tb t es)(h:Int):∃(k j0:Nat),(Rd t.mask h)[k]? = some j0/\k<10*turns t.mask/\j0∉t.place.toList/\∀k',k'<k->∀x,(Rd t.mask h)[k']? = some x->x∈t.place.toList:=by
 obtain⟨j,h1,h2⟩:=T.room
 obtain⟨k,j0,a,b,c⟩:=ql _ j (cov T.km h h1) h2
 refine⟨k,j0,a,?_,b,c⟩
 have h3:=(List.getElem?_eq_some_iff.mp a).1
 have h4:(Rd t.mask h).length<=10*turns t.mask:=wa _ _
 omega
theorem mem_insertAt{xs:Array α}{p:Nat}{x y:α}:y∈(insertAt xs p x).toList↔y=x\/y∈xs.toList:=by
 rw[(L0 xs p x).mem_iff,Array.toList_push]
 simp[or_comm]
theorem bW{xs:Array α}{p:Nat}{x:α}:(insertAt xs p x).size=xs.size+1:=by
 have:=(L0 xs p x).length_eq
 rwa [be,be,Array.size_push]at this
theorem uB{β:Type}{xs:List α}{ys:List β}(h:xs.length=ys.length)(p:Nat)(x:α)(y:β)(z:α×β)(hz:z∈(xs.take p++x::xs.drop p).zip (ys.take p++y::ys.drop p)):z=(x,y)\/z∈xs.zip ys:=by
 rw[List.zip_append (by simp[h])]at hz
 have e:xs.zip ys=(xs.take p).zip (ys.take p)++(xs.drop p).zip (ys.drop p):=by
  rw[<-List.zip_append (by simp[h]),La,La]
 rw[e]
 simp only[va,L9,eE]at hz ⊢
 rcases hz with h|h|h
 ·exact .inr (.inl h)
 ·exact .inl h
 ·exact .inr (.inr h)
theorem Tb.put(T:Tb t es){x:Value}{k j0:Nat}(a:(Rd t.mask h)[k]? = some j0)(b:j0∉t.place.toList)(c:∀k',k'<k->∀x,(Rd t.mask h)[k']? = some x->x∈t.place.toList)(hf:t.place.size+1<=t.mask) :
  Tb (t.put j0).1 (insertAt es (t.put j0).2 (h,x))/\(t.put j0).1.mask=t.mask/\(t.put j0).1.led=t.led/\(t.put j0).1.place.size=t.place.size+1:=by
 have e:(t.put j0).1={ t with place:=insertAt t.place (below t.place j0) j0,dummies:=#[] }:=by
  show SetTable.mk _ _ _ _ _ _ _=_
  rw[T.du,wR]
  rfl
 have sub:∀y∈t.place.toList,y∈(insertAt t.place (below t.place j0) j0).toList:=λy hy=>mem_insertAt.mpr (.inr hy)
 rw[e]
 refine⟨⟨T.km,rfl,by show(insertAt _ _ _).size=(insertAt _ _ _).size;rw[bW,bW,T.sz],xM T.up b,λj hj=>?_,T.pl,by show(insertAt _ _ _).size<=_;rw[bW];exact hf,λz j hz=>?_⟩,rfl,rfl,bW⟩
 ·rcases mem_insertAt.mp hj with rfl|hj
  ·exact BU (wn a)
  ·exact T.le j hj
 ·have hz':(z,j)∈(es.toList.take (below t.place j0)++(h,x)::es.toList.drop (below t.place j0)).zip (t.place.toList.take (below t.place j0)++j0::t.place.toList.drop (below t.place j0)):=by
   have:=hz
   rwa [show(SetTable.put t j0).2=below t.place j0 from rfl,LM,LM]at this
  rcases uB (by rw[be,be,T.sz]) _ _ _ _ hz' with z'|z'
  ·injection z' with z1 z2
   subst z1 z2
   exact⟨k,a,λk' hk y e=>sub y (c k' hk y e)⟩
  ·exact(T.rd z j z').mono sub
end
section
variable {m:Nat} {ow:Array (Option Nat)}
theorem qj:∀(fuel i p j:Nat),layClean.free m ow fuel i p=some j->∃k:Nat,(rdL m fuel (i,p))[k]? = some j/\ow.getD j (some 0)=none/\∀k',k'<k->∀x,(rdL m fuel (i,p))[k']? = some x->∃q,ow.getD x (some 0)=some q
 | 0,_,_,_,h=>by cases h
 | fuel+1,i,p,j,h=>by
  unfold layClean.free at h
  have rl:(run m i).length=runEnd m i+1 - i:=List.length_range'
  cases q:(List.range (runEnd m i+1 - i)).find? (λk=>(ow.getD (i+k) (some 0)).isNone)with
  | some k =>
   rw[q]at h
   cases h
   have h1:=List.find?_some q
   have h2:=List.mem_range.mp (LF q)
   have gk:∀k',k'<runEnd m i+1 - i->(rdL m (fuel+1) (i,p))[k']? = some (i+k'):=λk' hk=>by
    show(run m i++rdL m fuel (lp m (i,p)))[k']? = _
    rw[di (by rw[rl];exact hk)]
    show(List.range' _ _)[k']? = _
    rw[List.getElem?_range' hk,Nat.one_mul]
   refine⟨k,gk k h2,Option.isNone_iff_eq_none.mp h1,λk' hk x e=>?_⟩
   rw[gk k' (by omega)]at e
   cases e
   obtain⟨a,as,bs,e1,e2⟩:=List.find?_eq_some_iff_append.mp q
   have hm:k'∈as:=by
    have ek:as.length=k:=by
     have:=congrArg (λl=>l[as.length]?) e1
     simp only[re (ai _),Nat.sub_self,LU]at this
     have hl:as.length<runEnd m i+1 - i:=by
      have:=congrArg List.length e1
      rw[ba,zzf,eh]at this
      omega
     rw[KQ hl]at this
     exact Option.some.inj this
    have:=congrArg (λl=>l[k']?) e1
    rw[KQ (by omega),di (by omega)]at this
    exact wn this.symm
   have:=e2 k' hm
   cases z:ow.getD (i+k') (some 0)with
   | none=>rw[z]at this;cases this
   | some q=>exact⟨q,rfl⟩
  | none =>
   rw[q]at h
   obtain⟨k,a,b,c⟩:=qj fuel _ _ j h
   refine⟨(run m i).length+k,?_,b,λk' hk x e=>?_⟩
   ·show(run m i++rdL m fuel (lp m (i,p)))[_]? = _
    rw[re (by omega),Nat.add_sub_cancel_left]
    exact a
   ·have e':(run m i++rdL m fuel (lp m (i,p)))[k']? = some x:=e
    by_cases hk':k'<(run m i).length
    ·rw[di hk']at e'
     rw[rl]at hk'
     have e2:(List.range' i (runEnd m i+1 - i))[k']? = some x:=e'
     rw[List.getElem?_range' hk',Nat.one_mul]at e2
     cases e2
     have:=List.find?_eq_none.mp q k' (List.mem_range.mpr hk')
     cases z:ow.getD (i+k') (some 0)with
     | none=>rw[z]at this;exact absurd rfl this
     | some q=>exact⟨q,rfl⟩
    ·rw[re (by omega)]at e'
     exact c (k' - (run m i).length) (by omega) x e'
theorem tY:∀(fuel i p x:Nat),x∈rdL m fuel (i,p)->ow.getD x (some 0)=none->∃j,layClean.free m ow fuel i p=some j
 | 0,_,_,_,h,_=>by cases h
 | fuel+1,i,p,x,h,hx=>by
  unfold layClean.free
  cases q:(List.range (runEnd m i+1 - i)).find? (λk=>(ow.getD (i+k) (some 0)).isNone)with
  | some k=>exact⟨_,rfl⟩
  | none =>
   rcases List.mem_append.mp h with h|h
   ·have h':x∈List.range' i (runEnd m i+1 - i):=h
    obtain⟨h1,h2⟩:=List.mem_range'_1.mp h'
    have:=List.find?_eq_none.mp q (x - i) (List.mem_range.mpr (by omega))
    rw[show i+(x - i)=x by omega,hx]at this
    exact absurd rfl this
   ·exact tY fuel _ _ x h hx
theorem fmc{α β:Type}{f g:α->Option β}:∀{l:List α},(∀x∈l,f x=g x)->l.filterMap f=l.filterMap g
 | [],_=>rfl
 | x::l,h=>by rw[ng,ng,h x ak,fmc λy hy=>h y (zzg _ hy)]
def Lv(m:Nat)(ow:Array (Option Nat)):List (Nat×Nat):=(List.range (m+1)).filterMap λj=>(ow.getD j none).map (j,·)
theorem mem_Lv{q:Nat}:(j,q)∈Lv m ow↔j<=m/\ow.getD j none=some q:=by
 unfold Lv
 rw[List.mem_filterMap]
 constructor
 ·rintro⟨a,ha,e⟩
  cases z:ow.getD a none with
  | none=>rw[z]at e;cases e
  | some b =>
   rw[z]at e
   cases e
   exact⟨by have:=List.mem_range.mp ha;omega,z⟩
 ·rintro⟨a,e⟩
  exact⟨j,List.mem_range.mpr (by omega),by rw[e];rfl⟩
theorem GZ:(Lv m ow).map (·.1)=(List.range (m+1)).filter λj=>(ow.getD j none).isSome:=by
 unfold Lv
 rw[List.map_filterMap]
 induction List.range (m+1)with
 | nil=>rfl
 | cons a l ih =>
  rw[ng,List.filter_cons]
  cases z:ow.getD a none with
  | none=>simpa using ih
  | some q=>simpa using ih
theorem Ja:((Lv m ow).map (·.1)).Pairwise (· < ·):=by rw[GZ];exact List.Pairwise.filter _ List.pairwise_lt_range
theorem GY{k:Nat}(hs:ow.size=m+1)(hj:j<=m)(h:ow.getD j none=none):(Lv m (ow.setIfInBounds j (some k))).Perm ((j,k)::Lv m ow):=by
 obtain⟨as,bs,e⟩:=List.append_of_mem (List.mem_range.mpr (show j<m+1 by omega))
 have nd:(as++j::bs).Nodup:=e▸List.nodup_range
 rw[Kn]at nd
 obtain⟨n1,n2,n3⟩:=nd
 have ne:∀x,x≠j->(ow.setIfInBounds j (some k)).getD x none=ow.getD x none:=λx hx=>by
  rw[nu,nu,Array.getElem?_setIfInBounds_ne (λz=>hx z.symm)]
 have eq:(ow.setIfInBounds j (some k)).getD j none=some k:=by
  rw[nu,Array.getElem?_setIfInBounds_self_of_lt (by omega)];rfl
 unfold Lv
 rw[e,Lb,Lb,ng,ng,eq,h]
 have ea:as.filterMap (λx=>((ow.setIfInBounds j (some k)).getD x none).map (x,·))=as.filterMap (λx=>(ow.getD x none).map (x,·)):=fmc λx hx=>by rw[ne x (λz=>n3 x hx j ak z)]
 have eb:bs.filterMap (λx=>((ow.setIfInBounds j (some k)).getD x none).map (x,·))=bs.filterMap (λx=>(ow.getD x none).map (x,·)):=fmc λx hx=>by rw[ne x (λz=>(List.nodup_cons.mp n2).1 (z▸hx))]
 rw[ea,eb]
 exact List.perm_middle
structure Ly(m:Nat)(hs:List Int)(ow:Array (Option Nat)):Prop where
 sz:ow.size=m+1
 pm:((Lv m ow).map (·.2)).Perm (List.range hs.length)
 rd:∀j q,(j,q)∈Lv m ow->∃h,hs[q]? = some h/\On m h ((Lv m ow).map (·.1)) j
theorem Ly.start:Ly m [] (Array.replicate (m+1) none):=by
 have e:Lv m (Array.replicate (m+1) none)=[]:=by
  apply List.eq_nil_iff_forall_not_mem.mpr
  rintro⟨j,q⟩ h
  have:=(mem_Lv.mp h).2
  rw[nu,Array.getElem?_replicate]at this
  split at this<;>cases this
 exact⟨Array.size_replicate,by rw[e];exact .refl _,λj q h=>by rw[e]at h;cases h⟩
theorem Ly.step{hs:List Int}(L:Ly m hs ow)(hm:Mk m)(hl:hs.length<=m)(h:Int):∃j,layClean.free m ow (turns m) (bits h % (m+1)) (bits h)=some j/\Ly m (hs++[h]) (ow.setIfInBounds j (some hs.length)):=by
 have gd:∀x,x<=m->ow.getD x (some 0)=ow.getD x none:=λx hx=>by
  rw[nu,nu,bj (show x<ow.size by rw[L.sz];omega)];rfl
 have room:∃j,j<=m/\ow.getD j none=none:=by
  by_cases z:∃j,j<=m/\ow.getD j none=none
  ·exact z
  ·exfalso
   have sub:List.range (m+1) ⊆ (Lv m ow).map (·.1):=λj hj=>by
    have hj':j<=m:=by have:=List.mem_range.mp hj;omega
    cases q:ow.getD j none with
    | none=>exact absurd ⟨j,hj',q⟩ z
    | some q'=>exact List.mem_map.mpr ⟨(j,q'),mem_Lv.mpr ⟨hj',q⟩,rfl⟩
   have h1:=List.nodup_range.length_le_of_subset sub
   have h2:=L.pm.length_eq
   rw[ba,zzd]at h1
   rw[ba,zzd]at h2
   omega
 obtain⟨j1,hj1,ej1⟩:=room
 obtain⟨j,ej⟩:=tY (m:=m) (ow:=ow) (turns m) (bits h % (m+1)) (bits h) j1 (cov hm h hj1) (by rw[gd j1 hj1];exact ej1)
 obtain⟨k,a,b,c⟩:=qj _ _ _ _ ej
 have hj:j<=m:=BU (h:=h) (wn a)
 have pm:=GY (k:=hs.length) L.sz hj (by rw[<-gd j hj];exact b)
 have sub:∀y∈(Lv m ow).map (·.1),y∈(Lv m (ow.setIfInBounds j (some hs.length))).map (·.1):=λy hy=>(pm.map (·.1)).mem_iff.mpr (zzg _ hy)
 refine⟨j,ej,by rw[Array.size_setIfInBounds];exact L.sz,?_,λj' q' hq=>?_⟩
 ·rw[zzf,KE,List.range_succ]
  exact(pm.map λp:Nat×Nat=>p.2).trans ((List.Perm.cons _ L.pm).trans (List.perm_append_singleton _ _).symm)
 ·rcases List.mem_cons.mp (pm.mem_iff.mp hq)with z|z
  ·cases z
   refine⟨h,by rw[re (ai _),Nat.sub_self];rfl,k,a,λk' hk x e=>sub x ?_⟩
   obtain⟨q,eq⟩:=c k' hk x e
   have hx:x<=m:=BU (h:=h) (wn e)
   exact List.mem_map.mpr ⟨(x,q),mem_Lv.mpr ⟨hx,by rw[<-gd x hx];exact eq⟩,rfl⟩
  ·obtain⟨h',e1,e2⟩:=L.rd j' q' z
   exact⟨h',by rw[di (List.getElem?_eq_some_iff.mp e1).1];exact e1,e2.mono sub⟩
theorem AH(hm:Mk m):∀(rest hs:List Int) (ow:Array (Option Nat)),Ly m hs ow->hs.length+rest.length<=m+1 ->
  ∃ow',rest.foldl (init:=some (ow,hs.length)) (λ(acc:Option (Array (Option Nat)×Nat)) h=>do
   let (owner,k) <-acc
   let j <-layClean.free m owner (turns m) (bits h % (m+1)) (bits h)
   pure (owner.setIfInBounds j (some k),k+1))=some (ow',(hs++rest).length)/\Ly m (hs++rest) ow'
 | [],hs,ow,L,_=>⟨ow,by rw[mo];rfl,by rw[mo];exact L⟩
 | h::rest,hs,ow,L,hl=>by
  rw[eh]at hl
  obtain⟨j,ej,L'⟩:=L.step hm (by omega) h
  obtain⟨ow',e,L2⟩:=AH hm rest (hs++[h]) _ L' (by rw[zzf,KE];omega)
  refine⟨ow',?_,by rw[Db]at L2;exact L2⟩
  rw[ul]
  have:(do
   let (owner,k) <-some (ow,hs.length)
   let j <-layClean.free m owner (turns m) (bits h % (m+1)) (bits h)
   pure (owner.setIfInBounds j (some k),k+1))=some (ow.setIfInBounds j (some hs.length),(hs++[h]).length):=by
   show(layClean.free m ow (turns m) (bits h % (m+1)) (bits h)).bind _=_
   rw[ej,zzf]
   rfl
  rw[this,e,Db]
  rfl
theorem AR(hm:Mk m){hs:Array Int}(hl:hs.size<=m+1):∃ow,layClean m hs=some ow/\Ly m hs.toList ow:=by
 obtain⟨ow,e,L⟩:=AH hm hs.toList [] _ Ly.start (by rw[fi,be];omega)
 refine⟨ow,?_,L⟩
 unfold layClean
 rw[<-Array.foldl_toList]
 rw[show(hs.toList.foldl _ (some (Array.replicate (m+1) none,0)))=some (ow,([]++hs.toList).length)from e]
 rfl
theorem zf{α:Type}{es:Array α}{e:α}{j:Nat}:∀(L:List (Nat×Nat)),(∀p∈L,∃x,es[p.2]? = some x)->(e,j)∈((L.map (·.2)).filterMap (es[·]?)).zip (L.map (·.1))->∃q,(j,q)∈L/\es[q]? = some e
 | [],_,h=>by cases h
 | p::L,hp,h=>by
  obtain⟨x,ex⟩:=hp p ak
  rw[ax,ax,ng,ex]at h
  rcases List.mem_cons.mp h with z|z
  ·cases z
   exact⟨p.2,ak,ex⟩
  ·obtain⟨q,a,b⟩:=zf L (λp hp'=>hp p (zzg _ hp')) z
   exact⟨q,zzg _ a,b⟩
theorem C7(hm:Mk m){es:Array (Int×Value)}{finger moves:Nat}{led:Bool}(hl:es.size<=m):∃t' order,laid m finger moves led true (es.map (·.1))=some (t',order)/\Tb t' (order.filterMap (es[·]?))/\(order.filterMap (es[·]?)).toList.Perm es.toList/\t'.mask=m/\t'.led=led:=by
 obtain⟨ow,e,L⟩:=AR hm (hs:=es.map (·.1)) (by rw[LC];omega)
 have hlen:(es.map (·.1)).toList.length=es.size:=by rw[be,LC]
 have pm:=L.pm
 rw[hlen]at pm
 have el:(((Lv m ow).map (·.2)).toArray.filterMap (es[·]?)).toList=((Lv m ow).map (·.2)).filterMap (es[·]?):=by rw[Array.toList_filterMap]
 have pe:(((Lv m ow).map (·.2)).toArray.filterMap (es[·]?)).toList.Perm es.toList:=by
  rw[el,<-filterMap_getElem?_range es]
  exact pm.filterMap _
 have hn:(Lv m ow).length=es.size:=by have:=pm.length_eq;rwa [zzd,ba]at this
 have hsz:(((Lv m ow).map (·.2)).toArray.filterMap (es[·]?)).size=es.size:=by have:=pe.length_eq;rwa [be,be]at this
 refine⟨{ mask:=m,place:=((Lv m ow).map (·.1)).toArray,dummies:=#[],finger,led,moves,plain:=true },((Lv m ow).map (·.2)).toArray,?_,⟨hm,rfl,?_,Ja,λj hj=>?_,rfl,?_,λz j hz=>?_⟩,pe,rfl,rfl⟩
 ·unfold laid
  rw[e]
  rfl
 ·show((Lv m ow).map (·.1)).toArray.size=_
  rw[hsz,ay,zzd,hn]
 ·obtain⟨⟨j',q⟩,h1,h2⟩:=List.mem_map.mp (show j∈(Lv m ow).map (·.1)from hj)
  cases h2
  exact(mem_Lv.mp h1).1
 ·show((Lv m ow).map (·.1)).toArray.size<=m
  rw[ay,zzd,hn];exact hl
 ·rw[el]at hz
  obtain⟨q,a,b⟩:=zf (Lv m ow) (λp hp=>by
   have:p.2∈List.range es.size:=pm.mem_iff.mp (List.mem_map.mpr ⟨p,hp,rfl⟩)
   exact⟨_,bj (List.mem_range.mp this)⟩) hz
  obtain⟨h,e1,e2⟩:=L.rd j q a
  rw[ic,Array.getElem?_map,b]at e1
  cases e1
  exact e2
end
end WS
namespace WS
end WS
namespace WS
end WS
namespace WS
open PySem PySem.SetTable PyProof.Rows
section
variable {prog:Program}{w:World}{A:Around}{E:zzj}{s:Shared}
theorem qi{h:Heap}{l:Addr}{o:Obj}{es es':Array (Int×Value)}{ep:Nat}{t t':SetTable}(ho:h.get? l=some o)(hd:o.data=.set es ep t):(h.update l (Obj.putSet es' t')).get? l=some { o with data:=.set es' (ep+1) t' }:=by
 have:=lu (Obj.putSet es' t') ho (by rw[putSet_of es' t' hd];rfl)
 rw[putSet_of es' t' hd]at this
 exact this
theorem grow{m n:Nat}(hm:Mk m)(h1:n*5<m*3)(h2:(n+1)*5>=m*3)(h3:n<76):∃M,sizeAbove (grown (n+1))=M+1/\Mk M/\(n+1)*5<M*3/\M+1<=128:=by
 rcases hm with rfl|rfl|rfl
 ·obtain rfl:n=4:=by omega
  exact⟨31,by decide,.inr (.inl rfl),by omega,by omega⟩
 ·obtain rfl:n=18:=by omega
  exact⟨127,by decide,.inr (.inr rfl),by omega,by omega⟩
 ·omega
end
section
variable {prog:Program}{w:World}{A:Around}{E:zzj}{s:Shared}
theorem gH:entryFor table "set.update.loop" = some Builtin.«set.update.loop»:=entryFor_of_tree (by kernel_rfl)
theorem df:plainId "set.update.loop" = true:=by decide +kernel
end
end WS
namespace WS
open PySem PySem.SetTable
abbrev i9(w:World):Obj:={ cls:=.type "set",dict:=none,data:=.set #[] 0 (.fresh 0 0 (!w.params.followText "set-order")) }
section
variable {prog:Program}{w:World}{A:Around}{E:zzj}{s:Shared}
theorem qy{v:Value}{Q₁:zzj}(h:Q₁ (.ref s.heap.objs.size) { s with heap:=s.heap.push (i9 w) }) :
  codeAny (model prog w) A (.call (.builtin "set.__new__") ⟨[.type "set",v],[]⟩) (wants Q₁ E) s:=by
 refine codeAny_of_tree ?_
 show wpAny _ A.in1 (do checkBuiltinCall "set.__new__" ⟨[.type "set",v],[]⟩;again (.builtin "set.__new__" ⟨[.type "set",v],[]⟩)) _ _ s
 refine zza (wpAny_of_eq (F.newCall_set_1 v) (zzb ⟨KA F.plain_set_new _,om F.entry_set_new ?_⟩))
 rw[ny F.plain_set_new _]
 unfold Builtin.«set.__new__» Builtin.Frozenset.newClass
 have hsub:=sub_set_self
 obtain⟨hp,g,d,tk,os⟩:=s
 dsimp only
 wp_walk
 refine wpAny_askSetting (zzb ?_)
 dsimp only
 simp only[newObj]
 refine zza (wpAny_alloc (zzb ?_))
 exact zzb h
theorem tb0(led:Bool):Tb (.fresh 0 0 led) #[] where
 km:=.inl rfl
 du:=rfl
 sz:=rfl
 up:=.nil
 le:=λj h=>absurd h (by simp[SetTable.fresh])
 pl:=rfl
 fu:=aw _
 rd:=λe j h=>absurd h (by simp)
end
end WS
namespace WS
open PySem PySem.SetTable PyProof.Rows
variable {i:Nat}{Q:Bool->Shared->Prop}
theorem n6{α:Type}:∀(l:List α) (i:Nat) (h:i<l.length),(l[i]::l.eraseIdx i).Perm l
 | a::l,0,_=>.refl _
 | a::l,i+1,h=>by
  have:=n6 l i (by simpa using h)
  exact(List.Perm.swap _ _ _).trans (this.cons a)
theorem wm{α:Type}(next:Nat->Nat):∀(fuel k:Nat) (left:List α) (out:Array α),left.length<=fuel->(pickOrder.go next fuel k left out).toList.Perm (out.toList++left)
 | 0,k,left,out,h=>by
  have:left=[]:=List.length_eq_zero_iff.mp (by omega)
  subst this
  unfold pickOrder.go
  rw[mo]
 | fuel+1,k,left,out,h=>by
  unfold pickOrder.go
  cases left with
  | nil =>
   rw[List.getElem?_nil,mo]
  | cons a r =>
   have hi:next k % (a::r).length<(a::r).length:=Nat.mod_lt _ (by simp)
   rw[de hi]
   dsimp only
   refine(wm next fuel (k+1) _ _ (by rw[List.length_eraseIdx,ar hi];omega)).trans ?_
   rw[Array.toList_push,Db]
   exact List.Perm.append_left _ (n6 _ _ hi)
theorem ya{α:Type}(next:Nat->Nat)(xs:Array α):(pickOrder next xs).toList.Perm xs.toList:=by
 have:=wm next xs.size 0 xs.toList #[] (by rw[be];exact ai _)
 simpa[pickOrder]using this
theorem sP:Manifest.owners.lookup (String.ofList ['r', 'o', 't', 'a', 'r', 'e', 't', 'i', '_', 't', 'e', 's'].reverse)=some Manifest.sig_set_iterator:=by kernel_rfl
theorem slot_next:Slot "set_iterator" "__next__" "set_iterator.__next__" :=
 .of (owner := "set_iterator") (n := "__next__") (by rw[Lj,KB];kernel_rfl) (by decide +kernel) (by decide +kernel) (by decide +kernel)
  (by first|exact .inl (by decide +kernel)|exact .inr (by decide +kernel)) (by rw[isSubtype_type];kernel_rfl)
theorem entry_next:entryFor table "set_iterator.__next__" = some Builtin.«set_iterator.__next__»:=entryFor_of_tree (by kernel_rfl)
theorem args_next(a:Value):argsOk "set_iterator.__next__" ⟨[a],[]⟩:=by
 unfold argsOk;rw[signature?_of (id := "set_iterator.__next__") (n:=['_', '_', 't', 'x', 'e', 'n', '_', '_']) (o:=['r', 'o', 't', 'a', 'r', 'e', 't', 'i', '_', 't', 'e', 's']) (by kernel_rfl) sP];kernel_rfl
theorem pU:Slot "set_iterator" "__iter__" "set_iterator.__iter__" :=
 .of (owner := "set_iterator") (n := "__iter__") (by rw[Lj,KB];kernel_rfl) (by decide +kernel) (by decide +kernel) (by decide +kernel)
  (by first|exact .inl (by decide +kernel)|exact .inr (by decide +kernel)) (by rw[isSubtype_type];kernel_rfl)
theorem vB:entryFor table "set_iterator.__iter__" = some Builtin.«dict_keyiterator.__iter__» :=
 entryFor_alias (id' := "dict_keyiterator.__iter__") (by kernel_rfl) rfl (by decide +kernel) (by kernel_rfl)
theorem y0(a:Value):argsOk "set_iterator.__iter__" ⟨[a],[]⟩:=by
 unfold argsOk;rw[signature?_of (id := "set_iterator.__iter__") (n:=['_', '_', 'r', 'e', 't', 'i', '_', '_']) (o:=['r', 'o', 't', 'a', 'r', 'e', 't', 'i', '_', 't', 'e', 's']) (by kernel_rfl) sP];kernel_rfl
theorem n9:entryFor table "set.__iter__" = some Builtin.«frozenset.__iter__» :=
 entryFor_alias (id' := "frozenset.__iter__") (by kernel_rfl) rfl (by decide +kernel) (by kernel_rfl)
section
variable {prog:Program} {w:World} {A:Around} {E:zzj} {s:Shared} {l it:Addr} {o:Obj} {es:Array (Int×Value)} {ep:Nat} {t:SetTable}
def byT(w:World):Bool:=w.params.followText "set-order"
def wl(w:World)(l:Addr)(ep:Nat)(es:Array (Int×Value)):Array (Int×Value):=if byT w then pickOrder (w.params.setOrder l ep) es else es
theorem wl_perm:(wl w l ep es).toList.Perm es.toList:=by
 unfold wl
 split
 ·exact ya _ _
 ·exact .refl _
theorem qN:(wl w l ep es).size=es.size:=by have:=(wl_perm (w:=w) (l:=l) (ep:=ep) (es:=es)).length_eq;rwa [be,be]at this
def sl(w:World)(t:SetTable):Nat->Nat
 | 0=>0
 | i+1=>if byT w then 0 else t.place.getD i 0+1
theorem zt(T:Tb t es)(hb:byT w=false)(hi:i<=es.size):below t.place (sl w t i)=i:=by
 cases i with
 | zero=>exact Dy T.up
 | succ i =>
  unfold sl
  rw[hb]
  have h:i<t.place.size:=by rw[T.sz];omega
  refine vQ T.up ?_
  rw[nu,bj h];rfl
theorem uK(h:Q (byT w) s):wpAny (model prog w) A setsByText Q E s:=zza (wpAny_askSetting (zzb h))
theorem Gy(ho:s.heap.get? l=some o)(hd:o.data=.set es ep t)(T:Tb t es)(h:Q false s):wpAny (model prog w) A (setDrawn l) Q E s:=by
 unfold setDrawn
 refine zza (LG ho hd T.fits (zza (uK (zzb ?_))))
 show Q (!byT w&&(!t.plain&&decide (es.size>1))) s
 rw[T.pl,Bool.not_true,Kv,Bool.and_false]
 exact h
theorem Ie{Q:Option (Value×Nat)->Shared->Prop}(ho:s.heap.get? l=some o)(hd:o.data=.set es ep t)(T:Tb t es)(hled:t.led = !byT w)(hi:i<=es.size)
  (h:Q ((wl w l ep es)[i]?.map λe=>(e.2,sl w t (i+1))) s):wpAny (model prog w) A (setNext l (sl w t i) i ep) Q E s:=by
 unfold setNext
 refine zza (LG ho hd T.fits (zza (uK ?_)))
 cases hb:byT w with
 | true =>
  rw[ar rfl]
  dsimp only
  rw[au (by simp)]
  unfold setWalk
  refine zza (zza (LG ho hd T.fits (zza (uK ?_))))
  rw[hb,ar rfl]
  refine zza (wpAny_askSetting (zzb (zzb ?_)))
  have e0:∀k,sl w t k=0:=λk=>by
   cases k with
   | zero=>rfl
   | succ k =>
    show(if byT w then 0 else t.place.getD k 0+1)=0
    rw[hb];rfl
  have e1:sl w t i=sl w t (i+1):=(e0 _).trans (e0 _).symm
  unfold wl at h
  rw[hb,ar rfl]at h
  rw[e1]
  exact h
 | false =>
  rw[au (by decide)]
  dsimp only
  refine(show wpAny _ _ (if(!t.plain&&decide (es.size>1))=true then _ else _) _ _ _ from ?_)
  rw[au (show ¬ ((!t.plain&&decide (es.size>1))=true) by rw[T.pl];simp)]
  refine zza ?_
  show wpAny _ _ (if(!t.led && !es.isEmpty)=true then unsupported "set:maker-not-led" else pure ()) _ _ s
  rw[au (by rw[hled,hb];simp)]
  refine zzb ?_
  rw[zt T hb hi]
  refine zzb ?_
  unfold wl at h
  rw[hb,au (by decide)]at h
  by_cases hs:i<es.size
  ·have h2:i<t.place.size:=by rw[T.sz];exact hs
   rw[bj hs,bj h2]
   rw[bj hs]at h
   have:sl w t (i+1)=t.place[i]+1:=by
    show(if byT w then 0 else t.place.getD i 0+1)=_
    rw[hb,au (by decide),nu,bj h2];rfl
   rw[Option.map_some,this]at h
   exact h
  ·rw[ua (by omega),ua (by rw[T.sz];omega)]
   rw[ua (by omega)]at h
   exact h
end
section
variable {prog:Program} {w:World} {A:Around} {E:zzj} {s:Shared} {l it:Addr} {o:Obj} {es:Array (Int×Value)} {ep:Nat} {t:SetTable}
def itO(w:World)(l:Addr)(t:SetTable)(n ep i:Nat):Obj:={ cls:=.type "set_iterator",data:=.fields #[.int (sl w t i) 0,.int i 0,.ref l,.int n 0,.int ep 0] }
def IsSI(w:World)(h:Heap)(it l:Addr)(t:SetTable)(n ep i:Nat):Prop:=∃o,h.get? it=some o/\o.cls=.type "set_iterator" /\ o.data=.fields #[.int (sl w t i) 0,.int i 0,.ref l,.int n 0,.int ep 0]
theorem IsSI.ty{n:Nat}(x:IsSI w s.heap it l t n ep i):s.TypeIs (.ref it) "set_iterator":=let ⟨o,e,c,_⟩:=x;⟨o,e,c⟩
theorem IsSI.kp{h h':Heap}{n:Nat}(x:IsSI w h it l t n ep i)(k:∀o,h.get? it=some o->h'.get? it=some o):IsSI w h' it l t n ep i:=let ⟨o,e,r⟩:=x;⟨o,k o e,r⟩
theorem Ge{Q:zzj}(ho:s.heap.get? l=some o)(hex:o.ExactSet)(hd:o.data=.set es ep t)(T:Tb t es)(q:Q (.ref s.heap.objs.size) { s with heap:=s.heap.push (itO w l t es.size ep 0) }) :
  wpAny (model prog w) A (pyIter (.ref l)) Q E s:=by
 have hT:s.TypeIs (.ref l) "set":=⟨o,ho,hex.1⟩
 refine wpAny_pyIter_slot hT F.slot_set_iter (gs F.slot_set_iter hT n9 ?_ (F.args_set_iter_1 _))
 unfold Builtin.«frozenset.__iter__»
 refine(show wpAny (model prog w) _ (Builtin.Frozenset.sizeOf l >>= _) _ _ s from ?_)
 unfold Builtin.Frozenset.sizeOf
 refine zza (zza (wpAny_setEntries_of ho hd T.fits (zzb (zza (Gy ho hd T ?_)))))
 rw[au (by decide)]
 refine zza (zzb (zza (wpAny_setEpoch_of ho hd T.fits (zza (sd (zzb ⟨_,rfl, "set_iterator",_,⟨_,zze _ rfl,rfl⟩,slot_next.lookup,?_⟩))))))
 simpa[rawInt,itO,sl]using q
theorem Ar{Q:Option Value->Shared->Prop}(hit:IsSI w s.heap it l t es.size ep i)(ho:s.heap.get? l=some o)(hd:o.data=.set es ep t)(T:Tb t es)(hled:t.led = !byT w)(hi:i<=es.size)
  (q1:∀(h:i<(wl w l ep es).size) (h':Heap),IsSI w h' it l t es.size ep (i+1)->Heap.SameBut it s.heap h'->Q (some (wl w l ep es)[i].2) { s with heap:=h' })
  (q2:es.size<=i->A.handled=none/\∀h',Heap.ExtBut it s.heap h'->Q none { s with heap:=h' }):wpAny (model prog w) A (pyNext (.ref it)) Q E s:=by
 obtain⟨oi,hoi,hc,hdi⟩:=id hit
 have hTi:=hit.ty
 unfold pyNext
 refine zza (Ks (gt (name:=Str.ofString "__next__") hTi slot_next (gs slot_next hTi entry_next ?_ (args_next _))))
 unfold Builtin.«set_iterator.__next__»
 refine(show wpAny (model prog w) _ (fieldsOf (.ref it) >>= _) _ _ s from zza (wpAny_fieldsOf hoi hdi ?_))
 dsimp only
 refine zza (wpAny_setEntries_of ho hd T.fits ?_)
 rw[au (by simp)]
 rw[Er,Er,Er]
 refine zza (Ie ho hd T hled hi ?_)
 by_cases hw:i<(wl w l ep es).size
 ·rw[bj hw]
  dsimp only[Option.map_some]
  refine zza (Kl hoi hdi (by simp) ?_)
  have h1:=lu (h:=s.heap) (Obj.mapFields (·.setIfInBounds 0 (rawInt (sl w t (i+1))))) hoi (ye (io hdi _))
  have d1:(Obj.mapFields (·.setIfInBounds 0 (rawInt (sl w t (i+1)))) oi).data=.fields #[.int (sl w t (i+1)) 0,.int i 0,.ref l,.int es.size 0,.int ep 0]:=by rw[io hdi];simp[rawInt]
  refine zza (Kl h1 d1 (by simp) ?_)
  refine zzb ⟨_,rfl,zzb (q1 hw _ ⟨_,lu _ h1 (ye (io d1 _)),(KG ..).trans ((KG ..).trans hc),by rw[io d1];simp[rawInt]⟩ ((Heap.SameBut.update ..).trans (Heap.SameBut.update ..)))⟩
 ·rw[ua (by omega)]
  obtain⟨hh,q⟩:=q2 (by rw[qN]at hw;omega)
  dsimp only[Option.map_none]
  refine zza (Kl hoi hdi (by simp) ?_)
  refine(show wpAny (model prog w) _ (newExc (.type "StopIteration") [] >>= _) _ _ _ from zza ?_)
  simp only[newExc,newTuple]
  refine zza (sd ?_ (by size_fits))
  refine zza (m:=firstArgMember _ _) (wpAny_of_eq (a:=Value.none) (by first|rfl|(simp only[firstArgMember];rfl)) ?_)
  refine sd ?_ (by size_fits)
  simp only[raiseNew]
  refine zza (wpAny_handled ?_)
  rw[show A.in1.handled=none from hh]
  refine zza (zzb (wpAny_throw ?_))
  refine zza (Kh (T := "StopIteration") (b:=true) (by exact⟨_,zze _ rfl,rfl⟩) Ls ?_)
  exact zzb (q _ (((Heap.SameBut.update ..).extBut.push _).push _))
theorem Bd(hT:s.TypeIs (.ref l) "set")(h:Q false s):wpAny (model prog w) A (Builtin.List.listLengthHint (.ref l)) Q E s:=by
 unfold Builtin.List.listLengthHint
 refine zza (Ky hT PySem.F.slot_set_len.lookup ?_)
 generalize hid:("set.__len__" : String)=id0
 wp_delta
 rw[show splitId id0=some ("set", "__len__")from by subst hid;decide +kernel]
 subst hid
 refine zza (Kh (T := "set") (b:=true) hT (by rw[isSubtype_type];kernel_rfl) ?_)
 refine wpAny_ite_split (λhab=>absurd hab (by decide)) (λ_=>?_)
 refine wpAny_ite_split (λ_=>?_) (λhab=>absurd (by decide +kernel) hab)
 refine zza (Ix hT ?_)
 exact zzb h
theorem B6(hex:o.ExactSet)(hd:o.data=.set es ep t)(T:Tb t es)(hled:t.led = !byT w):PySem.W.KdlSrc prog w "set" l l es.size (λi v=>∃e,(wl w l ep es)[i]? = some e/\v=e.2) (λh=>h.get? l=some o) where
 type:=λ_ x=>⟨o,x,hex.1⟩
 there:=λh x=>⟨am x,am x⟩
 keep:=λ_ _ x k=>k l (.inl rfl) o x
 notList:=by decide
 notTuple:=by decide
 hint:=λ_ _ _ _ x q=>Bd ⟨o,x,hex.1⟩ q
 iter:=λA s hh x=>by
  have hne:l≠s.heap.objs.size:=bi (am x)
  refine⟨_,λi h=>IsSI w h s.heap.objs.size l t es.size ep i/\h.get? l=some o,λE Q q=>Ge x hex hd T q,⟨?_,?_,?_,?_,?_⟩,⟨_,zze _ rfl,rfl,rfl⟩,zzc _ x⟩
  ·intro b hb
   rw[List.mem_singleton.mp hb]
   exact ak
  ·intro i h h' st k
   exact⟨st.1.kp λo e=>k _ ak o e,k l (by simp) o st.2⟩
  ·intro i s1 Q E hi st q
   refine Ar st.1 st.2 hd T hled (by omega) (λhi h' a1 a2=>q _ h' s1.toks ⟨_,bj hi,rfl⟩ ⟨a1,a2.extBut l o hne st.2⟩ λb o hb e=>a2.extBut b o (λz=>hb (by simp[z])) e) λz=>absurd hi (by lia)
  ·intro s1 Q E st q
   exact Ar st.1 st.2 hd T hled (ai _) (λhi=>absurd hi (by rw[qN];exact ug _)) λ_=>⟨hh,λh' a=>q h' s1.toks λb o hb e=>a b o (λz=>hb (by simp[z])) e⟩
  ·intro i s1 Q E st q
   refine wpAny_pyIter_slot st.1.ty pU (gs pU st.1.ty vB ?_ (y0 _))
   show wpAny _ _ (ret (.ref _)) _ _ s1
   exact zzb ⟨_,rfl, "set_iterator",_,st.1.ty,slot_next.lookup,q⟩
end
end WS
namespace L4
open PySem PySem.Spec PyProof.Rows L2 L3 TS WS
def vD(acc:List D)(d:D):List D:=if keyD d∈acc.map keyD then acc else acc++[d]
def uc(ds:List D):List D:=ds.foldl vD []
theorem sM{α β:Type}{f:α->β}:∀{l:List β} {zs:List α},l.Perm (zs.map f)->∃zs':List α,zs'.Perm zs/\l=zs'.map f
 | [],zs,h=>by
  have:zs=[]:=by have:=h.length_eq;rw[zzd]at this;exact List.length_eq_zero_iff.mp this.symm
  subst this
  exact⟨[],.refl _,rfl⟩
 | x::l,zs,h=>by
  obtain⟨z,hz,rfl⟩:=List.mem_map.mp (h.mem_iff.mp ak)
  obtain⟨as,bs,rfl⟩:=List.append_of_mem hz
  have h2:(f z::l).Perm (f z::(as++bs).map f):=h.trans (by rw[eg,ax,eg];exact List.perm_middle)
  obtain⟨zs',p1,p2⟩:=sM h2.cons_inv
  exact⟨z::zs',(p1.cons z).trans List.perm_middle.symm,by rw[ax,p2]⟩
theorem A5{es:Array (Int×Value)}{acc:Array Value}(h:ItemsOf (λi v=>∃e,es[i]? = some e/\v=e.2) acc es.size):acc.toList=es.toList.map (·.2):=by
 apply K7
 intro j
 rw[ic,ik,ic]
 cases q:acc[j]? with
 | some v =>
  obtain⟨e,e1,rfl⟩:=h.2 j v q
  rw[e1];rfl
 | none =>
  have:es.size<=j:=by rw[<-h.1];exact Array.getElem?_eq_none_iff.mp q
  rw[ua this];rfl
end L4
namespace WS
open PySem PySem.SetTable PyProof.Rows
variable {xs:List (Int×Tok)}{l p:Addr}{items:Array Value}
section
variable {prog:Program} {w:World} {A:Around} {E:zzj} {s:Shared}
abbrev eI(p:Int×Tok):Int×Value:=(hashInt p.1,.int p.1 p.2)
def Sy(w:World)(h:Heap)(l:Addr)(xs:List (Int×Tok)):Prop :=
 ∃o es ep t,h.get? l=some o/\o.ExactSet/\o.data=.set es ep t/\Tb t es/\t.place.size*5<t.mask*3/\es.toList.Perm (xs.map eI)/\t.led = !w.params.followText "set-order"
def cN(xs:List (Int×Tok))(p:Int×Tok):List (Int×Tok):=if p.1∈xs.map (·.1)then xs else xs++[p]
def Fw(xs:List (Int×Tok)):Prop:=(xs.map (·.1)).Nodup/\∀p∈xs,0<=p.1/\p.1<8
theorem BQ{p q:Int×Tok}(h:q∈cN xs p):q=p\/q∈xs:=by
 unfold cN at h
 split at h
 ·exact .inr h
 ·rcases List.mem_append.mp h with h|h
  ·exact .inr h
  ·exact .inl (List.mem_singleton.mp h)
theorem Fw.add(f:Fw xs){p:Int×Tok}(h1:0<=p.1)(h2:p.1<8):Fw (cN xs p):=by
 refine⟨?_,λq hq=>?_⟩
 ·unfold cN
  split
  ·exact f.1
  ·rename_i hn
   rw[eg,Kn]
   exact⟨f.1,by simp,λa ha b hb=>by
    rw[List.map_singleton,Lx]at hb
    subst hb
    exact λz=>hn (z▸ha)⟩
 ·rcases BQ hq with rfl|hq
  ·exact⟨h1,h2⟩
  ·exact f.2 q hq
theorem Fw.len(f:Fw xs):xs.length<=8:=by
 have:∀(l m:List Int),l.Nodup->(∀x∈l,x∈m)->l.length<=m.length:=by
  intro l
  induction l with
  | nil=>intro m _ _;exact aw _
  | cons a l ih =>
   intro m hn hs
   rw[List.nodup_cons]at hn
   have ha:=hs a ak
   have h:=ih (m.erase a) hn.2 λx hx=>by
    have:x≠a:=λz=>hn.1 (z▸hx)
    exact(List.mem_erase_of_ne this).mpr (hs x (zzg _ hx))
   rw[List.length_erase_of_mem ha]at h
   have:0<m.length:=K6 ha
   rw[eh]
   omega
 have h:=this (xs.map (·.1)) [0,1,2,3,4,5,6,7] f.1 λx hx=>by
  obtain⟨p,hp,rfl⟩:=List.mem_map.mp hx
  have:=f.2 p hp
  simp only[eE,wE,xz]
  omega
 rw[zzd]at h
 exact h
theorem Fw.lt(f:Fw xs){x:Int}(h1:0<=x)(h2:x<8)(hn:x∉xs.map (·.1)):xs.length<8:=by
 have:=(f.add (p:=(x,default)) h1 h2).len
 unfold cN at this
 rw[au hn,zzf,KE]at this
 omega
theorem C6{m:Nat}(hm:Mk m){es:Array (Int×Value)}{finger moves:Nat}{led:Bool}{t':SetTable}{order:Array Nat}(hl:es.size<=m)(e:laid m finger moves led true (es.map (·.1))=some (t',order)):order.toList.Perm (List.range es.size):=by
 obtain⟨ow,e0,L⟩:=AR hm (hs:=es.map (·.1)) (by rw[LC];omega)
 have hlen:(es.map (·.1)).toList.length=es.size:=by rw[be,LC]
 have pm:=L.pm
 rw[hlen]at pm
 unfold laid at e
 rw[e0]at e
 injection e with e
 injection e with _ e
 rw[<-e]
 exact pm
theorem xD{x:Int}{tk:Tok}{Q:Bool->Shared->Prop}(hS:Sy w s.heap l xs)(hF:Fw xs)(h1:0<=x)(h2:x<8)
  (h:∀r h',Heap.SameBut l s.heap h'->Sy w h' l (cN xs (x,tk))->Q r { s with heap:=h' }):wpAny (model prog w) A (setAddHashed l (.int x tk) (hashInt x)) Q E s:=by
 obtain⟨o,es,ep,t,ho,hex,hd,T,hm7,hp,hled⟩:=hS
 have hlen:es.size=xs.length:=by have:=hp.length_eq;rwa [be,zzd]at this
 have hx4:=hF.len
 have hel:ElemsOf (intKind prog w) es.toList:=λe he=>by
  obtain⟨p,hp1,rfl⟩:=List.mem_map.mp (hp.mem_iff.mp he)
  exact⟨⟨p.1,LY _ _ _ _,rfl⟩,rfl⟩
 have hb:es.size<scanBound:=by rw[hlen];unfold scanBound;omega
 have hkey:(intKind prog w).is x (.int x tk)=true:=LY _ _ _ _
 have hfm:∀e∈es.toList,(intKind prog w).is x e.2=true->x∈xs.map (·.1):=λe he hi=>by
  obtain⟨p,hp1,rfl⟩:=List.mem_map.mp (hp.mem_iff.mp he)
  exact List.mem_map.mpr ⟨p,hp1,(intKind prog w).inj _ _ _ (LY prog w p.1 p.2) hi⟩
 unfold setAddHashed setAddHashedIn
 refine ev (zza (LG ho hd T.fits ?_))
 dsimp only
 rw[byScan_of (knd:=intKind prog w) rfl hb hel]
 simp only[↓reduceIte]
 unfold setAddByScan
 refine zza ?_
 refine zza (Kq ?_)
 refine zza (wpAny_setScan_of (knd:=intKind prog w) (k:=x) hkey ho hd T.fits hel ?_)
 cases hr:List.findIdx? (λe=>(intKind prog w).is x e.2) es.toList with
 | some j =>
  dsimp only
  obtain⟨hj,hpj,_⟩:=List.findIdx?_eq_some_iff_getElem.mp hr
  have hin:=hfm _ (Kk hj) hpj
  refine zzb (zzb ?_)
  have e:s={ s with heap:=s.heap }:=by cases s;rfl
  rw[e]
  exact h _ _ (Heap.SameBut.refl l s.heap) ⟨o,es,ep,t,ho,hex,hd,T,hm7,by unfold cN;rw[ar hin];exact hp,hled⟩
 | none =>
  dsimp only
  have hout:x∉xs.map (·.1):=λhin=>by
   obtain⟨p,hp1,hp2⟩:=List.mem_map.mp hin
   have hm:eI p∈es.toList:=hp.mem_iff.mpr (List.mem_map.mpr ⟨p,hp1,rfl⟩)
   have:=List.findIdx?_eq_none_iff.mp hr _ hm
   rw[<-hp2,LY]at this
   exact Bool.noConfusion this
  have hlt:=hF.lt h1 h2 hout
  obtain⟨k,j0,r1,r2,r3,r4⟩:=T.free (hashInt x)
  have hns:t.place.size=xs.length:=by rw[T.sz,hlen]
  have hmm:t.place.size+1<=t.mask:=by
   have:=T.km
   rcases this with z|z|z<;>rw[z]at hm7 ⊢ <;> omega
  obtain⟨T1,q1,q2,q3⟩:=T.put (x:=.int x tk) r1 r3 r4 hmm
  have hp1:(insertAt es (t.put j0).2 (hashInt x,Value.int x tk)).toList.Perm ((xs++[(x,tk)]).map eI):=by
   refine(L0 es _ _).trans ?_
   rw[Array.toList_push,eg]
   exact hp.append (.refl _)
  have fs:t.freeSlot (hashInt x)=some (j0,false):=by
   unfold SetTable.freeSlot
   have g:=EG (f:=λ_=>hashInt x+1) T k (10*turns t.mask) _ _ j0 (BD t (hashInt x)) r1 r3 r4 r2 (h:=hashInt x)
   rcases g with ⟨r,_⟩|⟨k',i,j,nx,_,_,_,z,_⟩
   ·unfold SetTable.probe
    rw[r]
    rfl
   ·omega
  have ln:layNew t es (hashInt x) (.int x tk)=(insertAt es (t.put j0).2 (hashInt x,.int x tk),(t.put j0).1,false,false):=by
   unfold layNew
   rw[fs]
   dsimp only
   unfold SetTable.orStandIn
   rw[T1.fits]
   rfl
  rw[ln]
  dsimp only
  refine zza (show wpAny _ _ (pure ()) _ _ _ from zzb ?_)
  rw[T1.pl,ar rfl]
  refine zza ?_
  rw[hashByValue_scannable 8 rfl]
  refine zzb ?_
  rw[show plainKind (.int x tk)=true from rfl,ar rfl]
  have hsl:(insertAt es (t.put j0).2 (hashInt x,Value.int x tk)).size<=sizeLine:=by
   rw[bW,hlen]
   exact ce (show xs.length+1<=1000 by omega) (by decide)
  refine zza (wpAny_storeSet_of ho hd ?_ hsl)
  have ho1:=qi (es':=insertAt es (t.put j0).2 (hashInt x,Value.int x tk)) (t':=(t.put j0).1) ho hd
  have sb:=Heap.SameBut.update s.heap l (Obj.putSet (insertAt es (t.put j0).2 (hashInt x,Value.int x tk)) (t.put j0).1)
  have hfl:(t.put j0).1.tooFull=decide ((xs.length+1)*5>=t.mask*3):=by
   unfold SetTable.tooFull
   rw[T1.fill,q3,q1,hns]
  have hax:cN xs (x,tk)=xs++[(x,tk)]:=by unfold cN;rw[au hout]
  by_cases hfull:(xs.length+1)*5>=t.mask*3
  ·rw[hfl,ef hfull,ar (by decide)]
   obtain⟨M,g1,g2,g3,g4⟩:=grow T.km (by rw[<-hns];exact hm7) hfull (by omega)
   have hsz1:(insertAt es (t.put j0).2 (hashInt x,Value.int x tk)).size=xs.length+1:=by rw[bW,hlen]
   obtain⟨t',order,l1,l2,l3,l4,l5⟩:=C7 g2 (es:=insertAt es (t.put j0).2 (hashInt x,Value.int x tk)) (finger:=(t.put j0).1.finger) (moves:=(t.put j0).1.movedTo M) (led:=(t.put j0).1.led) (by rw[hsz1];omega)
   have hsz2:(order.filterMap ((insertAt es (t.put j0).2 (hashInt x,Value.int x tk))[·]?)).size=(insertAt es (t.put j0).2 (hashInt x,Value.int x tk)).size:=by have:=l3.length_eq;rwa [be,be]at this
   have ry:relayAll (t.put j0).1 (insertAt es (t.put j0).2 (hashInt x,Value.int x tk)) (grown (insertAt es (t.put j0).2 (hashInt x,Value.int x tk)).size)=(order.filterMap ((insertAt es (t.put j0).2 (hashInt x,Value.int x tk))[·]?),t',false):=by
    unfold relayAll SetTable.relaid
    rw[hsz1,g1,Nat.add_sub_cancel,T1.pl,l1]
    dsimp only
    rw[ar ?_]
    rw[ac]
    exact⟨List.isPerm_iff.mpr (by rw[<-hsz1];exact C6 g2 (by rw[hsz1];omega) l1),l2.fits⟩
   rw[ry]
   dsimp only
   refine zza (show wpAny _ _ (pure ()) _ _ _ from zzb ?_)
   refine zza (wpAny_storeSet_of ho1 rfl ?_ (by rw[hsz2];exact hsl))
   have ho2:=qi (es':=order.filterMap ((insertAt es (t.put j0).2 (hashInt x,Value.int x tk))[·]?)) (t':=t') ho1 rfl
   refine zzb ?_
   dsimp only
   refine zzb (h _ _ (sb.trans (Heap.SameBut.update _ l _)) ⟨_,_,_,_,ho2,hex,rfl,l2,?_,?_,?_⟩)
   ·rw[l2.sz,hsz2,hsz1,l4];exact g3
   ·rw[hax];exact l3.trans hp1
   ·rw[l5,q2];exact hled
  ·rw[hfl,bu hfull,au (by decide)]
   refine zzb ?_
   dsimp only
   refine zzb (h _ _ sb ⟨_,_,_,_,ho1,hex,rfl,T1,?_,?_,?_⟩)
   ·rw[q3,q1,hns];omega
   ·rw[hax];exact hp1
   ·rw[q2];exact hled
theorem Sy.kp{h h':Heap}(S:Sy w h l xs)(k:∀o,h.get? l=some o->h'.get? l=some o):Sy w h' l xs:=let ⟨o,es,ep,tb,e,r⟩:=S;⟨o,es,ep,tb,k o e,r⟩
theorem AK{R:Result->Shared->Prop}(hh:A.handled=none){it:Addr}(n1:l≠it)(n2:l≠p)(n3:it≠p):∀(rest:List (Int×Tok)) (i:Nat) (s:Shared) (xs:List (Int×Tok)),
  s.heap.IsListIter it p i->s.heap.IsList p items->items.toList.drop i=rest.map (λq=>Value.int q.1 q.2)->(∀q∈rest,0<=q.1/\q.1<8)->Sy w s.heap l xs->Fw xs ->
  (∀h' tk,(∀b o,b≠l->b≠it->s.heap.get? b=some o->h'.get? b=some o)->Sy w h' l (rest.foldl cN xs)->R (.ok (.ret .none)) { s with heap:=h',toks:=tk }) ->
  codeAny (model prog w) A (.builtin "set.update.loop" ⟨[.ref l,.ref it],[]⟩) R s:=by
 intro rest
 induction rest with
 | nil =>
  intro i s xs hit hl hd _ hS _ hR
  refine om gH ?_
  rw[ny df _]
  show wpAny _ A.in1 (pyNext (.ref it) >>= _) _ _ s
  have hx:items[i]? = none:=by
   rw[Array.getElem?_eq_none_iff,<-be]
   have:=congrArg List.length hd
   rw[Kj,Ch,fi]at this
   omega
  refine zza (Mb (show A.in1.handled=none from hh) hit hl hx λh' e=>?_)
  exact zzb (hR h' s.toks (λb o _ hb z=>e b o hb z) (hS.kp λo z=>e l o n1 z))
 | cons q rest ih =>
  intro i s xs hit hl hd hT hS hX hR
  refine om gH ?_
  rw[ny df _]
  show wpAny _ A.in1 (pyNext (.ref it) >>= _) _ _ s
  have hx:items[i]? = some (.int q.1 q.2):=by
   have:=congrArg (λl=>l[0]?) hd
   simp only[List.getElem?_drop,Nat.add_zero,ax,LU,ic]at this
   exact this
  refine zza (LV hit hl hx λh1 it1 sb1=>?_)
  dsimp only
  obtain⟨b1,b2⟩:=hT q ak
  have S1:Sy w h1 l xs:=hS.kp λo e=>(sb1.2 l n1).trans e
  have l1:h1.IsList p items:=by obtain⟨o,e,r⟩:=hl;exact⟨o,(sb1.2 p (λz=>n3 z.symm)).trans e,r⟩
  refine zza (ev ?_)
  unfold setAdd
  refine ev (zza ((intKind prog w).pyHash (s:={ s with heap:=h1 }) (k:=q.1) (LY _ _ _ _) ?_))
  refine xD (s:={ s with heap:=h1,toks:=_ }) S1 hX b1 b2 λr h2 sb2 S2=>?_
  refine zzb ⟨KA df _,?_⟩
  refine ih (i+1) _ (cN xs q) (it1.at λo e=>(sb2.2 it (λz=>n1 z.symm)).trans e) (by obtain⟨o,e,r⟩:=l1;exact⟨o,(sb2.2 p (λz=>n2 z.symm)).trans e,r⟩) (by rw[<-Lz,hd];rfl) (λy hy=>hT y (zzg _ hy)) S2 (hX.add b1 b2) λh' tk kp S'=>?_
  exact hR h' tk (λb o c1 c2 e=>kp b o c1 c2 ((sb2.2 b c1).trans ((sb1.2 b c2).trans e))) S'
theorem sy0{h:Heap}(e:h.get? l=some (i9 w)):Sy w h l []:=⟨_,#[],0,_,e,⟨rfl,rfl,rfl⟩,rfl,tb0 _,by show 0*5<7*3;decide,.nil,rfl⟩
theorem yO{Q:zzj}(hh:A.handled=none)(hu:A.units+10<cLine)(hl:s.heap.IsList p items)(hi:items.toList=xs.map (λq=>Value.int q.1 q.2))(hx:∀q∈xs,0<=q.1/\q.1<8)
  (h:∀h' tk,(∀b o,s.heap.get? b=some o->h'.get? b=some o)->Sy w h' s.heap.objs.size (xs.foldl cN [])->Q (.ref s.heap.objs.size) { s with heap:=h',toks:=tk }) :
  wpAny (model prog w) A (call (.type "set") [.ref p]) Q E s:=by
 obtain⟨c,tl,hmro⟩:=F.called_set.mro
 have hmade:=F.called_set.made
 have hsub:=F.called_set.sub
 refine wpAny_call (codeAny_of_tree ?_)
 show wpAny _ _ (callAny (.type "set") _) _ _ _
 refine zzb ⟨LB _ (by decide +kernel),om F.entry_type_call ?_⟩
 rw[Around.under_plain (weight_type_call_type "set" [.ref p] []) rfl]
 have h1:=F.called_set.notType
 have h2:=F.called_set.canCreate
 have hct:=F.typeCall_set_1 (.ref p)
 repeat (any_goals (first|assumption|wp_step))
 refine K4 (qy (v:=.ref p) (E:=E) (Q₁:=λobj s₁=>obj=.ref s.heap.objs.size/\s₁={ s with heap:=s.heap.push (i9 w) }) ⟨rfl,rfl⟩) λr s₁ hr=>?_
 cases r with
 | error e=>exact hr
 | ok fl =>
  cases fl with
  | ret obj =>
   obtain⟨rfl,rfl⟩:=hr
   have hS:(s.heap.push (i9 w)).get? s.heap.objs.size=some (i9 w):=zze _ rfl
   have hT:Shared.TypeIs { s with heap:=s.heap.push (i9 w) } (.ref s.heap.objs.size) "set":=⟨_,hS,rfl⟩
   have hli:=F.called_set.init.lookup
   have hbi:=F.called_set.init.bind (.ref s.heap.objs.size)
   repeat (any_goals (first|assumption|wp_step))
   refine K4 (codeAny_call_builtin (R:=wants (λr s₂=>r=.none/\∃h' tk,s₂={ s with heap:=h',toks:=tk } /\
     Sy w h' s.heap.objs.size (xs.foldl cN [])/\(∀b o,s.heap.get? b=some o->h'.get? b=some o)) E) F.called_set.init.plain F.entry_set_init (check_set_init_1 hT ?_)) λr₂ s₂ hr₂=>?_
   ·obtain⟨ol,hol,hcl,nl,hdl⟩:=hl
    obtain⟨ocls,odict,odata,oslots⟩:=ol
    simp only at hcl hdl
    subst hcl;subst hdl
    have hol':(s.heap.push (i9 w)).get? p=some { cls:=.type "list",dict:=odict,data:=.seq items nl,slots:=oslots }:=zzc _ hol
    have hsls:=F.sub_list_set
    have hslf:=F.sub_list_frozenset
    have hne:(Value.type "list" == Value.type "dict")=false:=by decide
    have hl1:(s.heap.push (i9 w)).IsList p items:=⟨_,hol',rfl,nl,rfl⟩
    unfold Builtin.«set.__init__» noKeywords Builtin.Frozenset.updateFrom
    generalize hPI:pyIter=PI
    wp_walk
    subst hPI
    refine LH hl1 ?_
    refine zza (wpAny_runValue ?_)
    have hlS:p<s.heap.objs.size:=am hol
    have hh3:A.in1.in1.handled=none:=by simp[hh]
    refine AK hh3 (it:=(s.heap.push (i9 w)).objs.size) (p:=p) (items:=items) (by rw[r0];exact bi (Ku _)) (li hlS) (by rw[r0];exact li (se hlS)) xs 0 _ [] ⟨_,zze _ rfl,rfl,rfl⟩ (hl1.push _) (by rw[List.drop_zero];exact hi)
     hx (sy0 (zzc _ hS)) ⟨.nil,λq hq=>nomatch hq⟩ λh' tk kp S'=>?_
    show wpAny _ _ _ _ _ _
    refine zzb ?_
    show wpAny _ _ (ret Value.none) _ _ _
    refine zzb ⟨rfl,h',tk,rfl,S',λb o e=>?_⟩
    have hb:=am e
    exact kp b o (bi hb) (by rw[r0];exact bi (se hb)) (zzc _ (zzc _ e))
   ·cases r₂ with
    | error e=>exact hr₂
    | ok fl₂ =>
     cases fl₂ with
     | ret r =>
      obtain⟨rfl,h',tk,rfl,hS',hk'⟩:=hr₂
      repeat (any_goals (first|assumption|wp_step))
      exact h _ _ hk' hS'
     | _=>exact hr₂.elim
  | _=>exact hr.elim
theorem yq{R:Result->Shared->Prop}(hh:A.handled=none){it:Addr}(n1:l≠it)(n2:l≠p)(n3:it≠p):∀(rest:List (Int×Tok)) (i:Nat) (s:Shared) (xs:List (Int×Tok)),
  s.heap.IsTupleIter it p i->s.heap.IsTuple p items->items.toList.drop i=rest.map (λq=>Value.int q.1 q.2)->(∀q∈rest,0<=q.1/\q.1<8)->Sy w s.heap l xs->Fw xs ->
  (∀h' tk,(∀b o,b≠l->b≠it->s.heap.get? b=some o->h'.get? b=some o)->Sy w h' l (rest.foldl cN xs)->R (.ok (.ret .none)) { s with heap:=h',toks:=tk }) ->
  codeAny (model prog w) A (.builtin "set.update.loop" ⟨[.ref l,.ref it],[]⟩) R s:=by
 intro rest
 induction rest with
 | nil =>
  intro i s xs hit hl hd _ hS _ hR
  refine om gH ?_
  rw[ny df _]
  show wpAny _ A.in1 (pyNext (.ref it) >>= _) _ _ s
  have hx:items[i]? = none:=by
   rw[Array.getElem?_eq_none_iff,<-be]
   have:=congrArg List.length hd
   rw[Kj,Ch,fi]at this
   omega
  refine zza (wpAny_pyNext_tuple_end (show A.in1.handled=none from hh) hit hl hx λh' e=>?_)
  exact zzb (hR h' s.toks (λb o _ hb z=>e b o hb z) (hS.kp λo z=>e l o n1 z))
 | cons q rest ih =>
  intro i s xs hit hl hd hT hS hX hR
  refine om gH ?_
  rw[ny df _]
  show wpAny _ A.in1 (pyNext (.ref it) >>= _) _ _ s
  have hx:items[i]? = some (.int q.1 q.2):=by
   have:=congrArg (λl=>l[0]?) hd
   simp only[List.getElem?_drop,Nat.add_zero,ax,LU,ic]at this
   exact this
  refine zza (wpAny_pyNext_tuple_item hit hl hx λh1 it1 sb1=>?_)
  dsimp only
  obtain⟨b1,b2⟩:=hT q ak
  have S1:Sy w h1 l xs:=hS.kp λo e=>(sb1.2 l n1).trans e
  have l1:h1.IsTuple p items:=by obtain⟨o,e,r⟩:=hl;exact⟨o,(sb1.2 p (λz=>n3 z.symm)).trans e,r⟩
  refine zza (ev ?_)
  unfold setAdd
  refine ev (zza ((intKind prog w).pyHash (s:={ s with heap:=h1 }) (k:=q.1) (LY _ _ _ _) ?_))
  refine xD (s:={ s with heap:=h1,toks:=_ }) S1 hX b1 b2 λr h2 sb2 S2=>?_
  refine zzb ⟨KA df _,?_⟩
  refine ih (i+1) _ (cN xs q) (it1.at λo e=>(sb2.2 it (λz=>n1 z.symm)).trans e) (by obtain⟨o,e,r⟩:=l1;exact⟨o,(sb2.2 p (λz=>n2 z.symm)).trans e,r⟩) (by rw[<-Lz,hd];rfl) (λy hy=>hT y (zzg _ hy)) S2 (hX.add b1 b2) λh' tk kp S'=>?_
  exact hR h' tk (λb o c1 c2 e=>kp b o c1 c2 ((sb2.2 b c1).trans ((sb1.2 b c2).trans e))) S'
theorem vI{Q:zzj}(hh:A.handled=none)(hu:A.units+10<cLine)(hl:s.heap.IsTuple p items)(hi:items.toList=xs.map (λq=>Value.int q.1 q.2))(hx:∀q∈xs,0<=q.1/\q.1<8)
  (h:∀h' tk,(∀b o,s.heap.get? b=some o->h'.get? b=some o)->Sy w h' s.heap.objs.size (xs.foldl cN [])->Q (.ref s.heap.objs.size) { s with heap:=h',toks:=tk }) :
  wpAny (model prog w) A (call (.type "set") [.ref p]) Q E s:=by
 obtain⟨c,tl,hmro⟩:=F.called_set.mro
 have hmade:=F.called_set.made
 have hsub:=F.called_set.sub
 refine wpAny_call (codeAny_of_tree ?_)
 show wpAny _ _ (callAny (.type "set") _) _ _ _
 refine zzb ⟨LB _ (by decide +kernel),om F.entry_type_call ?_⟩
 rw[Around.under_plain (weight_type_call_type "set" [.ref p] []) rfl]
 have h1:=F.called_set.notType
 have h2:=F.called_set.canCreate
 have hct:=F.typeCall_set_1 (.ref p)
 repeat (any_goals (first|assumption|wp_step))
 refine K4 (qy (v:=.ref p) (E:=E) (Q₁:=λobj s₁=>obj=.ref s.heap.objs.size/\s₁={ s with heap:=s.heap.push (i9 w) }) ⟨rfl,rfl⟩) λr s₁ hr=>?_
 cases r with
 | error e=>exact hr
 | ok fl =>
  cases fl with
  | ret obj =>
   obtain⟨rfl,rfl⟩:=hr
   have hS:(s.heap.push (i9 w)).get? s.heap.objs.size=some (i9 w):=zze _ rfl
   have hT:Shared.TypeIs { s with heap:=s.heap.push (i9 w) } (.ref s.heap.objs.size) "set":=⟨_,hS,rfl⟩
   have hli:=F.called_set.init.lookup
   have hbi:=F.called_set.init.bind (.ref s.heap.objs.size)
   repeat (any_goals (first|assumption|wp_step))
   refine K4 (codeAny_call_builtin (R:=wants (λr s₂=>r=.none/\∃h' tk,s₂={ s with heap:=h',toks:=tk } /\
     Sy w h' s.heap.objs.size (xs.foldl cN [])/\(∀b o,s.heap.get? b=some o->h'.get? b=some o)) E) F.called_set.init.plain F.entry_set_init (check_set_init_1 hT ?_)) λr₂ s₂ hr₂=>?_
   ·obtain⟨ol,hol,hcl,nl,hdl⟩:=hl
    obtain⟨ocls,odict,odata,oslots⟩:=ol
    simp only at hcl hdl
    subst hcl;subst hdl
    have hol':(s.heap.push (i9 w)).get? p=some { cls:=.type "tuple",dict:=odict,data:=.seq items nl,slots:=oslots }:=zzc _ hol
    have hsls:=F.sub_tuple_set
    have hslf:=F.sub_tuple_frozenset
    have hne:(Value.type "tuple" == Value.type "dict")=false:=by decide
    have hl1:(s.heap.push (i9 w)).IsTuple p items:=⟨_,hol',rfl,nl,rfl⟩
    unfold Builtin.«set.__init__» noKeywords Builtin.Frozenset.updateFrom
    generalize hPI:pyIter=PI
    wp_walk
    subst hPI
    refine Lq hl1 ?_
    refine zza (wpAny_runValue ?_)
    have hlS:p<s.heap.objs.size:=am hol
    have hh3:A.in1.in1.handled=none:=by simp[hh]
    refine yq hh3 (it:=(s.heap.push (i9 w)).objs.size) (p:=p) (items:=items) (by rw[r0];exact bi (Ku _)) (li hlS) (by rw[r0];exact li (se hlS)) xs 0 _ [] ⟨_,zze _ rfl,rfl,rfl⟩ (by obtain⟨o,e,r⟩:=hl1;exact⟨o,zzc _ e,r⟩) (by rw[List.drop_zero];exact hi)
     hx (sy0 (zzc _ hS)) ⟨.nil,λq hq=>nomatch hq⟩ λh' tk kp S'=>?_
    show wpAny _ _ _ _ _ _
    refine zzb ?_
    show wpAny _ _ (ret Value.none) _ _ _
    refine zzb ⟨rfl,h',tk,rfl,S',λb o e=>?_⟩
    have hb:=am e
    exact kp b o (bi hb) (by rw[r0];exact bi (se hb)) (zzc _ (zzc _ e))
   ·cases r₂ with
    | error e=>exact hr₂
    | ok fl₂ =>
     cases fl₂ with
     | ret r =>
      obtain⟨rfl,h',tk,rfl,hS',hk'⟩:=hr₂
      repeat (any_goals (first|assumption|wp_step))
      exact h _ _ hk' hS'
     | _=>exact hr₂.elim
  | _=>exact hr.elim
end
end WS
namespace L4
open PySem PySem.Spec PyProof.Rows L2 L3 TS WS
variable {X:Cx}
def SV(X:Cx)(l:Addr)(zs:List (Int×Tok)):HO:=.ext λh=>Sy X.w h l zs
abbrev iD(p:Int×Tok):D:=.int p.1
def yz:D->Bool
 | .int i=>decide (0<=i)&&decide (i<8)
 | _=>false
def hU(ds:List D):Bool:=decide (ds.length<=30000)&&ds.all yz
theorem mG{d:D}(h:yz d=true):∃i,d=.int i/\0<=i/\i<8:=by
 unfold yz at h
 split at h
 ·rw[ac,zzi,zzi]at h
  exact⟨_,rfl,h⟩
 ·cases h
def qm:List D->Option (List D)
 | [.list ds]=>if hU ds then some (b8 (uc ds))else none
 | [.tuple ds]=>if hU ds then some (b8 (uc ds))else none
 | _=>none
def Hw(X:Cx):List V->Hp->VK->Prop:=λxs H Q=>∃(G:Gh) (F:Hp) (Z:L2.St) (ρ:En) (x:V) (ds:List D),xs=[x]/\StOk X.K G F Z H ρ/\(OR X.K F H x (.list ds)\/OR X.K F H x (.tuple ds))/\hU ds=true /\
 ∀(l:Addr) (zs:List (Int×Tok)),H l=none->zs.map iD=ds->Fw (zs.foldl cN [])->Q (.ref l) (upd H l (SV X l (zs.foldl cN [])))
theorem zj{K:Fg}{F:Hp}:∀{vs:List V} {ds:List D} {us:List Value},RepL K F vs ds->Vals vs us->ds.all yz=true ->
  ∃zs:List (Int×Tok),zs.map iD=ds/\us=zs.map (λp=>Value.int p.1 p.2)/\∀p∈zs,0<=p.1/\p.1<8
 | [],ds,us,r,v,_=>by
  cases r;cases v
  exact⟨[],rfl,rfl,λp h=>nomatch h⟩
 | x::vs,ds,us,r,v,h=>by
  cases r with
  | @cons _ d _ ds a b =>
   cases v with
   | cons c e =>
    rw[KR,ac]at h
    obtain⟨i,rfl,h1⟩:=mG h.1
    have e2:=a.int_inv
    subst e2
    obtain⟨t,rfl⟩:=c
    obtain⟨zs,z1,z2,z3⟩:=zj b e h.2
    refine⟨(i,t)::zs,by rw[ax,z1],by rw[ax,<-z2],λp hp=>?_⟩
    rcases List.mem_cons.mp hp with rfl|hp
    ·exact h1
    ·exact z3 p hp
theorem rL:∀(zs acc:List (Int×Tok)),(∀p∈zs,0<=p.1/\p.1<8)->Fw acc->Fw (zs.foldl cN acc)
 | [],acc,_,h=>h
 | z::zs,acc,hz,h=>rL zs _ (λp hp=>hz p (zzg _ hp)) (h.add (hz z ak).1 (hz z ak).2)
theorem yP(hc:X.calm=true)(hu:X.A.units+1100<cLine):CallR X (.type "set") (Hw X):=by
 intro pins s Z H xs us Q I r h0
 obtain⟨G,F,σ',ρ,x,ds,rfl,S,ho,hok,k⟩:=h0
 obtain⟨u,rfl,ru⟩:=L2.Vals.one r
 unfold hU at hok
 rw[ac,zzi]at hok
 rcases ho with ho|ho
 ·obtain⟨a,vs,rfl,h1,h2⟩:=ho.list S.fh
  cases ru
  obtain⟨its,rv,pl,hz⟩:=I.list h1
  obtain⟨o,e1,e2,n,e3⟩:=pl.isList
  obtain⟨zs,z1,z2,z3⟩:=zj h2 rv hok.2
  refine yO (p:=a) (items:=its.toArray) (xs:=zs) (I.ok.hd hc) (by omega) ⟨o,e1,e2,n,e3⟩ z2 z3 λh' tk kp S'=>?_
  refine⟨.ref s.heap.objs.size,upd H s.heap.objs.size (SV X s.heap.objs.size (zs.foldl cN [])),I.laid (t':=tk) kp (ai _) ⟨S',?_,λh1 h2 p q=>p.kp q⟩,rfl,k _ zs (I.hok.fresh (ai _)) z1 (rL zs [] z3 ⟨.nil,λq hq=>nomatch hq⟩)⟩
  obtain⟨o',_,_,_,e,_⟩:=S'
  exact⟨o',e⟩
 ·obtain⟨a,vs,rfl,h1,h2⟩:=ho.tuple S.fh
  cases ru
  obtain⟨its,rv,pt,hz⟩:=I.tuple h1
  obtain⟨zs,z1,z2,z3⟩:=zj h2 rv hok.2
  refine vI (p:=a) (items:=its.toArray) (xs:=zs) (I.ok.hd hc) (by omega) pt z2 z3 λh' tk kp S'=>?_
  refine⟨.ref s.heap.objs.size,upd H s.heap.objs.size (SV X s.heap.objs.size (zs.foldl cN [])),I.laid (t':=tk) kp (ai _) ⟨S',?_,λh1 h2 p q=>p.kp q⟩,rfl,k _ zs (I.hok.fresh (ai _)) z1 (rL zs [] z3 ⟨.nil,λq hq=>nomatch hq⟩)⟩
  obtain⟨o',_,_,_,e,_⟩:=S'
  exact⟨o',e⟩
theorem tO(i:Int):keyD (.int i)=[i]:=rfl
theorem sG{a b:List D}(p:a.Perm b)(h:∀d∈b,yz d=true):b8 a=b8 b:=by
 have pm:(b8 a).Perm (b8 b):=((cG a).trans p).trans (cG b).symm
 refine kE (R:=λx y=>leK x y=true) (λx hx y hy h1 h2=>?_) pm (gp a) (gp b)
 obtain⟨n,rfl,_⟩:=mG (h x ((cG b).mem_iff.mp hx))
 obtain⟨n',rfl,_⟩:=mG (h y ((cG b).mem_iff.mp hy))
 unfold leK at h1 h2
 rw[wT]at h1 h2
 have:=nL h2 h1
 rw[tO,tO]at this
 injection this with this
 rw[this]
def Hu(X:Cx):List V->Hp->VK->Prop:=λxs H Q=>∃(G:Gh) (F:Hp) (Z:L2.St) (ρ:En) (l:Addr) (zs:List (Int×Tok)),xs=[.ref l]/\StOk X.K G F Z H ρ/\H l=some (SV X l zs)/\Fw zs /\
 ∀l vs,H l=none->RepL X.K F vs (b8 (zs.map iD))->Q (.ref l) (upd H l (.lst vs))
theorem wM{K:Fg}{F:Hp}:∀zs:List (Int×Tok),RepL K F (zs.map λp=>V.int p.1) (zs.map iD)
 | []=>.nil
 | p::zs=>.cons (.int _) (wM zs)
theorem wL:∀(zs:List (Int×Tok)),Vals (zs.map λp=>V.int p.1) (zs.map λp=>Value.int p.1 p.2)
 | []=>.nil
 | p::zs=>.cons ⟨p.2,rfl⟩ (wL zs)
theorem Dh{zs:List (Int×Tok)}(hF:Fw zs):∀d∈zs.map iD,yz d=true:=λd hd=>by
 obtain⟨p,hp,rfl⟩:=List.mem_map.mp hd
 have:=hF.2 p hp
 show(decide (0<=p.1)&&decide (p.1<8))=true
 rw[ef this.1,ef this.2];rfl
theorem vH(hc:X.calm=true):CallR X (.builtin "sorted") (Hu X):=by
 intro pins s Z H xs us Q I r h0
 obtain⟨G,F,σ',ρ,l,zs,rfl,S,hl,hF,k⟩:=h0
 obtain⟨u,rfl,ru⟩:=L2.Vals.one r
 cases ru
 obtain⟨⟨o,es,ep,t,ho,hex,hd,T,_,hp,hled⟩,_,_⟩:=I.hok l _ hl
 have hlen:es.size=zs.length:=by have:=hp.length_eq;rwa [be,zzd]at this
 have h4:=hF.len
 have hz:es.size<=sizeLine:=ce (show es.size<=1000 by omega) (by decide)
 refine js λE' Q' q=>uk (B6 hex hd T hled) (I.ok.hd hc) ho hz λh' tk acc kp it=>q _ _ ?_
 have I2:Inv X pins Z H { s with heap:=h',toks:=tk }:=I.kept (t':=tk) kp
 have it':ItemsOf (λi v=>∃e,(wl X.w l ep es)[i]? = some e/\v=e.2) acc (wl X.w l ep es).size:=by rw[qN];exact it
 obtain⟨zs',p1,p2⟩:=sM (wl_perm.trans hp)
 have ea:acc.toList=zs'.map λp=>Value.int p.1 p.2:=by
  rw[A5 it',p2,ib];rfl
 have pd:(zs'.map iD).Perm (zs.map iD):=p1.map _
 have i4:=Dh hF
 refine kF I2 S (wM zs') (by rw[ea];exact wL zs') (by rw[zzd,p1.length_eq,<-hlen];exact hz) ?_ λl vs hl rp=>k l vs hl ?_
 ·unfold bR
  have:(zs'.map iD).all rF=true:=by
   rw[ir]
   intro d hd'
   obtain⟨i,rfl,_⟩:=mG (i4 d (pd.mem_iff.mp hd'))
   rfl
  rw[this,Bool.true_or,Bool.and_true,zzi,pd.length_eq,zzd]
  omega
 ·rw[<-sG pd i4]
  exact rp
theorem oS:∀(zs acc:List (Int×Tok)),(zs.foldl cN acc).map iD=(zs.map iD).foldl vD (acc.map iD)
 | [],acc=>rfl
 | z::zs,acc=>by
  rw[ul,ax,ul,oS zs]
  congr 1
  unfold cN vD
  have e:(acc.map iD).map keyD=(acc.map (·.1)).map (λi=>[i]):=by
   rw[ib,ib]
   rfl
  have e2:(keyD (iD z)∈(acc.map iD).map keyD)↔z.1∈acc.map (·.1):=by
   rw[e]
   constructor
   ·intro h
    obtain⟨i,hi,q⟩:=List.mem_map.mp h
    injection q with q
    exact q▸hi
   ·intro h
    exact List.mem_map.mpr ⟨z.1,h,rfl⟩
  by_cases h:z.1∈acc.map (·.1)
  ·rw[ar h,ar (e2.mpr h)]
  ·rw[au h,au (λq=>h (e2.mp q)),eg];rfl
theorem lO{e:Expr}{ps:Pa (List D)}{p p2 pos pos2:Pos}(hc:X.calm=true)(hu:X.A.units+1100<cLine)(hg:Gl X "sorted")(hm:X.mg "sorted" = none)(hg2:Gl X "set")(hm2:X.mg "set" = none)(ha:AAo X [e] ps)
  (he:starEach [.Call (.Name "set" p2) [e] [] pos2] X.env=[(false,eval (.Call (.Name "set" p2) [e] [] pos2) X.env)]) (he2:starEach [e] X.env=[(false,eval e X.env)]):AL X (.Call (.Name "sorted" p) [.Call (.Name "set" p2) [e] [] pos2] [] pos) (ii qm ps) :=
 λG F Z H ρ Q S w=>sem (jM (vH hc) hg hm (by decide +kernel) (gz (iR (yP hc hu) hg2 hm2 (by decide +kernel) bK (by decide) (by decide) he2 rfl) kQ he) (by decide) (by decide) he rfl) (ha G F Z H ρ _ _ _ S w λds xs F1 H1 s1 S1 hx w1=>by
  obtain⟨res,er,k⟩:=w1.opt
  have hx':=hx.ors S1
  unfold qm at er
  split at er
  ·rename_i es
   split at er
   ·rename_i hok
    cases er
    obtain⟨v,r,rfl,ho,hr⟩:=bn hx'
    obtain rfl:=bF hr
    refine⟨G,F1,Z,ρ,v,es,rfl,S1,.inl ho,hok,λl zs hl ez fw=>?_⟩
    have S2:StOk X.K G F1 Z (upd H1 l (SV X l (zs.foldl cN []))) ρ:=S1.lay hl
    have ed:(zs.foldl cN []).map iD=uc es:=by rw[oS,ez];rfl
    refine⟨G,F1,Z,ρ,l,zs.foldl cN [],rfl,S2,aS,fw,λl2 vs hl2 rp=>?_⟩
    rw[ed]at rp
    obtain⟨S3,r3⟩:=S2.newLst hl2 rp
    exact k F1 _ (Same.refl _) S3 _ r3
   ·cases er
  ·rename_i es
   split at er
   ·rename_i hok
    cases er
    obtain⟨v,r,rfl,ho,hr⟩:=bn hx'
    obtain rfl:=bF hr
    refine⟨G,F1,Z,ρ,v,es,rfl,S1,.inr ho,hok,λl zs hl ez fw=>?_⟩
    have S2:StOk X.K G F1 Z (upd H1 l (SV X l (zs.foldl cN []))) ρ:=S1.lay hl
    have ed:(zs.foldl cN []).map iD=uc es:=by rw[oS,ez];rfl
    refine⟨G,F1,Z,ρ,l,zs.foldl cN [],rfl,S2,aS,fw,λl2 vs hl2 rp=>?_⟩
    rw[ed]at rp
    obtain⟨S3,r3⟩:=S2.newLst hl2 rp
    exact k F1 _ (Same.refl _) S3 _ r3
   ·cases er
  ·cases er)
end L4
set_option maxHeartbeats 8000000
namespace K42
open PySem PySem.Spec PyProof.Rows L2 L3 L4
variable {f:Addr}{fd:FuncData}{mg:zzl}
noncomputable section
def top(i:Nat):Stmt:=PySem.Challenge.pw_passersby_k42_rules_made_fewer.main.body.getD i (.Pass ⟨0,0,0,0⟩)
abbrev BL:List Str:=["range", "len", "tuple", "list", "max", "repr", "enumerate", "int", "zip", "sorted", "set", "dict"]
def BN(mg:zzl):Prop:=∀x∈BL,mg x=none
theorem BN.range(B:BN mg):mg "range" = none:=B _ (by decide)
theorem BN.len(B:BN mg):mg "len" = none:=B _ (by decide)
theorem BN.tuple(B:BN mg):mg "tuple" = none:=B _ (by decide)
theorem BN.list(B:BN mg):mg "list" = none:=B _ (by decide)
theorem BN.max(B:BN mg):mg "max" = none:=B _ (by decide)
theorem BN.repr(B:BN mg):mg "repr" = none:=B _ (by decide)
theorem BN.enumerate(B:BN mg):mg "enumerate" = none:=B _ (by decide)
theorem BN.int(B:BN mg):mg "int" = none:=B _ (by decide)
theorem BN.zip(B:BN mg):mg "zip" = none:=B _ (by decide)
theorem BN.sorted(B:BN mg):mg "sorted" = none:=B _ (by decide)
theorem BN.set(B:BN mg):mg "set" = none:=B _ (by decide)
theorem BN.dict(B:BN mg):mg "dict" = none:=B _ (by decide)
section
variable {P:Program} {w:World} {K:Fg} {base:Heap}
abbrev jt:Stmt:=top 1
abbrev v0:List Str:=["rule", "turns", "meeting"]
theorem sc_turns_of:FnScope v0 ["rule"] (aI jt):=⟨rfl,rfl,rfl,by decide +kernel,rfl,by decide +kernel,by decide +kernel⟩
def pE(gaz:List (D×D)):M D :=
 .ret (PyData.dict gaz)
def jm(gaz:List (D×D))(d_:D)(kn3:List (D×D)×Unit->M D):M D :=
 bd (bd (asI (.int 2)) λlo4=>oM (n5 d_ lo4 none)) λx5=>bd (bd (asI (.int 2)) λhi6=>oM (n5 d_ none hi6)) λx7=>bd (oM (cW true gaz x7 x5)) λl8=>kn3 (l8,())
def gJ(gaE:D):M D :=
 bd (bd (oM (aE gaE (.int 2))) λx1=>oM (cn x1)) λl2=>cA (λs9 d10 kn=>jm s9.1 d10 kn) l2 ([],()) (λs9=>pE s9.1)
def lE:List D->M D:=λl=>match l with
 | [gaE]=>gJ gaE
 | _=>.bad
theorem sT(Fn:Fun K "turns_of" "turns_of" jt f fd)(hmg:mg "turns_of" = some (.ref f))(B:BN mg):CF P w K mg base "turns_of" 1 (spD K 1 lE) :=
 ⟨f,fd,["rule"],cB (k:=0) Fn sc_turns_of (λcdv A outer s H E hr =>
  (ag (aL (sh:=[.f,.t,.dead]) (i6 true (i:=1) sc_turns_of.nd rfl (lo rfl) rfl (.inl rfl)))
  (ag (bg (sh:=[.dead,.t,.dead]) PassesOwn.leaving rfl (bx (bJ (aT (aH (aj hr)) aG (ao (aa (i:=0) rfl (vi rfl))) (ao aB)))) (aD (i:=2) (aw _) sc_turns_of.nd)
  (aC (fD (aj hr) (i:=1) rfl (vi rfl) (az (kz (ao (aa (i:=2) rfl (vi rfl))) ky (kx aB))) (az (kz (ao (aa (i:=2) rfl (vi rfl))) (kx aB) ky)) rfl)))
  (aC (iJ (i:=1) (bI (az (aa (i:=1) rfl (vi rfl)))))))))
 (λds hl=>(by obtain⟨gaE,rfl⟩:=ln1 hl;kernel_rfl)),hmg,Fn.kp,(vP Fn λ_ _ _ _ _ _ _=>rfl)⟩
abbrev fE:Stmt:=top 2
abbrev pH:List Str:=["turns", "one", "other", "turned"]
theorem sc_turned_from:FnScope pH ["turns", "one", "other"] (aI fE):=⟨rfl,rfl,rfl,by decide +kernel,rfl,by decide +kernel,by decide +kernel⟩
def dk(gaq:D)(ga3:D)(gaG:D):M D :=
 bd (oM (wx ga3 gaG)) λb1=>if b1 then
  bd (oM (jl gaq (.tuple [ga3,gaG]) (.tuple [ga3,gaG]))) λx2=>.ret x2
  else
  bd (oM (jl gaq (.tuple [gaG,ga3]) (.tuple [gaG,ga3]))) λx3=>bd (bd (oM (aE x3 (.int 1))) λx4=>bd (oM (aE x3 (.int 0))) λx5=>.ret (.tuple [x4,x5])) λx6=>.ret x6
def iA:List D->M D:=λl=>match l with
 | [gaq,ga3,gaG]=>dk gaq ga3 gaG
 | _=>.bad
theorem nC(Fn:Fun K "turned_from" "turned_from" fE f fd)(hmg:mg "turned_from" = some (.ref f))(B:BN mg):CF P w K mg base "turned_from" 1 (spD K 3 iA) :=
 ⟨f,fd,["turns", "one", "other"],cB (k:=0) Fn sc_turned_from (λcdv A outer s H E hr =>
  (ag (gh (cK (bO (FF (aj hr)) FM (ao (aa (i:=1) rfl (vi rfl))) (ao (aa (i:=2) rfl (vi rfl)))))
  (aC (bI (az (kA (aj hr) (ao (aa (i:=0) rfl (vi rfl))) (bw (af (aa (i:=1) rfl (vi rfl)) (af (aa (i:=2) rfl (vi rfl)) aq))) (bw (af (aa (i:=1) rfl (vi rfl)) (af (aa (i:=2) rfl (vi rfl)) aq))) ⟨rfl,rfl,rfl,rfl⟩))))
  cu)
  (ag (aL (sh:=[.dead,.dead,.dead,.f]) (aR (i:=3) sc_turned_from.nd (az (kA (aj hr) (ao (aa (i:=0) rfl (vi rfl))) (bw (af (aa (i:=2) rfl (vi rfl)) (af (aa (i:=1) rfl (vi rfl)) aq))) (bw (af (aa (i:=2) rfl (vi rfl)) (af (aa (i:=1) rfl (vi rfl)) aq))) ⟨rfl,rfl,rfl,rfl⟩))))
  (aC (bI (az (bw (af (aT (aH (aj hr)) aG (ao (aa (i:=3) rfl (vi rfl))) (ao aB)) (af (aT (aH (aj hr)) aG (ao (aa (i:=3) rfl (vi rfl))) (ao aB)) aq)))))))))
 (λds hl=>(by obtain⟨gaq,ga3,gaG,rfl⟩:=ln3 hl;kernel_rfl)),hmg,Fn.kp,(GH Fn λ_ _ _ _ _ _ _ _ _=>rfl)⟩
abbrev dE:Stmt:=top 5
abbrev mm:List Str:=["rule", "rooms", "start", "before", "meeting"]
theorem sc_rooms_come_to:FnScope mm ["rule"] (aI dE):=⟨rfl,rfl,rfl,by decide +kernel,rfl,by decide +kernel,by decide +kernel⟩
def eR(gaQ:D)(gap:List (D×D))(gaO:D):M D :=
 bd (bd (bd (bd (oM (lg [(PyData.dict gap)])) λl3=>.ret (PyData.list l3)) λx4=>oM (cS [x4])) λl5=>.ret (PyData.list l5)) λx6=>.ret x6
def eQ(kn7:D×List (D×D)×D×Unit->M D)(gaQ:D)(gap:List (D×D))(gaO:D):M D :=
 kn7 (gaQ,gap,gaO,())
def cI(kn7:D×List (D×D)×D×Unit->M D)(gaQ:D)(gap:List (D×D))(gaO:D)(d_:D)(kn13:D×List (D×D)×D×Unit->M D):M D :=
 bd (bd (bd (oM (aE d_ (.int 0))) λx14=>oM (iw x14 (PyData.dict gap))) λb16=>if b16 then bd (oM (aE d_ (.int 1))) λx15=>oM (iw x15 (PyData.dict gap))else .ret false) λb17=>if b17 then
  bd (oM (aE d_ (.int 2))) λx18=>bd (oM (cW false gap x18 (.bool true))) λl19=>bd (oM (aE d_ (.int 3))) λx20=>bd (oM (cW false l19 x20 (.bool true))) λl21=>kn13 (gaQ,l21,gaO,())
  else
  kn13 (gaQ,gap,gaO,())
def eO(gaQ:D)(gap:List (D×D))(gaO:D)(kn7:D×List (D×D)×D×Unit->M D):M D :=
 bd (bd (oM (t6 [(PyData.dict gap)])) λx8=>oM (qa gaO x8)) λb9=>if b9 then
  bd (oM (t6 [(PyData.dict gap)])) λx10=>bd (bd (oM (aE gaQ (.int 2))) λx11=>oM (cn x11)) λl12=>cA (λs22 d23 kn=>cI kn7 s22.1 s22.2.1 s22.2.2.1 d23 kn) l12 (gaQ,gap,x10,()) (λs22=>eQ kn7 s22.1 s22.2.1 s22.2.2.1)
  else eR gaQ gap gaO
def eS(gaQ:D)(gap:List (D×D)):M D :=
 mN (λs24 kn=>eO s24.1 s24.2.1 s24.2.2.1 kn) 10000 (gaQ,gap,(.int 0),())
def eP(gaQ:D)(gap:List (D×D))(d_:D)(kn25:D×List (D×D)×Unit->M D):M D :=
 bd (oM (cW false gap d_ (.bool true))) λl26=>kn25 (gaQ,l26,())
def cE(gaE:D):M D :=
 bd (bd (oM (aE gaE (.int 1))) λx1=>oM (cn x1)) λl2=>cA (λs27 d28 kn=>eP s27.1 s27.2.1 d28 kn) l2 (gaE,[],()) (λs27=>eS s27.1 s27.2.1)
def fX:List D->M D:=λl=>match l with
 | [gaE]=>cE gaE
 | _=>.bad
theorem kU(Fn:Fun K "rooms_come_to" "rooms_come_to" dE f fd)(hmg:mg "rooms_come_to" = some (.ref f))(B:BN mg):CF P w K mg base "rooms_come_to" 1 (spD K 1 fX) :=
 ⟨f,fd,["rule"],cB (k:=0) Fn sc_rooms_come_to (λcdv A outer s H E hr =>
  (ag (aL (sh:=[.f,.k,.dead,.dead,.dead]) (i6 false (i:=1) sc_rooms_come_to.nd rfl (lo rfl) rfl (.inl rfl)))
  (ag (bg (sh:=[.f,.k,.dead,.dead,.dead]) PassesOwn.leaving rfl (bx (bJ (aT (aH (aj hr)) aG (ao (aa (i:=0) rfl (vi rfl))) (ao aB)))) (aD (i:=2) (aw _) sc_rooms_come_to.nd)
  (aC (fD (aj hr) (i:=1) rfl (vi rfl) (az (aa (i:=2) rfl (vi rfl))) (az oQ) rfl)))
  (ag (aL (sh:=[.f,.k,.dead,.f,.dead]) (aR (i:=3) sc_rooms_come_to.nd (az aB)))
  (ag (qI (sh:=[.f,.k,.dead,.f,.dead]) (fuel:=10000) PassesOwn.leaving (cK (bO (uX (aj hr)) u4 (ao (aa (i:=3) rfl (vi rfl))) (ao (aQ qB wy B.len ge (aA (bq (i:=1)) aF)))))
  (ag (aL (sh:=[.f,.k,.dead,.f,.dead]) (aR (i:=3) sc_rooms_come_to.nd (az (aQ qB wy B.len ge (aA (bq (i:=1)) aF)))))
  (aC (bg (sh:=[.f,.k,.dead,.f,.dead]) PassesOwn.leaving rfl (bx (bJ (aT (aH (aj hr)) aG (ao (aa (i:=0) rfl (vi rfl))) (ao aB)))) (aD (i:=4) (aw _) sc_rooms_come_to.nd)
  (aC (gh (cK (xl (BC (bO (jO (aj hr)) nF (ao (aT (aH (aj hr)) aG (ao (aa (i:=4) rfl (vi rfl))) (ao aB))) (bq (i:=1))) (xj (bO (jO (aj hr)) nF (ao (aT (aH (aj hr)) aG (ao (aa (i:=4) rfl (vi rfl))) (ao aB))) (bq (i:=1)))))))
  (ag (aL (sh:=[.f,.k,.dead,.f,.f]) (fD (aj hr) (i:=1) rfl (vi rfl) (az (aT (aH (aj hr)) aG (ao (aa (i:=4) rfl (vi rfl))) (ao aB))) (az oQ) rfl))
  (aC (fD (aj hr) (i:=1) rfl (vi rfl) (az (aT (aH (aj hr)) aG (ao (aa (i:=4) rfl (vi rfl))) (ao aB))) (az oQ) rfl)))
  cu))))))
  (aC (bI (az (cg (eW (cH rfl) eF B.sorted (by decide +kernel) (aA (ao (cg (za (vL rfl) Ap B.list (by decide +kernel) (aA (bq (i:=1)) aF)))) aF)))))))))))
 (λds hl=>(by obtain⟨gaE,rfl⟩:=ln1 hl;kernel_rfl)),hmg,Fn.kp,(vP Fn λ_ _ _ _ _ _ _=>rfl)⟩
abbrev ju:Stmt:=top 7
abbrev v3:List Str:=["rooms", "marks", "numbers", "parts", "room", "mark"]
theorem sc_numbered:FnScope v3 ["rooms", "marks"] (aI ju):=⟨rfl,rfl,rfl,by decide +kernel,rfl,by decide +kernel,by decide +kernel⟩
def pF(gbf:List NK)(gar:List (D×D)):M D :=
 .ret (PyData.dict gar)
def jn(gbf:List NK)(gar:List (D×D))(d_:D)(kn2:List NK×List (D×D)×Unit->M D):M D :=
 un2 d_ λy3 y4=>bd (oM (Aw gbf y4)) λr5=>bd (oM (cW false gar y3 r5.1)) λl6=>kn2 (r5.2,l6,())
def cJ(gat:D)(gbc:D):M D :=
 bd (oM (t5 [gat,gbc])) λl1=>cA (λs7 d8 kn=>jn s7.1 s7.2.1 d8 kn) l1 ([],[],()) (λs7=>pF s7.1 s7.2.1)
def lF:List D->M D:=λl=>match l with
 | [gat,gbc]=>cJ gat gbc
 | _=>.bad
theorem sU(Fn:Fun K "numbered" "numbered" ju f fd)(hmg:mg "numbered" = some (.ref f))(B:BN mg):CF P w K mg base "numbered" 1 (spD K 2 lF) :=
 ⟨f,fd,["rooms", "marks"],cB (k:=0) Fn sc_numbered (λcdv A outer s H E hr =>
  (ag (aL (sh:=[.f,.f,.n,.dead,.dead,.dead]) (BJ (i:=2) sc_numbered.nd rfl (lo rfl) rfl (.inl rfl)))
  (ag (aL (sh:=[.f,.f,.n,.k,.dead,.dead]) (i6 false (i:=3) sc_numbered.nd rfl (lo rfl) rfl (.inl rfl)))
  (ag (bg (sh:=[.dead,.dead,.n,.k,.dead,.dead]) PassesOwn.leaving rfl (bx (DI rfl B.zip (af (aa (i:=0) rfl (vi rfl)) (af (aa (i:=1) rfl (vi rfl)) aq)) rfl rfl)) (xq rfl (bA (aD (i:=4) (aw _) sc_numbered.nd) (bA (aD (i:=5) (aw _) sc_numbered.nd) i8 rfl) rfl) rfl rfl)
  (aC (fD (aj hr) (i:=3) rfl (vi rfl) (az (aa (i:=4) rfl (vi rfl))) (GS (aj hr) (j:=2) rfl (vi rfl) (az (aa (i:=5) rfl (vi rfl))) rfl B.len ⟨rfl,rfl,rfl,rfl⟩) rfl)))
  (aC (iJ (i:=3) (bI (az (aa (i:=3) rfl (vi rfl))))))))))
 (λds hl=>(by obtain⟨gat,gbc,rfl⟩:=ln2 hl;kernel_rfl)),hmg,Fn.kp,(yX Fn λ_ _ _ _ _ _ _ _=>rfl)⟩
abbrev fF:Stmt:=top 10
abbrev pJ:List Str:=["rooms", "parts", "least", "room"]
theorem sc_least_rooms:FnScope pJ ["rooms", "parts"] (aI fF):=⟨rfl,rfl,rfl,by decide +kernel,rfl,by decide +kernel,by decide +kernel⟩
def gg(gar:D)(gaH:List (D×D)):M D :=
 .ret (PyData.list (List.map Prod.snd gaH))
def gf(gar:D)(gaH:List (D×D))(d_:D)(kn2:D×List (D×D)×Unit->M D):M D :=
 bd (oM (aE gar d_)) λx3=>bd (oM (sdD gaH x3 d_)) λr4=>kn2 (gar,r4.2,())
def bZ(gat:D)(gau:D):M D :=
 bd (oM (cn gat)) λl1=>cA (λs5 d6 kn=>gf s5.1 s5.2.1 d6 kn) l1 (gau,[],()) (λs5=>gg s5.1 s5.2.1)
def eJ:List D->M D:=λl=>match l with
 | [gat,gau]=>bZ gat gau
 | _=>.bad
theorem nE(Fn:Fun K "least_rooms" "least_rooms" fF f fd)(hmg:mg "least_rooms" = some (.ref f))(B:BN mg):CF P w K mg base "least_rooms" 1 (spD K 2 eJ) :=
 ⟨f,fd,["rooms", "parts"],cB (k:=0) Fn sc_least_rooms (λcdv A outer s H E hr =>
  (ag (aL (sh:=[.f,.f,.k,.dead]) (i6 false (i:=2) sc_least_rooms.nd rfl (lo rfl) rfl (.inl rfl)))
  (ag (bg (sh:=[.dead,.f,.k,.dead]) PassesOwn.leaving rfl (bx (bJ (aa (i:=0) rfl (vi rfl)))) (aD (i:=3) (aw _) sc_least_rooms.nd)
  (aC (DF (EO (aj hr) (i:=2) rfl (vi rfl) (az (aT (aH (aj hr)) aG (ao (aa (i:=1) rfl (vi rfl))) (ao (aa (i:=3) rfl (vi rfl))))) (az (aa (i:=3) rfl (vi rfl))) ⟨rfl,rfl,rfl,rfl⟩) rfl)))
  (aC (bI (az (cg (DH (i:=2) rfl rfl (vi rfl) rfl B.list rfl rfl))))))))
 (λds hl=>(by obtain⟨gat,gau,rfl⟩:=ln2 hl;kernel_rfl)),hmg,Fn.kp,(yX Fn λ_ _ _ _ _ _ _ _=>rfl)⟩
abbrev eu:Stmt:=top 9
abbrev oV:List Str:=["turns", "parts", "one", "other", "turned"]
theorem sc_parts_behind:FnScope oV ["turns", "parts", "one", "other"] (aI eu):=⟨rfl,rfl,rfl,by decide +kernel,rfl,by decide +kernel,by decide +kernel⟩
def bU(gaq:D)(gau:D)(ga3:D)(gaG:D):M D :=
 bd (dk gaq ga3 gaG) λx1=>bd (bd (bd (bd (bd (bd (bd (oM (aE x1 (.int 0))) λx2=>oM (aE gau x2)) λx3=>bd (bd (oM (aE x1 (.int 1))) λx4=>oM (aE gau x4)) λx5=>.ret [x3,x5]) λl6=>.ret (PyData.list l6)) λx7=>oM (cS [x7])) λl8=>.ret (PyData.list l8)) λx9=>oM (bN [x9])) λx10=>.ret x10
def dJ:List D->M D:=λl=>match l with
 | [gaq,gau,ga3,gaG]=>bU gaq gau ga3 gaG
 | _=>.bad
theorem lR(Fn:Fun K "parts_behind" "parts_behind" eu f fd)(hmg:mg "parts_behind" = some (.ref f))(B:BN mg)(gaR:CF P w K mg base "turned_from" 1 (spD K 3 iA)):CF P w K mg base "parts_behind" 2 (spD K 4 dJ) :=
 ⟨f,fd,["turns", "parts", "one", "other"],cB (k:=1) Fn sc_parts_behind (λcdv A outer s H E hr =>
  (ag (aL (sh:=[.dead,.f,.dead,.dead,.f]) (aR (i:=4) sc_parts_behind.nd (az (cM gaR hr.m (af (aa (i:=0) rfl (vi rfl)) (af (aa (i:=2) rfl (vi rfl)) (af (aa (i:=3) rfl (vi rfl)) aq)))))))
  (aC (bI (az (bB aP bC B.tuple (by decide +kernel) (aA (ao (cg (eW (cH rfl) eF B.sorted (by decide +kernel) (aA (ao (cg (bV (af (aT (aH (aj hr)) aG (ao (aa (i:=1) rfl (vi rfl))) (ao (aT (aH (aj hr)) aG (ao (aa (i:=4) rfl (vi rfl))) (ao aB)))) (af (aT (aH (aj hr)) aG (ao (aa (i:=1) rfl (vi rfl))) (ao (aT (aH (aj hr)) aG (ao (aa (i:=4) rfl (vi rfl))) (ao aB)))) aq))))) aF)))) aF)))))))
 (λds hl=>(by obtain⟨gaq,gau,ga3,gaG,rfl⟩:=ln4 hl;kernel_rfl)),hmg,Fn.kp,(GG Fn λ_ _ _ _ _ _ _ _ _ _=>rfl)⟩
abbrev kI:Stmt:=top 8
abbrev zd:List Str:=["turns", "rooms", "parts", "room"]
theorem uN:FnScope zd ["turns", "rooms", "parts", "room"] (aI kI):=⟨rfl,rfl,rfl,by decide +kernel,rfl,by decide +kernel,by decide +kernel⟩
abbrev N_mark_of_0:List Str:=["turns", "rooms", "parts", "room", "other"]
theorem nH:N_mark_of_0.Nodup:=by decide +kernel
def d5(gaq:D)(gat:D)(gau:D)(gbg:D):M D :=
 bd (bd (oM (aE gau gbg)) λx1=>bd (bd (bd (bd (oM (cn gat)) λl4=>bd (bp (λd2=>bd (bU gaq gau gbg d2) λx3=>.ret (some x3)) l4) cC) λl5=>.ret (PyData.list l5)) λx6=>oM (bN [x6])) λx7=>.ret (.tuple [x1,x7])) λx8=>.ret x8
def nJ:List D->M D:=λl=>match l with
 | [gaq,gat,gau,gbg]=>d5 gaq gat gau gbg
 | _=>.bad
theorem uZ(Fn:Fun K "mark_of" "mark_of" kI f fd)(hmg:mg "mark_of" = some (.ref f))(B:BN mg)(gay:CF P w K mg base "parts_behind" 2 (spD K 4 dJ)):CF P w K mg base "mark_of" 3 (spD K 4 nJ) :=
 ⟨f,fd,["turns", "rooms", "parts", "room"],cB (k:=2) Fn uN (λcdv A outer s H E hr =>
  (aC (bI (az (bw (af (aT (aH (aj hr)) aG (ao (aa (i:=2) rfl (vi rfl))) (ao (aa (i:=3) rfl (vi rfl)))) (af (bB aP bC B.tuple (by decide +kernel) (aA (ao (cg (cw (N':=N_mark_of_0) (k:=1) rfl (aX (by kernel_rfl) rfl rfl) (bJ (aa (i:=1) rfl (vi rfl))) (λ_ _ _ _ _=>(aD (i:=4) (show 4<=4 by decide) nH)) (λ_ _ _ _ _=>bE) (λ_ _ _ _ _=>(cM gay hr.m (af (aa (i:=0) rfl (vi rfl)) (af (aa (i:=2) rfl (vi rfl)) (af (aa (i:=3) rfl (vi rfl)) (af (aa (i:=4) rfl (vi rfl)) aq))))))))) aF)) aq)))))))
 (λds hl=>(by obtain⟨gaq,gat,gau,gbg,rfl⟩:=ln4 hl;kernel_rfl)),hmg,Fn.kp,(GG Fn λ_ _ _ _ _ _ _ _ _ _=>rfl)⟩
abbrev m9:Stmt:=top 6
abbrev BV:List Str:=["says", "turns", "rooms", "parts", "many"]
theorem sc_parted:FnScope BV ["says", "turns", "rooms"] (aI m9):=⟨rfl,rfl,rfl,by decide +kernel,rfl,by decide +kernel,by decide +kernel⟩
abbrev N_parted_0:List Str:=["says", "turns", "rooms", "parts", "many", "room"]
theorem pv:N_parted_0.Nodup:=by decide +kernel
abbrev N_parted_1:List Str:=["says", "turns", "rooms", "parts", "many", "room"]
theorem pk:N_parted_1.Nodup:=by decide +kernel
def lN(gaz:D)(gap:D)(gar:D)(gbi:D):M D :=
 .ret gar
def lM(gaz:D)(gap:D)(gar:D)(gbi:D)(kn7:D×D×D×D×Unit->M D):M D :=
 bd (bd (bd (bZ gap gar) λx8=>oM (dh [x8])) λx9=>oM (qa gbi x9)) λb10=>if b10 then
  bd (bd (bZ gap gar) λx11=>oM (dh [x11])) λx12=>bd (bd (bd (bd (oM (cn gap)) λl15=>bd (bp (λd13=>bd (d5 gaz gap gar d13) λx14=>.ret (some x14)) l15) cC) λl16=>.ret (PyData.list l16)) λx17=>cJ gap x17) λx18=>kn7 (gaz,gap,x18,x12,())
  else lN gaz gap gar gbi
def ko(gbh:D)(gaq:D)(gat:D):M D :=
 bd (bd (bd (bd (oM (cn gat)) λl3=>bd (bp (λd1=>bd (oM (aE gbh d1)) λx2=>.ret (some x2)) l3) cC) λl4=>.ret (PyData.list l4)) λx5=>cJ gat x5) λx6=>mN (λs19 kn=>lM s19.1 s19.2.1 s19.2.2.1 s19.2.2.2.1 kn) 10000 (gaq,gat,x6,(.int 0),())
def qc:List D->M D:=λl=>match l with
 | [gbh,gaq,gat]=>ko gbh gaq gat
 | _=>.bad
theorem yj(Fn:Fun K "parted" "parted" m9 f fd)(hmg:mg "parted" = some (.ref f))(B:BN mg)(gaX:CF P w K mg base "numbered" 1 (spD K 2 lF))(gaw:CF P w K mg base "least_rooms" 1 (spD K 2 eJ))(gba:CF P w K mg base "mark_of" 3 (spD K 4 nJ)):CF P w K mg base "parted" 4 (spD K 3 qc) :=
 ⟨f,fd,["says", "turns", "rooms"],cB (k:=3) Fn sc_parted (λcdv A outer s H E hr =>
  (ag (aL (sh:=[.dead,.f,.f,.f,.dead]) (aR (i:=3) sc_parted.nd (az (cM gaX hr.m (af (aa (i:=2) rfl (vi rfl)) (af (cg (cw (N':=N_parted_0) (k:=1) rfl (aX (by kernel_rfl) rfl rfl) (bJ (aa (i:=2) rfl (vi rfl))) (λ_ _ _ _ _=>(aD (i:=5) (show 5<=5 by decide) pv)) (λ_ _ _ _ _=>bE) (λ_ _ _ _ _=>(aT (aH (aj hr)) aG (ao (aa (i:=0) rfl (vi rfl))) (ao (aa (i:=5) rfl (vi rfl))))))) aq))))))
  (ag (aL (sh:=[.dead,.f,.f,.f,.f]) (aR (i:=4) sc_parted.nd (az aB)))
  (ag (qI (sh:=[.dead,.f,.f,.f,.f]) (fuel:=10000) PassesOwn.leaving (cK (bO (uX (aj hr)) u4 (ao (aa (i:=4) rfl (vi rfl))) (ao (aQ aY bT B.len ge (aA (ao (cM gaw hr.m (af (aa (i:=2) rfl (vi rfl)) (af (aa (i:=3) rfl (vi rfl)) aq)))) aF)))))
  (ag (aL (sh:=[.dead,.f,.f,.f,.f]) (aR (i:=4) sc_parted.nd (az (aQ aY bT B.len ge (aA (ao (cM gaw hr.m (af (aa (i:=2) rfl (vi rfl)) (af (aa (i:=3) rfl (vi rfl)) aq)))) aF)))))
  (aC (aR (i:=3) sc_parted.nd (az (cM gaX hr.m (af (aa (i:=2) rfl (vi rfl)) (af (cg (cw (N':=N_parted_1) (k:=1) rfl (aX (by kernel_rfl) rfl rfl) (bJ (aa (i:=2) rfl (vi rfl))) (λ_ _ _ _ _=>(aD (i:=5) (show 5<=5 by decide) pk)) (λ_ _ _ _ _=>bE) (λ_ _ _ _ _=>(cM gba hr.m (af (aa (i:=1) rfl (vi rfl)) (af (aa (i:=2) rfl (vi rfl)) (af (aa (i:=3) rfl (vi rfl)) (af (aa (i:=5) rfl (vi rfl)) aq)))))))) aq))))))))
  (aC (bI (az (aa (i:=3) rfl (vi rfl)))))))))
 (λds hl=>(by obtain⟨gbh,gaq,gat,rfl⟩:=ln3 hl;kernel_rfl)),hmg,Fn.kp,(GH Fn λ_ _ _ _ _ _ _ _ _=>rfl)⟩
abbrev cZ:Stmt:=top 11
abbrev lA:List Str:=["turns", "parts", "least", "meets", "p", "one", "q", "behind"]
theorem sc_meets_of_parts:FnScope lA ["turns", "parts", "least"] (aI cZ):=⟨rfl,rfl,rfl,by decide +kernel,rfl,by decide +kernel,by decide +kernel⟩
def jd(gaz:D)(gar:D)(gaH:D)(gaT:List D):M D :=
 .ret (PyData.list gaT)
def jb(kn2:D×D×D×List D×Unit->M D)(gaz:D)(gar:D)(gaH:D)(gaT:List D)(v_p:D)(gbj:D):M D :=
 kn2 (gaz,gar,gaH,gaT,())
def dQ(kn2:D×D×D×List D×Unit->M D)(gaz:D)(gar:D)(gaH:D)(gaT:List D)(v_p:D)(gbj:D)(d_:D)(kn7:D×D×D×List D×D×D×Unit->M D):M D :=
 bd (bd (oM (aE gaH d_)) λx8=>bU gaz gar gbj x8) λx9=>bd (oM (fW x9 (.tuple [v_p,d_]))) λb10=>if b10 then
  bd (oM (bS (.tuple [v_p,d_]) x9)) λx11=>bd (oM (rB gaT [x11])) λl12=>kn7 (gaz,gar,gaH,l12,v_p,gbj,())
  else
  kn7 (gaz,gar,gaH,gaT,v_p,gbj,())
def dR(gaz:D)(gar:D)(gaH:D)(gaT:List D)(d_:D)(kn2:D×D×D×List D×Unit->M D):M D :=
 un2 d_ λy3 y4=>bd (bd (oM (dh [gaH])) λx5=>oM (dX [y3,x5])) λl6=>cA (λs13 d14 kn=>dQ kn2 s13.1 s13.2.1 s13.2.2.1 s13.2.2.2.1 s13.2.2.2.2.1 s13.2.2.2.2.2.1 d14 kn) l6 (gaz,gar,gaH,gaT,y3,y4,()) (λs13=>jb kn2 s13.1 s13.2.1 s13.2.2.1 s13.2.2.2.1 s13.2.2.2.2.1 s13.2.2.2.2.2.1)
def cq(gaq:D)(gau:D)(gbb:D):M D :=
 bd (oM (n4 [gbb])) λl1=>cA (λs15 d16 kn=>dR s15.1 s15.2.1 s15.2.2.1 s15.2.2.2.1 d16 kn) l1 (gaq,gau,gbb,[],()) (λs15=>jd s15.1 s15.2.1 s15.2.2.1 s15.2.2.2.1)
def e9:List D->M D:=λl=>match l with
 | [gaq,gau,gbb]=>cq gaq gau gbb
 | _=>.bad
theorem jR(Fn:Fun K "meets_of_parts" "meets_of_parts" cZ f fd)(hmg:mg "meets_of_parts" = some (.ref f))(B:BN mg)(gay:CF P w K mg base "parts_behind" 2 (spD K 4 dJ)):CF P w K mg base "meets_of_parts" 3 (spD K 3 e9) :=
 ⟨f,fd,["turns", "parts", "least"],cB (k:=2) Fn sc_meets_of_parts (λcdv A outer s H E hr =>
  (ag (aL (sh:=[.f,.f,.f,.o,.dead,.dead,.dead,.dead]) (fB (i:=3) sc_meets_of_parts.nd (fP (bV aq))))
  (ag (bg (sh:=[.f,.f,.f,.o,.dead,.dead,.dead,.dead]) PassesOwn.leaving rfl (bx (BP rfl B.enumerate (af (aa (i:=2) rfl (vi rfl)) aq) rfl)) (xq rfl (bA (aD (i:=4) (aw _) sc_meets_of_parts.nd) (bA (aD (i:=5) (aw _) sc_meets_of_parts.nd) i8 rfl) rfl) rfl rfl)
  (aC (bg (sh:=[.f,.f,.f,.o,.f,.f,.dead,.dead]) PassesOwn.leaving rfl (bx (i7 rfl B.range (af (aa (i:=4) rfl (vi rfl)) (af (aQ aY bT B.len ge (aA (ao (aa (i:=2) rfl (vi rfl))) aF)) aq)) rfl rfl)) (aD (i:=6) (aw _) sc_meets_of_parts.nd)
  (ag (aL (sh:=[.f,.f,.f,.o,.f,.f,.f,.f]) (aR (i:=7) sc_meets_of_parts.nd (az (cM gay hr.m (af (aa (i:=0) rfl (vi rfl)) (af (aa (i:=1) rfl (vi rfl)) (af (aa (i:=5) rfl (vi rfl)) (af (aT (aH (aj hr)) aG (ao (aa (i:=2) rfl (vi rfl))) (ao (aa (i:=6) rfl (vi rfl)))) aq))))))))
  (aC (gh (cK (bO (gA (aj hr)) eG (ao (aa (i:=7) rfl (vi rfl))) (ao (bw (af (aa (i:=4) rfl (vi rfl)) (af (aa (i:=6) rfl (vi rfl)) aq))))))
  (aC (oP (i:=3) rfl (vi rfl) (aM (az (bm bQ cz (ao (bw (af (aa (i:=4) rfl (vi rfl)) (af (aa (i:=6) rfl (vi rfl)) aq)))) (ao (aa (i:=7) rfl (vi rfl))))) aW) rfl rfl rfl rfl rfl rfl))
  cu))))))
  (aC (iJ (i:=3) (bI (az (aa (i:=3) rfl (vi rfl)))))))))
 (λds hl=>(by obtain⟨gaq,gau,gbb,rfl⟩:=ln3 hl;kernel_rfl)),hmg,Fn.kp,(GH Fn λ_ _ _ _ _ _ _ _ _=>rfl)⟩
abbrev qT:Stmt:=top 4
abbrev DU:List Str:=["rule", "turns", "rooms", "parts", "least", "starts", "says", "numbers", "meets"]
theorem sc_fewer:FnScope DU ["rule"] (aI qT):=⟨rfl,rfl,rfl,by decide +kernel,rfl,by decide +kernel,by decide +kernel⟩
abbrev N_fewer_0:List Str:=["rule", "turns", "rooms", "parts", "least", "starts", "says", "numbers", "meets", "start"]
theorem rq:N_fewer_0.Nodup:=by decide +kernel
abbrev N_fewer_1:List Str:=["rule", "turns", "rooms", "parts", "least", "starts", "says", "numbers", "meets", "room"]
theorem rm:N_fewer_1.Nodup:=by decide +kernel
abbrev N_fewer_2:List Str:=["rule", "turns", "rooms", "parts", "least", "starts", "says", "numbers", "meets", "room"]
theorem rj:N_fewer_2.Nodup:=by decide +kernel
def kq(gaE:D):M D :=
 bd (gJ gaE) λx1=>bd (cE gaE) λx2=>bd (bd (oM (aE gaE (.int 3))) λx3=>ko x3 x1 x2) λx4=>bd (bZ x2 x4) λx5=>bd (bd (bd (bd (oM (aE gaE (.int 1))) λx6=>oM (cn x6)) λl9=>bd (bp (λd7=>bd (oM (aE x4 d7)) λx8=>.ret (some x8)) l9) cC) λl10=>.ret (PyData.list l10)) λx11=>bd (bd (bd (oM (cn x5)) λl15=>bd (bp (λd12=>bd (bd (oM (aE gaE (.int 3))) λx13=>oM (aE x13 d12)) λx14=>.ret (some x14)) l15) cC) λl16=>.ret (PyData.list l16)) λx17=>bd (bd (bd (bd (oM (aE gaE (.int 0))) λx18=>oM (aZ [x18])) λl21=>bd (bp (λd19=>bd (oM (qv x4 d19)) λx20=>.ret (some x20)) l21) cC) λl22=>.ret (PyData.list l22)) λx23=>bd (cq x1 x4 x5) λx24=>bd (bd (bd (oM (dh [x5])) λx25=>bd (oM (bN [x11])) λx26=>bd (oM (bN [x24])) λx27=>bd (oM (bN [x17])) λx28=>.ret (.tuple [x25,x26,x27,x28])) λx29=>bd (oM (bN [x23])) λx30=>.ret (.tuple [x29,x30])) λx31=>.ret x31
def tB:List D->M D:=λl=>match l with
 | [gaE]=>kq gaE
 | _=>.bad
theorem Aq(Fn:Fun K "fewer" "fewer" qT f fd)(hmg:mg "fewer" = some (.ref f))(B:BN mg)(ga4:CF P w K mg base "turns_of" 1 (spD K 1 lE))(gaL:CF P w K mg base "rooms_come_to" 1 (spD K 1 fX))(gbd:CF P w K mg base "parted" 4 (spD K 3 qc))(gaw:CF P w K mg base "least_rooms" 1 (spD K 2 eJ))(gaK:CF P w K mg base "meets_of_parts" 3 (spD K 3 e9)):CF P w K mg base "fewer" 5 (spD K 1 tB) :=
 ⟨f,fd,["rule"],cB (k:=4) Fn sc_fewer (λcdv A outer s H E hr =>
  (ag (aL (sh:=[.f,.f,.dead,.dead,.dead,.dead,.dead,.dead,.dead]) (aR (i:=1) sc_fewer.nd (az (cM ga4 hr.m (af (aa (i:=0) rfl (vi rfl)) aq)))))
  (ag (aL (sh:=[.f,.f,.f,.dead,.dead,.dead,.dead,.dead,.dead]) (aR (i:=2) sc_fewer.nd (az (cM gaL hr.m (af (aa (i:=0) rfl (vi rfl)) aq)))))
  (ag (aL (sh:=[.f,.f,.f,.f,.dead,.dead,.dead,.dead,.dead]) (aR (i:=3) sc_fewer.nd (az (cM gbd hr.m (af (aT (aH (aj hr)) aG (ao (aa (i:=0) rfl (vi rfl))) (ao aB)) (af (aa (i:=1) rfl (vi rfl)) (af (aa (i:=2) rfl (vi rfl)) aq)))))))
  (ag (aL (sh:=[.f,.f,.dead,.f,.f,.dead,.dead,.dead,.dead]) (aR (i:=4) sc_fewer.nd (az (cM gaw hr.m (af (aa (i:=2) rfl (vi rfl)) (af (aa (i:=3) rfl (vi rfl)) aq))))))
  (ag (aL (sh:=[.f,.f,.dead,.f,.f,.f,.dead,.dead,.dead]) (eV (i:=5) sc_fewer.nd rfl (lo rfl) (.inl rfl) (N':=N_fewer_0) (k:=1) rfl (aX (by kernel_rfl) rfl rfl) (bJ (aT (aH (aj hr)) aG (ao (aa (i:=0) rfl (vi rfl))) (ao aB))) (λ_ _ _ _ _=>(aD (i:=9) (show 9<=9 by decide) rq)) (λ_ _ _ _ _=>bE) (λ_ _ _ _ _=>(aT (aH (aj hr)) aG (ao (aa (i:=3) rfl (vi rfl))) (ao (aa (i:=9) rfl (vi rfl))))) rfl (λ_=>rfl)))
  (ag (aL (sh:=[.f,.f,.dead,.f,.f,.f,.f,.dead,.dead]) (eV (i:=6) sc_fewer.nd rfl (lo rfl) (.inl rfl) (N':=N_fewer_1) (k:=1) rfl (aX (by kernel_rfl) rfl rfl) (bJ (aa (i:=4) rfl (vi rfl))) (λ_ _ _ _ _=>(aD (i:=9) (show 9<=9 by decide) rm)) (λ_ _ _ _ _=>bE) (λ_ _ _ _ _=>(aT (aH (aj hr)) aG (ao (aT (aH (aj hr)) aG (ao (aa (i:=0) rfl (vi rfl))) (ao aB))) (ao (aa (i:=9) rfl (vi rfl))))) rfl (λ_=>rfl)))
  (ag (aL (sh:=[.dead,.f,.dead,.f,.f,.f,.f,.f,.dead]) (eV (i:=7) sc_fewer.nd rfl (lo rfl) (.inl rfl) (N':=N_fewer_2) (k:=1) rfl (aX (by kernel_rfl) rfl rfl) (bt rfl B.range (af (aT (aH (aj hr)) aG (ao (aa (i:=0) rfl (vi rfl))) (ao aB)) aq) rfl) (λ_ _ _ _ _=>(aD (i:=9) (show 9<=9 by decide) rj)) (λ_ _ _ _ _=>bE) (λ_ _ _ _ _=>(BM (aj hr) (ao (aa (i:=3) rfl (vi rfl))) (aa (i:=9) rfl (vi rfl)) ⟨rfl,rfl,rfl,rfl⟩)) rfl (λ_=>rfl)))
  (ag (aL (sh:=[.dead,.dead,.dead,.dead,.f,.f,.f,.f,.f]) (aR (i:=8) sc_fewer.nd (az (cM gaK hr.m (af (aa (i:=1) rfl (vi rfl)) (af (aa (i:=3) rfl (vi rfl)) (af (aa (i:=4) rfl (vi rfl)) aq)))))))
  (aC (bI (az (bw (af (bw (af (aQ aY bT B.len ge (aA (ao (aa (i:=4) rfl (vi rfl))) aF)) (af (bB aP bC B.tuple (by decide +kernel) (aA (ao (aa (i:=5) rfl (vi rfl))) aF)) (af (bB aP bC B.tuple (by decide +kernel) (aA (ao (aa (i:=8) rfl (vi rfl))) aF)) (af (bB aP bC B.tuple (by decide +kernel) (aA (ao (aa (i:=6) rfl (vi rfl))) aF)) aq))))) (af (bB aP bC B.tuple (by decide +kernel) (aA (ao (aa (i:=7) rfl (vi rfl))) aF)) aq)))))))))))))))
 (λds hl=>(by obtain⟨gaE,rfl⟩:=ln1 hl;kernel_rfl)),hmg,Fn.kp,(vP Fn λ_ _ _ _ _ _ _=>rfl)⟩
abbrev hW:Stmt:=top 13
abbrev uw:List Str:=["_law_script", "_law_at", "_law_cell"]
theorem sc__law_feed:FnScope uw ["_law_script", "_law_at"] (aI hW):=⟨rfl,rfl,rfl,by decide +kernel,rfl,by decide +kernel,by decide +kernel⟩
def cU(ga5:D):M (List D) :=
 bd (bd (bd (oM (ki [(.int 0),ga5])) λx14=>bd (bd (bd (bd (oM (ww (.int 10) (.int 18))) λx11=>oM (FH ga5 x11)) λb12=>.ret (.bool b12)) λx13=>oM (Do [x13])) λx15=>oM (dI x14 x15)) λx16=>.ret [ga5,x16,(.int 0)]) λl17=>.ret l17
def fm(gan:D)(gaY:D):M (List D) :=
 bd (oM (dI (.int 31) gaY)) λx1=>bd (bd (oM (dh [gan])) λx2=>oM (CK x2 (.int 0))) λb3=>if b3 then
  bd (bd (bd (bd (oM (dh [gan])) λx4=>oM (jP gaY x4)) λx5=>oM (aE gan x5)) λx8=>bd (bd (bd (oM (dh [gan])) λx6=>oM (nB gaY x6)) λx7=>oM (dI (.int 7919) x7)) λx9=>oM (bS x8 x9)) λx10=>cU x10
  else
  cU x1
def j6:List D->M (List D):=λl=>match l with
 | [gan,gaY]=>fm gan gaY
 | _=>.bad
theorem rg(Fn:Fun K "_law_feed" "_law_feed" hW f fd)(hmg:mg "_law_feed" = some (.ref f))(B:BN mg):CF P w K mg base "_law_feed" 1 (spL K 2 j6) :=
 ⟨f,fd,["_law_script", "_law_at"],Gn (k:=0) Fn sc__law_feed (λcdv A outer s H E hr =>
  (ag (aL (sh:=[.f,.f,.f]) (aR (i:=2) sc__law_feed.nd (az (bm iu iy (ao aB) (ao (aa (i:=1) rfl (vi rfl)))))))
  (ag (aL (sh:=[.dead,.dead,.f]) (gh (cK (bO Ew EA (ao (aQ aY bT B.len ge (aA (ao (aa (i:=0) rfl (vi rfl))) aF))) (ao aB)))
  (aC (aR (i:=2) sc__law_feed.nd (az (bm bQ cz (ao (aT (aH (aj hr)) aG (ao (aa (i:=0) rfl (vi rfl))) (ao (bm kR kW (ao (aa (i:=1) rfl (vi rfl))) (ao (aQ aY bT B.len ge (aA (ao (aa (i:=0) rfl (vi rfl))) aF))))))) (ao (bm iu iy (ao aB) (ao (bm mB rc (ao (aa (i:=1) rfl (vi rfl))) (ao (aQ aY bT B.len ge (aA (ao (aa (i:=0) rfl (vi rfl))) aF)))))))))))
  cu))
  (aC (DD (fP (bV (af (aa (i:=2) rfl (vi rfl)) (af (bm iu iy (ao (aQ (gc rfl) jS B.max (by decide +kernel) (aA (ao aB) (aA (ao (aa (i:=2) rfl (vi rfl))) aF)))) (ao (bB yW FN B.int (by decide +kernel) (aA (ao (JW (GT HV Ia (ao (aa (i:=2) rfl (vi rfl))) (ao (bm FC FK (ao aB) (ao aB)))))) aF)))) (af aB aq))))))))))
 (λds hl=>(by obtain⟨gan,gaY,rfl⟩:=ln2 hl;kernel_rfl)),hmg,Fn.kp,(yX Fn λ_ _ _ _ _ _ _ _=>rfl)⟩
abbrev hZ:Stmt:=top 14
abbrev ux:List Str:=["_law_feed_here", "_law_many", "_law_turn", "_law_left", "_law_here", "_law_mixed"]
theorem sc__law_draw:FnScope ux ["_law_feed_here", "_law_many"] (aI hZ):=⟨rfl,rfl,rfl,by decide +kernel,rfl,by decide +kernel,by decide +kernel⟩
def aJ(gak:List D)(gav:D):M (D×List D) :=
 bd (oM (aE (PyData.list gak) (.int 2))) λx1=>bd (oM (bS x1 (.int 1))) λx2=>bd (oM (putD gak (.int 2) x2)) λl3=>bd (oM (aE (PyData.list l3) (.int 1))) λx4=>bd (oM (CK x4 (.int 0))) λb5=>if b5 then
  bd (oM (nB x4 gav)) λx6=>bd (oM (putD l3 (.int 1) x6)) λl7=>bd (oM (jP x4 gav)) λx8=>.ret (x8,l7)
  else
  bd (bd (bd (bd (oM (aE (PyData.list l3) (.int 0))) λx9=>oM (jP x9 (.int 2147483647))) λx11=>bd (bd (oM (dI (.int 31) x1)) λx10=>oM (dI x10 x1)) λx12=>oM (bS x11 x12)) λx13=>oM (bS x13 (.int 1))) λx14=>bd (bd (bd (bd (oM (dI (.int 40) x1)) λx15=>oM (bS (.int 48271) x15)) λx16=>oM (dI x14 x16)) λx17=>oM (jP x17 (.int 2147483629))) λx18=>bd (bd (bd (bd (bd (bd (oM (nB x18 (.int 11))) λx19=>oM (dI x19 (.int 69621))) λx20=>oM (bS x20 x1)) λx21=>oM (jP x21 (.int 998244353))) λx22=>oM (nB x22 (.int 7))) λx23=>oM (jP x23 gav)) λx24=>.ret (x24,l3)
def gE:List D->List D->M (D×List D):=λgak l=>match l with
 | [gav]=>aJ gak gav
 | _=>.bad
theorem rh(Fn:Fun K "_law_draw" "_law_draw" hZ f fd)(hmg:mg "_law_draw" = some (.ref f))(B:BN mg):CF P w K mg base "_law_draw" 1 (sp1 K 2 gE) :=
 ⟨f,fd,["_law_feed_here", "_law_many"],vx (k:=0) Fn sc__law_draw (λcdv A outer s H E hr =>
  (ag (aL (sh:=[.p,.f,.f,.dead,.dead,.dead]) (aR (i:=2) sc__law_draw.nd (az (aT (aH (aj hr)) aG (bq (i:=0)) (ao aB)))))
  (ag (aL (sh:=[.p,.f,.f,.dead,.dead,.dead]) (BI (i:=0) rfl (vi rfl) (az aB) (az (bm bQ cz (ao (aa (i:=2) rfl (vi rfl))) (ao aB))) (λ_=>rfl) rfl rfl rfl))
  (ag (aL (sh:=[.p,.f,.f,.f,.dead,.dead]) (aR (i:=3) sc__law_draw.nd (az (aT (aH (aj hr)) aG (bq (i:=0)) (ao aB)))))
  (ag (gh (cK (bO Ew EA (ao (aa (i:=3) rfl (vi rfl))) (ao aB)))
  (ag (aL (sh:=[.p,.f,.dead,.f,.dead,.dead]) (BI (i:=0) rfl (vi rfl) (az aB) (az (bm mB rc (ao (aa (i:=3) rfl (vi rfl))) (ao (aa (i:=1) rfl (vi rfl))))) (λ_=>rfl) rfl rfl rfl))
  (aC (bI (az (bm kR kW (ao (aa (i:=3) rfl (vi rfl))) (ao (aa (i:=1) rfl (vi rfl))))))))
  cu)
  (ag (aL (sh:=[.p,.f,.f,.dead,.f,.dead]) (aR (i:=4) sc__law_draw.nd (az (bm bQ cz (ao (bm bQ cz (ao (bm kR kW (ao (aT (aH (aj hr)) aG (bq (i:=0)) (ao aB))) (ao aB))) (ao (bm iu iy (ao (bm iu iy (ao aB) (ao (aa (i:=2) rfl (vi rfl))))) (ao (aa (i:=2) rfl (vi rfl))))))) (ao aB)))))
  (ag (aL (sh:=[.p,.f,.f,.dead,.dead,.f]) (aR (i:=5) sc__law_draw.nd (az (bm kR kW (ao (bm iu iy (ao (aa (i:=4) rfl (vi rfl))) (ao (bm bQ cz (ao aB) (ao (bm iu iy (ao aB) (ao (aa (i:=2) rfl (vi rfl))))))))) (ao aB)))))
  (aC (bI (az (bm kR kW (ao (bm mB rc (ao (bm kR kW (ao (bm bQ cz (ao (bm iu iy (ao (bm mB rc (ao (aa (i:=5) rfl (vi rfl))) (ao aB))) (ao aB))) (ao (aa (i:=2) rfl (vi rfl))))) (ao aB))) (ao aB))) (ao (aa (i:=1) rfl (vi rfl))))))))))))))
 (λg ds hl=>(by obtain⟨gav,rfl⟩:=ln1 (Nat.succ.inj hl);kernel_rfl)),hmg,Fn.kp,(yX Fn λ_ _ _ _ _ _ _ _=>rfl)⟩
abbrev hV:Stmt:=top 15
abbrev uv:List Str:=["_law_feed_here", "_law_most", "_law_rooms", "_law_sorts", "_law_starts", "_law_says", "_law_often", "_law_meets", "_law_a", "_law_b", "_law_c", "_law_d"]
theorem sc__law_rule:FnScope uv ["_law_feed_here", "_law_most"] (aI hV):=⟨rfl,rfl,rfl,by decide +kernel,rfl,by decide +kernel,by decide +kernel⟩
abbrev N__law_rule_0:List Str:=["_law_feed_here", "_law_most", "_law_rooms", "_law_sorts", "_law_starts", "_law_says", "_law_often", "_law_meets", "_law_a", "_law_b", "_law_c", "_law_d", "_law_sort"]
theorem kZ:N__law_rule_0.Nodup:=by decide +kernel
abbrev N__law_rule_1:List Str:=["_law_feed_here", "_law_most", "_law_rooms", "_law_sorts", "_law_starts", "_law_says", "_law_often", "_law_meets", "_law_a", "_law_b", "_law_c", "_law_d", "_law_room"]
theorem kY:N__law_rule_1.Nodup:=by decide +kernel
def iI(gae:List D)(gad:D)(gag:D)(gai:D)(gax:D)(gah:List D):M (D×List D) :=
 bd (bd (oM (bN [(PyData.list gah)])) λx23=>.ret (.tuple [gad,gag,x23,gai])) λx24=>.ret (x24,gae)
def iH(kn25:List D×D×D×D×D×List D×Unit->M (D×List D))(gae:List D)(gad:D)(gag:D)(gai:D)(gax:D)(gah:List D)(gaC:D):M (D×List D) :=
 kn25 (gae,gad,gag,gai,gax,gah,())
def iG(kn25:List D×D×D×D×D×List D×Unit->M (D×List D))(gae:List D)(gad:D)(gag:D)(gai:D)(gax:D)(gah:List D)(gaC:D)(d_:D)(kn27:List D×D×D×D×D×List D×D×Unit->M (D×List D)):M (D×List D) :=
 bd (aJ gae gad) λr28=>bd (aJ r28.2 gad) λr29=>bd (aJ r29.2 gax) λr30=>bd (oM (kS r30.1 (.int 0))) λb31=>if b31 then bd (bd (bd (oM (cS [(PyData.list [r28.1,r29.1])])) λl32=>.ret (PyData.list l32)) λx33=>oM (fW x33 (PyData.list [gaC,d_]))) λb34=>if b34 then
  bd (oM (rB gah [(.tuple [gaC,d_,r28.1,r29.1])])) λl35=>kn27 (r30.2,gad,gag,gai,gax,l35,gaC,())
  else
  kn27 (r30.2,gad,gag,gai,gax,gah,gaC,())else kn27 (r30.2,gad,gag,gai,gax,gah,gaC,())
def eT(gae:List D)(gad:D)(gag:D)(gai:D)(gax:D)(gah:List D)(d_:D)(kn25:List D×D×D×D×D×List D×Unit->M (D×List D)):M (D×List D) :=
 bd (oM (dX [d_,gad])) λl26=>cA (λs36 d37 kn=>iG kn25 s36.1 s36.2.1 s36.2.2.1 s36.2.2.2.1 s36.2.2.2.2.1 s36.2.2.2.2.2.1 s36.2.2.2.2.2.2.1 d37 kn) l26 (gae,gad,gag,gai,gax,gah,d_,()) (λs36=>iH kn25 s36.1 s36.2.1 s36.2.2.1 s36.2.2.2.1 s36.2.2.2.2.1 s36.2.2.2.2.2.1 s36.2.2.2.2.2.2.1)
def cf(gak:List D)(gaZ:D):M (D×List D) :=
 bd (aJ gak gaZ) λr1=>bd (oM (bS (.int 1) r1.1)) λx2=>bd (aJ r1.2 (.int 5)) λr3=>bd (oM (aE (PyData.list [(.int 1),(.int 2),(.int 2),(.int 3),(.int 4)]) r3.1)) λx4=>bd (oM (aZ [x4])) λl5=>bd (dz (λs6 d7=>bd (aJ s6.1 s6.2.1) λr8=>.ret (some r8.1,(r8.2,s6.2.1,s6.2.2.1,()))) l5 (r3.2,x2,x4,())) λr9=>bd (cC r9.1) λl10=>bd (oM (bN [(PyData.list l10)])) λx11=>bd (oM (aZ [r9.2.2.1])) λl12=>bd (dz (λs13 d14=>bd (aJ s13.1 (.int 2)) λr15=>bd (oM (kS r15.1 (.int 1))) λb16=>.ret (some (.bool b16),(r15.2,s13.2.1,s13.2.2.1,()))) l12 (r9.2.1,r9.2.2.1,x11,())) λr17=>bd (cC r17.1) λl18=>bd (oM (bN [(PyData.list l18)])) λx19=>bd (aJ r17.2.1 (.int 3)) λr20=>bd (oM (bS (.int 1) r20.1)) λx21=>bd (oM (aZ [r17.2.2.1])) λl22=>cA (λs38 d39 kn=>eT s38.1 s38.2.1 s38.2.2.1 s38.2.2.2.1 s38.2.2.2.2.1 s38.2.2.2.2.2.1 d39 kn) l22 (r20.2,r17.2.2.1,r17.2.2.2.1,x19,x21,[],()) (λs38=>iI s38.1 s38.2.1 s38.2.2.1 s38.2.2.2.1 s38.2.2.2.2.1 s38.2.2.2.2.2.1)
def j5:List D->List D->M (D×List D):=λgak l=>match l with
 | [gaZ]=>cf gak gaZ
 | _=>.bad
theorem rf(Fn:Fun K "_law_rule" "_law_rule" hV f fd)(hmg:mg "_law_rule" = some (.ref f))(B:BN mg)(gal:CF P w K mg base "_law_draw" 1 (sp1 K 2 gE)):CF P w K mg base "_law_rule" 2 (sp1 K 2 j5) :=
 ⟨f,fd,["_law_feed_here", "_law_most"],vx (k:=1) Fn sc__law_rule (λcdv A outer s H E hr =>
  (ag (aL (sh:=[.p,.dead,.f,.dead,.dead,.dead,.dead,.dead,.dead,.dead,.dead,.dead]) (aR (i:=2) sc__law_rule.nd (vW bQ cz (az aB) (ci (i:=0) gal hr.m (aM (az (aa (i:=1) rfl (vi rfl))) aW)))))
  (ag (aL (sh:=[.p,.dead,.f,.f,.dead,.dead,.dead,.dead,.dead,.dead,.dead,.dead]) (aR (i:=3) sc__law_rule.nd (xA (aH (aj hr)) aG (az (cg (bV (af aB (af aB (af aB (af aB (af aB aq)))))))) (ci (i:=0) gal hr.m (aM (az aB) aW)))))
  (ag (aL (sh:=[.p,.dead,.f,.dead,.f,.dead,.dead,.dead,.dead,.dead,.dead,.dead]) (aR (i:=4) sc__law_rule.nd (ly aP bC B.tuple (by decide +kernel) (aM (DP (oR (sh:=[.p,.dead,.f,.f,.dead,.dead,.dead,.dead,.dead,.dead,.dead,.dead]) (N':=N__law_rule_0) (k:=1) rfl (aX (by kernel_rfl) rfl rfl) (bx (bt rfl B.range (af (aa (i:=3) rfl (vi rfl)) aq) rfl)) (λ_ _ _ _ _=>(aD (i:=12) (show 12<=12 by decide) kZ)) (λ_ _ _ _ _=>(rY bE)) (λ_ _ _ _ _=>(ci (i:=0) gal hr.m (aM (az (aa (i:=2) rfl (vi rfl))) aW))))) aW))))
  (ag (aL (sh:=[.p,.dead,.f,.dead,.f,.f,.dead,.dead,.dead,.dead,.dead,.dead]) (aR (i:=5) sc__law_rule.nd (ly aP bC B.tuple (by decide +kernel) (aM (DP (oR (sh:=[.p,.dead,.f,.dead,.f,.dead,.dead,.dead,.dead,.dead,.dead,.dead]) (N':=N__law_rule_1) (k:=1) rfl (aX (by kernel_rfl) rfl rfl) (bx (bt rfl B.range (af (aa (i:=2) rfl (vi rfl)) aq) rfl)) (λ_ _ _ _ _=>(aD (i:=12) (show 12<=12 by decide) kY)) (λ_ _ _ _ _=>(rY bE)) (λ_ _ _ _ _=>(JX (DO (q9 (aj hr)) eG (ci (i:=0) gal hr.m (aM (az aB) aW)) (az aB) rfl))))) aW))))
  (ag (aL (sh:=[.p,.dead,.f,.dead,.f,.f,.f,.dead,.dead,.dead,.dead,.dead]) (aR (i:=6) sc__law_rule.nd (vW bQ cz (az aB) (ci (i:=0) gal hr.m (aM (az aB) aW)))))
  (ag (aL (sh:=[.p,.dead,.f,.dead,.f,.f,.f,.o,.dead,.dead,.dead,.dead]) (fB (i:=7) sc__law_rule.nd (fP (bV aq))))
  (ag (bg (sh:=[.p,.dead,.f,.dead,.f,.f,.f,.o,.dead,.dead,.dead,.dead]) PassesOwn.leaving rfl (bx (bt rfl B.range (af (aa (i:=2) rfl (vi rfl)) aq) rfl)) (aD (i:=8) (aw _) sc__law_rule.nd)
  (aC (bg (sh:=[.p,.dead,.f,.dead,.f,.f,.f,.o,.f,.dead,.dead,.dead]) PassesOwn.leaving rfl (bx (i7 rfl B.range (af (aa (i:=8) rfl (vi rfl)) (af (aa (i:=2) rfl (vi rfl)) aq)) rfl rfl)) (aD (i:=9) (aw _) sc__law_rule.nd)
  (ag (aL (sh:=[.p,.dead,.f,.dead,.f,.f,.f,.o,.f,.f,.f,.dead]) (aR (i:=10) sc__law_rule.nd (ci (i:=0) gal hr.m (aM (az (aa (i:=2) rfl (vi rfl))) aW))))
  (ag (aL (sh:=[.p,.dead,.f,.dead,.f,.f,.f,.o,.f,.f,.f,.f]) (aR (i:=11) sc__law_rule.nd (ci (i:=0) gal hr.m (aM (az (aa (i:=2) rfl (vi rfl))) aW))))
  (aC (gh (vU (xu (rZ (q9 (aj hr)) eG (ci (i:=0) gal hr.m (aM (az (aa (i:=6) rfl (vi rfl))) aW)) (az aB)) (uq (cK (bO (gA (aj hr)) eG (ao (cg (eW (cH rfl) eF B.sorted (by decide +kernel) (aA (ao (cg (bV (af (aa (i:=10) rfl (vi rfl)) (af (aa (i:=11) rfl (vi rfl)) aq))))) aF)))) (ao (cg (bV (af (aa (i:=8) rfl (vi rfl)) (af (aa (i:=9) rfl (vi rfl)) aq))))))))))
  (aC (oP (i:=7) rfl (vi rfl) (aM (az (bw (af (aa (i:=8) rfl (vi rfl)) (af (aa (i:=9) rfl (vi rfl)) (af (aa (i:=10) rfl (vi rfl)) (af (aa (i:=11) rfl (vi rfl)) aq)))))) aW) rfl rfl rfl rfl rfl rfl))
  cu)))))))
  (aC (bI (az (bw (af (aa (i:=2) rfl (vi rfl)) (af (aa (i:=4) rfl (vi rfl)) (af (bB aP bC B.tuple (by decide +kernel) (aA (bq (i:=7)) aF)) (af (aa (i:=5) rfl (vi rfl)) aq))))))))))))))))
 (λg ds hl=>(by obtain⟨gaZ,rfl⟩:=ln1 (Nat.succ.inj hl);kernel_rfl)),hmg,Fn.kp,(yX Fn λ_ _ _ _ _ _ _ _=>rfl)⟩
abbrev gx:Stmt:=top 16
abbrev sj:List Str:=["_law_feed_here", "_law_rule_here", "_law_rooms", "_law_starts", "_law_meets", "_law_says", "_law_base", "_law_room", "_law_copy", "_law_twins", "_law_leads_here", "_law_found", "_law_a", "_law_b", "_law_pair", "_law_to", "_law_c", "_law_d", "_law_begins"]
theorem sc__law_blown:FnScope sj ["_law_feed_here", "_law_rule_here"] (aI gx):=⟨rfl,rfl,rfl,by decide +kernel,rfl,by decide +kernel,by decide +kernel⟩
abbrev N__law_blown_0:List Str:=["_law_feed_here", "_law_rule_here", "_law_rooms", "_law_starts", "_law_meets", "_law_says", "_law_base", "_law_room ", "_law_copy", "_law_twins", "_law_leads_here", "_law_found", "_law_a", "_law_b", "_law_pair", "_law_to", "_law_c", "_law_d", "_law_begins", "_law_room"]
theorem jZ:N__law_blown_0.Nodup:=by decide +kernel
abbrev N__law_blown_1:List Str:=["_law_feed_here", "_law_rule_here", "_law_rooms", "_law_starts", "_law_meets", "_law_says", "_law_base", "_law_room ", "_law_copy", "_law_twins", "_law_leads_here", "_law_found", "_law_a", "_law_b", "_law_pair", "_law_to", "_law_c", "_law_d", "_law_begins", "_law_room", "_law_k"]
theorem jY:N__law_blown_1.Nodup:=by decide +kernel
abbrev N__law_blown_2:List Str:=["_law_feed_here", "_law_rule_here", "_law_rooms", "_law_starts", "_law_meets", "_law_says", "_law_base", "_law_room", "_law_copy", "_law_twins", "_law_leads_here", "_law_found", "_law_a", "_law_b", "_law_pair", "_law_to", "_law_c", "_law_d", "_law_begins", "_law_meeting"]
theorem jX:N__law_blown_2.Nodup:=by decide +kernel
abbrev N__law_blown_3:List Str:=["_law_feed_here", "_law_rule_here", "_law_rooms", "_law_starts", "_law_meets", "_law_says", "_law_base", "_law_room ", "_law_copy", "_law_twins", "_law_leads_here", "_law_found", "_law_a", "_law_b", "_law_pair", "_law_to", "_law_c", "_law_d", "_law_begins", "_law_room"]
theorem jW:N__law_blown_3.Nodup:=by decide +kernel
abbrev N__law_blown_4:List Str:=["_law_feed_here", "_law_rule_here", "_law_rooms", "_law_starts", "_law_meets", "_law_says", "_law_base", "_law_room ", "_law_copy", "_law_twins", "_law_leads_here", "_law_found", "_law_a", "_law_b", "_law_pair", "_law_to", "_law_c", "_law_d", "_law_begins", "_law_room"]
theorem jV:N__law_blown_4.Nodup:=by decide +kernel
abbrev N__law_blown_5:List Str:=["_law_feed_here", "_law_rule_here", "_law_rooms", "_law_starts", "_law_meets", "_law_says", "_law_base", "_law_room ", "_law_copy", "_law_twins", "_law_leads_here", "_law_found", "_law_a", "_law_b", "_law_pair", "_law_to", "_law_c", "_law_d", "_law_begins", "_law_room"]
theorem jU:N__law_blown_5.Nodup:=by decide +kernel
def dM(gae:List D)(gag:D)(gai:D)(gaj:List D)(gas:D)(gab:List (D×D))(gaf:List D):M (D×List D) :=
 bd (oM (cn gag)) λl29=>bd (dz (λs30 d31=>bd (oM (aE s30.2.2.2.2.1 d31)) λx32=>bd (bd (oM (aE s30.2.2.2.2.1 d31)) λx33=>oM (dh [x33])) λx34=>bd (aJ s30.1 x34) λr35=>bd (oM (aE x32 r35.1)) λx36=>.ret (some x36,(r35.2,s30.2.1,s30.2.2.1,s30.2.2.2.1,s30.2.2.2.2.1,s30.2.2.2.2.2.1,()))) l29 (gae,gag,gai,gaj,gas,gaf,())) λr37=>bd (cC r37.1) λl38=>bd (oM (bN [(PyData.list l38)])) λx39=>bd (bd (oM (dh [(PyData.list r37.2.2.2.2.1)])) λx40=>bd (oM (bN [(PyData.list r37.2.2.2.2.2.2.1)])) λx41=>bd (bd (bd (bd (oM (cn (PyData.list r37.2.2.2.2.1))) λl44=>bd (bp (λd42=>bd (oM (aE r37.2.2.2.1 d42)) λx43=>.ret (some x43)) l44) cC) λl45=>.ret (PyData.list l45)) λx46=>oM (bN [x46])) λx47=>.ret (.tuple [x40,x39,x41,x47])) λx48=>.ret (x48,r37.2.1)
def gX(kn49:List D×D×D×List D×D×List (D×D)×List D×Unit->M (D×List D))(gae:List D)(gag:D)(gai:D)(gaj:List D)(gas:D)(gab:List (D×D))(gaf:List D)(gaC:D):M (D×List D) :=
 kn49 (gae,gag,gai,gaj,gas,gab,gaf,())
def gU(kn49:List D×D×D×List D×D×List (D×D)×List D×Unit->M (D×List D))(gae:List D)(gag:D)(gai:D)(gaj:List D)(gas:D)(gab:List (D×D))(gaf:List D)(gaC:D)(d_:D)(kn52:List D×D×D×List D×D×List (D×D)×List D×D×Unit->M (D×List D)):M (D×List D) :=
 bd (bd (bd (bd (bd (bd (oM (aE (PyData.list gaj) gaC)) λx53=>bd (oM (aE (PyData.list gaj) d_)) λx54=>.ret [x53,x54]) λl55=>.ret (PyData.list l55)) λx56=>oM (cS [x56])) λl57=>.ret (PyData.list l57)) λx58=>oM (bN [x58])) λx59=>bd (bd (bd (bd (oM (jl (PyData.dict gab) x59 x59)) λx60=>oM (cn x60)) λl63=>bd (bp (λd61=>bd (oM (aE gas d61)) λx62=>.ret (some x62)) l63) cC) λl64=>.ret (PyData.list l64)) λx65=>bd (oM (aE x65 (.int 0))) λx66=>bd (bd (oM (aE x65 (.int 0))) λx67=>oM (dh [x67])) λx68=>bd (aJ gae x68) λr69=>bd (oM (aE x66 r69.1)) λx70=>bd (oM (aE x65 (.int 1))) λx71=>bd (bd (oM (aE x65 (.int 1))) λx72=>oM (dh [x72])) λx73=>bd (aJ r69.2 x73) λr74=>bd (oM (aE x71 r74.1)) λx75=>bd (bd (bd (oM (cS [(PyData.list [x70,x75])])) λl76=>.ret (PyData.list l76)) λx77=>oM (fW x77 (PyData.list [gaC,d_]))) λb78=>if b78 then bd (oM (iw x59 (PyData.dict gab))) λb79=>if b79 then bd (oM (rB gaf [(.tuple [gaC,d_,x70,x75])])) λl83=>kn52 (r74.2,gag,gai,gaj,gas,gab,l83,gaC,())else bd (aJ r74.2 (.int 3)) λr80=>bd (oM (kS r80.1 (.int 0))) λb81=>if b81 then
  bd (oM (rB gaf [(.tuple [gaC,d_,x70,x75])])) λl82=>kn52 (r80.2,gag,gai,gaj,gas,gab,l82,gaC,())
  else
  kn52 (r80.2,gag,gai,gaj,gas,gab,gaf,gaC,())else kn52 (r74.2,gag,gai,gaj,gas,gab,gaf,gaC,())
def dL(gae:List D)(gag:D)(gai:D)(gaj:List D)(gas:D)(gab:List (D×D))(gaf:List D)(d_:D)(kn49:List D×D×D×List D×D×List (D×D)×List D×Unit->M (D×List D)):M (D×List D) :=
 bd (bd (oM (dh [(PyData.list gaj)])) λx50=>oM (dX [d_,x50])) λl51=>cA (λs84 d85 kn=>gU kn49 s84.1 s84.2.1 s84.2.2.1 s84.2.2.2.1 s84.2.2.2.2.1 s84.2.2.2.2.2.1 s84.2.2.2.2.2.2.1 s84.2.2.2.2.2.2.2.1 d85 kn) l51 (gae,gag,gai,gaj,gas,gab,gaf,d_,()) (λs84=>gX kn49 s84.1 s84.2.1 s84.2.2.1 s84.2.2.2.1 s84.2.2.2.2.1 s84.2.2.2.2.2.1 s84.2.2.2.2.2.2.1 s84.2.2.2.2.2.2.2.1)
def dN(gae:List D)(gad:D)(gag:D)(gah:D)(gai:D)(gaj:List D):M (D×List D) :=
 bd (bd (bd (oM (aZ [gad])) λl14=>bd (bp (λd6=>bd (bd (bd (bd (oM (dh [(PyData.list gaj)])) λx7=>oM (kh [x7])) λl11=>bd (bp (λd8=>bd (bd (oM (aE (PyData.list gaj) d8)) λx9=>oM (kS x9 d6)) λb10=>if b10 then .ret (some d8)else .ret none) l11) cC) λl12=>.ret (PyData.list l12)) λx13=>.ret (some x13)) l14) cC) λl15=>.ret (PyData.list l15)) λx16=>bd (bd (bd (oM (cn gah)) λl23=>bd (bp (λd17=>bd (bd (bd (asI (.int 2)) λhi18=>oM (n5 d17 none hi18)) λx19=>bd (bd (asI (.int 2)) λlo20=>oM (n5 d17 lo20 none)) λx21=>.ret (.tuple [x19,x21])) λx22=>.ret (some x22)) l23) cC) λl24=>.ret (PyData.list l24)) λx25=>bd (oM (w9 true x25)) λl26=>bd (bd (oM (dh [(PyData.list gaj)])) λx27=>oM (kh [x27])) λl28=>cA (λs86 d87 kn=>dL s86.1 s86.2.1 s86.2.2.1 s86.2.2.2.1 s86.2.2.2.2.1 s86.2.2.2.2.2.1 s86.2.2.2.2.2.2.1 d87 kn) l28 (gae,gag,gai,gaj,x16,l26,[],()) (λs86=>dM s86.1 s86.2.1 s86.2.2.1 s86.2.2.2.1 s86.2.2.2.2.1 s86.2.2.2.2.2.1 s86.2.2.2.2.2.2.1)
def gW(kn88:List D×D×D×D×D×List D×Unit->M (D×List D))(gae:List D)(gad:D)(gag:D)(gah:D)(gai:D)(gaj:List D)(ga6:D):M (D×List D) :=
 kn88 (gae,gad,gag,gah,gai,gaj,())
def gT(kn88:List D×D×D×D×D×List D×Unit->M (D×List D))(gae:List D)(gad:D)(gag:D)(gah:D)(gai:D)(gaj:List D)(ga6:D)(d_:D)(kn92:List D×D×D×D×D×List D×D×Unit->M (D×List D)):M (D×List D) :=
 bd (bd (oM (dh [(PyData.list gaj)])) λx93=>oM (bS x93 (.int 1))) λx94=>bd (aJ gae x94) λr95=>bd (oM (CY gaj [r95.1,ga6])) λl96=>kn92 (r95.2,gad,gag,gah,gai,l96,ga6,())
def gV(gae:List D)(gad:D)(gag:D)(gah:D)(gai:D)(gaj:List D)(d_:D)(kn88:List D×D×D×D×D×List D×Unit->M (D×List D)):M (D×List D) :=
 bd (aJ gae (.int 2)) λr89=>bd (oM (bS (.int 1) r89.1)) λx90=>bd (oM (aZ [x90])) λl91=>cA (λs97 d98 kn=>gT kn88 s97.1 s97.2.1 s97.2.2.1 s97.2.2.2.1 s97.2.2.2.2.1 s97.2.2.2.2.2.1 s97.2.2.2.2.2.2.1 d98 kn) l91 (r89.2,gad,gag,gah,gai,gaj,d_,()) (λs97=>gW kn88 s97.1 s97.2.1 s97.2.2.1 s97.2.2.2.1 s97.2.2.2.2.1 s97.2.2.2.2.2.1 s97.2.2.2.2.2.2.1)
def d0(gak:List D)(gac:D):M (D×List D) :=
 un4 gac λy1 y2 y3 y4=>bd (oM (aZ [y1])) λl5=>cA (λs99 d100 kn=>gV s99.1 s99.2.1 s99.2.2.1 s99.2.2.2.1 s99.2.2.2.2.1 s99.2.2.2.2.2.1 d100 kn) l5 (gak,y1,y2,y3,y4,[],()) (λs99=>dN s99.1 s99.2.1 s99.2.2.1 s99.2.2.2.1 s99.2.2.2.2.1 s99.2.2.2.2.2.1)
def jh:List D->List D->M (D×List D):=λgak l=>match l with
 | [gac]=>d0 gak gac
 | _=>.bad
theorem pj(Fn:Fun K "_law_blown" "_law_blown" gx f fd)(hmg:mg "_law_blown" = some (.ref f))(B:BN mg)(gal:CF P w K mg base "_law_draw" 1 (sp1 K 2 gE)):CF P w K mg base "_law_blown" 2 (sp1 K 2 jh) :=
 ⟨f,fd,["_law_feed_here", "_law_rule_here"],vx (k:=1) Fn sc__law_blown (λcdv A outer s H E hr =>
  (ag (aL (sh:=[.p,.dead,.f,.f,.f,.f,.dead,.dead,.dead,.dead,.dead,.dead,.dead,.dead,.dead,.dead,.dead,.dead,.dead]) (BK (az (aa (i:=1) rfl (vi rfl))) (rX rfl (bA (aD (i:=2) (aw _) sc__law_blown.nd) (bA (aD (i:=3) (aw _) sc__law_blown.nd) (bA (aD (i:=4) (aw _) sc__law_blown.nd) (bA (aD (i:=5) (aw _) sc__law_blown.nd) i8 rfl) rfl) rfl) rfl) rfl rfl) rfl rfl rfl))
  (ag (aL (sh:=[.p,.dead,.f,.f,.f,.f,.o,.dead,.dead,.dead,.dead,.dead,.dead,.dead,.dead,.dead,.dead,.dead,.dead]) (fB (i:=6) sc__law_blown.nd (fP (bV aq))))
  (ag (bg (sh:=[.p,.dead,.f,.f,.f,.f,.o,.dead,.dead,.dead,.dead,.dead,.dead,.dead,.dead,.dead,.dead,.dead,.dead]) PassesOwn.leaving rfl (bx (bt rfl B.range (af (aa (i:=2) rfl (vi rfl)) aq) rfl)) (aD (i:=7) (aw _) sc__law_blown.nd)
  (aC (bg (sh:=[.p,.dead,.f,.f,.f,.f,.o,.f,.dead,.dead,.dead,.dead,.dead,.dead,.dead,.dead,.dead,.dead,.dead]) PassesOwn.leaving rfl (vV rfl B.range (aM (vW bQ cz (az aB) (ci (i:=0) gal hr.m (aM (az aB) aW))) aW) rfl) (aD (i:=8) (aw _) sc__law_blown.nd)
  (aC (GN (i:=6) rfl (vi rfl) (aM (ci (i:=0) gal hr.m (aM (az (bm bQ cz (ao (aQ aY bT B.len ge (aA (bq (i:=6)) aF))) (ao aB))) aW)) (aM (az (aa (i:=7) rfl (vi rfl))) aW)) rfl rfl rfl rfl rfl rfl)))))
  (ag (aL (sh:=[.p,.dead,.dead,.f,.f,.f,.o,.dead,.dead,.f,.dead,.dead,.dead,.dead,.dead,.dead,.dead,.dead,.dead]) (aR (i:=9) sc__law_blown.nd (az (cg (cw (N':=N__law_blown_0) (k:=1) rfl (aX (by kernel_rfl) rfl rfl) (bt rfl B.range (af (aa (i:=2) rfl (vi rfl)) aq) rfl) (λ_ _ _ _ _=>(aD (i:=19) (show 19<=19 by decide) jZ)) (λ_ _ _ _ _=>bE) (λ_ _ _ _ _=>(cg (cw (N':=N__law_blown_1) (k:=1) rfl (yK (by decide +kernel)) (qJ rfl B.range (af (aQ aY bT B.len ge (aA (bq (i:=6)) aF)) aq) rfl) (λ_ _ _ _ _=>(aD (i:=20) (show 20<=20 by decide) jY)) (λ_ _ _ _ _=>(DA (bO (q9 (aj hr)) eG (ao (aT (aH (aj hr)) aG (bq (i:=6)) (ao (aa (i:=20) rfl (vi rfl))))) (ao (aa (i:=19) rfl (vi rfl)))))) (λ_ _ _ _ _=>(aa (i:=20) rfl (vi rfl)))))))))))
  (ag (aL (sh:=[.p,.dead,.dead,.f,.dead,.f,.o,.dead,.dead,.f,.t,.dead,.dead,.dead,.dead,.dead,.dead,.dead,.dead]) (GP true (i:=10) rfl (aj hr) rfl B.dict sc__law_blown.nd rfl (lo rfl) (az (cg (cw (N':=N__law_blown_2) (k:=1) rfl (aX (by kernel_rfl) rfl rfl) (bJ (aa (i:=4) rfl (vi rfl))) (λ_ _ _ _ _=>(aD (i:=19) (show 19<=19 by decide) jX)) (λ_ _ _ _ _=>bE) (λ_ _ _ _ _=>(bw (af (kz (ao (aa (i:=19) rfl (vi rfl))) ky (kx aB)) (af (kz (ao (aa (i:=19) rfl (vi rfl))) (kx aB) ky) aq))))))) rfl rfl (.inl rfl)))
  (ag (aL (sh:=[.p,.dead,.dead,.f,.dead,.f,.o,.dead,.dead,.f,.t,.o,.dead,.dead,.dead,.dead,.dead,.dead,.dead]) (fB (i:=11) sc__law_blown.nd (fP (bV aq))))
  (ag (bg (sh:=[.p,.dead,.dead,.f,.dead,.f,.o,.dead,.dead,.f,.t,.o,.dead,.dead,.dead,.dead,.dead,.dead,.dead]) PassesOwn.leaving rfl (bx (qJ rfl B.range (af (aQ aY bT B.len ge (aA (bq (i:=6)) aF)) aq) rfl)) (aD (i:=12) (aw _) sc__law_blown.nd)
  (aC (bg (sh:=[.p,.dead,.dead,.f,.dead,.f,.o,.dead,.dead,.f,.t,.o,.f,.dead,.dead,.dead,.dead,.dead,.dead]) PassesOwn.leaving rfl (bx (i7 rfl B.range (af (aa (i:=12) rfl (vi rfl)) (af (aQ aY bT B.len ge (aA (bq (i:=6)) aF)) aq)) rfl rfl)) (aD (i:=13) (aw _) sc__law_blown.nd)
  (ag (aL (sh:=[.p,.dead,.dead,.f,.dead,.f,.o,.dead,.dead,.f,.t,.o,.f,.f,.f,.dead,.dead,.dead,.dead]) (aR (i:=14) sc__law_blown.nd (az (bB aP bC B.tuple (by decide +kernel) (aA (ao (cg (eW (cH rfl) eF B.sorted (by decide +kernel) (aA (ao (cg (bV (af (aT (aH (aj hr)) aG (bq (i:=6)) (ao (aa (i:=12) rfl (vi rfl)))) (af (aT (aH (aj hr)) aG (bq (i:=6)) (ao (aa (i:=13) rfl (vi rfl)))) aq))))) aF)))) aF)))))
  (ag (aL (sh:=[.p,.dead,.dead,.f,.dead,.f,.o,.dead,.dead,.f,.t,.o,.f,.f,.f,.f,.dead,.dead,.dead]) (eV (i:=15) sc__law_blown.nd rfl (lo rfl) (.inl rfl) (N':=N__law_blown_5) (k:=1) rfl (aX (by kernel_rfl) rfl rfl) (bJ (kA (aj hr) (bq (i:=10)) (aa (i:=14) rfl (vi rfl)) (aa (i:=14) rfl (vi rfl)) ⟨rfl,rfl,rfl,rfl⟩)) (λ_ _ _ _ _=>(aD (i:=19) (show 19<=19 by decide) jU)) (λ_ _ _ _ _=>bE) (λ_ _ _ _ _=>(aT (aH (aj hr)) aG (ao (aa (i:=9) rfl (vi rfl))) (ao (aa (i:=19) rfl (vi rfl))))) rfl (λ_=>rfl)))
  (ag (aL (sh:=[.p,.dead,.dead,.f,.dead,.f,.o,.dead,.dead,.f,.t,.o,.f,.f,.f,.f,.f,.dead,.dead]) (aR (i:=16) sc__law_blown.nd (xA (aH (aj hr)) aG (az (aT (aH (aj hr)) aG (ao (aa (i:=15) rfl (vi rfl))) (ao aB))) (ci (i:=0) gal hr.m (aM (az (aQ aY bT B.len ge (aA (ao (aT (aH (aj hr)) aG (ao (aa (i:=15) rfl (vi rfl))) (ao aB))) aF))) aW)))))
  (ag (aL (sh:=[.p,.dead,.dead,.f,.dead,.f,.o,.dead,.dead,.f,.t,.o,.f,.f,.f,.dead,.f,.f,.dead]) (aR (i:=17) sc__law_blown.nd (xA (aH (aj hr)) aG (az (aT (aH (aj hr)) aG (ao (aa (i:=15) rfl (vi rfl))) (ao aB))) (ci (i:=0) gal hr.m (aM (az (aQ aY bT B.len ge (aA (ao (aT (aH (aj hr)) aG (ao (aa (i:=15) rfl (vi rfl))) (ao aB))) aF))) aW)))))
  (aC (gh (vU (xu (cK (bO (gA (aj hr)) eG (ao (cg (eW (cH rfl) eF B.sorted (by decide +kernel) (aA (ao (cg (bV (af (aa (i:=16) rfl (vi rfl)) (af (aa (i:=17) rfl (vi rfl)) aq))))) aF)))) (ao (cg (bV (af (aa (i:=12) rfl (vi rfl)) (af (aa (i:=13) rfl (vi rfl)) aq))))))) (uq (vU (GR (cK (bO (jO (aj hr)) nF (ao (aa (i:=14) rfl (vi rfl))) (bq (i:=10)))) (DL (rZ (q9 (aj hr)) eG (ci (i:=0) gal hr.m (aM (az aB) aW)) (az aB))))))))
  (aC (oP (i:=11) rfl (vi rfl) (aM (az (bw (af (aa (i:=12) rfl (vi rfl)) (af (aa (i:=13) rfl (vi rfl)) (af (aa (i:=16) rfl (vi rfl)) (af (aa (i:=17) rfl (vi rfl)) aq)))))) aW) rfl rfl rfl rfl rfl rfl))
  cu)))))))))
  (ag (aL (sh:=[.p,.dead,.dead,.dead,.dead,.f,.o,.dead,.dead,.dead,.dead,.o,.dead,.dead,.dead,.dead,.dead,.dead,.f]) (aR (i:=18) sc__law_blown.nd (ly aP bC B.tuple (by decide +kernel) (aM (DP (oR (sh:=[.p,.dead,.dead,.f,.dead,.f,.o,.dead,.dead,.f,.dead,.o,.dead,.dead,.dead,.dead,.dead,.dead,.dead]) (N':=N__law_blown_3) (k:=1) rfl (aX (by kernel_rfl) rfl rfl) (bx (bJ (aa (i:=3) rfl (vi rfl)))) (λ_ _ _ _ _=>(aD (i:=19) (show 19<=19 by decide) jW)) (λ_ _ _ _ _=>(rY bE)) (λ_ _ _ _ _=>(xA (aH (aj hr)) aG (az (aT (aH (aj hr)) aG (ao (aa (i:=9) rfl (vi rfl))) (ao (aa (i:=19) rfl (vi rfl))))) (ci (i:=0) gal hr.m (aM (az (aQ aY bT B.len ge (aA (ao (aT (aH (aj hr)) aG (ao (aa (i:=9) rfl (vi rfl))) (ao (aa (i:=19) rfl (vi rfl))))) aF))) aW)))))) aW))))
  (aC (iJ (i:=6) (bI (az (bw (af (aQ aY bT B.len ge (aA (ao (aa (i:=6) rfl (vi rfl))) aF)) (af (aa (i:=18) rfl (vi rfl)) (af (bB aP bC B.tuple (by decide +kernel) (aA (bq (i:=11)) aF)) (af (bB aP bC B.tuple (by decide +kernel) (aA (ao (cg (cw (N':=N__law_blown_4) (k:=1) rfl (aX (by kernel_rfl) rfl rfl) (bJ (aa (i:=6) rfl (vi rfl))) (λ_ _ _ _ _=>(aD (i:=19) (show 19<=19 by decide) jV)) (λ_ _ _ _ _=>bE) (λ_ _ _ _ _=>(aT (aH (aj hr)) aG (ao (aa (i:=5) rfl (vi rfl))) (ao (aa (i:=19) rfl (vi rfl)))))))) aF)) aq))))))))))))))))))
 (λg ds hl=>(by obtain⟨gac,rfl⟩:=ln1 (Nat.succ.inj hl);kernel_rfl)),hmg,Fn.kp,(yX Fn λ_ _ _ _ _ _ _ _=>rfl)⟩
abbrev gw:Stmt:=top 17
abbrev si:List Str:=["_law_rule_here", "_law_found", "_law_one", "_law_other", "_law_a", "_law_b", "_law_c", "_law_d"]
theorem sc__law_leads:FnScope si ["_law_rule_here"] (aI gw):=⟨rfl,rfl,rfl,by decide +kernel,rfl,by decide +kernel,by decide +kernel⟩
def mj(gaf:List (D×D)):M D :=
 .ret (PyData.dict gaf)
def gP(gaf:List (D×D))(d_:D)(kn5:List (D×D)×Unit->M D):M D :=
 un4 d_ λy6 y7 y8 y9=>bd (oM (cW true gaf (.tuple [y6,y7]) (PyData.list [y8,y9]))) λl10=>bd (oM (cW true l10 (.tuple [y7,y6]) (PyData.list [y8,y9]))) λl11=>kn5 (l11,())
def gS(gaa:D)(gaf:List (D×D)):M D :=
 bd (bd (oM (aE gaa (.int 2))) λx3=>oM (cn x3)) λl4=>cA (λs12 d13 kn=>gP s12.1 d13 kn) l4 (gaf,()) (λs12=>mj s12.1)
def gR(kn14:D×List (D×D)×Unit->M D)(gaa:D)(gaf:List (D×D))(gaF:D):M D :=
 kn14 (gaa,gaf,())
def gO(kn14:D×List (D×D)×Unit->M D)(gaa:D)(gaf:List (D×D))(gaF:D)(d_:D)(kn17:D×List (D×D)×D×Unit->M D):M D :=
 bd (oM (cW true gaf (.tuple [gaF,d_]) (PyData.list [gaF,d_]))) λl18=>kn17 (gaa,l18,gaF,())
def gQ(gaa:D)(gaf:List (D×D))(d_:D)(kn14:D×List (D×D)×Unit->M D):M D :=
 bd (bd (oM (aE gaa (.int 0))) λx15=>oM (aZ [x15])) λl16=>cA (λs19 d20 kn=>gO kn14 s19.1 s19.2.1 s19.2.2.1 d20 kn) l16 (gaa,gaf,d_,()) (λs19=>gR kn14 s19.1 s19.2.1 s19.2.2.1)
def dZ(gac:D):M D :=
 bd (bd (oM (aE gac (.int 0))) λx1=>oM (aZ [x1])) λl2=>cA (λs21 d22 kn=>gQ s21.1 s21.2.1 d22 kn) l2 (gac,[],()) (λs21=>gS s21.1 s21.2.1)
def jg:List D->M D:=λl=>match l with
 | [gac]=>dZ gac
 | _=>.bad
theorem pg(Fn:Fun K "_law_leads" "_law_leads" gw f fd)(hmg:mg "_law_leads" = some (.ref f))(B:BN mg):CF P w K mg base "_law_leads" 1 (spD K 1 jg) :=
 ⟨f,fd,["_law_rule_here"],cB (k:=0) Fn sc__law_leads (λcdv A outer s H E hr =>
  (ag (aL (sh:=[.f,.t,.dead,.dead,.dead,.dead,.dead,.dead]) (i6 true (i:=1) sc__law_leads.nd rfl (lo rfl) rfl (.inl rfl)))
  (ag (bg (sh:=[.f,.t,.dead,.dead,.dead,.dead,.dead,.dead]) PassesOwn.leaving rfl (bx (bt rfl B.range (af (aT (aH (aj hr)) aG (ao (aa (i:=0) rfl (vi rfl))) (ao aB)) aq) rfl)) (aD (i:=2) (aw _) sc__law_leads.nd)
  (aC (bg (sh:=[.f,.t,.f,.dead,.dead,.dead,.dead,.dead]) PassesOwn.leaving rfl (bx (bt rfl B.range (af (aT (aH (aj hr)) aG (ao (aa (i:=0) rfl (vi rfl))) (ao aB)) aq) rfl)) (aD (i:=3) (aw _) sc__law_leads.nd)
  (aC (fD (aj hr) (i:=1) rfl (vi rfl) (az (bw (af (aa (i:=2) rfl (vi rfl)) (af (aa (i:=3) rfl (vi rfl)) aq)))) (az (cg (bV (af (aa (i:=2) rfl (vi rfl)) (af (aa (i:=3) rfl (vi rfl)) aq))))) rfl)))))
  (ag (bg (sh:=[.dead,.t,.dead,.dead,.dead,.dead,.dead,.dead]) PassesOwn.leaving rfl (bx (bJ (aT (aH (aj hr)) aG (ao (aa (i:=0) rfl (vi rfl))) (ao aB)))) (rX rfl (bA (aD (i:=4) (aw _) sc__law_leads.nd) (bA (aD (i:=5) (aw _) sc__law_leads.nd) (bA (aD (i:=6) (aw _) sc__law_leads.nd) (bA (aD (i:=7) (aw _) sc__law_leads.nd) i8 rfl) rfl) rfl) rfl) rfl rfl)
  (ag (aL (sh:=[.dead,.t,.dead,.dead,.f,.f,.f,.f]) (fD (aj hr) (i:=1) rfl (vi rfl) (az (bw (af (aa (i:=4) rfl (vi rfl)) (af (aa (i:=5) rfl (vi rfl)) aq)))) (az (cg (bV (af (aa (i:=6) rfl (vi rfl)) (af (aa (i:=7) rfl (vi rfl)) aq))))) rfl))
  (aC (fD (aj hr) (i:=1) rfl (vi rfl) (az (bw (af (aa (i:=5) rfl (vi rfl)) (af (aa (i:=4) rfl (vi rfl)) aq)))) (az (cg (bV (af (aa (i:=6) rfl (vi rfl)) (af (aa (i:=7) rfl (vi rfl)) aq))))) rfl))))
  (aC (iJ (i:=1) (bI (az (aa (i:=1) rfl (vi rfl))))))))))
 (λds hl=>(by obtain⟨gac,rfl⟩:=ln1 hl;kernel_rfl)),hmg,Fn.kp,(vP Fn λ_ _ _ _ _ _ _=>rfl)⟩
abbrev eA:Stmt:=top 18
abbrev oW:List Str:=["_law_rule_here", "_law_found", "_law_turn", "_law_a", "_law_b", "_law_c", "_law_d"]
theorem sc__law_come_to:FnScope oW ["_law_rule_here"] (aI eA):=⟨rfl,rfl,rfl,by decide +kernel,rfl,by decide +kernel,by decide +kernel⟩
def fA(gaa:D)(gaf:D):M D :=
 .ret gaf
def ku(kn6:D×D×Unit->M D)(gaa:D)(gaf:D):M D :=
 kn6 (gaa,gaf,())
def fq(kn6:D×D×Unit->M D)(gaa:D)(gaf:D)(d_:D)(kn9:D×D×Unit->M D):M D :=
 un4 d_ λy10 y11 y12 y13=>bd (bd (oM (iw y10 gaf)) λb14=>if b14 then oM (iw y11 gaf)else .ret false) λb15=>if b15 then
  bd (bd (bd (oM (bS gaf (PyData.list [y12,y13]))) λx16=>oM (qm [x16])) λl17=>.ret (PyData.list l17)) λx18=>kn9 (gaa,x18,())
  else
  kn9 (gaa,gaf,())
def fy(gaa:D)(gaf:D)(d_:D)(kn6:D×D×Unit->M D):M D :=
 bd (bd (oM (aE gaa (.int 2))) λx7=>oM (cn x7)) λl8=>cA (λs19 d20 kn=>fq kn6 s19.1 s19.2.1 d20 kn) l8 (gaa,gaf,()) (λs19=>ku kn6 s19.1 s19.2.1)
def cV(gac:D):M D :=
 bd (bd (bd (oM (aE gac (.int 1))) λx1=>oM (qm [x1])) λl2=>.ret (PyData.list l2)) λx3=>bd (bd (oM (aE gac (.int 0))) λx4=>oM (aZ [x4])) λl5=>cA (λs21 d22 kn=>fy s21.1 s21.2.1 d22 kn) l5 (gac,x3,()) (λs21=>fA s21.1 s21.2.1)
def gN:List D->M D:=λl=>match l with
 | [gac]=>cV gac
 | _=>.bad
theorem lS(Fn:Fun K "_law_come_to" "_law_come_to" eA f fd)(hmg:mg "_law_come_to" = some (.ref f))(B:BN mg):CF P w K mg base "_law_come_to" 1 (spD K 1 gN) :=
 ⟨f,fd,["_law_rule_here"],cB (k:=0) Fn sc__law_come_to (λcdv A outer s H E hr =>
  (ag (aL (sh:=[.f,.f,.dead,.dead,.dead,.dead,.dead]) (aR (i:=1) sc__law_come_to.nd (az (cg (lO rfl (aj hr) rfl B.sorted rfl B.set (aA (ao (aT (aH (aj hr)) aG (ao (aa (i:=0) rfl (vi rfl))) (ao aB))) aF) rfl rfl)))))
  (ag (bg (sh:=[.f,.f,.dead,.dead,.dead,.dead,.dead]) PassesOwn.leaving rfl (bx (bt rfl B.range (af (aT (aH (aj hr)) aG (ao (aa (i:=0) rfl (vi rfl))) (ao aB)) aq) rfl)) (aD (i:=2) (aw _) sc__law_come_to.nd)
  (aC (bg (sh:=[.f,.f,.dead,.dead,.dead,.dead,.dead]) PassesOwn.leaving rfl (bx (bJ (aT (aH (aj hr)) aG (ao (aa (i:=0) rfl (vi rfl))) (ao aB)))) (rX rfl (bA (aD (i:=3) (aw _) sc__law_come_to.nd) (bA (aD (i:=4) (aw _) sc__law_come_to.nd) (bA (aD (i:=5) (aw _) sc__law_come_to.nd) (bA (aD (i:=6) (aw _) sc__law_come_to.nd) i8 rfl) rfl) rfl) rfl) rfl rfl)
  (aC (gh (cK (xl (BC (bO (jO (aj hr)) nF (ao (aa (i:=3) rfl (vi rfl))) (ao (aa (i:=1) rfl (vi rfl)))) (xj (bO (jO (aj hr)) nF (ao (aa (i:=4) rfl (vi rfl))) (ao (aa (i:=1) rfl (vi rfl))))))))
  (aC (aR (i:=1) sc__law_come_to.nd (az (cg (lO rfl (aj hr) rfl B.sorted rfl B.set (aA (ao (bm bQ cz (ao (aa (i:=1) rfl (vi rfl))) (ao (cg (bV (af (aa (i:=5) rfl (vi rfl)) (af (aa (i:=6) rfl (vi rfl)) aq))))))) aF) rfl rfl)))))
  cu)))))
  (aC (bI (az (aa (i:=1) rfl (vi rfl))))))))
 (λds hl=>(by obtain⟨gac,rfl⟩:=ln1 hl;kernel_rfl)),hmg,Fn.kp,(vP Fn λ_ _ _ _ _ _ _=>rfl)⟩
abbrev dF:Stmt:=top 19
abbrev mn:List Str:=["_law_many", "_law_rows", "_law_thing", "_law_longer", "_law_row", "_law_top"]
theorem sc__law_partings:FnScope mn ["_law_many"] (aI dF):=⟨rfl,rfl,rfl,by decide +kernel,rfl,by decide +kernel,by decide +kernel⟩
abbrev N__law_partings_0:List Str:=["_law_many", "_law_rows", "_law_thing", "_law_longer", "_law_row", "_law_top", "_law_part"]
theorem iz:N__law_partings_0.Nodup:=by decide +kernel
def jH(ga7:D):M D :=
 .ret ga7
def jG(kn2:D×Unit->M D)(gaU:List D):M D :=
 kn2 ((PyData.list gaU),())
def jF(kn2:D×Unit->M D)(gaU:List D)(d_:D)(kn4:List D×Unit->M D):M D :=
 bd (bd (oM (fW d_ (.tuple []))) λb6=>if b6 then bd (oM (ki [d_])) λx5=>oM (bS x5 (.int 1))else .ret (.int 0)) λx7=>bd (bd (bd (oM (bS x7 (.int 1))) λx8=>oM (aZ [x8])) λl11=>bd (bp (λd9=>bd (oM (bS d_ (.tuple [d9]))) λx10=>.ret (some x10)) l11) cC) λl12=>bd (oM (FO gaU l12)) λl13=>kn4 (l13,())
def eU(ga7:D)(d_:D)(kn2:D×Unit->M D):M D :=
 bd (oM (cn ga7)) λl3=>cA (λs14 d15 kn=>jF kn2 s14.1 d15 kn) l3 ([],()) (λs14=>jG kn2 s14.1)
def cF(gav:D):M D :=
 bd (oM (aZ [gav])) λl1=>cA (λs16 d17 kn=>eU s16.1 d17 kn) l1 ((PyData.list [(.tuple [])]),()) (λs16=>jH s16.1)
def fY:List D->M D:=λl=>match l with
 | [gav]=>cF gav
 | _=>.bad
theorem kX(Fn:Fun K "_law_partings" "_law_partings" dF f fd)(hmg:mg "_law_partings" = some (.ref f))(B:BN mg):CF P w K mg base "_law_partings" 1 (spD K 1 fY) :=
 ⟨f,fd,["_law_many"],cB (k:=0) Fn sc__law_partings (λcdv A outer s H E hr =>
  (ag (aL (sh:=[.f,.f,.dead,.dead,.dead,.dead]) (aR (i:=1) sc__law_partings.nd (az (cg (bV (af (bw aq) aq))))))
  (ag (bg (sh:=[.dead,.f,.dead,.dead,.dead,.dead]) PassesOwn.leaving rfl (bx (bt rfl B.range (af (aa (i:=0) rfl (vi rfl)) aq) rfl)) (aD (i:=2) (aw _) sc__law_partings.nd)
  (ag (aL (sh:=[.dead,.f,.dead,.o,.dead,.dead]) (fB (i:=3) sc__law_partings.nd (fP (bV aq))))
  (ag (bg (sh:=[.dead,.dead,.dead,.o,.dead,.dead]) PassesOwn.leaving rfl (bx (bJ (aa (i:=1) rfl (vi rfl)))) (aD (i:=4) (aw _) sc__law_partings.nd)
  (ag (aL (sh:=[.dead,.dead,.dead,.o,.f,.f]) (aR (i:=5) sc__law_partings.nd (az (IU (bO (gA (aj hr)) eG (ao (aa (i:=4) rfl (vi rfl))) (ao (bw aq))) (bm bQ cz (ao (aQ (gc rfl) jS B.max (by decide +kernel) (aA (ao (aa (i:=4) rfl (vi rfl))) aF))) (ao aB)) aB))))
  (aC (DE (i:=3) rfl (vi rfl) (fP (cw (N':=N__law_partings_0) (k:=1) rfl (aX (by kernel_rfl) rfl rfl) (bt rfl B.range (af (bm bQ cz (ao (aa (i:=5) rfl (vi rfl))) (ao aB)) aq) rfl) (λ_ _ _ _ _=>(aD (i:=6) (show 6<=6 by decide) iz)) (λ_ _ _ _ _=>bE) (λ_ _ _ _ _=>(bm bQ cz (ao (aa (i:=4) rfl (vi rfl))) (ao (bw (af (aa (i:=6) rfl (vi rfl)) aq))))))) rfl rfl rfl rfl rfl rfl))))
  (aC (iJ (i:=3) (aR (i:=1) sc__law_partings.nd (az (aa (i:=3) rfl (vi rfl)))))))))
  (aC (bI (az (aa (i:=1) rfl (vi rfl))))))))
 (λds hl=>(by obtain⟨gav,rfl⟩:=ln1 hl;kernel_rfl)),hmg,Fn.kp,(vP Fn λ_ _ _ _ _ _ _=>rfl)⟩
abbrev cO:Stmt:=top 20
abbrev kB:List Str:=["_law_rule_here", "_law_leads_here", "_law_rooms", "_law_part", "_law_looks", "_law_one", "_law_look", "_law_other"]
theorem sc__law_goes_alike:FnScope kB ["_law_rule_here", "_law_leads_here", "_law_rooms", "_law_part"] (aI cO):=⟨rfl,rfl,rfl,by decide +kernel,rfl,by decide +kernel,by decide +kernel⟩
abbrev N__law_goes_alike_0:List Str:=["_law_rule_here", "_law_leads_here", "_law_rooms", "_law_part", "_law_looks", "_law_one", "_law_look", "_law_other", "_law_room"]
theorem gC:N__law_goes_alike_0.Nodup:=by decide +kernel
def dD(gaa:D)(gab:D)(gad:D)(gam:D)(gaI:List (D×D)):M D :=
 .ret (.bool true)
def dC(kn2:D×D×D×D×List (D×D)×Unit->M D)(gaa:D)(gab:D)(gad:D)(gam:D)(gaI:List (D×D))(gaF:D)(ga0:List D):M D :=
 bd (oM (aE gam gaF)) λx7=>bd (oM (sdD gaI x7 (PyData.list ga0))) λr8=>bd (oM (fW r8.1 (PyData.list ga0))) λb9=>if b9 then
  .ret (.bool false)
  else
  kn2 (gaa,gab,gad,gam,r8.2,())
def dA(kn2:D×D×D×D×List (D×D)×Unit->M D)(gaa:D)(gab:D)(gad:D)(gam:D)(gaI:List (D×D))(gaF:D)(ga0:List D)(d_:D)(kn10:D×D×D×D×List (D×D)×D×List D×Unit->M D):M D :=
 bd (bd (bd (bd (bd (bd (oM (aE gab (.tuple [gaF,d_]))) λx11=>oM (cn x11)) λl14=>bd (bp (λd12=>bd (oM (aE gam d12)) λx13=>.ret (some x13)) l14) cC) λl15=>.ret (PyData.list l15)) λx16=>oM (cS [x16])) λl17=>.ret (PyData.list l17)) λx18=>bd (oM (rB ga0 [x18])) λl19=>kn10 (gaa,gab,gad,gam,gaI,gaF,l19,())
def dB(gaa:D)(gab:D)(gad:D)(gam:D)(gaI:List (D×D))(d_:D)(kn2:D×D×D×D×List (D×D)×Unit->M D):M D :=
 bd (bd (bd (oM (aE gaa (.int 3))) λx3=>oM (aE x3 d_)) λx4=>.ret [x4]) λl5=>bd (oM (cn gad)) λl6=>cA (λs20 d21 kn=>dA kn2 s20.1 s20.2.1 s20.2.2.1 s20.2.2.2.1 s20.2.2.2.2.1 s20.2.2.2.2.2.1 s20.2.2.2.2.2.2.1 d21 kn) l6 (gaa,gab,gad,gam,gaI,d_,l5,()) (λs20=>dC kn2 s20.1 s20.2.1 s20.2.2.1 s20.2.2.2.1 s20.2.2.2.2.1 s20.2.2.2.2.2.1 s20.2.2.2.2.2.2.1)
def b7(gac:D)(gaD:D)(gaM:D)(ga1:D):M D :=
 bd (oM (cn gaM)) λl1=>cA (λs22 d23 kn=>dB s22.1 s22.2.1 s22.2.2.1 s22.2.2.2.1 s22.2.2.2.2.1 d23 kn) l1 (gac,gaD,gaM,ga1,[],()) (λs22=>dD s22.1 s22.2.1 s22.2.2.1 s22.2.2.2.1 s22.2.2.2.2.1)
def eK:List D->M D:=λl=>match l with
 | [gac,gaD,gaM,ga1]=>b7 gac gaD gaM ga1
 | _=>.bad
theorem jx(Fn:Fun K "_law_goes_alike" "_law_goes_alike" cO f fd)(hmg:mg "_law_goes_alike" = some (.ref f))(B:BN mg):CF P w K mg base "_law_goes_alike" 1 (spD K 4 eK) :=
 ⟨f,fd,["_law_rule_here", "_law_leads_here", "_law_rooms", "_law_part"],cB (k:=0) Fn sc__law_goes_alike (λcdv A outer s H E hr =>
  (ag (aL (sh:=[.f,.f,.f,.f,.k,.dead,.dead,.dead]) (i6 false (i:=4) sc__law_goes_alike.nd rfl (lo rfl) rfl (.inl rfl)))
  (ag (bg (sh:=[.f,.f,.f,.f,.k,.dead,.dead,.dead]) PassesOwn.leaving rfl (bx (bJ (aa (i:=2) rfl (vi rfl)))) (aD (i:=5) (aw _) sc__law_goes_alike.nd)
  (ag (aL (sh:=[.f,.f,.f,.f,.k,.f,.o,.dead]) (fB (i:=6) sc__law_goes_alike.nd (fP (bV (af (aT (aH (aj hr)) aG (ao (aT (aH (aj hr)) aG (ao (aa (i:=0) rfl (vi rfl))) (ao aB))) (ao (aa (i:=5) rfl (vi rfl)))) aq)))))
  (ag (bg (sh:=[.f,.f,.f,.f,.k,.f,.o,.dead]) PassesOwn.leaving rfl (bx (bJ (aa (i:=2) rfl (vi rfl)))) (aD (i:=7) (aw _) sc__law_goes_alike.nd)
  (aC (oP (i:=6) rfl (vi rfl) (aM (az (cg (eW (cH rfl) eF B.sorted (by decide +kernel) (aA (ao (cg (cw (N':=N__law_goes_alike_0) (k:=1) rfl (aX (by kernel_rfl) rfl rfl) (bJ (aT (aH (aj hr)) aG (ao (aa (i:=1) rfl (vi rfl))) (ao (bw (af (aa (i:=5) rfl (vi rfl)) (af (aa (i:=7) rfl (vi rfl)) aq)))))) (λ_ _ _ _ _=>(aD (i:=8) (show 8<=8 by decide) gC)) (λ_ _ _ _ _=>bE) (λ_ _ _ _ _=>(aT (aH (aj hr)) aG (ao (aa (i:=3) rfl (vi rfl))) (ao (aa (i:=8) rfl (vi rfl)))))))) aF)))) aW) rfl rfl rfl rfl rfl rfl)))
  (aC (iJ (i:=6) (gh (rZ (gA (aj hr)) eG (EO (aj hr) (i:=4) rfl (vi rfl) (az (aT (aH (aj hr)) aG (ao (aa (i:=3) rfl (vi rfl))) (ao (aa (i:=5) rfl (vi rfl))))) (az (aa (i:=6) rfl (vi rfl))) ⟨rfl,rfl,rfl,rfl⟩) (az (aa (i:=6) rfl (vi rfl))))
  (aC (bI (az oQ)))
  cu))))))
  (aC (bI (az oQ))))))
 (λds hl=>(by obtain⟨gac,gaD,gaM,ga1,rfl⟩:=ln4 hl;kernel_rfl)),hmg,Fn.kp,(GG Fn λ_ _ _ _ _ _ _ _ _ _=>rfl)⟩
abbrev jv:Stmt:=top 21
abbrev v4:List Str:=["_law_rule_here", "_law_rooms", "_law_leads_here", "_law_best", "_law_row", "_law_part", "_law_firsts", "_law_meets", "_law_p", "_law_q", "_law_c", "_law_d", "_law_starts", "_law_told"]
theorem sc__law_due:FnScope v4 ["_law_rule_here"] (aI jv):=⟨rfl,rfl,rfl,by decide +kernel,rfl,by decide +kernel,by decide +kernel⟩
abbrev N__law_due_0:List Str:=["_law_rule_here", "_law_rooms", "_law_leads_here", "_law_best", "_law_row", "_law_part", "_law_firsts", "_law_meets", "_law_p", "_law_q", "_law_c", "_law_d", "_law_starts", "_law_told", "_law_k"]
theorem lX:N__law_due_0.Nodup:=by decide +kernel
abbrev N__law_due_1:List Str:=["_law_rule_here", "_law_rooms", "_law_leads_here", "_law_best", "_law_row", "_law_part", "_law_firsts", "_law_meets", "_law_p", "_law_q", "_law_c", "_law_d", "_law_starts", "_law_told", "_law_room"]
theorem lW:N__law_due_1.Nodup:=by decide +kernel
abbrev N__law_due_2:List Str:=["_law_rule_here", "_law_rooms", "_law_leads_here", "_law_best", "_law_row", "_law_part", "_law_firsts", "_law_meets", "_law_p", "_law_q", "_law_c", "_law_d", "_law_starts", "_law_told", "_law_room"]
theorem lV:N__law_due_2.Nodup:=by decide +kernel
abbrev N__law_due_3:List Str:=["_law_rule_here", "_law_rooms", "_law_leads_here", "_law_best", "_law_row", "_law_part", "_law_firsts", "_law_meets", "_law_p", "_law_q", "_law_c", "_law_d", "_law_starts", "_law_told", "_law_room"]
theorem lU:N__law_due_3.Nodup:=by decide +kernel
abbrev N__law_due_4:List Str:=["_law_rule_here", "_law_rooms", "_law_leads_here", "_law_best", "_law_row", "_law_part", "_law_firsts", "_law_meets", "_law_p", "_law_q", "_law_c", "_law_d", "_law_starts", "_law_told", "_law_room"]
theorem lT:N__law_due_4.Nodup:=by decide +kernel
def jp(gaa:D)(gab:D)(gam:List (D×D))(gao:D)(gah:List D):M D :=
 bd (bd (bd (bd (bd (oM (aE gaa (.int 1))) λx17=>oM (cn x17)) λl20=>bd (bp (λd18=>bd (oM (aE (PyData.dict gam) d18)) λx19=>.ret (some x19)) l20) cC) λl21=>.ret (PyData.list l21)) λx22=>oM (bN [x22])) λx23=>bd (bd (oM (dh [gao])) λx24=>bd (oM (bN [(PyData.list gah)])) λx25=>bd (bd (bd (bd (oM (cn gao)) λl29=>bd (bp (λd26=>bd (bd (oM (aE gaa (.int 3))) λx27=>oM (aE x27 d26)) λx28=>.ret (some x28)) l29) cC) λl30=>.ret (PyData.list l30)) λx31=>oM (bN [x31])) λx32=>.ret (.tuple [x24,x23,x25,x32])) λx33=>bd (bd (bd (bd (bd (bd (oM (aE gaa (.int 0))) λx34=>oM (aZ [x34])) λl37=>bd (bp (λd35=>bd (oM (jl (PyData.dict gam) d35 .none)) λx36=>.ret (some x36)) l37) cC) λl38=>.ret (PyData.list l38)) λx39=>oM (bN [x39])) λx40=>.ret (.tuple [x33,x40])) λx41=>.ret x41
def pG(kn42:D×D×List (D×D)×D×List D×Unit->M D)(gaa:D)(gab:D)(gam:List (D×D))(gao:D)(gah:List D)(ga8:D):M D :=
 kn42 (gaa,gab,gam,gao,gah,())
def jo(kn42:D×D×List (D×D)×D×List D×Unit->M D)(gaa:D)(gab:D)(gam:List (D×D))(gao:D)(gah:List D)(ga8:D)(d_:D)(kn45:D×D×List (D×D)×D×List D×D×Unit->M D):M D :=
 bd (bd (bd (bd (bd (bd (bd (bd (oM (aE gao ga8)) λx46=>bd (oM (aE gao d_)) λx47=>.ret (.tuple [x46,x47])) λx48=>oM (aE gab x48)) λx49=>oM (cn x49)) λl52=>bd (bp (λd50=>bd (oM (aE (PyData.dict gam) d50)) λx51=>.ret (some x51)) l52) cC) λl53=>.ret (PyData.list l53)) λx54=>oM (cS [x54])) λl55=>.ret (PyData.list l55)) λx56=>B0 x56 λy57 y58=>bd (oM (fW (.tuple [y57,y58]) (.tuple [ga8,d_]))) λb59=>if b59 then
  bd (oM (rB gah [(.tuple [ga8,d_,y57,y58])])) λl60=>kn45 (gaa,gab,gam,gao,l60,ga8,())
  else
  kn45 (gaa,gab,gam,gao,gah,ga8,())
def fM(gaa:D)(gab:D)(gam:List (D×D))(gao:D)(gah:List D)(d_:D)(kn42:D×D×List (D×D)×D×List D×Unit->M D):M D :=
 bd (bd (oM (dh [gao])) λx43=>oM (dX [d_,x43])) λl44=>cA (λs61 d62 kn=>jo kn42 s61.1 s61.2.1 s61.2.2.1 s61.2.2.2.1 s61.2.2.2.2.1 s61.2.2.2.2.2.1 d62 kn) l44 (gaa,gab,gam,gao,gah,d_,()) (λs61=>pG kn42 s61.1 s61.2.1 s61.2.2.1 s61.2.2.2.1 s61.2.2.2.2.1 s61.2.2.2.2.2.1)
def fO(gaa:D)(gad:D)(gab:D)(gaB:D):M D :=
 bd (oM (yG false [gad,gaB])) λl6=>bd (bd (bd (bd (bd (oM (ki [gaB])) λx7=>oM (bS x7 (.int 1))) λx8=>oM (aZ [x8])) λl12=>bd (bp (λd9=>bd (bd (onT .tup gaB (oM (nZ gaB [d9]))) λx10=>oM (aE gad x10)) λx11=>.ret (some x11)) l12) cC) λl13=>.ret (PyData.list l13)) λx14=>bd (bd (oM (dh [x14])) λx15=>oM (aZ [x15])) λl16=>cA (λs63 d64 kn=>fM s63.1 s63.2.1 s63.2.2.1 s63.2.2.2.1 s63.2.2.2.2.1 d64 kn) l16 (gaa,gab,l6,x14,[],()) (λs63=>jp s63.1 s63.2.1 s63.2.2.1 s63.2.2.2.1 s63.2.2.2.2.1)
def fN(gaa:D)(gad:D)(gab:D)(gaB:D)(d_:D)(kn65:D×D×D×D×Unit->M D):M D :=
 bd (oM (yG false [gad,d_])) λl66=>bd (bd (oM (sR gaB .none)) λb69=>if b69 then .ret true else bd (oM (ki [d_])) λx67=>bd (oM (ki [gaB])) λx68=>oM (qa x67 x68)) λb70=>if b70 then
  bd (bd (b7 gaa gab gad (PyData.dict l66)) λx71=>oM (zp x71)) λb72=>if b72 then
  kn65 (gaa,gad,gab,d_,())
  else
  kn65 (gaa,gad,gab,gaB,())
  else
  kn65 (gaa,gad,gab,gaB,())
def gL(gac:D):M D :=
 bd (cV gac) λx1=>bd (dZ gac) λx2=>bd (bd (bd (oM (dh [x1])) λx3=>cF x3) λx4=>oM (cn x4)) λl5=>cA (λs73 d74 kn=>fN s73.1 s73.2.1 s73.2.2.1 s73.2.2.2.1 d74 kn) l5 (gac,x1,x2,.none,()) (λs73=>fO s73.1 s73.2.1 s73.2.2.1 s73.2.2.2.1)
def lG:List D->M D:=λl=>match l with
 | [gac]=>gL gac
 | _=>.bad
theorem sV(Fn:Fun K "_law_due" "_law_due" jv f fd)(hmg:mg "_law_due" = some (.ref f))(B:BN mg)(gaP:CF P w K mg base "_law_come_to" 1 (spD K 1 gN))(gaV:CF P w K mg base "_law_leads" 1 (spD K 1 jg))(gaN:CF P w K mg base "_law_partings" 1 (spD K 1 fY))(gaJ:CF P w K mg base "_law_goes_alike" 1 (spD K 4 eK)):CF P w K mg base "_law_due" 2 (spD K 1 lG) :=
 ⟨f,fd,["_law_rule_here"],cB (k:=1) Fn sc__law_due (λcdv A outer s H E hr =>
  (ag (aL (sh:=[.f,.f,.dead,.dead,.dead,.dead,.dead,.dead,.dead,.dead,.dead,.dead,.dead,.dead]) (aR (i:=1) sc__law_due.nd (az (cM gaP hr.m (af (aa (i:=0) rfl (vi rfl)) aq)))))
  (ag (aL (sh:=[.f,.f,.f,.dead,.dead,.dead,.dead,.dead,.dead,.dead,.dead,.dead,.dead,.dead]) (aR (i:=2) sc__law_due.nd (az (cM gaV hr.m (af (aa (i:=0) rfl (vi rfl)) aq)))))
  (ag (aL (sh:=[.f,.f,.f,.f,.dead,.dead,.dead,.dead,.dead,.dead,.dead,.dead,.dead,.dead]) (aR (i:=3) sc__law_due.nd (az vS)))
  (ag (bg (sh:=[.f,.f,.f,.f,.dead,.dead,.dead,.dead,.dead,.dead,.dead,.dead,.dead,.dead]) PassesOwn.leaving rfl (bx (bJ (cM gaN hr.m (af (aQ aY bT B.len ge (aA (ao (aa (i:=1) rfl (vi rfl))) aF)) aq)))) (aD (i:=4) (aw _) sc__law_due.nd)
  (ag (aL (sh:=[.f,.f,.f,.f,.f,.k,.dead,.dead,.dead,.dead,.dead,.dead,.dead,.dead]) (xn false (i:=5) rfl (aj hr) rfl B.dict rfl B.zip sc__law_due.nd rfl (lo rfl) (aM (az (aa (i:=1) rfl (vi rfl))) (aM (az (aa (i:=4) rfl (vi rfl))) aW)) rfl rfl rfl rfl (.inl rfl)))
  (aC (gh (cK (xl (BB (bO CH eG (ao (aa (i:=3) rfl (vi rfl))) (ao vS)) (BA (bO (uX (aj hr)) u4 (ao (aQ (gc rfl) jS B.max (by decide +kernel) (aA (ao (aa (i:=4) rfl (vi rfl))) aF))) (ao (aQ (gc rfl) jS B.max (by decide +kernel) (aA (ao (aa (i:=3) rfl (vi rfl))) aF))))))))
  (aC (iJ (i:=5) (gh (cK (GK (ao (cM gaJ hr.m (af (aa (i:=0) rfl (vi rfl)) (af (aa (i:=2) rfl (vi rfl)) (af (aa (i:=1) rfl (vi rfl)) (af (aa (i:=5) rfl (vi rfl)) aq)))))) (λ_=>rfl)))
  (aC (aR (i:=3) sc__law_due.nd (az (aa (i:=4) rfl (vi rfl)))))
  cu)))
  cu))))
  (ag (aL (sh:=[.f,.f,.f,.f,.dead,.k,.dead,.dead,.dead,.dead,.dead,.dead,.dead,.dead]) (xn false (i:=5) rfl (aj hr) rfl B.dict rfl B.zip sc__law_due.nd rfl (lo rfl) (aM (az (aa (i:=1) rfl (vi rfl))) (aM (az (aa (i:=3) rfl (vi rfl))) aW)) rfl rfl rfl rfl (.inl rfl)))
  (ag (aL (sh:=[.f,.dead,.f,.dead,.dead,.k,.f,.dead,.dead,.dead,.dead,.dead,.dead,.dead]) (eV (i:=6) sc__law_due.nd rfl (lo rfl) (.inl rfl) (N':=N__law_due_0) (k:=1) rfl (aX (by kernel_rfl) rfl rfl) (bt rfl B.range (af (bm bQ cz (ao (aQ (gc rfl) jS B.max (by decide +kernel) (aA (ao (aa (i:=3) rfl (vi rfl))) aF))) (ao aB)) aq) rfl) (λ_ _ _ _ _=>(aD (i:=14) (show 14<=14 by decide) lX)) (λ_ _ _ _ _=>bE) (λ_ _ _ _ _=>(aT (aH (aj hr)) aG (ao (aa (i:=1) rfl (vi rfl))) (ao (DG (ty:=.tup) PySem.F.plainAttrs_tuple PySem.F.slot_tuple_index PySem.F.type_tuple_index AD (ao (aa (i:=3) rfl (vi rfl))) (af (aa (i:=14) rfl (vi rfl)) aq) rfl rfl rfl rfl rfl)))) rfl (λ_=>rfl)))
  (ag (aL (sh:=[.f,.dead,.f,.dead,.dead,.k,.f,.o,.dead,.dead,.dead,.dead,.dead,.dead]) (fB (i:=7) sc__law_due.nd (fP (bV aq))))
  (ag (bg (sh:=[.f,.dead,.f,.dead,.dead,.k,.f,.o,.dead,.dead,.dead,.dead,.dead,.dead]) PassesOwn.leaving rfl (bx (bt rfl B.range (af (aQ aY bT B.len ge (aA (ao (aa (i:=6) rfl (vi rfl))) aF)) aq) rfl)) (aD (i:=8) (aw _) sc__law_due.nd)
  (aC (bg (sh:=[.f,.dead,.f,.dead,.dead,.k,.f,.o,.f,.dead,.dead,.dead,.dead,.dead]) PassesOwn.leaving rfl (bx (i7 rfl B.range (af (aa (i:=8) rfl (vi rfl)) (af (aQ aY bT B.len ge (aA (ao (aa (i:=6) rfl (vi rfl))) aF)) aq)) rfl rfl)) (aD (i:=9) (aw _) sc__law_due.nd)
  (ag (aL (sh:=[.f,.dead,.f,.dead,.dead,.k,.f,.o,.f,.f,.f,.f,.dead,.dead]) (BK (az (cg (eW (cH rfl) eF B.sorted (by decide +kernel) (aA (ao (cg (cw (N':=N__law_due_4) (k:=1) rfl (aX (by kernel_rfl) rfl rfl) (bJ (aT (aH (aj hr)) aG (ao (aa (i:=2) rfl (vi rfl))) (ao (bw (af (aT (aH (aj hr)) aG (ao (aa (i:=6) rfl (vi rfl))) (ao (aa (i:=8) rfl (vi rfl)))) (af (aT (aH (aj hr)) aG (ao (aa (i:=6) rfl (vi rfl))) (ao (aa (i:=9) rfl (vi rfl)))) aq)))))) (λ_ _ _ _ _=>(aD (i:=14) (show 14<=14 by decide) lT)) (λ_ _ _ _ _=>bE) (λ_ _ _ _ _=>(aT (aH (aj hr)) aG (bq (i:=5)) (ao (aa (i:=14) rfl (vi rfl)))))))) aF)))) (DJ rfl (bA (aD (i:=10) (aw _) sc__law_due.nd) (bA (aD (i:=11) (aw _) sc__law_due.nd) i8 rfl) rfl) rfl rfl) rfl rfl rfl))
  (aC (gh (cK (bO (gA (aj hr)) eG (ao (bw (af (aa (i:=10) rfl (vi rfl)) (af (aa (i:=11) rfl (vi rfl)) aq)))) (ao (bw (af (aa (i:=8) rfl (vi rfl)) (af (aa (i:=9) rfl (vi rfl)) aq))))))
  (aC (oP (i:=7) rfl (vi rfl) (aM (az (bw (af (aa (i:=8) rfl (vi rfl)) (af (aa (i:=9) rfl (vi rfl)) (af (aa (i:=10) rfl (vi rfl)) (af (aa (i:=11) rfl (vi rfl)) aq)))))) aW) rfl rfl rfl rfl rfl rfl))
  cu))))))
  (ag (aL (sh:=[.f,.dead,.dead,.dead,.dead,.k,.f,.o,.dead,.dead,.dead,.dead,.f,.dead]) (aR (i:=12) sc__law_due.nd (az (bB aP bC B.tuple (by decide +kernel) (aA (ao (cg (cw (N':=N__law_due_1) (k:=1) rfl (aX (by kernel_rfl) rfl rfl) (bJ (aT (aH (aj hr)) aG (ao (aa (i:=0) rfl (vi rfl))) (ao aB))) (λ_ _ _ _ _=>(aD (i:=14) (show 14<=14 by decide) lW)) (λ_ _ _ _ _=>bE) (λ_ _ _ _ _=>(aT (aH (aj hr)) aG (bq (i:=5)) (ao (aa (i:=14) rfl (vi rfl)))))))) aF)))))
  (ag (aL (sh:=[.f,.dead,.dead,.dead,.dead,.k,.dead,.dead,.dead,.dead,.dead,.dead,.dead,.f]) (aR (i:=13) sc__law_due.nd (az (bw (af (aQ aY bT B.len ge (aA (ao (aa (i:=6) rfl (vi rfl))) aF)) (af (aa (i:=12) rfl (vi rfl)) (af (bB aP bC B.tuple (by decide +kernel) (aA (bq (i:=7)) aF)) (af (bB aP bC B.tuple (by decide +kernel) (aA (ao (cg (cw (N':=N__law_due_2) (k:=1) rfl (aX (by kernel_rfl) rfl rfl) (bJ (aa (i:=6) rfl (vi rfl))) (λ_ _ _ _ _=>(aD (i:=14) (show 14<=14 by decide) lV)) (λ_ _ _ _ _=>bE) (λ_ _ _ _ _=>(aT (aH (aj hr)) aG (ao (aT (aH (aj hr)) aG (ao (aa (i:=0) rfl (vi rfl))) (ao aB))) (ao (aa (i:=14) rfl (vi rfl)))))))) aF)) aq))))))))
  (aC (bI (az (bw (af (aa (i:=13) rfl (vi rfl)) (af (bB aP bC B.tuple (by decide +kernel) (aA (ao (cg (cw (N':=N__law_due_3) (k:=1) rfl (aX (by kernel_rfl) rfl rfl) (bt rfl B.range (af (aT (aH (aj hr)) aG (ao (aa (i:=0) rfl (vi rfl))) (ao aB)) aq) rfl) (λ_ _ _ _ _=>(aD (i:=14) (show 14<=14 by decide) lU)) (λ_ _ _ _ _=>bE) (λ_ _ _ _ _=>(kA (aj hr) (bq (i:=5)) (aa (i:=14) rfl (vi rfl)) vS ⟨rfl,rfl,rfl,rfl⟩))))) aF)) aq)))))))))))))))))
 (λds hl=>(by obtain⟨gac,rfl⟩:=ln1 hl;kernel_rfl)),hmg,Fn.kp,(vP Fn λ_ _ _ _ _ _ _=>rfl)⟩
abbrev zx:Stmt:=top 22
abbrev I9:List Str:=["_law_script", "_law_k", "_law_feed_here", "_law_wide", "_law_rule_here", "_law_wrote", "_law_due_here"]
theorem sc_law:FnScope I9 ["_law_script"] (aI zx):=⟨rfl,rfl,rfl,by decide +kernel,rfl,by decide +kernel,by decide +kernel⟩
def Bw(gaA:D):M D :=
 .ret (.bool true)
def oN(kn2:D×Unit->M D)(gaA:D):M D :=
 kn2 (gaA,())
def iF(kn2:D×Unit->M D)(gaA:D)(d_:D)(kn8:D×Unit->M D):M D :=
 bd (oM (kg [d_])) λx9=>bd (bd (gL d_) λx10=>oM (kg [x10])) λx11=>bd (bd (bd (bd (kq d_) λx12=>oM (kg [x12])) λx13=>oM (fW x13 x11)) λb18=>if b18 then .ret true else bd (bd (bd (kq d_) λx14=>oM (kg [x14])) λx15=>oM (fW x15 x11)) λb17=>if b17 then .ret true else bd (oM (kg [d_])) λx16=>oM (fW x16 x9)) λb19=>if b19 then
  .ret (.bool false)
  else
  kn8 (gaA,())
def oK(gaA:D)(d_:D)(kn2:D×Unit->M D):M D :=
 bd (fm gaA d_) λl3=>bd (cf l3 (.int 5)) λr4=>bd (cf r4.2 (.int 3)) λr5=>bd (d0 r5.2 r5.1) λr6=>bd (oM (cn (.list [r6.1,r4.1]))) λl7=>cA (λs20 d21 kn=>iF kn2 s20.1 d21 kn) l7 (gaA,()) (λs20=>oN kn2 s20.1)
def xh(gan:D):M D :=
 bd (oM (aZ [(.int 4)])) λl1=>cA (λs22 d23 kn=>oK s22.1 d23 kn) l1 (gan,()) (λs22=>Bw s22.1)
def rA:List D->M D:=λl=>match l with
 | [gan]=>xh gan
 | _=>.bad
theorem Gp(Fn:Fun K "law" "law" zx f fd)(B:BN mg)(ga2:CF P w K mg base "_law_feed" 1 (spL K 2 j6))(gaS:CF P w K mg base "_law_rule" 2 (sp1 K 2 j5))(gaW:CF P w K mg base "_law_blown" 2 (sp1 K 2 jh))(ga9:CF P w K mg base "_law_due" 2 (spD K 1 lG))(gbe:CF P w K mg base "fewer" 5 (spD K 1 tB)):FnOk P w K mg base (CX1 P w) 6 f fd ["_law_script"] (spD K 1 rA) :=
 cB (k:=5) Fn sc_law (λcdv A outer s H E hr =>
  (ag (bg (sh:=[.f,.dead,.dead,.dead,.dead,.dead,.dead]) PassesOwn.leaving rfl (bx (bt rfl B.range (af aB aq) rfl)) (aD (i:=1) (aw _) sc_law.nd)
  (ag (aL (sh:=[.f,.dead,.o,.dead,.dead,.dead,.dead]) (fB (i:=2) sc_law.nd (fP (IV ga2 hr.m (af (aa (i:=0) rfl (vi rfl)) (af (aa (i:=1) rfl (vi rfl)) aq))))))
  (ag (aL (sh:=[.f,.dead,.o,.f,.dead,.dead,.dead]) (aR (i:=3) sc_law.nd (ci (i:=2) gaS hr.m (aM (az aB) aW))))
  (aC (bg (sh:=[.f,.dead,.dead,.dead,.dead,.dead,.dead]) PassesOwn.leaving rfl (DN (DP (DM (aM (ci (i:=2) gaW hr.m (aM (ci (i:=2) gaS hr.m (aM (az aB) aW)) aW)) (aM (az (aa (i:=3) rfl (vi rfl))) aW))))) (aD (i:=4) (aw _) sc_law.nd)
  (ag (aL (sh:=[.f,.dead,.dead,.dead,.f,.f,.dead]) (aR (i:=5) sc_law.nd (az (aQ (gb (aj hr) hr.gd) jQ B.repr (by decide +kernel) (aA (ao (aa (i:=4) rfl (vi rfl))) aF)))))
  (ag (aL (sh:=[.f,.dead,.dead,.dead,.f,.f,.f]) (aR (i:=6) sc_law.nd (az (aQ (gb (aj hr) hr.gd) jQ B.repr (by decide +kernel) (aA (ao (cM ga9 hr.m (af (aa (i:=4) rfl (vi rfl)) aq))) aF)))))
  (aC (gh (cK (xl (BB (bO (gA (aj hr)) eG (ao (aQ (gb (aj hr) hr.gd) jQ B.repr (by decide +kernel) (aA (ao (cM gbe hr.m (af (aa (i:=4) rfl (vi rfl)) aq))) aF))) (ao (aa (i:=6) rfl (vi rfl)))) (BB (bO (gA (aj hr)) eG (ao (aQ (gb (aj hr) hr.gd) jQ B.repr (by decide +kernel) (aA (ao (cM gbe hr.m (af (aa (i:=4) rfl (vi rfl)) aq))) aF))) (ao (aa (i:=6) rfl (vi rfl)))) (BA (bO (gA (aj hr)) eG (ao (aQ (gb (aj hr) hr.gd) jQ B.repr (by decide +kernel) (aA (ao (aa (i:=4) rfl (vi rfl))) aF))) (ao (aa (i:=5) rfl (vi rfl)))))))))
  (aC (bI (az oQ)))
  cu)))))))))
  (aC (bI (az oQ)))))
 (λds hl=>(by obtain⟨gan,rfl⟩:=ln1 hl;kernel_rfl))
end
end
end K42
namespace L4
open PySem PySem.Spec PyProof.Rows L2 L3
variable {S T ι:Type}{n a b:Nat}
theorem bdR(s:S)(k:S->M T):bd (.ret s) k=k s:=id rfl
theorem oMS(s:S):oM (some s)=.ret s:=id rfl
theorem wU{S T:Type}{step:T->D->(T->M S)->M S}{R:M S}{P:Nat->T->Prop}:∀(ds:List D) (i:Nat) (s:T) (k:T->M S),
  (∀(j:Nat) (s:T) (d:D),d∈ds->i<=j->j<i+ds.length->P j s->∀kn:T->M S,(∀s',P (j+1) s'->kn s'=R)->step s d kn=R) ->
  P i s->(∀s',P (i+ds.length) s'->k s'=R)->gZ step ds s k=R
 | [],i,s,k,_,hp,hk=>hk s hp
 | d::r,i,s,k,h,hp,hk=>by
  show step s d _=R
  refine h i s d ak (ai _) (by simp) hp _ λs' hp'=>?_
  refine wU r (i+1) s' k (λj s d hd hj hl=>h j s d (zzg _ hd) (by lia) (by simp;lia)) hp' λs' hs=>hk s' ?_
  have:i+(d::r).length=i+1+r.length:=by simp;lia
  rw[this];exact hs
theorem Dl{step:T->D->(T->M S)->M S}{R:M S}{P:Nat->T->Prop}(ds:List D)(i:Nat)(s:T)(k:T->M S)
  (h:∀(j:Nat) (s:T) (d:D),d∈ds->i<=j->j<i+ds.length->P j s->∀kn:T->M S,(∀s',P (j+1) s'->kn s'=R)->step s d kn=R)
  (hp:P i s) (hk:∀s',P (i+ds.length) s'->k s'=R):cA step ds s k=R:=by
 rw[iY]
 exact wU ds i s k h hp hk
theorem bG{ds:List S}(h:ds.length<=1000):cC ds=.ret ds:=ar (rD h)
theorem mJ{α:Type}(xs:List α)(i:Nat)(h:i<xs.length):atI xs (i:Int)=some (xs[i]'h):=by
 unfold atI ixN
 rw[ar (Int.natCast_nonneg _),ar (by lia)]
 simp[h]
theorem GM{α:Type}(xs:List α)(i:Int)(h0:0<=i)(h:i<xs.length):∃x∈xs,atI xs i=some x:=by
 obtain⟨n,rfl⟩:=Int.eq_ofNat_of_zero_le h0
 exact⟨_,Kk _,mJ xs n (by lia)⟩
def kD(s:Str):Bool:=PyData.strOk s&&decide ((reprText s).length<=24)&&PyData.strOk (reprText s)
def Ok(k:Nat):Nat->D->Prop
 | 0,_=>False
 | _+1,.none=>True
 | _+1,.bool _=>True
 | _+1,.int i=>i.natAbs<10^(16+k)
 | _+1,.str s=>kD s=true
 | n+1,.list ds=>ds.length<=6+k/\∀d∈ds,Ok k n d
 | n+1,.tuple ds=>ds.length<=6+k/\∀d∈ds,Ok k n d
 | _+1,.dict _=>False
theorem rE:∀{ds:List D},(∀d∈ds,d.canLay0=true)->PyData.canLayAll0 ds=true
 | [],_=>by simp[PyData.canLayAll0]
 | d::r,h=>by
  simp only[PyData.canLayAll0,ac]
  exact⟨h d ak,rE λe he=>h e (zzg _ he)⟩
theorem oC{n:Nat}:∀{ds:List D},(∀d∈ds,d.depth<=n)->PyData.depthAll ds<=n
 | [],_=>by simp[PyData.depthAll]
 | d::r,h=>by
  simp only[PyData.depthAll]
  exact Nat.max_le.mpr ⟨h d ak,oC λe he=>h e (zzg _ he)⟩
theorem FP{m:Nat}(h:m<10^36):m.log2<1920:=by
 by_cases h0:m=0
 ·subst h0;decide
 ·exact(Nat.log2_lt h0).mpr (bo h (by decide +kernel))
theorem strOk_iff{s:Str}:PyData.strOk s=true↔∀c∈s.cps.toList,c<1114112:=by
 unfold PyData.strOk
 rw[<-Array.all_toList,ir]
 simp
theorem cj(s:String):PyData.strOk (Str.ofString s)=true:=by
 rw[strOk_iff,signs_ofString]
 intro c hc
 obtain⟨ch,_,rfl⟩:=List.mem_map.mp hc
 have:=ch.valid
 have e:ch.toNat=ch.val.toNat:=rfl
 rw[e]
 rcases this with h|⟨_,h⟩
 ·have h':ch.val.toNat<0xd800:=h
  lia
 ·have h':ch.val.toNat<0x110000:=h
  lia
theorem iO{a b:Str}(ha:PyData.strOk a=true)(hb:PyData.strOk b=true):PyData.strOk (a++b)=true:=by
 rw[strOk_iff]at *
 intro c hc
 rcases mem_cps_append.mp hc with h|h
 ·exact ha c h
 ·exact hb c h
theorem mW{sep:Str}{ts:List Str}(hs:PyData.strOk sep=true)(h:∀t∈ts,PyData.strOk t=true):PyData.strOk (Str.join sep ts)=true:=by
 rw[strOk_iff]at *
 intro c hc
 rcases(mem_join sep c ts).mp hc with ⟨t,ht,hc⟩|⟨_,hc⟩
 ·exact strOk_iff.mp (h t ht) c hc
 ·exact hs c hc
theorem wI{ts:List Str}:(Str.join ", " ts).length<=piled ts:=by
 by_cases h:ts=[]
 ·subst h;exact aw _
 ·have:=join_length_add ts h;lia
def lim:Nat->Nat
 | 0=>24
 | n+1=>4+9*(lim n+2)
theorem eqI(a b:Int):kS (.int a) (.int b)=some (a==b):=by
 unfold kS rM
 simp[PyData.canLay0,PyData.depth,PyData.eqv]
theorem gtI(a b:Int):CK (.int a) (.int b)=some (decide (b<a)):=id rfl
theorem geI(a b:Int):FH (.int a) (.int b)=some (decide (b<=a)):=id rfl
theorem addI(a b:Int):bS (.int a) (.int b)=some (.int (a+b)):=id rfl
theorem modI(i j:Int)(h:0<j):jP (.int i) (.int j)=some (.int (i % j)):=ar h
theorem divI(i j:Int)(h:0<j)(h2:j<1073741824):nB (.int i) (.int j)=some (.int (i / j)):=ar (by simp[h,h2])
theorem mulL(i j:Int)(h : -(2^64)<i)(h2:i<2^64):dI (.int i) (.int j)=some (.int (i*j)):=ar (by simp only[wB,um,ac,zzi];exact .inl ⟨h,h2⟩)
theorem mulR(i j:Int)(h : -(2^64)<j)(h2:j<2^64):dI (.int i) (.int j)=some (.int (i*j)):=ar (by simp only[wB,um,ac,zzi];exact .inr ⟨h,h2⟩)
theorem lenL(ds:List D):dh [.list ds]=some (.int ds.length):=id rfl
theorem pc(ds:List D):cn (.tuple ds)=some ds:=id rfl
theorem lP(ds:List D):cn (.list ds)=some ds:=id rfl
theorem g9(ds:List D):bN [.list ds]=some (.tuple ds):=id rfl
theorem Ka(ds:List D):bN [.tuple ds]=some (.tuple ds):=id rfl
theorem De(ds:List D)(n:Nat)(h:n<ds.length):gY (.tuple ds) (.int n)=some ds[n]:=mJ ds n h
theorem tP(a:D)(r:List D):gY (.tuple (a::r)) (.int 0)=some a:=De (a::r) 0 (by simp)
theorem vj(a b:D)(r:List D):gY (.tuple (a::b::r)) (.int 1)=some b:=De (a::b::r) 1 (by simp)
theorem A4(a b c:D)(r:List D):gY (.tuple (a::b::c::r)) (.int 2)=some c:=De (a::b::c::r) 2 (by simp)
theorem A3(a b c d:D)(r:List D):gY (.tuple (a::b::c::d::r)) (.int 3)=some d:=De (a::b::c::d::r) 3 (by simp)
theorem ix3_0(a b c:D):gY (.list [a,b,c]) (.int 0)=some a:=id rfl
theorem ix3_1(a b c:D):gY (.list [a,b,c]) (.int 1)=some b:=id rfl
theorem ix3_2(a b c:D):gY (.list [a,b,c]) (.int 2)=some c:=id rfl
theorem put3_2(a b c d:D):putD [a,b,c] (.int 2) d=some [a,b,d]:=id rfl
theorem Dx(n m:Nat):((n:Int)==(m:Int))=decide (n=m):=by
 by_cases h:n=m
 ·simp[h]
 ·simp only[h,K3];rw[beq_eq_false_iff_ne];lia
def sW(lo hi:Int):D->Bool
 | .int i=>decide (lo<=i)&&decide (i<=hi)
 | _=>false
def sS(w:Str):D->Bool
 | .str s=>s==w
 | _=>false
def Ey(d:D):Prop:=d.canLay0=true/\d.depth<=1000
theorem tZ{S T ι:Type}{step:T->D->(T->M S)->M S}{e:ι->D}{F:List ι->T}{k:T->M S}:∀(is pre:List ι),
  (∀p i q,is=p++i::q->∀kn:T->M S,step (F (pre++p)) (e i) kn=kn (F (pre++p++[i])))->gZ step (is.map e) (F pre) k=k (F (pre++is))
 | [],pre,_=>by simp[gZ]
 | i::r,pre,h=>by
  show step (F pre) (e i) _=_
  have h0:=h [] i r rfl (λs'=>gZ step (r.map e) s' k)
  rw[mo]at h0
  rw[h0]
  have:=tZ (step:=step) (e:=e) (F:=F) (k:=k) r (pre++[i]) λp j q hq kn=>by
   have:=h (i::p) j q (by rw[hq];rfl) kn
   simpa using this
  rw[this]
  simp
theorem bM{step:T->D->(T->M S)->M S}{e:ι->D}{F:List ι->T}{k:T->M S}(is:List ι)
  (h:∀p i q,is=p++i::q->∀kn:T->M S,step (F p) (e i) kn=kn (F (p++[i]))):cA step (is.map e) (F []) k=k (F is):=by
 rw[iY]
 have:=tZ (step:=step) (e:=e) (F:=F) (k:=k) is [] (by simpa using h)
 simpa using this
theorem wV{S T:Type}{step:T->D->(T->M S)->M S}{R:M S->Prop}{P:Nat->T->Prop}{k:T->M S}:∀(ds:List D) (i:Nat) (s:T),
  (∀(j:Nat) (s:T) (d:D),ds[j]? = some d->P (i+j) s->∀kn:T->M S,(∀s',P (i+j+1) s'->R (kn s'))->R (step s d kn)) ->
  P i s->(∀s',P (i+ds.length) s'->R (k s'))->R (gZ step ds s k)
 | [],i,s,_,hp,hk=>hk s hp
 | d::r,i,s,h,hp,hk=>by
  show R (step s d _)
  refine h 0 s d rfl hp _ λs' hp'=>?_
  refine wV r (i+1) s' (λj s d hd hp kn hkn=>h (j+1) s d (by simpa using hd) (by rw[show i+(j+1)=i+1+j by lia];exact hp) kn λs' q=>hkn s' (by rw[show i+1+j+1=i+(j+1)+1 by lia];exact q)) hp' λs' hs=>hk s' ?_
  rw[show i+(d::r).length=i+1+r.length by simp;lia];exact hs
theorem dW{step:T->D->(T->M S)->M S}{R:M S->Prop}{P:Nat->T->Prop}{k:T->M S}(ds:List D)(s:T)
  (h:∀(j:Nat) (s:T) (d:D),ds[j]? = some d->P j s->∀kn:T->M S,(∀s',P (j+1) s'->R (kn s'))->R (step s d kn))
  (hp:P 0 s) (hk:∀s',P ds.length s'->R (k s')):R (cA step ds s k):=by
 rw[iY]
 exact wV ds 0 s (by simpa using h) hp (by simpa using hk)
theorem br{ι:Type}{step:D->M (Option D)}{e g:ι->D}:∀(is:List ι),(∀i∈is,step (e i)=.ret (some (g i)))->bp step (is.map e)=.ret (is.map g)
 | [],_=>rfl
 | i::r,h=>by
  rw[ax,bp,h i ak,br r λd hd=>h d (zzg _ hd)]
  rfl
theorem ui{ι:Type}{step:D->M (Option D)}{e:ι->D}{g:ι->Option D}:∀(is:List ι),(∀i∈is,step (e i)=.ret (g i))->bp step (is.map e)=.ret (is.filterMap g)
 | [],_=>rfl
 | i::r,h=>by
  rw[ax,bp,h i ak,ui r λd hd=>h d (zzg _ hd)]
  cases q:g i<;>simp[cQ,bdR,ng,q]
theorem qx{T ι:Type}{step:T->D->M (Option D×T)}{P:Nat->T->Prop}{e:ι->D}{R:ι->Prop}:∀(ds:List D) (i:Nat) (s:T),
  (∀(j:Nat) (s:T) (d:D),ds[j]? = some d->P (i+j) s->∃x s',step s d=.ret (some (e x),s')/\P (i+j+1) s'/\R x)->P i s ->
  ∃xs s',dz step ds s=.ret (List.map e xs,s')/\P (i+ds.length) s'/\xs.length=ds.length/\∀x∈xs,R x
 | [],i,s,_,hp=>⟨[],s,rfl,hp,rfl,λ_ h=>by cases h⟩
 | d::r,i,s,h,hp=>by
  obtain⟨x,s1,e1,p1,r1⟩:=h 0 s d rfl hp
  obtain⟨xs,s2,e2,p2,l2,r2⟩:=qx r (i+1) s1 (λj s d hd hp=>by
   have:=h (j+1) s d (by simpa using hd) (by rw[show i+(j+1)=i+1+j by lia];exact hp)
   rw[show i+(j+1)+1=i+1+j+1 by lia]at this
   exact this) p1
  refine⟨x::xs,s2,?_,?_,by simp[l2],?_⟩
  ·rw[dz,e1];simp only[cQ,dO];rw[e2];rfl
  ·rw[show i+(d::r).length=i+1+r.length by simp;lia];exact p2
  ·intro y hy
   cases hy with
   | head=>exact r1
   | tail _ h=>exact r2 y h
theorem oD{step:T->D->M (Option D×T)}{P:Nat->T->Prop}{e:ι->D}{R:ι->Prop}(ds:List D)(s:T)
  (h:∀(j:Nat) (s:T) (d:D),ds[j]? = some d->P j s->∃x s',step s d=.ret (some (e x),s')/\P (j+1) s'/\R x) (hp:P 0 s) :
  ∃xs s',dz step ds s=.ret (List.map e xs,s')/\P ds.length s'/\xs.length=ds.length/\∀x∈xs,R x:=by
 have:=qx (step:=step) (P:=P) (e:=e) (R:=R) ds 0 s (by simpa using h) hp
 simpa using this
abbrev iN(n:Nat):D:=.int (n:Int)
def rng(lo hi:Nat):List Nat:=(List.range (hi - lo)).map (lo + ·)
theorem mem_rng{lo hi i:Nat}:i∈rng lo hi↔lo<=i/\i<hi:=by
 unfold rng
 rw[List.mem_map]
 constructor
 ·rintro⟨a,ha,rfl⟩
  have:=List.mem_range.mp ha
  lia
 ·intro h
  exact⟨i - lo,List.mem_range.mpr (by lia),by lia⟩
theorem db(lo hi:Nat):(rng lo hi).length=hi - lo:=by simp[rng]
theorem nr(lo n:Nat):gy (lo:Int) n=((List.range n).map (lo + ·)).map iN:=by
 unfold gy
 rw[ib]
 apply ix
 intro a _
 show PyData.int _=PyData.int _
 congr 1
theorem kH(h:n<=100000):gq (n:Int)=true:=by
 unfold gq
 simp only[ac,zzi]
 lia
theorem bP(n:Nat)(h:n<=100000):aZ [.int (n:Int)]=some ((List.range n).map iN):=by
 unfold aZ
 simp only[kH h,KF]
 have:=nr 0 n
 simp only[Er]
 rw[show(0:Int)=((0:Nat):Int)from rfl,this]
 simp
theorem mv(lo hi:Nat)(h:lo<=100000)(h2:hi<=100000):dX [.int (lo:Int),.int (hi:Int)]=some ((rng lo hi).map iN):=by
 unfold dX
 simp only[kH h,kH h2,Bool.and_self,KF]
 rw[show((hi:Int) - (lo:Int)).toNat=hi - lo by lia,nr]
 rfl
mutual
def sz:D->Nat
 | .list ds=>1+szs ds
 | .tuple ds=>1+szs ds
 | .none=>1
 | .bool _=>1
 | .int _=>1
 | .str _=>1
 | .dict _=>1
def szs:List D->Nat
 | []=>0
 | d::r=>sz d+szs r
end
mutual
def Sm:D->Prop
 | .list ds=>Sms ds
 | .tuple ds=>Sms ds
 | .none=>True
 | .bool _=>True
 | .int i=>i.natAbs<10^19
 | .str s=>kD s=true
 | .dict _=>False
def Sms:List D->Prop
 | []=>True
 | d::r=>Sm d/\Sms r
end
theorem iL:∀{ds:List D},(∀d∈ds,Sm d)->Sms ds
 | [],_=>by simp[Sms]
 | e::r,h=>by
  simp only[Sms]
  exact⟨h e ak,iL λd hd=>h d (zzg _ hd)⟩
theorem mV{B:Nat}:∀{ds:List D},(∀d∈ds,sz d<=B)->szs ds<=ds.length*B
 | [],_=>by simp[szs]
 | e::r,h=>by
  simp only[szs,eh,Nat.succ_mul]
  have h1:=h e ak
  have h2:=mV (ds:=r) λd hd=>h d (zzg _ hd)
  lia
mutual
theorem Sm.lay:∀{d:D},Sm d->d.canLay0=true
 | .none,h=>by simp[PyData.canLay0]
 | .bool _,h=>by simp[PyData.canLay0]
 | .int _,h=>by simp[PyData.canLay0]
 | .str s,h=>by
  have h':kD s=true:=by simpa[Sm]using h
  unfold kD at h'
  simp only[ac]at h'
  simp[PyData.canLay0,h'.1.1]
 | .list ds,h=>by simp only[PyData.canLay0];exact Sms.lay (by simpa[Sm]using h)
 | .tuple ds,h=>by simp only[PyData.canLay0];exact Sms.lay (by simpa[Sm]using h)
 | .dict _,h=>by simp[Sm]at h
theorem Sms.lay:∀{ds:List D},Sms ds->PyData.canLayAll0 ds=true
 | [],_=>by simp[PyData.canLayAll0]
 | d::r,h=>by
  simp only[Sms]at h
  simp only[PyData.canLayAll0,ac]
  exact⟨Sm.lay h.1,Sms.lay h.2⟩
end
mutual
theorem Sm.show:∀{d:D},Sm d->d.showable=true
 | .none,h=>by simp[PyData.showable]
 | .bool _,h=>by simp[PyData.showable]
 | .int i,h=>by
  have h':i.natAbs<10^19:=by simpa[Sm]using h
  simp only[PyData.showable,zzi]
  exact FP (bo h' (Nat.pow_le_pow_right (by decide) (by decide)))
 | .str s,h=>by simp[PyData.showable]
 | .list ds,h=>by simp only[PyData.showable];exact Sms.show (by simpa[Sm]using h)
 | .tuple ds,h=>by simp only[PyData.showable];exact Sms.show (by simpa[Sm]using h)
 | .dict _,h=>by simp[Sm]at h
theorem Sms.show:∀{ds:List D},Sms ds->PyData.showableAll ds=true
 | [],_=>by simp[PyData.showableAll]
 | d::r,h=>by
  simp only[Sms]at h
  simp only[PyData.showableAll,ac]
  exact⟨Sm.show h.1,Sms.show h.2⟩
end
mutual
theorem Sm.text:∀{d:D},Sm d->d.shown.length+2<=30*sz d/\PyData.strOk d.shown=true
 | .none,h=>by refine⟨?_,by simp only[PyData.shown];exact cj _⟩;simp only[PyData.shown,sz];decide
 | .bool b,h=>by
  refine⟨?_,by cases b<;>simp only[PyData.shown]<;>exact cj _⟩
  cases b<;>simp only[PyData.shown,sz]<;>decide
 | .int i,h=>by
  have h':i.natAbs<10^19:=by simpa[Sm]using h
  refine⟨?_,by simp only[PyData.shown];exact cj _⟩
  simp only[PyData.shown,sz]
  have h1:=int_text_length_le10 (a:=i) (k:=19) (by decide) h'
  have h2:(Str.ofString (toString i)).length=(toString i).length:=by
   show(Str.ofString (toString i)).cps.size=_
   rw[<-be,signs_ofString,zzd,String.length_toList]
  lia
 | .str s,h=>by
  have h':kD s=true:=by simpa[Sm]using h
  unfold kD at h'
  simp only[ac,zzi]at h'
  simp only[PyData.shown,sz]
  exact⟨by lia,h'.2⟩
 | .list ds,h=>by
  obtain⟨h1,h2⟩:=Sms.text (ds:=ds) (by simpa[Sm]using h)
  have h5:(Str.join ", " (PyData.shownAll ds)).length<=piled (PyData.shownAll ds):=wI
  have h6:PyData.strOk (Str.join ", " (PyData.shownAll ds))=true:=mW (cj _) h2
  simp only[PyData.shown,listText_eq_join,sz]
  refine⟨?_,iO (iO (cj _) h6) (cj _)⟩
  rw[strLen_append,strLen_append]
  have e1:((("[" : String):Str)).length=1:=rfl
  have e2:((("]" : String):Str)).length=1:=rfl
  rw[e1,e2];lia
 | .tuple ds,h=>by
  obtain⟨h1,h2⟩:=Sms.text (ds:=ds) (by simpa[Sm]using h)
  have h5:(Str.join ", " (PyData.shownAll ds)).length<=piled (PyData.shownAll ds):=wI
  have h6:PyData.strOk (Str.join ", " (PyData.shownAll ds))=true:=mW (cj _) h2
  simp only[PyData.shown,tupleText,sz]
  refine⟨?_,iO (iO (cj _) h6) (cj _)⟩
  rw[strLen_append,strLen_append]
  have e1:((("(" : String):Str)).length=1:=rfl
  have e3:(((if(PyData.shownAll ds).length==1 then ",)" else ")" : String):Str)).length<=2:=by split<;>decide
  rw[e1];lia
 | .dict _,h=>by simp[Sm]at h
theorem Sms.text:∀{ds:List D},Sms ds->piled (PyData.shownAll ds)<=30*szs ds/\∀t∈PyData.shownAll ds,PyData.strOk t=true
 | [],_=>by simp[PyData.shownAll,piled,szs]
 | d::r,h=>by
  simp only[Sms]at h
  obtain⟨h1,h2⟩:=Sm.text h.1
  obtain⟨h3,h4⟩:=Sms.text h.2
  simp only[PyData.shownAll,szs]
  refine⟨?_,λt ht=>?_⟩
  ·rw[piled_cons];lia
  ·rcases List.mem_cons.mp ht with rfl|ht
   ·exact h2
   ·exact h4 t ht
end
theorem D6{d:D}(h:Sm d)(hs:sz d<=30000)(hd:d.depth<=60):kg [d]=some (.str d.shown):=by
 obtain⟨t1,t2⟩:=h.text
 show(if nh d then some (PyData.str d.shown)else none)=_
 unfold nh
 rw[ar]
 simp only[ac,zzi]
 exact⟨⟨⟨h.show,h.lay⟩,by lia⟩,ce (show d.shown.length<=1000000 by lia) (by decide)⟩
theorem Az{d:D}(h:Sm d):fW (.str d.shown) (.str d.shown)=some false:=by
 obtain⟨t1,t2⟩:=h.text
 unfold fW rM
 rw[ar]
 ·simp[PyData.eqv]
 ·simp[PyData.canLay0,t2,PyData.depth]
theorem jk(ds:List D)(k:D):aE (.list ds) k=gY (.list ds) k:=id rfl
theorem bL(ds:List D)(k:D):aE (.tuple ds) k=gY (.tuple ds) k:=id rfl
theorem leA(a b:Int):wx (.int a) (.int b)=some (decide (a<=b)):=id rfl
theorem ltA(a b:Int):qa (.int a) (.int b)=some (decide (a<b)):=id rfl
theorem IC(d:D)(ds:List D):iw d (.list ds)=yh d (.list ds):=id rfl
theorem lI(e:ι->D)(is:List ι)(n:Nat)(h:n<is.length):gY (.list (is.map e)) (.int (n:Int))=some (e is[n]):=by
 have:=mJ (is.map e) n (by simpa using h)
 rw[List.getElem_map]at this
 exact this
theorem Iw(e:ι->D)(is:List ι)(n:Nat)(h:n<is.length):gY (.tuple (is.map e)) (.int (n:Int))=some (e is[n]):=by
 have:=mJ (is.map e) n (by simpa using h)
 rw[List.getElem_map]at this
 exact this
theorem lx(ds:List D)(d:D)(h:ds.length<=100000):rB ds [d]=some (ds++[d]):=ar (oz h (by decide))
abbrev pD(p:Nat×Nat):D:=.tuple [iN p.1,iN p.2]
theorem AC(a b:Nat):((a:Int)==(b:Int))=decide (a=b):=Dx a b
theorem n8(p q:Nat×Nat):PyData.eqv (pD p) (pD q)=decide (p=q):=by
 simp only[pD,iN,PyData.eqv,PyData.eqvAll,AC,Bool.and_true]
 rw[Km]
 simp[Prod.ext_iff]
theorem AQ(p:Nat×Nat):(pD p).canLay0=true/\(pD p).depth<=1000:=by
 simp[pD,PyData.canLay0,PyData.canLayAll0,PyData.depth,PyData.depthAll]
theorem neP(p q:Nat×Nat):fW (pD p) (pD q)=some (!decide (p=q)):=by
 unfold fW rM
 rw[ar (by simp[AQ]),n8]
theorem eqN(a b:Nat):kS (iN a) (iN b)=some (decide (a=b)):=by
 show kS (.int a) (.int b)=_
 rw[eqI,AC]
theorem IW(a b:Nat):bS (iN a) (iN b)=some (iN (a+b)):=by
 show some (PyData.int ((a:Int)+(b:Int)))=_
 rw[<-Int.natCast_add]
abbrev Mt:=Nat×Nat×Nat×Nat
abbrev mD(m:Mt):D:=.tuple [iN m.1,iN m.2.1,iN m.2.2.1,iN m.2.2.2]
structure Rl where
 n:Nat
 st:List Nat
 ms:List Mt
 sy:List Bool
abbrev Rl.d(r:Rl):D:=.tuple [iN r.n,.tuple (r.st.map iN),.tuple (r.ms.map mD),.tuple (r.sy.map PyData.bool)]
def plt(p q:Nat×Nat):Prop:=p.1<q.1\/p.1=q.1/\p.2<q.2
structure MtOk(n:Nat)(m:Mt):Prop where
 ab:m.1<=m.2.1
 b:m.2.1<n
 c:m.2.2.1<n
 d:m.2.2.2<n
 ne:m.2.2≠(m.1,m.2.1)
 ne':m.2.2≠(m.2.1,m.1)
structure Wf(r:Rl):Prop where
 n1:1<=r.n
 st:∀s∈r.st,s<r.n
 sy:r.sy.length=r.n
 ms:∀m∈r.ms,MtOk r.n m
 so:r.ms.Pairwise λm m'=>plt (m.1,m.2.1) (m'.1,m'.2.1)
def look(ms:List Mt)(p:Nat×Nat):Option (Nat×Nat):=(ms.find? λm=>decide (m.1=p.1)&&decide (m.2.1=p.2)).map (·.2.2)
def turn(ms:List Mt)(i j:Nat):Nat×Nat:=if i<=j then(look ms (i,j)).getD (i,j)else let t:=(look ms (j,i)).getD (j,i);(t.2,t.1)
theorem nM{ms:List Mt}{p q:Nat×Nat}(h:look ms p=some q):(p.1,p.2,q.1,q.2)∈ms:=by
 unfold look at h
 obtain⟨m,hm,rfl⟩:=Option.map_eq_some_iff.mp h
 have h1:=List.find?_some hm
 have h2:=LF hm
 simp only[ac,zzi]at h1
 rw[<-h1.1,<-h1.2]
 exact h2
theorem gu(h:n<=1000000000):Sm (iN n):=by
 simp only[iN,Sm,Int.natAbs_natCast]
 exact oz h (by decide)
theorem B9{l:List Nat}(h:∀s∈l,s<=1000000000):Sm (.tuple (l.map iN)):=by
 simp only[Sm]
 refine iL λd hd=>?_
 obtain⟨s,hs,rfl⟩:=List.mem_map.mp hd
 exact gu (h s hs)
theorem zr(l:List Bool):Sm (.tuple (l.map PyData.bool)):=by
 simp only[Sm]
 refine iL λd hd=>?_
 obtain⟨s,hs,rfl⟩:=List.mem_map.mp hd
 simp[Sm]
theorem D1{m:Mt}(h:m.1<=1000000000/\m.2.1<=1000000000/\m.2.2.1<=1000000000/\m.2.2.2<=1000000000):Sm (mD m):=by
 simp only[mD,Sm,Sms]
 exact⟨by simpa[iN,Sm]using gu h.1,by simpa[iN,Sm]using gu h.2.1,by simpa[iN,Sm]using gu h.2.2.1,by simpa[iN,Sm]using gu h.2.2.2,trivial⟩
theorem mr{ι:Type}{e:ι->D}{B:Nat}(h:∀i,sz (e i)=B):∀l:List ι,szs (l.map e)=l.length*B
 | []=>by simp[szs]
 | i::r=>by rw[ax,szs,mr h r,h i,eh,Nat.succ_mul];lia
theorem bv{ds:List D}(h:∀d∈ds,d.depth<=n):(PyData.tuple ds).depth<=n+1:=by
 have:=oC h
 simp only[PyData.depth];lia
theorem zE(r:Rl):r.d.depth<=60:=by
 refine ce (bv (n:=3) ?_) (by decide)
 have i0:∀n:Nat,(iN n).depth<=1:=λn=>by simp[iN,PyData.depth]
 intro d hd
 simp only[eE,wE,xz]at hd
 rcases hd with rfl|rfl|rfl|rfl
 ·exact ce (i0 _) (by decide)
 ·refine ce (bv (n:=1) λd hd=>?_) (by decide)
  obtain⟨s,_,rfl⟩:=List.mem_map.mp hd
  exact i0 s
 ·refine bv (n:=2) λd hd=>?_
  obtain⟨m,_,rfl⟩:=List.mem_map.mp hd
  refine bv (n:=1) λd hd=>?_
  simp only[eE,wE,xz]at hd
  rcases hd with rfl|rfl|rfl|rfl<;>exact i0 _
 ·refine ce (bv (n:=1) λd hd=>?_) (by decide)
  obtain⟨s,_,rfl⟩:=List.mem_map.mp hd
  simp[PyData.depth]
theorem D5{r:Rl}(w:Wf r)(hn:r.n<=100000):Sm r.d:=by
 simp only[Rl.d,Sm,Sms]
 refine⟨by simpa[iN,Sm]using gu (n:=r.n) (by lia),?_,?_,?_,trivial⟩
 ·simpa[Sm]using B9 λs hs=>by have:=w.st s hs;lia
 ·refine iL λd hd=>?_
  obtain⟨m,hm,rfl⟩:=List.mem_map.mp hd
  have o:=w.ms m hm
  have:=o.ab;have:=o.b;have:=o.c;have:=o.d
  exact D1 ⟨by lia,by lia,by lia,by lia⟩
 ·simpa[Sm]using zr r.sy
theorem Hr(r:Rl):sz r.d=5+r.st.length+5*r.ms.length+r.sy.length:=by
 simp only[Rl.d,sz,szs]
 rw[mr (B:=1) (λi=>by simp[sz]),mr (B:=5) (λi=>by simp[sz,szs]),mr (B:=1) (λi=>by simp[sz])]
 lia
theorem Cd{r:Rl}(w:Wf r)(hn:r.n<=1000)(hs:r.st.length<=1000)(hm:r.ms.length<=5000):kg [r.d]=some (.str r.d.shown)/\fW (.str r.d.shown) (.str r.d.shown)=some false :=
 ⟨D6 (D5 w (by lia)) (by rw[Hr,w.sy];lia) (zE r),Az (D5 w (by lia))⟩
abbrev kvM(m:Mt):D×D:=(pD (m.1,m.2.1),pD m.2.2)
theorem iS(p q:Nat×Nat):eY (pD p) (pD q)=decide (p=q):=by
 show(decide ((p.1:Int)=q.1)&&(decide ((p.2:Int)=q.2)&&true))=_
 rw[Km]
 simp[Prod.ext_iff]
 lia
theorem A9(p:Nat×Nat):fK (pD p)=true:=id rfl
theorem yy(p:Nat×Nat):dg (pD p)=false:=id rfl
theorem tN(ms:List Mt)(p:Nat×Nat):keyOk (ms.map kvM) (pD p)=true:=by
 unfold keyOk
 rw[A9,Bool.true_and,yy,Kv,Bool.or_false,ir]
 intro x hx
 obtain⟨m,_,rfl⟩:=List.mem_map.mp hx
 rfl
theorem rJ(p:Nat×Nat):∀ms:List Mt,e6 (ms.map kvM) (pD p)=(look ms p).map pD
 | []=>rfl
 | m::r=>by
  have ih:=rJ p r
  unfold e6 look at ih ⊢
  rw[ax,ue,ue,iS]
  by_cases h:(m.1,m.2.1)=p
  ·have h1:m.1=p.1:=by rw[<-h]
   have h2:m.2.1=p.2:=by rw[<-h]
   simp[h1,h2]
  ·have h1:(decide (m.1=p.1)&&decide (m.2.1=p.2))=false:=by
    rw[Bool.eq_false_iff]
    intro q
    simp only[ac,zzi]at q
    exact h (Prod.ext q.1 q.2)
   rw[h1]
   simp only[h,K3]
   exact ih
theorem rO(ms:List Mt)(p:Nat×Nat):jl (.dict (ms.map kvM)) (pD p) (pD p)=some (pD ((look ms p).getD p)):=by
 show(if keyOk _ _ then some ((e6 _ _).getD _)else none)=_
 rw[ar (tN ms p),rJ]
 cases look ms p<;>rfl
theorem sK{es:List (D×D)}{k d:D}(h:∀p∈es,eY p.1 k=false):lQ es k d=es++[(k,d)]:=by
 unfold lQ
 rw[au]
 rw[Bool.not_eq_true,List.any_eq_false]
 intro p hp
 rw[h p hp]
 decide
theorem yu(m:Mt)(r:List Mt)(p:Nat×Nat):look (m::r) p=if(m.1,m.2.1)=p then some m.2.2 else look r p:=by
 unfold look
 rw[ue]
 by_cases h:(m.1,m.2.1)=p
 ·have h1:m.1=p.1:=by rw[<-h]
  have h2:m.2.1=p.2:=by rw[<-h]
  simp[h1,h2]
 ·have h1:(decide (m.1=p.1)&&decide (m.2.1=p.2))=false:=by
   rw[Bool.eq_false_iff]
   intro q
   simp only[ac,zzi]at q
   exact h (Prod.ext q.1 q.2)
  rw[h1,au h]
theorem kb{α β:Type}{g:α->List β}{B:Nat}(h:∀a,(g a).length<=B):∀l:List α,(l.flatMap g).length<=l.length*B
 | []=>by simp
 | a::r=>by
  rw[List.flatMap_cons,zzf,eh,Nat.succ_mul]
  have:=kb h r
  have:=h a
  lia
theorem BS(a:Nat):bS (.int 1) (iN a)=some (iN (a+1)):=by
 show some (PyData.int (1+(a:Int)))=some (PyData.int ((a+1:Nat):Int))
 rw[Int.natCast_add,Int.add_comm]
 rfl
theorem zD{lo hi j:Nat}{d:D}(h:((rng lo hi).map iN)[j]? = some d):d=iN (lo+j)/\lo+j<hi:=by
 rw[ik]at h
 obtain⟨x,hx,rfl⟩:=Option.map_eq_some_iff.mp h
 have hl:=(List.getElem?_eq_some_iff.mp hx).1
 rw[db]at hl
 unfold rng at hx
 rw[ik,KQ hl]at hx
 cases hx
 exact⟨rfl,by lia⟩
theorem dn{j:Nat}{d:D}(h:((List.range n).map iN)[j]? = some d):d=iN j/\j<n:=by
 rw[ik]at h
 obtain⟨x,hx,rfl⟩:=Option.map_eq_some_iff.mp h
 have hl:=(List.getElem?_eq_some_iff.mp hx).1
 rw[ba]at hl
 rw[KQ hl]at hx
 cases hx
 exact⟨rfl,hl⟩
theorem tQ(e:ι->D)(is:List ι)(n:Nat)(z:ι)(h:n<is.length):gY (.tuple (is.map e)) (.int (n:Int))=some (e (is.getD n z)):=by
 rw[Iw e is n h,ou,de h]
 rfl
structure Ahd(n a b:Nat)(ms:List Mt):Prop where
 ok:∀m∈ms,MtOk n m
 so:ms.Pairwise λm m'=>plt (m.1,m.2.1) (m'.1,m'.2.1)
 ah:∀m∈ms,plt (m.1,m.2.1) (a,b)
 le:ms.length<=a*n+b
theorem Ahd.next{ms:List Mt}(h:Ahd n a b ms):Ahd n a (b+1) ms :=
 ⟨h.ok,h.so,λm hm=>by rcases h.ah m hm with q|⟨q,q2⟩<;>simp only[plt]at * <;> lia,by have:=h.le;lia⟩
theorem Ahd.add{ms:List Mt}{c d:Nat}(h:Ahd n a b ms)(hm:MtOk n (a,b,c,d)):Ahd n a (b+1) (ms++[(a,b,c,d)]):=by
 refine⟨λm hm'=>?_,?_,λm hm'=>?_,by have:=h.le;simp;lia⟩
 ·rcases List.mem_append.mp hm' with q|q
  ·exact h.ok m q
  ·rw[List.mem_singleton.mp q];exact hm
 ·rw[Lg]
  refine⟨h.so,List.pairwise_singleton _ _,λm hm x hx=>?_⟩
  rw[List.mem_singleton.mp hx]
  exact h.ah m hm
 ·rcases List.mem_append.mp hm' with q|q
  ·rcases h.ah m q with q|⟨q,q2⟩<;>simp only[plt]at * <;> lia
  ·rw[List.mem_singleton.mp q];exact .inr ⟨rfl,Ku _⟩
theorem Ahd.row{ms:List Mt}(h:Ahd n a b ms)(hb:b<=n):Ahd n (a+1) (a+1) ms :=
 ⟨h.ok,h.so,λm hm=>by rcases h.ah m hm with q|⟨q,q2⟩<;>simp only[plt]at * <;> lia,by have:=h.le;rw[Nat.succ_mul];lia⟩
theorem Jd(p:Nat×Nat)(k:D->D->M S):un2 (pD p) k=k (iN p.1) (iN p.2):=id rfl
def tab(n:Nat)(f:Nat->Nat):List Nat:=(List.range n).map f
abbrev Kb(n:Nat)(f:Nat->Nat):List D:=(tab n f).map iN
def up(f:Nat->Nat)(i v:Nat):Nat->Nat:=λr=>if r=i then v else f r
def cnt(hs:List Nat)(r:Nat):Nat:=hs.count r
def JV(f:Nat->Nat)(m:Mt):Bool:=let w:=if m.1=m.2.1 then 2 else 1;decide (w<=f m.1)&&decide (w<=f m.2.1)
def Ke(f:Nat->Nat)(m:Mt):Nat->Nat :=
 let f1:=up f m.1 (f m.1 - 1)
 let f2:=up f1 m.2.1 (f1 m.2.1 - 1)
 let f3:=up f2 m.2.2.1 (f2 m.2.2.1+1)
 up f3 m.2.2.2 (f3 m.2.2.2+1)
def J5(bs:List Bool):D:=if bs.all id then .str "yes" else if bs.any id then .str "both" else .str "no"
def Fb(l:List (Nat×Nat)):List Nat:=l.flatMap λp=>List.replicate p.2 p.1
def J8(f:Nat->Nat)(ms:List Mt):List Nat:=(ms.zipIdx.filter λp=>JV f p.1).map (·.2)
def J7(r:Rl)(hs:List Nat)(i j:Nat):List Nat:=(hs.set i (turn r.ms (hs.getD i 0) (hs.getD j 0)).1).set j (turn r.ms (hs.getD i 0) (hs.getD j 0)).2
def Du(r q:Rl)(i j:Nat):Nat×Nat:=((turn r.ms (i / q.n) (j / q.n)).1*q.n+(turn q.ms (i % q.n) (j % q.n)).1,(turn r.ms (i / q.n) (j / q.n)).2*q.n+(turn q.ms (i % q.n) (j % q.n)).2)
def cell(r q:Rl)(i j:Nat):List Mt:=if Du r q i j=(i,j)then[]else[(i,j,Du r q i j)]
def cX(r q:Rl)(i:Nat):List Mt:=(rng i (r.n*q.n)).flatMap (cell r q i)
def E7(r q:Rl):List Mt:=(List.range (r.n*q.n)).flatMap (cX r q)
structure Two(r q:Rl):Prop where
 wr:Wf r
 wq:Wf q
 rn:r.n<=40
 qn:q.n<=40
 R:r.n*q.n<=40
 st:r.st.length=q.st.length
 s4:q.st.length<=4
def Hh(both a b:Bool):Bool:=if both then a&&b else a||b
def Fc(r q:Rl)(both:Bool)(p:Nat):Bool:=Hh both (r.sy.getD (p / q.n) false) (q.sy.getD (p % q.n) false)
def sC(r q:Rl):List Nat:=(List.range r.st.length).map λk=>r.st.getD k 0*q.n+q.st.getD k 0
def Kc(r q:Rl)(both:Bool):Rl:=⟨r.n*q.n,sC r q,E7 r q,(List.range (r.n*q.n)).map (Fc r q both)⟩
def J4(both:Bool):D:=if both then .str "both" else .str "either"
abbrev cT(l:List Nat):D:=.tuple (l.map iN)
theorem AU(l:List Nat):PyData.canLayAll0 (l.map iN)=true:=rE λd hd=>by
 obtain⟨x,_,rfl⟩:=List.mem_map.mp hd
 simp[iN,PyData.canLay0]
def J6(n:Nat)(g f:Nat->Nat):Nat->Nat:=cnt (Fb ((List.range n).map λp=>(g p,f p)))
structure Sd(r q:Rl)(g:Nat->Nat)(R:Rl):Prop where
 wf:Wf R
 lt:∀{a},a<r.n*q.n->g a<R.n
 tn:∀{a b},a<r.n*q.n->b<r.n*q.n->(g (Du r q a b).1,g (Du r q a b).2)=turn R.ms (g a) (g b)
 st:(sC r q).map g=R.st
end L4
namespace K42
open PySem PySem.Spec PyProof.Rows L2 L3 L4
variable {T:Nat}
def Fd(T:Nat)(f:List D):Prop:=∃a b t:Int,f=[.int a,.int b,.int t]/\0<=t/\t<=T
theorem Fd.le{T':Nat}{f:List D}(h:Fd T f)(hl:T<=T'):Fd T' f:=by
 obtain⟨a,b,t,e,h0,h1⟩:=h
 exact⟨a,b,t,e,h0,by lia⟩
theorem Bs{f:List D}{m:Int}(h:Fd T f)(hT:T<=1000000)(hm:0<m)(hm2:m<1073741824) :
  ∃(r:Int) (f':List D),aJ f (.int m)=.ret (.int r,f')/\0<=r/\r<m/\Fd (T+1) f':=by
 obtain⟨a,b,t,rfl,h0,h1⟩:=h
 unfold aJ
 simp only[jk]
 rw[L4.ix3_2,oMS,bdR,L4.addI,oMS,bdR,L4.put3_2,oMS,bdR,L4.ix3_1,oMS,bdR,L4.gtI,oMS,bdR]
 by_cases ha:0<b
 ·simp only[ha,decide_true,KF]
  have p1:putD [PyData.int a,.int b,.int (t+1)] (.int 1) (.int (b / m))=some [.int a,.int (b / m),.int (t+1)]:=id rfl
  rw[L4.divI _ _ hm hm2,oMS,bdR,p1,oMS,bdR,L4.modI _ _ hm,oMS,bdR]
  exact⟨_,_,rfl,Ma _ (by lia),LA _ hm,_,_,_,rfl,by lia,by lia⟩
 ·simp only[ha,K3]
  rw[au (by decide)]
  have g1:=Ma a (b:=(2147483647:Int)) (by decide)
  have g2:=LA a (b:=(2147483647:Int)) (by decide)
  rw[L4.ix3_0,oMS,bdR,L4.modI _ _ (by decide),oMS,bdR,L4.mulL _ _ (by decide) (by decide),oMS,bdR,L4.mulR _ t (by lia) (by lia),oMS,bdR,L4.addI,oMS,bdR,L4.addI,oMS,bdR]
  rw[L4.mulL _ _ (by decide) (by decide),oMS,bdR,L4.addI,oMS,bdR,L4.mulR _ (48271+40*t) (by lia) (by lia),oMS,bdR,L4.modI _ _ (by decide),oMS,bdR]
  rw[L4.divI _ _ (by decide) (by decide),oMS,bdR,L4.mulR _ _ (by decide) (by decide),oMS,bdR,L4.addI,oMS,bdR,L4.modI _ _ (by decide),oMS,bdR,L4.divI _ _ (by decide) (by decide),oMS,bdR,L4.modI _ _ hm,oMS,bdR]
  exact⟨_,_,rfl,Ma _ (by lia),LA _ hm,_,_,_,rfl,by lia,by lia⟩
theorem cD{f:List D}{m:Nat}(h:Fd T f)(hT:T<=1000000)(hm:0<m)(hm2:m<=1000000000) :
  ∃(r:Nat) (f':List D),aJ f (.int (m:Int))=.ret (iN r,f')/\r<m/\Fd (T+1) f':=by
 obtain⟨r,f',e,h1,h2,h3⟩:=Bs h hT (m:=(m:Int)) (by lia) (by lia)
 obtain⟨n,rfl⟩:=Int.eq_ofNat_of_zero_le h1
 exact⟨n,f',e,by lia,h3⟩
theorem wW(c:Int):∃f,cU (.int c)=.ret f/\Fd 0 f:=by
 unfold cU
 have m1:ki [.int 0,.int c]=some (.int (if c>0 then c else 0)):=id rfl
 have p18:ww (.int 10) (.int 18)=some (.int 1000000000000000000):=id rfl
 rw[m1,oMS,bdR,p18,oMS,bdR,L4.geI,oMS,bdR,bdR]
 generalize decide ((1000000000000000000:Int)<=c)=B
 have e:Do [.bool B]=some (.int (if B then 1 else 0)):=by cases B<;>rfl
 rw[e,oMS,bdR,L4.mulR _ _ (by split<;>lia) (by split<;>lia),oMS,bdR,bdR]
 exact⟨_,rfl,_,_,_,rfl,Ko _,Ko _⟩
theorem Dm(ns:List Int)(k:Nat)(hk:k<=1000)(hn:ns.length<=63):∃f,fm (.list (ns.map PyData.int)) (.int (k:Int))=.ret f/\Fd 0 f:=by
 unfold fm
 simp only[jk]
 have e1:dh [.list (ns.map PyData.int)]=some (.int ns.length):=by rw[L4.lenL,zzd]
 rw[L4.mulL _ _ (by decide) (by decide),oMS,bdR,e1,oMS,bdR,L4.gtI,oMS,bdR]
 by_cases h:0<(ns.length:Int)
 ·simp only[h,decide_true,KF]
  rw[bdR,L4.modI _ _ h,oMS,bdR]
  have m1:=Ma (k:Int) (b:=(ns.length:Int)) (by lia)
  have m2:=LA (k:Int) h
  obtain⟨x,hx,e⟩:=GM (ns.map PyData.int) (k % ns.length) m1 (by rw[zzd];exact m2)
  obtain⟨i,hi,rfl⟩:=List.mem_map.mp hx
  have e2:gY (.list (ns.map PyData.int)) (.int (k % ns.length))=some (.int i):=e
  rw[e2,oMS,bdR,bdR,L4.divI _ _ h (by lia),oMS,bdR,L4.mulL _ _ (by decide) (by decide),oMS,bdR,L4.addI,oMS,bdR]
  exact wW _
 ·simp only[h,K3]
  rw[au (by decide)]
  exact wW _
theorem FR(a b:Int):HT.lexLt [a] [b]=decide (a<b):=by
 rw[HT.lexLt_cons]
 by_cases h:a=b
 ·rw[ar h,h];simp[HT.lexLt]
 ·rw[au h]
theorem mY(a b:Nat):cS [.list [iN a,iN b]]=some [iN (min a b),iN (max a b)]:=by
 have ok:bR [iN a,iN b]=true:=rfl
 show(if bR [iN a,iN b]then some (b8 [iN a,iN b])else none)=_
 rw[ar ok]
 congr 1
 refine(mX ok ?_ ?_).symm
 ·by_cases h:a<=b
  ·rw[Lk h,KO h]
  ·rw[Lc (by lia),KU (by lia)]
   exact List.Perm.swap _ _ _
 ·rw[Lu]
  refine⟨λx hx=>?_,List.pairwise_singleton _ _⟩
  have:x=iN (max a b):=by simpa using hx
  subst this
  unfold leK
  show(!HT.lexLt [((max a b:Nat):Int)] [((min a b:Nat):Int)])=true
  rw[FR,bu (by lia)]
  rfl
theorem Ih(p q:Nat×Nat):fW (.list [iN p.1,iN p.2]) (.list [iN q.1,iN q.2])=some (!decide (p=q)):=by
 have h1:(PyData.list [iN p.1,iN p.2]).canLay0=true:=by simp[PyData.canLay0,PyData.canLayAll0]
 have h2:(PyData.list [iN q.1,iN q.2]).canLay0=true:=by simp[PyData.canLay0,PyData.canLayAll0]
 have h3:(PyData.list [iN p.1,iN p.2]).depth<=1000:=by simp[PyData.depth,PyData.depthAll]
 unfold fW rM
 rw[ar (by simp[h1,h2,h3])]
 congr 2
 have e:PyData.eqv (.list [iN p.1,iN p.2]) (.list [iN q.1,iN q.2])=PyData.eqv (pD p) (pD q):=by simp[PyData.eqv]
 rw[e,n8]
def DQ(T most:Nat)(m:M (D×List D)):Prop:=∃(r:Rl) (f':List D),m=.ret (r.d,f')/\Wf r/\r.n<=most/\1<=r.st.length/\r.st.length<=4/\r.ms.length<=r.n*r.n+r.n/\Fd (T+7000) f'
theorem Cc{R:M (D×List D)->Prop}{n a often:Nat}{f:List D}{ms:List Mt}{st sy:D}{kn:List D×D×D×D×D×List D×Unit->M (D×List D)}(hf:Fd T f)(hT:T<=990000)(hn:n<=40)(ha:a<n)(ho:1<=often)(ho2:often<=3)(hA:Ahd n a a ms)
  (k:∀f' ms',Fd (T+4*n) f'->Ahd n (a+1) (a+1) ms'->R (kn (f',iN n,st,sy,iN often,ms'.map mD,()))):R (eT f (iN n) st sy (iN often) (ms.map mD) (iN a) kn):=by
 unfold eT
 rw[mv a n (by lia) (by lia),oMS,bdR]
 refine dW (P:=λi s=>∃f ms,s=(f,iN n,st,sy,iN often,List.map mD ms,iN a,())/\Fd (T+4*i) f/\Ahd n a (a+i) ms) _ _ ?_ ⟨f,ms,rfl,hf,hA⟩ ?_
 ·rintro i s d hd ⟨f,ms,rfl,hf,hA⟩ kn hkn
  obtain⟨rfl,hi⟩:=zD hd
  unfold iG
  dsimp only
  obtain⟨c,f1,e1,hc,hf1⟩:=cD (m:=n) hf (by lia) (by lia) (by lia)
  obtain⟨e,f2,e2,he,hf2⟩:=cD (m:=n) hf1 (by lia) (by lia) (by lia)
  obtain⟨x',f4,e4,_,hf4⟩:=cD (m:=often) hf2 (by lia) (by lia) (by lia)
  rw[e1,bdR];dsimp only
  rw[e2,bdR];dsimp only
  rw[e4,bdR];dsimp only
  rw[eqI,oMS,bdR]
  have skip:R (kn (f4,iN n,st,sy,iN often,List.map mD ms,iN a,())):=hkn _ ⟨f4,ms,rfl,hf4.le (by lia),hA.next⟩
  split
  ·rw[mY,oMS,bdR,bdR,Ih (min c e,max c e) (a,a+i),oMS,bdR]
   split
   ·rename_i hne
    have hle:=hA.le
    have hlen:(ms.map mD).length<=100000:=by
     rw[zzd]
     have:a*n<=40*40:=KJ (by lia) hn
     lia
    rw[lx _ _ hlen,oMS,bdR]
    have hne':¬ ((min c e,max c e)=(a,a+i)):=by
     rw[wT,kw]at hne
     exact hne
    have:=hkn (f4,iN n,st,sy,iN often,List.map mD (ms++[(a,a+i,c,e)]),iN a,()) ⟨f4,_,rfl,hf4.le (by lia),hA.add ⟨by simp,hi,hc,he,λz=>hne' (by
     have z1:c=a:=congrArg Prod.fst z
     have z2:e=a+i:=congrArg Prod.snd z
     rw[z1,z2,Lk (by lia),KO (by lia)]),λz=>hne' (by
     have z1:c=a+i:=congrArg Prod.fst z
     have z2:e=a:=congrArg Prod.snd z
     rw[z1,z2,Lc (by lia),KU (by lia)])⟩⟩
    rw[eg]at this
    exact this
   ·exact skip
  ·exact skip
 ·rintro s ⟨f,ms,rfl,hf,hA⟩
  rw[zzd,db]at hf hA
  unfold iH
  exact k f ms (hf.le (by lia)) (hA.row (by lia))
theorem v8{f:List D}{most:Nat}(h:Fd T f)(hT:T<=900000)(hm:1<=most)(hm2:most<=40):DQ T most (cf f (iN most)):=by
 unfold cf
 obtain⟨n0,f1,e1,h1,hf1⟩:=cD (m:=most) h (by lia) (by lia) (by lia)
 obtain⟨s0,f2,e2,h2,hf2⟩:=cD (m:=5) hf1 (by lia) (by lia) (by lia)
 have e2':aJ f1 (.int 5)=.ret (iN s0,f2):=e2
 have es:∃sorts,1<=sorts/\sorts<=4/\aE (.list [.int 1,.int 2,.int 2,.int 3,.int 4]) (iN s0)=some (iN sorts):=by
  rcases(by lia:s0=0\/s0=1\/s0=2\/s0=3\/s0=4)with rfl|rfl|rfl|rfl|rfl
  ·exact⟨1,by lia,by lia,rfl⟩
  ·exact⟨2,by lia,by lia,rfl⟩
  ·exact⟨2,by lia,by lia,rfl⟩
  ·exact⟨3,by lia,by lia,rfl⟩
  ·exact⟨4,by lia,by lia,rfl⟩
 obtain⟨sorts,hs1',hs4,es⟩:=es
 rw[e1,bdR];dsimp only
 rw[BS,oMS,bdR,e2',bdR];dsimp only
 rw[es,oMS,bdR,bP _ (by lia),oMS,bdR]
 generalize hn:n0+1=n
 have hn40:n<=40:=by lia
 obtain⟨st,s1,c1,⟨f3,hs1,hf3⟩,l1,r1⟩:=oD (P:=λj (s:List D×D×D×Unit)=>∃f,s=(f,iN n,iN sorts,())/\Fd (T+2+j) f) (e:=iN) (R:=λx=>x<n)
   (step:=λs6 d7=>bd (aJ s6.1 s6.2.1) λr8=>.ret (some r8.1,(r8.2,s6.2.1,s6.2.2.1,()))) ((List.range sorts).map iN) (f2,iN n,iN sorts,())
   (by
    rintro j s d hd ⟨f,rfl,hf⟩
    obtain⟨rfl,hj⟩:=dn hd
    obtain⟨x,f',e,hx,hf'⟩:=cD (m:=n) hf (by lia) (by lia) (by lia)
    dsimp only
    rw[e,bdR]
    exact⟨x,_,rfl,⟨f',rfl,hf'⟩,hx⟩) ⟨f2,rfl,hf2.le (by lia)⟩
 subst hs1
 rw[zzd,ba]at hf3 l1
 rw[c1,bdR];dsimp only
 rw[bG (by rw[zzd];lia),bdR,g9,oMS,bdR,bP n (by lia),oMS,bdR]
 obtain⟨sy,s2,c2,⟨f4,hs2,hf4⟩,l2,_⟩:=oD (P:=λj (s:List D×D×D×Unit)=>∃f,s=(f,iN n,.tuple (st.map iN),())/\Fd (T+2+sorts+j) f) (e:=PyData.bool) (R:=λ_=>True)
   (step:=λs13 d14=>bd (aJ s13.1 (.int 2)) λr15=>bd (oM (kS r15.1 (.int 1))) λb16=>.ret (some (.bool b16),(r15.2,s13.2.1,s13.2.2.1,()))) ((List.range n).map iN) (f3,iN n,.tuple (st.map iN),())
   (by
    rintro j s d hd ⟨f,rfl,hf⟩
    obtain⟨rfl,hj⟩:=dn hd
    obtain⟨x,f',e,hx,hf'⟩:=cD (m:=2) hf (by lia) (by lia) (by lia)
    have e':aJ f (.int 2)=.ret (iN x,f'):=e
    dsimp only
    rw[e',bdR];dsimp only
    rw[eqI,oMS,bdR]
    exact⟨_,_,rfl,⟨f',rfl,hf'⟩,trivial⟩) ⟨f3,rfl,hf3⟩
 subst hs2
 rw[zzd,ba]at hf4 l2
 rw[c2,bdR];dsimp only
 rw[bG (by rw[zzd];lia),bdR,g9,oMS,bdR]
 obtain⟨o0,f5,e5,h5,hf5⟩:=cD (m:=3) hf4 (by lia) (by lia) (by lia)
 have e5':aJ f4 (.int 3)=.ret (iN o0,f5):=e5
 rw[e5',bdR];dsimp only
 rw[BS,oMS,bdR,bP n (by lia),oMS,bdR]
 have hb:∀j,j<=n->4*n*j<=6400:=λj hj=>by
  have:n*j<=40*40:=KJ hn40 (by lia)
  have e:4*n*j=4*(n*j):=Nat.mul_assoc _ _ _
  lia
 refine dW (P:=λj s=>∃f ms,s=(f,iN n,.tuple (st.map iN),.tuple (sy.map PyData.bool),iN (o0+1),List.map mD ms,())/\Fd (T+100+4*n*j) f/\Ahd n j j ms) _ _ ?_ ⟨f5,[],rfl,hf5.le (by lia),⟨λ_ h=>(nomatch h),.nil,λ_ h=>(nomatch h),aw _⟩⟩ ?_
 ·rintro j s d hd ⟨f,ms,rfl,hf,hA⟩ kn hkn
  obtain⟨rfl,hj⟩:=dn hd
  dsimp only
  refine Cc hf (by have:=hb j (by lia);lia) hn40 hj (by lia) (by lia) hA λf' ms' hf' hA'=>hkn _ ⟨f',ms',rfl,hf'.le ?_,hA'⟩
  rw[Nat.mul_succ];lia
 ·rintro s ⟨f,ms,rfl,hf,hA⟩
  rw[zzd,ba]at hf hA
  dsimp only
  unfold iI
  have hfb:=hb n (ai _)
  rw[g9,oMS,bdR,bdR]
  exact⟨⟨n,st,ms,sy⟩,f,rfl,⟨(show 1<=n by lia),r1,l2,hA.ok,hA.so⟩,(show n<=most by lia),(show 1<=st.length by lia),(show st.length<=4 by lia),hA.le,hf.le (by lia)⟩
end K42
namespace K42
variable {α:Type}{f:Nat->Nat}
theorem snocInd{P:List α->Prop}(h0:P [])(h1:∀l a,P l->P (l++[a])):∀l,P l:=by
 have:∀l:List α,P l.reverse:=λl=>by
  induction l with
  | nil=>exact h0
  | cons a l ih=>rw[List.reverse_cons];exact h1 _ a ih
 intro l
 have:=this l.reverse
 rwa [List.reverse_reverse]at this
def hgt(p:List Nat):Nat:=p.foldl (λm k=>max m (k+1)) 0
theorem eN(p:List Nat)(k:Nat):hgt (p++[k])=max (hgt p) (k+1):=by unfold hgt;rw[wS];rfl
theorem rC{k:Nat}:∀{p:List Nat},k∈p->k<hgt p:=λ{p}=>by
 induction p using snocInd with
 | h0=>intro h;simp at h
 | h1 l a ih =>
  intro h
  rw[eN]
  rcases List.mem_append.mp h with h|h
  ·have:=ih h;lia
  ·have:k=a:=by simpa using h
   lia
inductive RG:List Nat->Prop
 | nil:RG []
 | snoc {p:List Nat} {k:Nat}:RG p->k<=hgt p->RG (p++[k])
theorem RG.inv{p:List Nat}{k:Nat}(h:RG (p++[k])):RG p/\k<=hgt p:=by
 generalize e:p++[k]=q at h
 cases h with
 | nil=>simp at e
 | snoc a b =>
  obtain⟨rfl,e2⟩:=List.append_inj' e rfl
  cases e2
  exact⟨a,b⟩
theorem RG.occ{p:List Nat}{k:Nat}(h:RG p)(hk:k<hgt p):k∈p:=by
 induction h with
 | nil=>simp[hgt]at hk
 | snoc h hb ih =>
  rename_i p a
  rw[eN]at hk
  rw[L9]
  by_cases e:k=a
  ·exact .inr (by simp[e])
  ·exact .inl (ih (by lia))
theorem zF{f h:α->Nat}:∀{l:List α},RG (l.map f)->RG (l.map h)->(∀x∈l,∀y∈l,h x=h y->f x=f y) ->
  hgt (l.map f)<=hgt (l.map h)/\(hgt (l.map f)=hgt (l.map h)->l.map f=l.map h):=λ{l}=>by
 induction l using snocInd with
 | h0=>intro _ _ _;exact⟨ai _,λ_=>rfl⟩
 | h1 l a ih =>
  intro hf hh hr
  simp only[eg,ax,Ch]at hf hh ⊢
  obtain⟨f1,f2⟩:=hf.inv
  obtain⟨h1,h2⟩:=hh.inv
  obtain⟨i1,i2⟩:=ih f1 h1 λx hx y hy=>hr x (by simp[hx]) y (by simp[hy])
  rw[eN,eN]
  rcases Lo (h a) (hgt (l.map h))with hb|hb
  ·obtain⟨x,hx,ex⟩:=List.mem_map.mp (h1.occ hb)
   have ea:=hr x (by simp[hx]) a (by simp) ex
   have fa:f a<hgt (l.map f):=rC (List.mem_map.mpr ⟨x,hx,ea⟩)
   refine⟨by lia,λe=>?_⟩
   have e':=i2 (by lia)
   rw[e']
   have:f x=h x:=by
    have:=List.map_inj_left.mp e' x hx
    exact this
   rw[<-ea,<-ex,this]
  ·refine⟨by lia,λe=>?_⟩
   have e':=i2 (by lia)
   have:f a=h a:=by rw[e']at f2 e;lia
   rw[e',this]
section
variable {β:Type} [DecidableEq β]
def dd(g:α->β)(l:List α):List β:=l.foldl (λacc x=>if g x∈acc then acc else acc++[g x]) []
theorem fj(g:α->β)(l:List α)(a:α):dd g (l++[a])=if g a∈dd g l then dd g l else dd g l++[g a]:=by unfold dd;rw[wS];rfl
def num(g:α->β)(l:List α)(x:α):Nat:=(dd g l).idxOf (g x)
theorem Bu{g:α->β}{x:α}:∀{l:List α},x∈l->g x∈dd g l:=λ{l}=>by
 induction l using snocInd with
 | h0=>intro h;simp at h
 | h1 l a ih =>
  intro h
  rw[fj]
  rcases List.mem_append.mp h with h|h
  ·split
   ·exact ih h
   ·exact Lh _ (ih h)
  ·have:x=a:=by simpa using h
   subst this
   split
   ·assumption
   ·simp
theorem sX{g:α->β}{l:List α}{a x:α}(h:x∈l):num g (l++[a]) x=num g l x:=by
 unfold num
 rw[fj]
 split
 ·rfl
 ·rw[List.idxOf_append,ar (Bu h)]
theorem u5{g:α->β}:∀{l:List α},RG (l.map (num g l))/\hgt (l.map (num g l))=(dd g l).length:=λ{l}=>by
 induction l using snocInd with
 | h0=>exact⟨.nil,rfl⟩
 | h1 l a ih =>
  have e:(l++[a]).map (num g (l++[a]))=l.map (num g l)++[num g (l++[a]) a]:=by
   rw[eg,ax,Ch]
   congr 1
   exact ix λx hx=>sX hx
  rw[e]
  have ea:num g (l++[a]) a=(dd g (l++[a])).idxOf (g a):=rfl
  rw[fj]at ea ⊢
  rw[eN]
  split
  ·rename_i hm
   rw[ar hm]at ea
   have:=List.idxOf_lt_length_of_mem hm
   exact⟨.snoc ih.1 (by rw[ih.2];lia),by rw[ih.2];lia⟩
  ·rename_i hm
   rw[au hm,List.idxOf_append,au hm]at ea
   have e0:[g a].idxOf (g a)=0:=by simp
   rw[e0]at ea
   refine⟨.snoc ih.1 (by rw[ih.2];lia),?_⟩
   rw[ih.2,zzf]
   simp only[eh,fi]
   lia
theorem Dj{l:List β}{a b:β}(ha:a∈l)(e:l.idxOf a=l.idxOf b):a=b:=by
 have h1:=List.idxOf_lt_length_of_mem ha
 have h2:l[l.idxOf a]=a:=List.getElem_idxOf h1
 have h3:l.idxOf b<l.length:=by rw[<-e];exact h1
 have h4:l[l.idxOf b]=b:=List.getElem_idxOf h3
 rw[<-h2,<-h4]
 simp only[e]
theorem mC{g:α->β}{l:List α}{x y:α}(hx:x∈l)(e:num g l x=num g l y):g x=g y:=Dj (Bu hx) e
theorem As{g:α->β}{l:List α}{x y:α}(e:g x=g y):num g l x=num g l y:=by unfold num;rw[e]
end
def srt(p:Nat×Nat):Nat×Nat:=(min p.1 p.2,max p.1 p.2)
theorem zq{p q:Nat×Nat}:srt p=srt q↔p=q\/p=(q.2,q.1):=by
 obtain⟨a,b⟩:=p
 obtain⟨c,d⟩:=q
 unfold srt
 simp only[Prod.mk.injEq]
 lia
section
variable (l:List Nat) (t:Nat->Nat->Nat×Nat) (sy:Nat->Bool)
def bh(f:Nat->Nat)(x y:Nat):Nat×Nat:=srt (f (t x y).1,f (t x y).2)
def mk(f:Nat->Nat)(x:Nat):Nat×List (Nat×Nat):=(f x,l.map (bh t f x))
def vZ(f:Nat->Nat):Prop:=∀x∈l,∀y∈l,f x=f y->sy x=sy y/\l.map (bh t f x)=l.map (bh t f y)
def Ref(h f:Nat->Nat):Prop:=∀x∈l,∀y∈l,h x=h y->f x=f y
def Cls:Prop:=∀x∈l,∀y∈l,(t x y).1∈l/\(t x y).2∈l
variable {l t sy}
theorem zJ{h:Nat->Nat}(c:Cls l t)(s:vZ l t sy h)(r:Ref l h f):Ref l h (num (mk l t f) l):=λx hx y hy e=>by
 refine As ?_
 unfold mk
 refine Prod.ext (r x hx y hy e) ?_
 refine ix λo ho=>?_
 have e1:=List.map_inj_left.mp (s x hx y hy e).2 o ho
 unfold bh at e1 ⊢
 rw[zq]at e1 ⊢
 simp only[Prod.mk.injEq]at e1 ⊢
 obtain⟨a1,a2⟩:=c x hx o ho
 obtain⟨b1,b2⟩:=c y hy o ho
 rcases e1 with ⟨z1,z2⟩|⟨z1,z2⟩
 ·exact .inl ⟨r _ a1 _ b1 z1,r _ a2 _ b2 z2⟩
 ·exact .inr ⟨r _ a1 _ b2 z1,r _ a2 _ b1 z2⟩
theorem zK{h:Nat->Nat}(s:vZ l t sy h):Ref l h (num sy l):=λx hx y hy e=>As (s x hx y hy e).1
theorem xQ(c:Cls l t)(hf:RG (l.map f))(hs:∀x∈l,∀y∈l,f x=f y->sy x=sy y)(ht:hgt (l.map (num (mk l t f) l))<=hgt (l.map f)) :
  vZ l t sy (num (mk l t f) l):=by
 have r:Ref l (num (mk l t f) l) f:=λx hx y hy e=>congrArg Prod.fst (mC hx e)
 obtain⟨h1,h2⟩:=zF (f:=f) (h:=num (mk l t f) l) hf u5.1 r
 have e:=List.map_inj_left.mp (h2 (by lia))
 intro x hx y hy exy
 have em:=mC hx exy
 refine⟨hs x hx y hy (congrArg Prod.fst em),?_⟩
 have e2:l.map (bh t f x)=l.map (bh t f y):=congrArg Prod.snd em
 have go:∀z∈l,l.map (bh t (num (mk l t f) l) z)=l.map (bh t f z):=λz hz=>ix λo ho=>by
  obtain⟨a1,a2⟩:=c z hz o ho
  unfold bh
  rw[e _ a1,e _ a2]
 rw[go x hx,go y hy,e2]
theorem fL{l:List Nat}(h:RG (l.map f)):hgt (l.map f)<=l.length:=by
 have:∀{p:List Nat},RG p->hgt p<=p.length:=λh=>by
  induction h with
  | nil=>exact ai _
  | snoc h hb ih=>rw[eN,zzf];simp only[eh,fi];lia
 have:=this h
 rwa [zzd]at this
end
def rows:Nat->List (List Nat)
 | 0=>[[]]
 | n+1=>(rows n).flatMap λp=>(List.range (hgt p+1)).map λk=>p++[k]
theorem mem_rows:∀{n:Nat} {p:List Nat},p∈rows n↔RG p/\p.length=n
 | 0,p=>by
  unfold rows
  constructor
  ·intro h;have:p=[]:=by simpa using h
   subst this;exact⟨.nil,rfl⟩
  ·rintro⟨_,h⟩;have:p=[]:=List.length_eq_zero_iff.mp h
   simp[this]
 | n+1,p=>by
  unfold rows
  rw[List.mem_flatMap]
  constructor
  ·rintro⟨q,hq,h⟩
   obtain⟨k,hk,rfl⟩:=List.mem_map.mp h
   obtain⟨h1,h2⟩:=mem_rows.mp hq
   have:=List.mem_range.mp hk
   exact⟨.snoc h1 (by lia),by simp[h2]⟩
  ·rintro⟨h,hl⟩
   cases h with
   | nil=>simp at hl
   | snoc h hk =>
    rename_i q k
    exact⟨q,mem_rows.mpr ⟨h,by simpa using hl⟩,List.mem_map.mpr ⟨k,List.mem_range.mpr (by lia),rfl⟩⟩
def seek(stab:List Nat->Bool)(b:Option (List Nat))(p:List Nat):Option (List Nat):=match b with
 | none=>if stab p then some p else none
 | some q=>if hgt p<hgt q then(if stab p then some p else some q)else some q
theorem Cb{stab:List Nat->Bool}{P:List Nat}{ps:List (List Nat)}(hP:P∈ps)(hs:stab P=true)(hu:∀q∈ps,stab q=true->q=P\/hgt P<hgt q):ps.foldl (seek stab) none=some P:=by
 have after:∀qs:List (List Nat),(∀q∈qs,q∈ps)->qs.foldl (seek stab) (some P)=some P:=λqs=>by
  induction qs with
  | nil=>intro _;rfl
  | cons q r ih =>
   intro h
   rw[ul]
   have:seek stab (some P) q=some P:=by
    unfold seek
    dsimp only
    split
    ·rename_i hlt
     split
     ·rename_i hst
      rcases hu q (h q (by simp)) hst with e|e
      ·rw[e]
      ·lia
     ·rfl
    ·rfl
   rw[this]
   exact ih λq hq=>h q (by simp[hq])
 have go:∀(qs:List (List Nat)) (b:Option (List Nat)),(∀q∈qs,q∈ps)->P∈qs->(∀q,b=some q->q∈ps/\stab q=true)->qs.foldl (seek stab) b=some P:=λqs=>by
  induction qs with
  | nil=>intro b _ h;simp at h
  | cons q r ih =>
   intro b h hm hb
   rw[ul]
   have keep:∀q',seek stab b q=some q'->q'∈ps/\stab q'=true:=λq' e=>by
    unfold seek at e
    split at e
    ·split at e
     ·cases e;exact⟨h _ (by simp),by assumption⟩
     ·cases e
    ·split at e
     ·split at e
      ·cases e;exact⟨h _ (by simp),by assumption⟩
      ·cases e;exact hb _ rfl
     ·cases e;exact hb _ rfl
   rcases List.mem_cons.mp hm with e|hm
   ·subst e
    have:seek stab b P=some P:=by
     unfold seek
     split
     ·rw[ar hs]
     ·rename_i q'
      obtain⟨h1,h2⟩:=hb q' rfl
      rcases hu q' h1 h2 with e|e
      ·subst e;simp
      ·rw[ar e,ar hs]
    rw[this]
    exact after r λq hq=>h q (by simp[hq])
   ·exact ih _ (λq hq=>h q (by simp[hq])) hm keep
 exact go ps none (λ_ h=>h) hP λq e=>nomatch e
end K42
namespace K42
open L4
variable {K:List Nat}{n x:Nat}{ms:List Mt}
def add(K:List Nat)(x:Nat):List Nat:=if x∈K then K else K++[x]
theorem xB(K:List Nat)(x:Nat):K <+: add K x:=by
 unfold add
 split
 ·exact List.prefix_rfl
 ·exact List.prefix_append _ _
theorem mem_add{y:Nat}:y∈add K x↔y∈K\/y=x:=by
 unfold add
 split
 ·exact⟨.inl,λh=>h.elim id λe=>by rw[e];assumption⟩
 ·simp
theorem zc(h:K.Nodup):(add K x).Nodup:=by
 unfold add
 split
 ·exact h
 ·rename_i hx
  rw[Kn]
  exact⟨h,by simp,λa ha b hb=>by
   have:b=x:=by simpa using hb
   intro e;rw[<-this,<-e]at hx;exact hx ha⟩
def mstep(K:List Nat)(m:Mt):List Nat:=if m.1∈K/\m.2.1∈K then add (add K m.2.2.1) m.2.2.2 else K
theorem qb(K:List Nat)(m:Mt):K <+: mstep K m:=by
 unfold mstep
 split
 ·exact(xB _ _).trans (xB _ _)
 ·exact List.prefix_rfl
def pass(ms:List Mt)(K:List Nat):List Nat:=ms.foldl mstep K
theorem eD:∀(ms:List Mt) (K:List Nat),K <+: pass ms K
 | [],K=>List.prefix_rfl
 | m::r,K=>(qb K m).trans (eD r _)
structure Gd(n:Nat)(K:List Nat):Prop where
 nd:K.Nodup
 lt:∀x∈K,x<n
theorem Gd.add(h:Gd n K)(hx:x<n):Gd n (add K x) :=
 ⟨zc h.nd,λy hy=>(mem_add.mp hy).elim (h.lt y) λe=>by rw[e];exact hx⟩
theorem Gd.mstep{m:Mt}(h:Gd n K)(hc:m.2.2.1<n)(hd:m.2.2.2<n):Gd n (mstep K m):=by
 unfold K42.mstep
 split
 ·exact(h.add hc).add hd
 ·exact h
theorem Gd.pass:∀{ms:List Mt} {K:List Nat},Gd n K->(∀m∈ms,m.2.2.1<n/\m.2.2.2<n)->Gd n (pass ms K)
 | [],K,h,_=>h
 | m::r,K,h,hm=>Gd.pass (ms:=r) (h.mstep (hm m (by simp)).1 (hm m (by simp)).2) λm' h'=>hm m' (by simp[h'])
theorem d3:∀{K:List Nat},Gd n K->K.length<=n:=λ{K} h=>by
 have:∀(K m:List Nat),K.Nodup->(∀x∈K,x∈m)->K.length<=m.length:=λK=>by
  induction K with
  | nil=>intro m _ _;exact aw _
  | cons a K ih =>
   intro m hn hs
   rw[List.nodup_cons]at hn
   have ha:=hs a ak
   have h:=ih (m.erase a) hn.2 λx hx=>by
    have:x≠a:=λz=>hn.1 (z▸hx)
    exact(List.mem_erase_of_ne this).mpr (hs x (zzg _ hx))
   rw[List.length_erase_of_mem ha]at h
   have:0<m.length:=K6 ha
   rw[eh]
   lia
 have:=this K (List.range n) h.nd λx hx=>List.mem_range.mpr (h.lt x hx)
 simpa using this
theorem qY{a b:List Nat}(h:a <+: b)(hl:b.length<=a.length):a=b:=h.eq_of_length (by have:=h.length_le;lia)
theorem vy(h:pass ms K=K){m:Mt}(hm:m∈ms)(ha:m.1∈K)(hb:m.2.1∈K):m.2.2.1∈K/\m.2.2.2∈K:=by
 obtain⟨l1,l2,rfl⟩:=List.append_of_mem hm
 have e:pass (l1++m::l2) K=pass l2 (mstep (pass l1 K) m):=by unfold pass;rw[wS];rfl
 rw[e]at h
 have p1:=eD l1 K
 have p2:=qb (pass l1 K) m
 have p3:=eD l2 (mstep (pass l1 K) m)
 rw[h]at p3
 have l1':=p1.length_le
 have l2':=p2.length_le
 have l3':=p3.length_le
 have e1:=qY p1 (by lia)
 have e2:=qY p3 (by lia)
 rw[<-e1]at e2
 unfold mstep at e2
 rw[ar ⟨ha,hb⟩]at e2
 have h1:m.2.2.1∈add (add K m.2.2.1) m.2.2.2:=mem_add.mpr (.inl (mem_add.mpr (.inr rfl)))
 have h2:m.2.2.2∈add (add K m.2.2.1) m.2.2.2:=mem_add.mpr (.inr rfl)
 rw[e2]at h1 h2
 exact⟨h1,h2⟩
def it(ms:List Mt):Nat->List Nat->List Nat
 | 0,K=>K
 | j+1,K=>pass ms (it ms j K)
theorem A7(ms:List Mt)(a:Nat):∀b K,it ms (a+b) K=it ms b (it ms a K)
 | 0,K=>rfl
 | b+1,K=>by show pass ms (it ms (a+b) K)=_;rw[A7 ms a b K];rfl
theorem A6{ms:List Mt}{K:List Nat}(h:pass ms K=K):∀b,it ms b K=K
 | 0=>rfl
 | b+1=>by show pass ms (it ms b K)=K;rw[A6 h b,h]
theorem tS{n:Nat}{ms:List Mt}{K:List Nat}(h:Gd n K)(hm:∀m∈ms,m.2.2.1<n/\m.2.2.2<n):∀j,Gd n (it ms j K)
 | 0=>h
 | j+1=>(tS h hm j).pass hm
theorem Iy(h:Gd n K)(h0:K≠[])(hm:∀m∈ms,m.2.2.1<n/\m.2.2.2<n):pass ms (it ms n K)=it ms n K:=by
 have go:∀j,pass ms (it ms j K)=it ms j K\/j+1<=(it ms j K).length:=λj=>by
  induction j with
  | zero=>exact .inr (by have:=List.length_pos_iff.mpr h0;exact this)
  | succ j ih =>
   rcases ih with e|e
   ·left;show pass ms (pass ms (it ms j K))=pass ms (it ms j K);rw[e,e]
   ·by_cases hl:(pass ms (it ms j K)).length<=(it ms j K).length
    ·have:=qY (eD ms (it ms j K)) hl
     left;show pass ms (pass ms (it ms j K))=pass ms (it ms j K);rw[<-this,<-this]
    ·right;show j+1+1<=(pass ms (it ms j K)).length;lia
 rcases go n with e|e
 ·exact e
 ·have:=d3 (tS h hm n);lia
theorem Df{i j:Nat}(hi:pass ms (it ms i K)=it ms i K)(hj:pass ms (it ms j K)=it ms j K):it ms i K=it ms j K:=by
 have go:∀{i j},pass ms (it ms i K)=it ms i K->i<=j->it ms i K=it ms j K:=λ{i j} h hle=>by
  have:=A7 ms i (j - i) K
  rw[A6 h,show i+(j - i)=j by lia]at this
  exact this.symm
 rcases Nat.le_total i j with h|h
 ·exact go hi h
 ·exact(go hj h).symm
def dS(n:Nat)(K:List Nat):List Nat:=(List.range n).filter (· ∈ K)
theorem eM(h:Gd n K):x∈dS n K↔x∈K:=by
 unfold dS
 rw[List.mem_filter,List.mem_range]
 exact⟨λz=>by simpa using z.2,λz=>⟨h.lt x z,by simpa using z⟩⟩
theorem jr:(dS n K).Nodup:=List.nodup_range.sublist List.filter_sublist
theorem jI:(dS n K).length<=n:=by
 have:=List.length_filter_le (λx=>decide (x∈K)) (List.range n)
 rw[ba]at this
 exact this
theorem qP(h:x∈dS n K):x<n:=by
 unfold dS at h
 exact List.mem_range.mp (List.mem_filter.mp h).1
end K42
namespace K42
open PySem PySem.Spec PyProof.Rows L2 L3 L4
variable {r:Rl}{f:Nat->Nat}{rs p K:List Nat}{n x T:Nat}{F:List (Nat×Nat)}{α β:Type}{ms:List Mt}
theorem jz(a b:Nat):eY (iN a) (iN b)=decide (a=b):=by
 show decide ((a:Int)=(b:Int))=_
 rw[Km,zzi,zzi]
 lia
section
variable {ι:Type} [DecidableEq ι] {e:ι->D}
def kG(e:ι->D)(v:ι->D)(x:ι):D×D:=(e x,v x)
theorem jA(he:∀a b,eY (e a) (e b)=decide (a=b))(v:ι->D)(k:ι):∀F:List ι,e6 (F.map (kG e v)) (e k)=if k∈F then some (v k)else none
 | []=>by simp[e6]
 | a::F=>by
  have ih:=jA he v k F
  unfold e6 at ih ⊢
  rw[ax,ue,show eY (kG e v a).1 (e k)=_ from he a k]
  by_cases h:a=k
  ·subst h;simp[kG]
  ·rw[bu h,ih]
   have:(k∈a::F)↔k∈F:=by rw[eE];exact⟨λz=>z.elim (λz=>absurd z.symm h) id,.inr⟩
   simp only[this]
theorem qX(he:∀a b,eY (e a) (e b)=decide (a=b))(v:ι->D)(k:ι)(d:D)(F:List ι) :
  lQ (F.map (kG e v)) (e k) d=(if k∈F then F else F++[k]).map (kG e λx=>if x=k then d else v x):=by
 have hany:(F.map (kG e v)).any (λp=>eY p.1 (e k))=decide (k∈F):=by
  rw[Km,List.any_eq_true,zzi]
  constructor
  ·rintro⟨p,hp,hk⟩
   obtain⟨a,ha,rfl⟩:=List.mem_map.mp hp
   rw[show eY (kG e v a).1 (e k)=_ from he a k,zzi]at hk
   rw[<-hk];exact ha
  ·intro h
   exact⟨_,List.mem_map.mpr ⟨k,h,rfl⟩,by rw[show eY (kG e v k).1 (e k)=_ from he k k];simp⟩
 unfold lQ
 rw[hany]
 by_cases h:k∈F
 ·rw[ar (by simpa using h),ar h,ib]
  refine ix λa _=>?_
  show(if eY (kG e v a).1 (e k)then((kG e v a).1,d)else kG e v a)=_
  rw[show eY (kG e v a).1 (e k)=_ from he a k]
  by_cases hh:a=k<;>simp[kG,hh]
 ·rw[au (by simpa using h),au h,eg,ax,Ch]
  congr 1
  ·refine ix λa ha=>?_
   have:a≠k:=λz=>h (z▸ha)
   simp[kG,this]
  ·simp[kG]
end
abbrev kN(v:Nat->D):Nat->D×D:=kG iN v
abbrev kP(v:Nat×Nat->D):Nat×Nat->D×D:=kG pD v
theorem mF(v:Nat->D)(F:List Nat)(k:Nat):keyOk (F.map (kN v)) (iN k)=true:=by
 unfold keyOk
 rw[um]
 right
 rw[ac,ir]
 refine⟨rfl,λx hx=>?_⟩
 obtain⟨q,_,rfl⟩:=List.mem_map.mp hx
 rfl
theorem C9(v:Nat×Nat->D)(F:List (Nat×Nat))(k:Nat×Nat):keyOk (F.map (kP v)) (pD k)=true:=by
 unfold keyOk
 rw[um]
 left
 rw[ac,ir]
 refine⟨rfl,λx hx=>?_⟩
 obtain⟨q,_,rfl⟩:=List.mem_map.mp hx
 rfl
theorem A8(v:Nat->D)(F:List Nat):ja (F.map (kN v))=false:=by cases F<;>rfl
theorem ixN{v:Nat->D}{F:List Nat}{k:Nat}(h:k∈F):aE (.dict (F.map (kN v))) (iN k)=some (v k):=by
 show(if keyOk (F.map (kN v)) (iN k)then e6 (F.map (kN v)) (iN k)else none)=_
 rw[ar (mF v F k),jA jz,ar h]
theorem ixP{v:Nat×Nat->D}{k:Nat×Nat}(h:k∈F):aE (.dict (F.map (kP v))) (pD k)=some (v k):=by
 show(if keyOk (F.map (kP v)) (pD k)then e6 (F.map (kP v)) (pD k)else none)=_
 rw[ar (C9 v F k),jA iS,ar h]
theorem inN(v:Nat->D)(F:List Nat)(k:Nat):iw (iN k) (.dict (F.map (kN v)))=some (decide (k∈F)):=by
 show(if keyOk (F.map (kN v)) (iN k)then some (e6 (F.map (kN v)) (iN k)).isSome else none)=_
 rw[ar (mF v F k),jA jz]
 by_cases h:k∈F<;>simp[h]
theorem Gz(v:Nat->D)(F:List Nat)(k:Nat)(z:D):jl (.dict (F.map (kN v))) (iN k) z=some (if k∈F then v k else z):=by
 show(if keyOk (F.map (kN v)) (iN k)then some ((e6 (F.map (kN v)) (iN k)).getD z)else none)=_
 rw[ar (mF v F k),jA jz]
 by_cases h:k∈F<;>simp[h]
theorem GA(v:Nat->D)(F:List Nat)(k:Nat):qv (.dict (F.map (kN v))) (iN k)=some (if k∈F then v k else .none):=by
 show(if keyOk (F.map (kN v)) (iN k)then some ((e6 (F.map (kN v)) (iN k)).getD .none)else none)=_
 rw[ar (mF v F k),jA jz]
 by_cases h:k∈F<;>simp[h]
theorem putN{v:Nat->D}{F:List Nat}{k:Nat}{d:D}(hl:F.length<=90000)(hd:d=v k):cW false (F.map (kN v)) (iN k) d=some ((add F k).map (kN v)):=by
 unfold cW
 rw[ar,qX jz]
 ·congr 1
  unfold add
  refine ix λx _=>?_
  by_cases h:x=k
  ·subst h;simp[kG,hd]
  ·simp[kG,h]
 ·rw[ac,zzi,zzd]
  exact⟨rfl,oz hl (by decide)⟩
theorem Fo{v:Nat×Nat->D}{k:Nat×Nat}{d:D}(hl:F.length<=90000)(hk:k∈F):cW true (F.map (kP v)) (pD k) d=some (F.map (kP λx=>if x=k then d else v x)):=by
 unfold cW
 rw[ar,qX iS,ar hk]
 rw[ac,zzi,zzd]
 exact⟨rfl,oz hl (by decide)⟩
theorem HJ{v:Nat×Nat->D}{k:Nat×Nat}{d:D}(hl:F.length<=90000)(hk:k∉F)(hd:d=v k):cW true (F.map (kP v)) (pD k) d=some ((F++[k]).map (kP v)):=by
 unfold cW
 rw[ar,qX iS,au hk]
 ·congr 1
  refine ix λx _=>?_
  by_cases h:x=k
  ·subst h;simp[kG,hd]
  ·simp[kG,h]
 ·rw[ac,zzi,zzd]
  exact⟨rfl,oz hl (by decide)⟩
theorem sdN{v:Nat->D}{F:List Nat}{k:Nat}{z:D}(hl:F.length<=90000)(hz:k∉F->z=v k):sdD (F.map (kN v)) (iN k) z=some (v k,(add F k).map (kN v)):=by
 unfold sdD
 rw[ar,jA jz]
 ·by_cases h:k∈F
  ·rw[ar h]
   dsimp only
   unfold add
   rw[ar h]
  ·rw[au h]
   dsimp only
   rw[qX jz,hz h]
   congr 2
   unfold add
   refine ix λx _=>?_
   by_cases h:x=k
   ·subst h;simp[kG]
   ·simp[kG,h]
 ·rw[ac,zzi,zzd]
  exact⟨rfl,oz hl (by decide)⟩
theorem JH(v:Nat->D)(F:List Nat):t6 [.dict (F.map (kN v))]=some (iN F.length):=by
 show(if ja (F.map (kN v))then none else some (PyData.int (F.map (kN v)).length))=_
 rw[A8,zzd];rfl
theorem Iv(v:Nat->D)(F:List Nat):lg [.dict (F.map (kN v))]=some (F.map iN):=by
 show(if ja (F.map (kN v))then none else some ((F.map (kN v)).map (·.1)))=_
 rw[A8,ib];rfl
theorem sq{S T:Type}{step:T->(T->M S)->M S}{μ:T->Nat}{P:T->Prop}{R:M S->Prop}(h:∀s,P s->∀kn,(∀s',P s'->μ s'<μ s->R (kn s'))->R (step s kn)):∀(fuel:Nat) (s:T),P s->μ s<fuel->R (cx step fuel s)
 | 0,s,_,hm=>absurd hm (L8 _)
 | fuel+1,s,hp,hm=>by
  show R (step s λs'=>cx step fuel s')
  exact h s hp _ λs' hp' hlt=>sq h fuel s' hp' (by lia)
theorem pM{S T:Type}{step:T->(T->M S)->M S}(μ:T->Nat)(P:T->Prop){R:M S->Prop}{fuel:Nat}{s:T}(h:∀s,P s->∀kn,(∀s',P s'->μ s'<μ s->R (kn s'))->R (step s kn))(hp:P s)(hm:μ s<fuel):R (mN step fuel s):=by
 rw[pN]
 exact sq h fuel s hp hm
def tw(bs:List Nat)(room:Nat):List Nat:=(List.range bs.length).filter λk=>bs.getD k 0=room
theorem G6{bs:List Nat}{room k:Nat}(h:k∈tw bs room):k<bs.length:=by
 unfold tw at h
 exact List.mem_range.mp (List.mem_filter.mp h).1
theorem ET{bs:List Nat}{room:Nat}(h:room∈bs):0<(tw bs room).length:=by
 obtain⟨k,hk,e⟩:=List.mem_iff_getElem.mp h
 refine K6 (a:=k) ?_
 unfold tw
 rw[List.mem_filter,List.mem_range,zzi]
 exact⟨hk,by rw[ou,de hk];exact e⟩
theorem DY(bs:List Nat)(room:Nat):(tw bs room).length<=bs.length:=by
 have:=List.length_filter_le (λk=>decide (bs.getD k 0=room)) (List.range bs.length)
 rw[ba]at this
 exact this
abbrev tD(bs:List Nat)(room:Nat):D:=.list ((tw bs room).map iN)
abbrev twD(n:Nat)(bs:List Nat):D:=.list ((List.range n).map (tD bs))
theorem DZ{bs:List Nat}{room:Nat}(h:room<n):aE (twD n bs) (iN room)=some (tD bs room):=by
 rw[jk,lI (tD bs) (List.range n) room (by simpa using h)]
 simp
theorem pick{f:List D}{bs:List Nat}{room:Nat}(hf:Fd T f)(hT:T<=995000)(hin:room∈bs)(hl:bs.length<=6) :
  ∃k j f',k<bs.length/\Fd (T+1) f'/\aJ f (.int ((tw bs room).map iN).length)=.ret (iN j,f')/\aE (tD bs room) (iN j)=some (iN k):=by
 have hp:=ET hin
 have hle:=DY bs room
 rw[zzd]
 obtain⟨j,f',e,hj,hf'⟩:=cD (m:=(tw bs room).length) hf (by lia) hp (by lia)
 exact⟨(tw bs room)[j],j,f',G6 (Kk hj),hf',e,by rw[jk,lI iN (tw bs room) j hj]⟩
theorem Ii(ms:List Mt)(p:Nat×Nat):iw (pD p) (.dict (ms.map kvM))=some (look ms p).isSome:=by
 show(if keyOk (ms.map kvM) (pD p)then some (e6 (ms.map kvM) (pD p)).isSome else none)=_
 rw[ar (tN ms p),rJ]
 cases look ms p<;>rfl
theorem C0(w:Wf r){p:Nat×Nat}(h1:p.1<r.n)(h2:p.2<r.n):((look r.ms p).getD p).1<r.n/\((look r.ms p).getD p).2<r.n:=by
 cases e:look r.ms p with
 | none=>exact⟨h1,h2⟩
 | some q =>
  have m:=w.ms _ (nM e)
  exact⟨m.c,m.d⟩
theorem By{R:M (D×List D)->Prop}{a:Nat}{f:List D}{bs:List Nat}{st sy:D}{kn:List D×D×D×List D×D×List (D×D)×List D×Unit->M (D×List D)}(hf:Fd T f)(hT:T<=990000)(hN:bs.length<=6)(ha:a<bs.length)(w:Wf r)
  (hb:∀x∈bs,x<r.n) (hall:∀x,x<r.n->x∈bs) (hA:Ahd bs.length a a ms)
  (k:∀f' ms',Fd (T+3*bs.length) f'->Ahd bs.length (a+1) (a+1) ms'->R (kn (f',st,sy,bs.map iN,twD r.n bs,r.ms.map kvM,ms'.map mD,()))):R (dL f st sy (bs.map iN) (twD r.n bs) (r.ms.map kvM) (ms.map mD) (iN a) kn):=by
 unfold dL
 rw[lenL,oMS,bdR,zzd,mv a bs.length (by lia) (by lia),oMS,bdR]
 refine dW (P:=λi s=>∃f ms,s=(f,st,sy,bs.map iN,twD r.n bs,r.ms.map kvM,List.map mD ms,iN a,())/\Fd (T+3*i) f/\Ahd bs.length a (a+i) ms) _ _ ?_ ⟨f,ms,rfl,hf,hA⟩ ?_
 ·rintro i s d hd ⟨f,ms,rfl,hf,hA⟩ kn hkn
  obtain⟨rfl,hi⟩:=zD hd
  unfold gU
  dsimp only
  have h1:=hb _ (Kk ha)
  have h2:=hb _ (Kk hi)
  rw[jk,lI iN bs a ha,oMS,bdR,jk,lI iN bs (a+i) hi,oMS,bdR,bdR,bdR,mY,oMS,bdR,bdR,g9,oMS,bdR]
  generalize hp:(min bs[a] bs[a+i],max bs[a] bs[a+i])=p
  have hp1:min bs[a] bs[a+i]=p.1:=by rw[<-hp]
  have hp2:max bs[a] bs[a+i]=p.2:=by rw[<-hp]
  rw[hp1,hp2,rO]
  obtain⟨g1,g2⟩:=C0 w (p:=p) (by rw[<-hp1];lia) (by rw[<-hp2];lia)
  generalize (look r.ms p).getD p=q at g1 g2 ⊢
  have hcc:bp (λd61=>bd (oM (aE (twD r.n bs) d61)) λx62=>.ret (some x62)) ([q.1,q.2].map iN)=.ret ([q.1,q.2].map (tD bs)):=br _ λx hx=>by
   have hx':x<r.n:=by
    simp only[eE,wE,xz]at hx
    rcases hx with rfl|rfl
    ·exact g1
    ·exact g2
   rw[DZ hx',oMS,bdR]
  rw[oMS,bdR,pc,oMS,bdR,show[iN q.1,iN q.2]=[q.1,q.2].map iN from rfl,hcc,bdR,bG (by simp),bdR,bdR]
  have i0:aE (.list ([q.1,q.2].map (tD bs))) (.int 0)=some (tD bs q.1):=rfl
  have i1:aE (.list ([q.1,q.2].map (tD bs))) (.int 1)=some (tD bs q.2):=rfl
  obtain⟨c,jc,f1,hc,hf1,e1,x1⟩:=pick hf (by lia) (hall _ g1) hN
  obtain⟨e,je,f2,he,hf2,e2,x2⟩:=pick hf1 (by lia) (hall _ g2) hN
  rw[i0,oMS,bdR,bdR,lenL,oMS,bdR,e1,bdR];dsimp only
  rw[x1,oMS,bdR,i1,oMS,bdR,bdR,lenL,oMS,bdR,e2,bdR];dsimp only
  rw[x2,oMS,bdR,mY,oMS,bdR,bdR,Ih (min c e,max c e) (a,a+i),oMS,bdR]
  have skip:∀f4,Fd (T+3*i+3) f4->R (kn (f4,st,sy,bs.map iN,twD r.n bs,r.ms.map kvM,List.map mD ms,iN a,())):=λf4 hf4=>hkn _ ⟨f4,ms,rfl,hf4.le (by lia),hA.next⟩
  split
  ·rename_i hne
   have hlen:(ms.map mD).length<=100000:=by
    rw[zzd]
    have hle:=hA.le
    have:a*bs.length<=6*6:=KJ (by lia) hN
    lia
   have hne':¬ ((min c e,max c e)=(a,a+i)):=by
    rw[wT,kw]at hne
    exact hne
   have put:∀f4,Fd (T+3*i+3) f4->R (kn (f4,st,sy,bs.map iN,twD r.n bs,r.ms.map kvM,List.map mD ms++[mD (a,a+i,c,e)],iN a,())):=λf4 hf4=>by
    have:=hkn (f4,st,sy,bs.map iN,twD r.n bs,r.ms.map kvM,List.map mD (ms++[(a,a+i,c,e)]),iN a,()) ⟨f4,_,rfl,hf4.le (by lia),hA.add ⟨by simp,hi,hc,he,λz=>hne' (by
     have z1:c=a:=congrArg Prod.fst z
     have z2:e=a+i:=congrArg Prod.snd z
     rw[z1,z2,Lk (by lia),KO (by lia)]),λz=>hne' (by
     have z1:c=a+i:=congrArg Prod.fst z
     have z2:e=a:=congrArg Prod.snd z
     rw[z1,z2,Lc (by lia),KU (by lia)])⟩⟩
    rw[eg]at this
    exact this
   rw[Ii,oMS,bdR]
   split
   ·rw[lx _ _ hlen,oMS,bdR]
    exact put f2 (hf2.le (by lia))
   ·obtain⟨o,f3,e3,_,hf3⟩:=cD (m:=3) hf2 (by lia) (by lia) (by lia)
    have e3':aJ f2 (.int 3)=.ret (iN o,f3):=e3
    rw[e3',bdR];dsimp only
    rw[eqI,oMS,bdR]
    split
    ·rw[lx _ _ hlen,oMS,bdR]
     exact put f3 (hf3.le (by lia))
    ·exact skip f3 (hf3.le (by lia))
  ·exact skip f2 (hf2.le (by lia))
 ·rintro s ⟨f,ms,rfl,hf,hA⟩
  rw[zzd,db]at hf hA
  unfold gX
  exact k f ms (hf.le (by lia)) (hA.row (by lia))
def oY(T:Nat)(m:M (D×List D)):Prop:=∃(r:Rl) (f':List D),m=.ret (r.d,f')/\Wf r/\r.n<=6/\1<=r.st.length/\r.st.length<=4/\r.ms.length<=r.n*r.n+r.n/\Fd (T+1000) f'
theorem yZ{f:List D}{bs:List Nat}{lh:List (D×D)}(hf:Fd T f)(hT:T<=990000)(hN:bs.length<=6)(hN1:1<=bs.length)(w:Wf r)(h1:1<=r.st.length)(h4:r.st.length<=4)
  (hb:∀x∈bs,x<r.n) (hall:∀x,x<r.n->x∈bs) (hA:Ahd bs.length bs.length bs.length ms) :
  ∃(r':Rl) (f':List D),dM f (.tuple (r.st.map iN)) (.tuple (r.sy.map PyData.bool)) (bs.map iN) (twD r.n bs) lh (ms.map mD)=.ret (r'.d,f')/\Wf r'/\r'.n<=6/\1<=r'.st.length/\r'.st.length<=4/\r'.ms.length<=r'.n*r'.n+r'.n/\Fd (T+4) f':=by
 unfold dM
 rw[pc,oMS,bdR]
 obtain⟨st,s1,c1,⟨f1,hs1,hf1⟩,l1,r1⟩:=oD (P:=λj (s:List D×D×D×List D×D×List D×Unit)=>∃f,s=(f,.tuple (r.st.map iN),.tuple (r.sy.map PyData.bool),bs.map iN,twD r.n bs,ms.map mD,())/\Fd (T+j) f) (e:=iN) (R:=λx=>x<bs.length)
   (step:=λs30 d31=>bd (oM (aE s30.2.2.2.2.1 d31)) λx32=>bd (bd (oM (aE s30.2.2.2.2.1 d31)) λx33=>oM (dh [x33])) λx34=>bd (aJ s30.1 x34) λr35=>bd (oM (aE x32 r35.1)) λx36=>.ret (some x36,(r35.2,s30.2.1,s30.2.2.1,s30.2.2.2.1,s30.2.2.2.2.1,s30.2.2.2.2.2.1,()))) (r.st.map iN) (f,.tuple (r.st.map iN),.tuple (r.sy.map PyData.bool),bs.map iN,twD r.n bs,ms.map mD,())
   (by
    rintro j s d hd ⟨f,rfl,hf⟩
    have hj:j<r.st.length:=by
     have:=(List.getElem?_eq_some_iff.mp hd).1
     rwa [zzd]at this
    rw[ik]at hd
    obtain⟨x,hx,rfl⟩:=Option.map_eq_some_iff.mp hd
    have hxr:=w.st _ (wn hx)
    obtain⟨k,j',f',hk,hf',e1,x1⟩:=pick hf (by lia) (hall _ hxr) hN
    dsimp only
    rw[DZ hxr,oMS,bdR,bdR,lenL,oMS,bdR,e1,bdR];dsimp only
    rw[x1,oMS,bdR]
    exact⟨k,_,rfl,⟨f',rfl,hf'⟩,hk⟩) ⟨f,rfl,hf⟩
 subst hs1
 rw[zzd]at hf1 l1
 rw[c1,bdR];dsimp only
 have hcc:bp (λd42=>bd (oM (aE (.tuple (r.sy.map PyData.bool)) d42)) λx43=>.ret (some x43)) (bs.map iN)=.ret (bs.map λx=>PyData.bool (r.sy.getD x false)):=br _ λx hx=>by
  rw[bL,tQ PyData.bool r.sy x false (by rw[w.sy];exact hb x hx),oMS,bdR]
 rw[bG (by rw[zzd];lia),bdR,g9,oMS,bdR,lenL,oMS,bdR,g9,oMS,bdR,lP,oMS,bdR,hcc,bdR,bG (by rw[zzd];lia),bdR,bdR,g9,oMS,bdR,bdR]
 refine⟨⟨bs.length,st,ms,bs.map λx=>r.sy.getD x false⟩,f1,?_,⟨hN1,r1,by rw[zzd],hA.ok,hA.so⟩,hN,(show 1<=st.length by lia),(show st.length<=4 by lia),hA.le,hf1.le (by lia)⟩
 rw[zzd]
 congr 2
 simp only[Rl.d,ib]
 rfl
theorem qk(p:Nat->Bool):∀l:List Nat,l.filterMap (λk=>if p k then some (iN k)else none)=(l.filter p).map iN
 | []=>rfl
 | k::l=>by
  rw[ng,List.filter_cons,qk p l]
  cases p k<;>rfl
abbrev mP(m:Mt):D:=.tuple [pD (m.1,m.2.1),pD m.2.2]
theorem wG:∀(ms2 ms1:List Mt),(ms1++ms2).Pairwise (λm m'=>plt (m.1,m.2.1) (m'.1,m'.2.1))->(ms1++ms2).length<=90000->ig true (ms1.map kvM) (ms2.map mP)=some ((ms1++ms2).map kvM)
 | [],ms1,_,_=>by rw[mo];rfl
 | m::r,ms1,so,hl=>by
  have e3:cW true (ms1.map kvM) (pD (m.1,m.2.1)) (pD m.2.2)=some ((ms1++[m]).map kvM):=by
   unfold cW
   rw[show keyOf true (pD (m.1,m.2.1))=true from rfl,Bool.true_and,ar (by rw[zzd,zzi];rw[zzf]at hl;exact oz (show ms1.length<=90000 by lia) (by decide)),sK,eg]
   ·rfl
   ·intro x hx
    obtain⟨m',hm',rfl⟩:=List.mem_map.mp hx
    rw[iS,kw]
    intro z
    rw[Lg]at so
    have:=so.2.2 m' hm' m ak
    rw[z]at this
    rcases this with h|⟨_,h⟩<;>lia
  show(cW true (ms1.map kvM) (pD (m.1,m.2.1)) (pD m.2.2)).bind (λes1=>ig true es1 (r.map mP))=_
  have e:ms1++m::r=(ms1++[m])++r:=by simp
  rw[e3,e]
  exact wG r (ms1++[m]) (e▸so) (e▸hl)
theorem zn{bs:List Nat}(hl:bs.length<=6)(hn:n<=100) :
  bp (λd6=>bd (bd (bd (bd (oM (dh [(PyData.list (bs.map iN))])) λx7=>oM (kh [x7])) λl11=>bd (bp (λd8=>bd (bd (oM (aE (PyData.list (bs.map iN)) d8)) λx9=>oM (kS x9 d6)) λb10=>if b10 then .ret (some d8)else .ret none) l11) cC) λl12=>.ret (PyData.list l12)) λx13=>.ret (some x13)) ((List.range n).map iN)=.ret ((List.range n).map (tD bs)):=by
 refine br _ λroom _=>?_
 rw[lenL,oMS,bdR,zzd,jC,bP bs.length (by lia),oMS,bdR]
 have h:=ui (step:=λd8=>bd (bd (oM (aE (PyData.list (bs.map iN)) d8)) λx9=>oM (kS x9 (iN room))) λb10=>if b10 then .ret (some d8)else .ret none) (e:=iN) (g:=λk=>if decide (bs.getD k 0=room)then some (iN k)else none) (List.range bs.length) λk hk=>by
  have hk':=List.mem_range.mp hk
  rw[jk,lI iN bs k hk',oMS,bdR,eqN,oMS,bdR]
  have:bs.getD k 0=bs[k]:=by rw[ou,de hk'];rfl
  rw[this]
  split<;>rfl
 rw[h,bdR,qk,bG (by rw[zzd];exact ce (DY bs room) (by lia)),bdR,bdR]
 rfl
def G3(T:Nat)(m:M (D×List D)):Prop:=∃(r':Rl) (f':List D),m=.ret (r'.d,f')/\Wf r'/\r'.n<=6/\1<=r'.st.length/\r'.st.length<=4/\r'.ms.length<=r'.n*r'.n+r'.n/\Fd (T+900) f'
theorem yY{f:List D}{bs:List Nat}(hf:Fd T f)(hT:T<=900000)(hN:bs.length<=6)(hN1:1<=bs.length)(w:Wf r)(hn:r.n<=3)(h1:1<=r.st.length)(h4:r.st.length<=4)(hm:r.ms.length<=20)
  (hb:∀x∈bs,x<r.n) (hall:∀x,x<r.n->x∈bs) :
  G3 T (dN f (iN r.n) (.tuple (r.st.map iN)) (.tuple (r.ms.map mD)) (.tuple (r.sy.map PyData.bool)) (bs.map iN)):=by
 unfold dN
 have hmm:bp (λd17=>bd (bd (bd (asI (.int 2)) λhi18=>oM (n5 d17 none hi18)) λx19=>bd (bd (asI (.int 2)) λlo20=>oM (n5 d17 lo20 none)) λx21=>.ret (.tuple [x19,x21])) λx22=>.ret (some x22)) (r.ms.map mD)=.ret (r.ms.map mP):=br _ λm _=>by
  have e1:n5 (mD m) (some 2) none=some (pD m.2.2):=rfl
  have e2:n5 (mD m) none (some 2)=some (pD (m.1,m.2.1)):=rfl
  have a2:asI (.int 2)=.ret (some 2):=id rfl
  rw[a2,bdR,e2,oMS,bdR,bdR,e1,oMS,bdR,bdR]
 have hd:w9 true (.list (r.ms.map mP))=some (r.ms.map kvM):=wG r.ms [] w.so (by rw[List.nil_append];lia)
 rw[bP r.n (by lia),oMS,bdR,zn hN (by lia),bdR,bG (by rw[zzd,ba];lia),bdR,bdR,pc,oMS,bdR,hmm,bdR,bG (by rw[zzd];lia),bdR,bdR,hd,oMS,bdR,lenL,oMS,bdR,zzd,jC,bP bs.length (by lia),oMS,bdR]
 have hb6:∀j,j<=bs.length->3*bs.length*j<=108:=λj hj=>by
  have:bs.length*j<=6*6:=KJ hN (by lia)
  have e:3*bs.length*j=3*(bs.length*j):=Nat.mul_assoc _ _ _
  lia
 refine dW (R:=G3 T)
  (P:=λj s=>∃f ms,s=(f,.tuple (r.st.map iN),.tuple (r.sy.map PyData.bool),bs.map iN,twD r.n bs,r.ms.map kvM,List.map mD ms,())/\Fd (T+3*bs.length*j) f/\Ahd bs.length j j ms) _ _ ?_ ⟨f,[],rfl,hf.le (by lia),⟨λ_ h=>(nomatch h),.nil,λ_ h=>(nomatch h),aw _⟩⟩ ?_
 ·rintro j s d hd ⟨f,ms,rfl,hf,hA⟩ kn hkn
  obtain⟨rfl,hj⟩:=dn hd
  dsimp only
  refine By (R:=G3 T) hf (by have:=hb6 j (by lia);lia) hN hj w hb hall hA λf' ms' hf' hA'=>hkn _ ⟨f',ms',rfl,hf'.le ?_,hA'⟩
  rw[Nat.mul_succ];lia
 ·rintro s ⟨f,ms,rfl,hf,hA⟩
  rw[zzd,ba]at hf hA
  dsimp only
  have:=hb6 bs.length (ai _)
  obtain⟨r',f',e,a1,a2,a3,a4,a5,a6⟩:=yZ (lh:=r.ms.map kvM) hf (by lia) hN hN1 w h1 h4 hb hall hA
  exact⟨r',f',e,a1,a2,a3,a4,a5,a6.le (by lia)⟩
theorem Gf{bs:List Nat}{k room:Nat}(hk:k<=bs.length)(hl:bs.length<=10):CY (bs.map iN) [iN k,iN room]=some ((bs.take k++room::bs.drop k).map iN):=by
 show(if decide (0<=(k:Int))&&decide ((k:Int).toNat<=(bs.map iN).length)&&decide ((bs.map iN).length<sizeLine)then some ((bs.map iN).take (k:Int).toNat++iN room::(bs.map iN).drop (k:Int).toNat)else none)=_
 rw[ar]
 ·simp[eg,List.map_take,List.map_drop]
 ·rw[zzd]
  simp only[ac,zzi]
  exact⟨⟨by lia,by simpa using hk⟩,oz hl (by decide)⟩
theorem Bx{f:List D}(hf:Fd T f)(hT:T<=800000)(w:Wf r)(hn:r.n<=3)(h1:1<=r.st.length)(h4:r.st.length<=4)(hm:r.ms.length<=20):oY T (d0 f r.d):=by
 unfold d0
 have hu:∀(k:D->D->D->D->M (D×List D)),un4 r.d k=k (iN r.n) (.tuple (r.st.map iN)) (.tuple (r.ms.map mD)) (.tuple (r.sy.map PyData.bool)):=λ_=>id rfl
 rw[hu,bP r.n (by lia),oMS,bdR]
 refine dW (R:=oY T) (P:=λj s=>∃f bs,s=(f,iN r.n,.tuple (r.st.map iN),.tuple (r.ms.map mD),.tuple (r.sy.map PyData.bool),List.map iN bs,())/\Fd (T+3*j) f/\(∀x∈bs,x<r.n)/\(∀x,x<j->x∈bs)/\bs.length<=2*j) _ _ ?_ ⟨f,[],rfl,hf,λ_ h=>(nomatch h),λ_ h=>absurd h (L8 _),aw _⟩ ?_
 ·rintro j s d hd ⟨f,bs,rfl,hf,hb,hall,hl⟩ kn hkn
  obtain⟨rfl,hj⟩:=dn hd
  dsimp only
  unfold gV
  obtain⟨o,f1,e1,ho,hf1⟩:=cD (m:=2) hf (by lia) (by lia) (by lia)
  have e1':aJ f (.int 2)=.ret (iN o,f1):=e1
  rw[e1',bdR];dsimp only
  rw[BS,oMS,bdR,bP (o+1) (by lia),oMS,bdR]
  refine dW (R:=oY T) (P:=λi s=>∃f bs,s=(f,iN r.n,.tuple (r.st.map iN),.tuple (r.ms.map mD),.tuple (r.sy.map PyData.bool),List.map iN bs,iN j,())/\Fd (T+3*j+1+i) f/\(∀x∈bs,x<r.n)/\(∀x,x<j->x∈bs)/\(1<=i->j∈bs)/\bs.length<=2*j+i) _ _ ?_ ⟨f1,bs,rfl,hf1,hb,hall,λh=>absurd h (by lia),hl⟩ ?_
  ·rintro i s d hd ⟨f,bs,rfl,hf,hb,hall,hi,hl⟩ kn hkn
   obtain⟨rfl,hi2⟩:=dn hd
   dsimp only
   unfold gT
   obtain⟨k,f2,e2,hk,hf2⟩:=cD (m:=bs.length+1) hf (by lia) (by lia) (by lia)
   have ea:bS (.int ((bs.map iN).length:Int)) (.int 1)=some (.int ((bs.length+1:Nat):Int)):=by
    rw[zzd]
    exact IW bs.length 1
   rw[lenL,oMS,bdR,ea,oMS,bdR,e2,bdR];dsimp only
   rw[Gf (by lia) (by lia),oMS,bdR]
   have hmem:∀x,x∈bs.take k++j::bs.drop k↔x∈bs\/x=j:=λx=>by
    have:=La k bs
    conv=>rhs;rw[<-this]
    simp only[L9,eE]
    constructor
    ·rintro(h|h|h)
     ·exact .inl (.inl h)
     ·exact .inr h
     ·exact .inl (.inr h)
    ·rintro((h|h)|h)
     ·exact .inl h
     ·exact .inr (.inr h)
     ·exact .inr (.inl h)
   refine hkn _ ⟨f2,_,rfl,hf2,λx hx=>?_,λx hx=>(hmem x).mpr (.inl (hall x hx)),λ_=>(hmem j).mpr (.inr rfl),?_⟩
   ·rcases(hmem x).mp hx with h|h
    ·exact hb x h
    ·rw[h];exact hj
   ·simp only[zzf,eh,Ki,Kj]
    lia
  ·rintro s ⟨f,bs,rfl,hf,hb,hall,hi,hl⟩
   rw[zzd,ba]at hf hi hl
   dsimp only
   unfold gW
   refine hkn _ ⟨f,bs,rfl,hf.le (by lia),hb,λx hx=>?_,by lia⟩
   rcases Lo x j with h|h
   ·exact hall x h
   ·rw[show x=j by lia];exact hi (by lia)
 ·rintro s ⟨f,bs,rfl,hf,hb,hall,hl⟩
  rw[zzd,ba]at hf hall hl
  dsimp only
  have h0:=w.n1
  have hpos:=K6 (hall 0 (by lia))
  obtain⟨r',f',e,a1,a2,a3,a4,a5,a6⟩:=yY hf (by lia) (by lia) hpos w hn h1 h4 hm hb hall
  exact⟨r',f',e,a1,a2,a3,a4,a5,a6.le (by lia)⟩
theorem zo(w:Wf r)(hl:r.ms.length<=100000):gJ r.d=.ret (.dict (r.ms.map kvM)):=by
 unfold gJ
 rw[bL,A4,oMS,bdR,pc,oMS,bdR]
 refine(bM (e:=mD) (F:=λpre=>(pre.map kvM,())) r.ms ?_).trans rfl
 intro p m q hpq kn
 dsimp only
 unfold jm
 have e1:n5 (mD m) (some 2) none=some (pD m.2.2):=rfl
 have e2:n5 (mD m) none (some 2)=some (pD (m.1,m.2.1)):=rfl
 have a2:asI (.int 2)=.ret (some 2):=id rfl
 rw[a2,bdR,e1,oMS,bdR,bdR,e2,oMS,bdR]
 have hlen:p.length<=100000:=by rw[hpq]at hl;simp at hl;omega
 have e3:cW true (p.map kvM) (pD (m.1,m.2.1)) (pD m.2.2)=some (p.map kvM++[kvM m]):=by
  unfold cW
  rw[show keyOf true (pD (m.1,m.2.1))=true from rfl,Bool.true_and,ar (by rw[zzd,zzi];exact oz hlen (by decide)),sK]
  intro x hx
  obtain⟨m',hm',rfl⟩:=List.mem_map.mp hx
  rw[iS,kw]
  intro z
  have so:=w.so
  rw[hpq,Lg]at so
  have:=so.2.2 m' hm' m ak
  rw[z]at this
  rcases this with h|⟨_,h⟩<;>omega
 rw[e3,oMS,bdR,eg]
 rfl
theorem oZ(ms:List Mt)(i j:Nat):dk (.dict (ms.map kvM)) (iN i) (iN j)=.ret (pD (turn ms i j)):=by
 unfold dk turn
 rw[leA,oMS,bdR]
 by_cases h:i<=j
 ·have h':(i:Int)<=(j:Int):=by omega
  simp only[h,h',decide_true,KF]
  rw[show(PyData.tuple [iN i,iN j])=pD (i,j)from rfl,rO,oMS,bdR]
 ·have h':¬ (i:Int)<=(j:Int):=by omega
  simp only[h,h',K3,Cn]
  rw[au (by decide),show(PyData.tuple [iN j,iN i])=pD (j,i)from rfl,rO,oMS,bdR,bL,bL,vj,tP,oMS,bdR,oMS,bdR,bdR]
theorem leK_N{a b:Nat}:leK (iN a) (iN b)=true↔a<=b:=by
 unfold leK
 show(!HT.lexLt [(b:Int)] [(a:Int)])=true↔_
 rw[HT.lexLt_cons]
 by_cases h:(b:Int)=(a:Int)
 ·rw[ar h]
  simp only[HT.lexLt,Bool.not_false,true_iff]
  lia
 ·rw[au h,wT,kw]
  lia
theorem sE(n:Nat)(K:List Nat):(dS n K).Pairwise (· < ·):=List.pairwise_lt_range.sublist List.filter_sublist
theorem D0(g:Gd n K)(hn:n<=60):bR (K.map iN)=true/\b8 (K.map iN)=(dS n K).map iN:=by
 have ok:bR (K.map iN)=true:=by
  unfold bR
  rw[ac,zzi,zzd,um,ir]
  refine⟨by have:=d3 g;lia,.inl λd hd=>?_⟩
  obtain⟨x,_,rfl⟩:=List.mem_map.mp hd
  rfl
 refine⟨ok,(mX ok ?_ ?_).symm⟩
 ·refine List.Perm.map iN ?_
  exact(List.perm_ext_iff_of_nodup jr g.nd).mpr λx=>eM g
 ·rw[LK]
  exact(sE n K).imp λh=>leK_N.mpr (Kw h)
theorem uI{K':List Nat}(h:∀x,x∈K↔x∈K'):dS n K=dS n K':=by
 unfold dS
 refine List.filter_congr λx _=>?_
 rw[Km,zzi,zzi]
 exact h x
def gm(A K:List Nat):List Nat:=A.foldl add K
theorem mem_adds{x:Nat}:∀{A K:List Nat},x∈gm A K↔x∈K\/x∈A
 | [],K=>by simp[gm]
 | a::A,K=>by
  show x∈gm A (add K a)↔_
  rw[mem_adds,mem_add,eE]
  constructor
  ·rintro((h|h)|h)
   ·exact .inl h
   ·exact .inr (.inl h)
   ·exact .inr (.inr h)
  ·rintro(h|h|h)
   ·exact .inl (.inl h)
   ·exact .inl (.inr h)
   ·exact .inr h
theorem mL{n:Nat}:∀{A K:List Nat},Gd n K->(∀a∈A,a<n)->Gd n (gm A K)
 | [],K,g,_=>g
 | a::A,K,g,h=>mL (A:=A) (g.add (h a (by simp))) λb hb=>h b (by simp[hb])
theorem w5:∀(ps acc:List Nat),(ps.map iN).foldl vD (acc.map iN)=(gm ps acc).map iN
 | [],acc=>rfl
 | p::ps,acc=>by
  show(ps.map iN).foldl vD (vD (acc.map iN) (iN p))=(gm ps (add acc p)).map iN
  rw[<-w5 ps]
  congr 1
  unfold vD add
  have e:(L4.keyD (iN p)∈(acc.map iN).map L4.keyD)↔p∈acc:=by
   rw[ib]
   constructor
   ·intro h
    obtain⟨q,hq,e⟩:=List.mem_map.mp h
    have e:[(q:Int)]=[(p:Int)]:=e
    injection e with e
    have:q=p:=by lia
    exact this▸hq
   ·intro h
    exact List.mem_map.mpr ⟨p,h,rfl⟩
  by_cases h:p∈acc
  ·rw[ar h,ar (e.mpr h)]
  ·rw[au h,au (λz=>h (e.mp z)),eg];rfl
theorem v7{A:List Nat}(hA:∀a∈A,a<n)(hn:n<=8)(hl:A.length<=30000):hU (A.map iN)=true/\b8 (uc (A.map iN))=(dS n (gm A [])).map iN:=by
 constructor
 ·unfold hU
  rw[ac,zzi,zzd,ir]
  refine⟨hl,λd hd=>?_⟩
  obtain⟨p,hp,rfl⟩:=List.mem_map.mp hd
  have:=hA p hp
  show(decide ((0:Int)<=(p:Int))&&decide ((p:Int)<8))=true
  rw[ef (by lia),ef (by lia)];rfl
 ·have e1:uc (A.map iN)=(gm A []).map iN:=w5 A []
  rw[e1]
  exact(D0 (mL ⟨.nil,λ_ h=>(nomatch h)⟩ hA) (by lia)).2
theorem tT(a:Nat)(B:List Nat):iw (iN a) (.list (B.map iN))=some (decide (a∈B)):=by
 have hi:vw (iN a) (B.map iN)=true:=by
  unfold vw
  rw[AU]
  simp[PyData.canLay0,PyData.depth]
 rw[IC,show yh (iN a) (.list (B.map iN))=if vw (iN a) (B.map iN)then some ((B.map iN).any λy=>PyData.eqv y (iN a))else none from rfl,ar hi]
 congr 1
 rw[List.any_map,Km,List.any_eq_true,zzi]
 constructor
 ·rintro⟨x,hx,e⟩
  have e:((x:Int)==(a:Int))=true:=by simpa[PyData.eqv]using e
  rw[AC,zzi]at e
  exact e▸hx
 ·intro h
  exact⟨a,h,by simp[PyData.eqv]⟩
theorem IX(a b:List D)(h:a.length+b.length<=100000):bS (.list a) (.list b)=some (.list (a++b)):=ar (ce h (by decide))
abbrev dK(K:List Nat):List (D×D):=K.map (kN λ_=>.bool true)
def K0(r:Rl):List Nat:=gm r.st []
def cr(r:Rl):List Nat:=dS r.n (it r.ms r.n (K0 r))
section
variable (w:Wf r) (hn:r.n<=6)
include w
theorem j3:∀m∈r.ms,m.2.2.1<r.n/\m.2.2.2<r.n:=λm hm=>⟨(w.ms m hm).c,(w.ms m hm).d⟩
theorem BW:Gd r.n (K0 r):=mL ⟨.nil,λ_ h=>(nomatch h)⟩ w.st
include hn
theorem yc(g:Gd r.n K){b:D}{kn7:D×List (D×D)×D×Unit->M D}{k:D×List (D×D)×D×Unit->M D} :
  cA (λs22 d23 kn=>cI kn7 s22.1 s22.2.1 s22.2.2.1 d23 kn) (r.ms.map mD) (r.d,dK K,b,()) k=k (r.d,dK (pass r.ms K),b,()):=by
 refine(bM (e:=mD) (F:=λpre=>(r.d,dK (pass pre K),b,())) r.ms ?_).trans rfl
 intro p m q hpq kn
 dsimp only
 unfold cI
 have hp:∀m'∈p,m'.2.2.1<r.n/\m'.2.2.2<r.n:=λm' h'=>j3 w m' (by rw[hpq];simp[h'])
 have g':=g.pass hp
 have gl:=d3 g'
 have hm:=j3 w m (by rw[hpq];simp)
 have e:pass (p++[m]) K=mstep (pass p K) m:=by unfold pass;rw[wS];rfl
 rw[e]
 generalize pass p K=K' at g' gl ⊢
 unfold mstep
 rw[bL,tP,oMS,bdR,inN,oMS,bdR,bL,vj,oMS,bdR,inN]
 by_cases h1:m.1∈K'
 ·rw[ef h1,ar rfl]
  by_cases h2:m.2.1∈K'
  ·have gl2:=d3 (g'.add hm.1)
   rw[ef h2,oMS,bdR,ar rfl,ar ⟨h1,h2⟩,bL,A4,oMS,bdR,putN (by lia) rfl,oMS,bdR,bL,A3,oMS,bdR,putN (by lia) rfl,oMS,bdR]
  ·rw[bu h2,oMS,bdR,au (by decide),au (λz=>h2 z.2)]
 ·rw[bu h1,au (by decide),bdR,au (by decide),au (λz=>h1 z.1)]
theorem yL(hs:1<=r.st.length):cE r.d=.ret (.list ((cr r).map iN)):=by
 have g0:=BW w
 have hne:K0 r≠[]:=λz=>by
  obtain⟨a,ha⟩:=Li (show 0<r.st.length by lia)
  have:a∈K0 r:=mem_adds.mpr (.inr ha)
  rw[z]at this;cases this
 have gi:∀j,Gd r.n (it r.ms j (K0 r)):=tS g0 (j3 w)
 unfold cE
 rw[bL,vj,oMS,bdR,pc,oMS,bdR]
 refine(bM (e:=iN) (F:=λpre=>(r.d,dK (gm pre []),())) r.st ?_).trans ?_
 ·intro p m q hpq kn
  dsimp only
  unfold eP
  have g1:Gd r.n (gm p []):=mL ⟨.nil,λ_ h=>(nomatch h)⟩ λa ha=>w.st a (by rw[hpq];simp[ha])
  have:=d3 g1
  have e:gm (p++[m]) []=add (gm p []) m:=by unfold gm;rw[wS];rfl
  rw[putN (by lia) rfl,oMS,bdR,e]
 ·unfold eS
  dsimp only
  refine pM (λs=>r.n+1 - (match s.2.2.1 with | .int b=>b.toNat|_=>0)) (λs=>∃j b,s=(r.d,dK (it r.ms j (K0 r)),iN b,())/\b<=r.n/\(b=0\/∃i,j=i+1/\b=(it r.ms i (K0 r)).length)) (R:=λm:M D=>m=.ret (PyData.list ((cr r).map iN))) ?_ ⟨0,0,rfl,aw _,.inl rfl⟩ (by show r.n+1 - 0<10000;lia)
  rintro s ⟨j,b,rfl,hbn,hb⟩ kn hkn
  dsimp only
  unfold eO
  have gl:=d3 (gi j)
  rw[JH,oMS,bdR,ltA,oMS,bdR]
  by_cases hlt:b<(it r.ms j (K0 r)).length
  ·rw[ar (by rw[zzi];lia),bdR,bL,A4,oMS,bdR,pc,oMS,bdR,yc w hn (gi j)]
   unfold eQ
   refine hkn _ ⟨j+1,_,rfl,gl,.inr ⟨j,rfl,rfl⟩⟩ ?_
   show r.n+1 - ((it r.ms j (K0 r)).length:Int).toNat<r.n+1 - (b:Int).toNat
   lia
  ·rw[au (by rw[zzi];lia)]
   have hfix:pass r.ms (it r.ms j (K0 r))=it r.ms j (K0 r):=by
    rcases hb with rfl|⟨i,rfl,rfl⟩
    ·exfalso
     have:∀j,it r.ms j (K0 r)≠[]:=λj=>by
      induction j with
      | zero=>exact hne
      | succ j ih =>
       intro z
       have:=(eD r.ms (it r.ms j (K0 r))).length_le
       have z':pass r.ms (it r.ms j (K0 r))=[]:=z
       rw[z']at this
       exact ih (List.length_eq_zero_iff.mp (by simpa using this))
     have:=List.length_pos_iff.mpr (this j)
     lia
    ·have e:=qY (eD r.ms (it r.ms i (K0 r))) (by have:(it r.ms (i+1) (K0 r)).length<=_:=Nat.not_lt.mp hlt;exact this)
     show pass r.ms (pass r.ms (it r.ms i (K0 r)))=pass r.ms (it r.ms i (K0 r))
     rw[<-e,<-e]
   have hs:=Df hfix (Iy g0 hne (j3 w))
   unfold eR
   obtain⟨so1,so2⟩:=D0 (gi j) (by lia)
   have hso:cS [.list ((it r.ms j (K0 r)).map iN)]=some ((dS r.n (it r.ms j (K0 r))).map iN):=by
    show(if bR ((it r.ms j (K0 r)).map iN)then some (b8 ((it r.ms j (K0 r)).map iN))else none)=_
    rw[ar so1,so2]
   rw[Iv,oMS,bdR,bdR,hso,oMS,bdR,bdR,hs]
   rfl
theorem Bv(h4:r.st.length<=4):cV r.d=.ret (.list ((cr r).map iN)):=by
 have g0:=BW w
 have gi:∀j,Gd r.n (it r.ms j (K0 r)):=tS g0 (j3 w)
 unfold cV
 obtain⟨s1,s2⟩:=v7 w.st (show r.n<=8 by lia) (by lia)
 have e0:qm [.tuple (r.st.map iN)]=some ((dS r.n (K0 r)).map iN):=by
  show(if hU (r.st.map iN)then some (b8 (uc (r.st.map iN)))else none)=_
  rw[ar s1,s2];rfl
 rw[bL,vj,oMS,bdR,e0,oMS,bdR,bdR,bL,tP,oMS,bdR,bP r.n (by lia),oMS,bdR]
 refine(bM (e:=iN) (F:=λpre:List Nat=>(r.d,PyData.list ((dS r.n (it r.ms pre.length (K0 r))).map iN),())) (List.range r.n) ?_).trans ?_
 ·intro p i q hpq kn
  dsimp only
  unfold fy
  rw[bL,A4,oMS,bdR,pc,oMS,bdR]
  have gK:=gi p.length
  rw[zzf,KE,show it r.ms (p.length+1) (K0 r)=pass r.ms (it r.ms p.length (K0 r))from rfl]
  generalize it r.ms p.length (K0 r)=K at gK ⊢
  refine(bM (e:=mD) (F:=λpre=>(r.d,PyData.list ((dS r.n (pass pre K)).map iN),())) r.ms ?_).trans rfl
  intro p m q hpq kn2
  dsimp only
  unfold fq
  have hp:∀m'∈p,m'.2.2.1<r.n/\m'.2.2.2<r.n:=λm' h'=>j3 w m' (by rw[hpq];simp[h'])
  have g':=gK.pass hp
  have hm:=j3 w m (by rw[hpq];simp)
  have e:pass (p++[m]) K=mstep (pass p K) m:=by unfold pass;rw[wS];rfl
  rw[e]
  generalize pass p K=K' at g' ⊢
  have hu:∀(k:D->D->D->D->M D),un4 (mD m) k=k (iN m.1) (iN m.2.1) (iN m.2.2.1) (iN m.2.2.2):=λ_=>id rfl
  rw[hu,tT,oMS,bdR,tT]
  unfold mstep
  by_cases h1:m.1∈K'
  ·rw[ef ((eM g').mpr h1),ar rfl]
   by_cases h2:m.2.1∈K'
   ·have hsl:=jI (n:=r.n) (K:=K')
    obtain⟨t1,t2⟩:=v7 (n:=r.n) (A:=dS r.n K'++[m.2.2.1,m.2.2.2]) (λa ha=>by
     rcases List.mem_append.mp ha with h|h
     ·exact qP h
     ·simp only[eE,wE,xz]at h
      rcases h with rfl|rfl
      ·exact hm.1
      ·exact hm.2) (by lia) (by rw[zzf];simp only[eh,fi];lia)
    have et:qm [.list ((dS r.n K').map iN++[iN m.2.2.1,iN m.2.2.2])]=some ((dS r.n (add (add K' m.2.2.1) m.2.2.2)).map iN):=by
     rw[show(dS r.n K').map iN++[iN m.2.2.1,iN m.2.2.2]=(dS r.n K'++[m.2.2.1,m.2.2.2]).map iN by rw[eg];rfl]
     show(if hU ((dS r.n K'++[m.2.2.1,m.2.2.2]).map iN)then some (b8 (uc ((dS r.n K'++[m.2.2.1,m.2.2.2]).map iN)))else none)=_
     rw[ar t1,t2]
     congr 2
     refine uI λx=>?_
     rw[mem_adds,L9,eM g',mem_add,mem_add]
     simp only[eE,wE,xz,false_or]
     constructor
     ·rintro(h|h|h)
      ·exact .inl (.inl h)
      ·exact .inl (.inr h)
      ·exact .inr h
     ·rintro((h|h)|h)
      ·exact .inl h
      ·exact .inr (.inl h)
      ·exact .inr (.inr h)
    rw[ef ((eM g').mpr h2),oMS,bdR,ar rfl,ar ⟨h1,h2⟩,IX _ _ (by rw[zzd];simp only[eh,fi];lia),oMS,bdR,et,oMS,bdR,bdR]
   ·rw[bu (λz=>h2 ((eM g').mp z)),oMS,bdR,au (by decide),au (λz=>h2 z.2)]
  ·rw[bu (λz=>h1 ((eM g').mp z)),au (by decide),bdR,au (by decide),au (λz=>h1 z.1)]
 ·dsimp only
  unfold fA
  rw[ba]
  rfl
end
theorem CQ[DecidableEq β]{g:α->β}{x:α}{l:List α}(h:x∈l):∀m:List α,num g (l++m) x=num g l x:=λm=>by
 induction m using snocInd with
 | h0=>rw[mo]
 | h1 m a ih=>rw[<-Db,sX (Lh _ h),ih]
section
variable {γ:Type} [DecidableEq β] [DecidableEq γ] {E:β->γ} (hE:∀a b,E a=E b->a=b)
include hE
theorem tE{b:β}{l:List β}:E b∈l.map E↔b∈l :=
 ⟨λh=>by obtain⟨a,ha,e⟩:=List.mem_map.mp h;rw[<-hE _ _ e];exact ha,λh=>List.mem_map.mpr ⟨b,h,rfl⟩⟩
theorem Ds(g:α->β):∀l:List α,dd (λx=>E (g x)) l=(dd g l).map E:=λl=>by
 induction l using snocInd with
 | h0=>rfl
 | h1 l a ih =>
  rw[fj,fj,ih]
  by_cases h:g a∈dd g l
  ·rw[ar h,ar ((tE hE).mpr h)]
  ·rw[au h,au (λz=>h ((tE hE).mp z)),eg];rfl
theorem tU(b:β):∀l:List β,(l.map E).idxOf (E b)=l.idxOf b
 | []=>rfl
 | a::l=>by
  rw[ax,List.idxOf_cons,List.idxOf_cons,tU b l]
  by_cases h:a=b
  ·subst h;simp
  ·have h1:(E a==E b)=false:=by simpa using λz=>h (hE _ _ z)
   have h2:(a==b)=false:=by simpa using h
   rw[h1,h2]
theorem sY(g:α->β)(l:List α)(x:α):num (λx=>E (g x)) l x=num g l x:=by
 unfold num
 rw[Ds hE,tU hE]
end
theorem sZ(n:NK):∀ns:List NK,cP ns n=if n∈ns then some (ns.idxOf n)else none
 | []=>by simp[cP]
 | a::ns=>by
  have ih:=sZ n ns
  unfold cP at ih ⊢
  rw[List.findIdx?_cons,List.idxOf_cons]
  by_cases h:a=n
  ·subst h;simp
  ·rw[au (by simpa using h),ih]
   have h2:(a==n)=false:=by simpa using h
   rw[h2]
   have:(n∈a::ns)↔n∈ns:=by rw[eE];exact⟨λz=>z.elim (λz=>absurd z.symm h) id,.inr⟩
   simp only[this]
   split<;>rfl
theorem GC[DecidableEq β](g:α->β):∀l:List α,(dd g l).length<=l.length:=λl=>by
 induction l using snocInd with
 | h0=>exact ai _
 | h1 l a ih =>
  rw[fj]
  split
  ·rw[zzf];lia
  ·rw[zzf,zzf];simp only[eh,fi];lia
theorem GB[DecidableEq β](g:α->β){b:β}:∀{l:List α},b∈dd g l->∃x∈l,b=g x:=λ{l}=>by
 induction l using snocInd with
 | h0=>intro h;simp[dd]at h
 | h1 l a ih =>
  intro h
  rw[fj]at h
  split at h
  ·obtain⟨x,hx,e⟩:=ih h
   exact⟨x,by simp[hx],e⟩
  ·rcases List.mem_append.mp h with h|h
   ·obtain⟨x,hx,e⟩:=ih h
    exact⟨x,by simp[hx],e⟩
   ·exact⟨a,by simp,by simpa using h⟩
abbrev pt(rs:List Nat)(f:Nat->Nat):List (D×D):=rs.map (kN λx=>iN (f x))
theorem v5(rs:List Nat)(a b:Nat->D):mM (rs.map a) (rs.map b)=rs.map λx=>.tuple [a x,b x]:=by
 unfold mM
 induction rs with
 | nil=>rfl
 | cons x r ih=>simp[ih]
theorem lC{md:Nat->D}{nk:Nat->NK}{b:Bool}(nd:rs.Nodup)(hl:rs.length<=1000)(hn:∀x∈rs,yl (md x)=some (nk x))(hb:∀x∈rs,(nk x).isB=b) :
  cJ (.list (rs.map iN)) (.list (rs.map md))=.ret (.dict (pt rs (num nk rs))):=by
 unfold cJ
 rw[show t5 [.list (rs.map iN),.list (rs.map md)]=some (mM (rs.map iN) (rs.map md))from rfl,oMS,bdR,v5]
 refine(bM (e:=λx=>PyData.tuple [iN x,md x]) (F:=λpre=>(dd nk pre,pt pre (num nk rs),())) rs ?_).trans rfl
 intro p x q hpq kn
 dsimp only
 unfold jn
 have hx:x∈rs:=by rw[hpq];simp
 have hpl:p.length<=1000:=by rw[hpq,zzf]at hl;lia
 have hu:∀(k:D->D->M D),un2 (.tuple [iN x,md x]) k=k (iN x) (md x):=λ_=>id rfl
 have hnx:num nk rs x=(dd nk (p++[x])).idxOf (nk x):=by
  have:rs=(p++[x])++q:=by rw[hpq];simp
  conv=>lhs;rw[this]
  rw[CQ (by simp)]
  rfl
 have hnum:Aw (dd nk p) (md x)=some (iN (num nk rs x),dd nk (p++[x])):=by
  unfold Aw
  rw[hn x hx]
  dsimp only
  rw[ar,sZ,hnx,fj]
  ·by_cases h:nk x∈dd nk p
   ·rw[ar h,ar h]
   ·rw[au h,au h,List.idxOf_append,au h]
    simp
  ·rw[ac,zzi,ir]
   refine⟨oz (ce (GC nk p) hpl) (by decide),λm hm=>?_⟩
   obtain⟨y,hy,rfl⟩:=GB nk hm
   rw[hb y (by rw[hpq];simp[hy]),hb x hx]
   simp
 have hxp:x∉p:=λz=>by
  rw[hpq,Kn]at nd
  exact nd.2.2 x z x ak rfl
 rw[hu,hnum,oMS,bdR,putN (by lia) rfl,oMS,bdR]
 unfold add
 rw[au hxp]
section
variable (hc:Cls rs (turn r.ms))
include hc
theorem qG{o:Nat}(hx:x∈rs)(ho:o∈rs):bU (.dict (r.ms.map kvM)) (.dict (pt rs f)) (iN x) (iN o)=.ret (pD (bh (turn r.ms) f x o)):=by
 obtain⟨h1,h2⟩:=hc x hx o ho
 unfold bU
 rw[oZ,bdR,bL,tP,oMS,bdR,ixN h1,oMS,bdR,bL,vj,oMS,bdR,ixN h2,oMS,bdR,bdR,bdR,mY,oMS,bdR,bdR,g9,oMS,bdR]
 rfl
theorem CW(hl:rs.length<=1000)(hx:x∈rs):d5 (.dict (r.ms.map kvM)) (.list (rs.map iN)) (.dict (pt rs f)) (iN x)=.ret (.tuple [iN (f x),.tuple ((rs.map (bh (turn r.ms) f x)).map pD)]):=by
 unfold d5
 have h:=br (step:=λd2=>bd (bU (.dict (r.ms.map kvM)) (.dict (pt rs f)) (iN x) d2) λx3=>.ret (some x3)) (e:=iN) (g:=λo=>pD (bh (turn r.ms) f x o)) rs λo ho=>by
  rw[qG hc hx ho,bdR]
 rw[ixN hx,oMS,bdR,lP,oMS,bdR,h,bdR,bG (by rw[zzd];exact hl),bdR,bdR,g9,oMS,bdR,bdR,ib]
 rfl
end
def encM(p:Nat×List (Nat×Nat)):NK:=.t (p.1:Int) (p.2.map λq=>[(q.1:Int),(q.2:Int)])
theorem Bp(a b:Nat×List (Nat×Nat))(h:encM a=encM b):a=b:=by
 obtain⟨a1,a2⟩:=a
 obtain⟨b1,b2⟩:=b
 unfold encM at h
 injection h with h1 h2
 have e1:a1=b1:=by dsimp only at h1;lia
 have e2:a2=b2:=List.map_inj_right (λ{x y} e=>by
  obtain⟨x1,x2⟩:=x
  obtain⟨y1,y2⟩:=y
  simp only[List.cons.injEq,and_true]at e
  ext<;>simp<;>lia) |>.mp h2
 rw[e1,e2]
theorem v9:∀l:List (Nat×Nat),rowsOf (l.map pD)=some (l.map λq=>[(q.1:Int),(q.2:Int)])
 | []=>rfl
 | p::l=>by
  have ih:=v9 l
  show rowsOf (pD p::l.map pD)=_
  unfold rowsOf
  simp only[pD,ih,intsOf]
  rfl
theorem CS(a:Nat)(l:List (Nat×Nat)):yl (.tuple [iN a,.tuple (l.map pD)])=some (encM (a,l)):=by
 unfold yl encM
 simp only[v9]
def aV(f:Nat->Nat)(rs:List Nat)(k:Nat):Nat:=(rs.find? λx=>decide (f x=k)).getD 0
theorem tX{q:List Nat}(h:∀y∈p,f y≠f x):aV f (p++x::q) (f x)=x:=by
 unfold aV
 have:(p++x::q).find? (λy=>decide (f y=f x))=some x:=by
  rw[List.find?_append,List.find?_eq_none.mpr (λy hy=>by simpa using h y hy)]
  simp
 rw[this]
 rfl
theorem tW(hx:x∈rs):aV f rs (f x)∈rs/\f (aV f rs (f x))=f x:=by
 unfold aV
 cases e:rs.find? (λy=>decide (f y=f x))with
 | none=>rw[List.find?_eq_none]at e;exact absurd (e x hx) (by simp)
 | some y =>
  have:=List.find?_some e
  exact⟨LF e,by simpa using this⟩
theorem zb{k:Nat}(h:k<=n):add (List.range n) k=List.range (max n (k+1)):=by
 unfold add
 by_cases e:k<n
 ·rw[ar (List.mem_range.mpr e),KU (by lia)]
 ·have:k=n:=by lia
  subst this
  rw[au (by simp),KO (by lia),List.range_succ]
theorem tH(hl:rs.length<=1000)(hf:RG (rs.map f)):bZ (.list (rs.map iN)) (.dict (pt rs f))=.ret (.list ((List.range (hgt (rs.map f))).map λk=>iN (aV f rs k))):=by
 unfold bZ
 rw[lP,oMS,bdR]
 refine(bM (e:=iN) (F:=λpre=>(PyData.dict (pt rs f),(List.range (hgt (pre.map f))).map (kN λk=>iN (aV f rs k)),())) rs ?_).trans ?_
 ·intro p x q hpq kn
  dsimp only
  unfold gf
  have hx:x∈rs:=by rw[hpq];simp
  have hr:RG ((p++[x]).map f):=by
   have:∀(q:List Nat) (l:List Nat),RG ((l++q).map f)->RG (l.map f):=λq=>by
    induction q using snocInd with
    | h0=>intro l h;simpa using h
    | h1 q a ih =>
     intro l h
     rw[<-Db,eg]at h
     exact ih l (RG.inv h).1
   refine this q (p++[x]) ?_
   have e:(p++[x])++q=rs:=by rw[hpq];simp
   rw[e];exact hf
  rw[eg]at hr ⊢
  obtain⟨r1,r2⟩:=RG.inv hr
  have ht:=fL r1
  have hpl:p.length<=1000:=by rw[hpq,zzf]at hl;lia
  rw[ixN hx,oMS,bdR,sdN (by rw[ba];lia) (λhk=>?_),oMS,bdR,zb r2]
  ·show kn _=kn (_,(List.range (hgt (p.map f++[f x]))).map _,())
   rw[eN]
  ·have hk':¬ f x<hgt (p.map f):=λz=>hk (List.mem_range.mpr z)
   show iN x=iN (aV f rs (f x))
   rw[hpq,tX λy hy e=>hk' (rC (List.mem_map.mpr ⟨y,hy,e⟩))]
 ·dsimp only
  unfold gg
  rw[ib]
  rfl
def fU(r:Rl)(x:Nat):Bool:=r.sy.getD x false
theorem sL{g:Nat->Nat}(h:∀x∈rs,f x=g x):pt rs f=pt rs g:=ix λx hx=>by show(iN x,iN (f x))=(iN x,iN (g x));rw[h x hx]
section
variable (w:Wf r) (hc:Cls rs (turn r.ms)) (nd:rs.Nodup) (hl:rs.length<=6) (h0:rs≠[]) (hlt:∀x∈rs,x<r.n)
include nd hl in
theorem Bg(hsy:∀x∈rs,x<r.sy.length):(bd (bd (bd (bd (oM (cn (.list (rs.map iN)))) λl3=>bd (bp (λd1=>bd (oM (aE (.tuple (r.sy.map PyData.bool)) d1)) λx2=>.ret (some x2)) l3) cC) λl4=>.ret (PyData.list l4)) λx5=>cJ (.list (rs.map iN)) x5) λx=>M.ret x)=.ret (.dict (pt rs (num (fU r) rs))):=by
 have h:=br (step:=λd1=>bd (oM (aE (.tuple (r.sy.map PyData.bool)) d1)) λx2=>.ret (some x2)) (e:=iN) (g:=λx=>PyData.bool (fU r x)) rs λx hx=>by
  rw[bL,tQ PyData.bool r.sy x false (hsy x hx),oMS,bdR]
  rfl
 rw[lP,oMS,bdR,h,bdR,bG (by rw[zzd];lia),bdR,bdR,lC (nk:=λx=>NK.b (fU r x)) (b:=true) nd (by lia) (λx _=>rfl) (λx _=>rfl),bdR]
 congr 2
 exact sL λx _=>sY (E:=NK.b) (λa b e=>by injection e) (fU r) rs x
include hc nd hl in
theorem CT{S:Type}{k:D->M S}:(bd (bd (bd (bd (oM (cn (.list (rs.map iN)))) λl15=>bd (bp (λd13=>bd (d5 (.dict (r.ms.map kvM)) (.list (rs.map iN)) (.dict (pt rs f)) d13) λx14=>.ret (some x14)) l15) cC) λl16=>.ret (PyData.list l16)) λx17=>cJ (.list (rs.map iN)) x17) k)=k (.dict (pt rs (num (mk rs (turn r.ms) f) rs))):=by
 have h:=br (step:=λd13=>bd (d5 (.dict (r.ms.map kvM)) (.list (rs.map iN)) (.dict (pt rs f)) d13) λx14=>.ret (some x14)) (e:=iN) (g:=λx=>PyData.tuple [iN (f x),.tuple ((rs.map (bh (turn r.ms) f x)).map pD)]) rs λx hx=>by
  rw[CW hc (by lia) hx,bdR]
 rw[lP,oMS,bdR,h,bdR,bG (by rw[zzd];lia),bdR,bdR,lC (nk:=λx=>encM (mk rs (turn r.ms) f x)) (b:=false) nd (by lia) (λx _=>CS _ _) (λx _=>rfl),bdR]
 congr 2
 exact sL λx _=>sY Bp (mk rs (turn r.ms) f) rs x
def BX(r:Rl)(rs:List Nat)(f:Nat->Nat):Prop:=RG (rs.map f)/\vZ rs (turn r.ms) (fU r) f/\∀h,vZ rs (turn r.ms) (fU r) h->Ref rs h f
include w hc nd hl h0 hlt in
theorem yd:∃f,ko (.tuple (r.sy.map PyData.bool)) (.dict (r.ms.map kvM)) (.list (rs.map iN))=.ret (.dict (pt rs f))/\BX r rs f:=by
 have hsy:∀x∈rs,x<r.sy.length:=λx hx=>by rw[w.sy];exact hlt x hx
 have hf0:=Bg (r:=r) nd hl hsy
 unfold ko
 have e:∀(m:M D) (k:D->M D) (d:D),bd m (λx=>M.ret x)=.ret d->bd m k=k d:=λm k d h=>by
  cases m with
  | ret a=>have:(M.ret a:M D)=.ret d:=h;cases this;rfl
  | exc x=>cases h
  | bad=>cases h
 rw[e _ _ _ hf0]
 refine pM (λs=>rs.length+1 - (match s.2.2.2.1 with | .int b=>b.toNat|_=>0))
  (λs=>∃f b,s=(PyData.dict (r.ms.map kvM),PyData.list (rs.map iN),PyData.dict (pt rs f),iN b,())/\b<=rs.length/\RG (rs.map f)/\(∀x∈rs,∀y∈rs,f x=f y->fU r x=fU r y)/\(∀h,vZ rs (turn r.ms) (fU r) h->Ref rs h f)
   /\ (b=0\/∃g,RG (rs.map g)/\(∀x∈rs,∀y∈rs,g x=g y->fU r x=fU r y)/\f=num (mk rs (turn r.ms) g) rs/\b=hgt (rs.map g)))
  (R:=λm:M D=>∃f,m=.ret (.dict (pt rs f))/\BX r rs f) ?_
  ⟨num (fU r) rs,0,rfl,aw _,u5.1,λx hx y hy e=>mC hx e,λh s=>zK s,.inl rfl⟩ (by show rs.length+1 - 0<10000;lia)
 rintro s ⟨f,b,rfl,hb,hf,hs,hr,hg⟩ kn hkn
 dsimp only
 unfold lM
 have ht:=fL hf
 have hlen:dh [.list ((List.range (hgt (rs.map f))).map λk=>iN (aV f rs k))]=some (iN (hgt (rs.map f))):=by
  rw[lenL,zzd,ba]
 rw[tH (by lia) hf,bdR,hlen,oMS,bdR,ltA,oMS,bdR]
 by_cases hlt2:b<hgt (rs.map f)
 ·rw[ar (by rw[zzi];lia),bdR,CT hc nd hl]
  refine hkn _ ⟨num (mk rs (turn r.ms) f) rs,hgt (rs.map f),rfl,ht,u5.1,λx hx y hy e=>hs x hx y hy (congrArg Prod.fst (mC hx e)),λh s=>zJ hc s (hr h s),.inr ⟨f,hf,hs,rfl,rfl⟩⟩ ?_
  show rs.length+1 - ((hgt (rs.map f):Nat):Int).toNat<rs.length+1 - ((b:Nat):Int).toNat
  lia
 ·rw[au (by rw[zzi];lia)]
  unfold lN
  refine⟨f,rfl,hf,?_,hr⟩
  rcases hg with rfl|⟨g,g1,g2,rfl,rfl⟩
  ·exfalso
   obtain⟨x,hx⟩:=List.exists_mem_of_ne_nil rs h0
   have:=rC (List.mem_map.mpr ⟨x,hx,rfl⟩:f x∈rs.map f)
   lia
  ·exact xQ hc g1 g2 (by lia)
end
theorem lq(w:Wf r)(hs:1<=r.st.length):Cls (cr r) (turn r.ms)/\cr r≠[]/\∀s∈r.st,s∈cr r:=by
 have g0:=BW w
 have hne:K0 r≠[]:=λz=>by
  obtain⟨a,ha⟩:=Li (show 0<r.st.length by lia)
  have:a∈K0 r:=mem_adds.mpr (.inr ha)
  rw[z]at this;cases this
 have gn:=tS g0 (j3 w) r.n
 have fx:=Iy g0 hne (j3 w)
 have hm:∀x,x∈cr r↔x∈it r.ms r.n (K0 r):=λx=>eM gn
 have hst:∀s∈r.st,s∈cr r:=λs h=>by
  rw[hm]
  have h0:s∈K0 r:=mem_adds.mpr (.inr h)
  have:∀j,s∈it r.ms j (K0 r):=λj=>by
   induction j with
   | zero=>exact h0
   | succ j ih=>exact(eD r.ms _).subset ih
  exact this r.n
 refine⟨λx hx y hy=>?_,λz=>?_,hst⟩
 ·have go:∀a b,a∈cr r->b∈cr r->((look r.ms (a,b)).getD (a,b)).1∈cr r/\((look r.ms (a,b)).getD (a,b)).2∈cr r:=λa b ha hb=>by
   cases e:look r.ms (a,b)with
   | none=>exact⟨ha,hb⟩
   | some q =>
    have:=vy fx (nM e) ((hm a).mp ha) ((hm b).mp hb)
    exact⟨(hm _).mpr this.1,(hm _).mpr this.2⟩
  unfold turn
  split
  ·exact go x y hx hy
  ·obtain⟨h1,h2⟩:=go y x hy hx
   exact⟨h2,h1⟩
 ·obtain⟨a,ha⟩:=Li (show 0<r.st.length by lia)
  have:=hst a ha
  rw[z]at this;cases this
theorem iC(h:RG (rs.map f)){k:Nat}(hk:k<hgt (rs.map f)):aV f rs k∈rs/\f (aV f rs k)=k:=by
 obtain⟨x,hx,rfl⟩:=List.mem_map.mp (h.occ hk)
 exact tW hx
def h8(t:Nat->Nat->Nat×Nat)(f:Nat->Nat)(rs:List Nat)(p q:Nat):Option D :=
 if bh t f (aV f rs p) (aV f rs q)=(p,q)then none else some (.tuple [iN p,iN q,iN (bh t f (aV f rs p) (aV f rs q)).1,iN (bh t f (aV f rs p) (aV f rs q)).2])
def cX(t:Nat->Nat->Nat×Nat)(f:Nat->Nat)(rs:List Nat)(p:Nat):List D:=(rng p (hgt (rs.map f))).filterMap (h8 t f rs p)
def told(r:Rl)(rs:List Nat)(f:Nat->Nat):D:=.tuple [.tuple [iN (hgt (rs.map f)),.tuple (r.st.map λx=>iN (f x)),.tuple ((List.range (hgt (rs.map f))).flatMap (cX (turn r.ms) f rs)),.tuple ((List.range (hgt (rs.map f))).map λk=>PyData.bool (fU r (aV f rs k)))],
 .tuple ((List.range r.n).map λx=>if x∈rs then iN (f x)else .none)]
theorem kL(t:Nat->Nat->Nat×Nat)(f:Nat->Nat)(rs:List Nat)(p:Nat):(cX t f rs p).length<=hgt (rs.map f):=by
 unfold cX
 have:=LO (h8 t f rs p) (rng p (hgt (rs.map f)))
 rw[db]at this
 lia
theorem vA(g:Nat->D)(m:Nat):lJ ((List.range m).map g)=(List.range m).map λp=>.tuple [iN p,g p]:=by
 unfold lJ
 apply List.ext_getElem
 ·simp
 ·intro i h1 h2
  simp
section
variable (hc:Cls rs (turn r.ms)) (hl:rs.length<=6) (hf:RG (rs.map f))
include hc hl hf
theorem AF:cq (.dict (r.ms.map kvM)) (.dict (pt rs f)) (.list ((List.range (hgt (rs.map f))).map λk=>iN (aV f rs k)))=.ret (.list ((List.range (hgt (rs.map f))).flatMap (cX (turn r.ms) f rs))):=by
 have ht:=fL hf
 have hb:∀pre:List Nat,pre.length<=6->(pre.flatMap (cX (turn r.ms) f rs)).length<=36:=λpre hp=>by
  have:=kb (g:=cX (turn r.ms) f rs) (B:=6) (λa=>ce (kL _ _ _ _) (by lia)) pre
  have:pre.length*6<=6*6:=Nat.mul_le_mul_right 6 hp
  lia
 unfold cq
 rw[show n4 [.list ((List.range (hgt (rs.map f))).map λk=>iN (aV f rs k))]=some (lJ ((List.range (hgt (rs.map f))).map λk=>iN (aV f rs k)))from rfl,oMS,bdR,vA]
 refine(bM (e:=λp=>PyData.tuple [iN p,iN (aV f rs p)]) (F:=λpre=>(PyData.dict (r.ms.map kvM),PyData.dict (pt rs f),PyData.list ((List.range (hgt (rs.map f))).map λk=>iN (aV f rs k)),pre.flatMap (cX (turn r.ms) f rs),())) (List.range (hgt (rs.map f))) ?_).trans rfl
 intro pre p q hpq kn
 dsimp only
 unfold dR
 have hp:p<hgt (rs.map f):=List.mem_range.mp (by rw[hpq];simp)
 have hpl:pre.length<=6:=by
  have:=congrArg List.length hpq
  rw[ba,zzf]at this
  lia
 have hu:∀(k:D->D->M D),un2 (.tuple [iN p,iN (aV f rs p)]) k=k (iN p) (iN (aV f rs p)):=λ_=>id rfl
 rw[hu,lenL,oMS,bdR,zzd,ba,mv p (hgt (rs.map f)) (by lia) (by lia),oMS,bdR]
 rw[List.flatMap_append,List.flatMap_singleton]
 have hbp:=hb pre hpl
 generalize pre.flatMap (cX (turn r.ms) f rs)=acc at hbp ⊢
 have h0:acc=acc++List.filterMap (h8 (turn r.ms) f rs p) []:=by simp
 conv=>lhs;rw[h0]
 refine(bM (e:=iN) (F:=λpre2=>(PyData.dict (r.ms.map kvM),PyData.dict (pt rs f),PyData.list ((List.range (hgt (rs.map f))).map λk=>iN (aV f rs k)),acc++pre2.filterMap (h8 (turn r.ms) f rs p),iN p,iN (aV f rs p),())) (rng p (hgt (rs.map f))) ?_).trans rfl
 intro pre2 q2 rest hpq2 kn2
 dsimp only
 unfold dQ
 have hq:q2<hgt (rs.map f):=(mem_rng.mp (show q2∈rng p (hgt (rs.map f)) by rw[hpq2];simp)).2
 have hp2:pre2.length<=6:=by
  have:=congrArg List.length hpq2
  rw[db,zzf]at this
  lia
 have hix:gY (.list ((List.range (hgt (rs.map f))).map λk=>iN (aV f rs k))) (iN q2)=some (iN (aV f rs q2)):=by
  rw[lI (λk=>iN (aV f rs k)) (List.range (hgt (rs.map f))) q2 (by simpa using hq)]
  simp
 rw[jk,hix,oMS,bdR,qG hc (iC hf hp).1 (iC hf hq).1,bdR,show(PyData.tuple [iN p,iN q2])=pD (p,q2)from rfl,neP,oMS,bdR,Lb,ng,List.filterMap_nil]
 have hfl:=LO (h8 (turn r.ms) f rs p) pre2
 by_cases he:bh (turn r.ms) f (aV f rs p) (aV f rs q2)=(p,q2)
 ·have hrow:h8 (turn r.ms) f rs p q2=none:=by unfold h8;rw[ar he]
  rw[hrow,ef he,au (by decide),mo]
 ·have hrow:h8 (turn r.ms) f rs p q2=some (.tuple [iN p,iN q2,iN (bh (turn r.ms) f (aV f rs p) (aV f rs q2)).1,iN (bh (turn r.ms) f (aV f rs p) (aV f rs q2)).2]):=by unfold h8;rw[au he]
  have hadd:bS (pD (p,q2)) (pD (bh (turn r.ms) f (aV f rs p) (aV f rs q2)))=some (.tuple [iN p,iN q2,iN (bh (turn r.ms) f (aV f rs p) (aV f rs q2)).1,iN (bh (turn r.ms) f (aV f rs p) (aV f rs q2)).2]):=id rfl
  rw[hrow,bu he,ar (show(!false)=true from rfl),hadd,oMS,bdR,lx _ _ (by rw[zzf];lia),oMS,bdR,Db]
end
theorem Bi(w:Wf r)(hn:r.n<=6)(hs:1<=r.st.length)(h4:r.st.length<=4)(hm:r.ms.length<=100):∃f,kq r.d=.ret (told r (cr r) f)/\BX r (cr r) f:=by
 obtain⟨hc,h0,hst⟩:=lq w hs
 have hl:(cr r).length<=6:=ce jI hn
 have hlt:∀x∈cr r,x<r.n:=λx hx=>qP hx
 obtain⟨f,e,b⟩:=yd w hc jr hl h0 hlt
 refine⟨f,?_,b⟩
 have hf:=b.1
 have ht:=fL hf
 unfold kq
 rw[zo w (by lia),bdR,yL w hn hs,bdR,bL,A3,oMS,bdR,e,bdR,tH (by lia) hf,bdR]
 have c1:=br (step:=λd7=>bd (oM (aE (.dict (pt (cr r) f)) d7)) λx8=>.ret (some x8)) (e:=iN) (g:=λx=>iN (f x)) r.st λx hx=>by
  rw[ixN (hst x hx),oMS,bdR]
 have c2:=br (step:=λd12=>bd (bd (M.ret (PyData.tuple (r.sy.map PyData.bool))) λx13=>oM (aE x13 d12)) λx14=>.ret (some x14)) (e:=λk=>iN (aV f (cr r) k)) (g:=λk=>PyData.bool (fU r (aV f (cr r) k))) (List.range (hgt ((cr r).map f))) λk hk=>by
  have:=iC hf (List.mem_range.mp hk)
  rw[bdR,bL,tQ PyData.bool r.sy _ false (by rw[w.sy];exact hlt _ this.1),oMS,bdR]
  rfl
 have c3:=br (step:=λd19=>bd (oM (qv (.dict (pt (cr r) f)) d19)) λx20=>.ret (some x20)) (e:=iN) (g:=λx=>if x∈cr r then iN (f x)else .none) (List.range r.n) λx _=>by
  rw[GA,oMS,bdR]
 rw[bL,vj,oMS,bdR,pc,oMS,bdR,c1,bdR,bG (by rw[zzd];lia),bdR,bdR,lP,oMS,bdR]
 simp only[bL,A3]
 rw[c2,bdR,bG (by rw[zzd,ba];lia),bdR,bdR,tP,oMS,bdR,bP r.n (by lia),oMS,bdR,c3,bdR,bG (by rw[zzd,ba];lia),bdR,bdR,AF hc hl hf,bdR,lenL,oMS,bdR,g9,oMS,bdR,g9,oMS,bdR,g9,oMS,bdR,bdR,g9,oMS,bdR,bdR]
 unfold told
 rw[zzd,ba]
def ldM(ms:List Mt)(x:Nat×Nat):Nat×Nat:=ms.foldl (λq m=>if x=(m.1,m.2.1)\/x=(m.2.1,m.1)then m.2.2 else q) x
theorem tI(ms:List Mt)(m:Mt)(x:Nat×Nat):ldM (ms++[m]) x=if x=(m.1,m.2.1)\/x=(m.2.1,m.1)then m.2.2 else ldM ms x:=by unfold ldM;rw[wS];rfl
theorem FT{x:Nat×Nat}:∀{ms:List Mt},(∀m∈ms,m.1<=m.2.1)->(∃m∈ms,(m.1,m.2.1)=srt x/\ldM ms x=m.2.2)\/((∀m∈ms,(m.1,m.2.1)≠srt x)/\ldM ms x=x):=λ{ms}=>by
 induction ms using snocInd with
 | h0=>intro _;exact .inr ⟨λ_ h=>(nomatch h),rfl⟩
 | h1 ms m ih =>
  intro h
  have hm:=h m (by simp)
  have key:(x=(m.1,m.2.1)\/x=(m.2.1,m.1))↔(m.1,m.2.1)=srt x:=by
   obtain⟨a,b⟩:=x
   unfold srt
   simp only[Prod.mk.injEq]
   lia
  rw[tI]
  by_cases hk:x=(m.1,m.2.1)\/x=(m.2.1,m.1)
  ·exact .inl ⟨m,by simp,key.mp hk,by rw[ar hk]⟩
  ·rw[au hk]
   rcases ih λm' h'=>h m' (by simp[h'])with ⟨m',h1,h2,h3⟩|⟨h1,h2⟩
   ·exact .inl ⟨m',by simp[h1],h2,h3⟩
   ·refine .inr ⟨λm' h'=>?_,h2⟩
    rcases List.mem_append.mp h' with h'|h'
    ·exact h1 m' h'
    ·have:m'=m:=by simpa using h'
     rw[this];exact λz=>hk (key.mpr z)
theorem yt(w:Wf r){m:Mt}(hm:m∈r.ms):look r.ms (m.1,m.2.1)=some m.2.2:=by
 have so:=w.so
 generalize r.ms=ms at hm so
 induction ms with
 | nil=>cases hm
 | cons a ms ih =>
  rw[Lu]at so
  rw[yu]
  rcases List.mem_cons.mp hm with rfl|h
  ·rw[ar rfl]
  ·rw[au,ih h so.2]
   intro z
   have:=so.1 m h
   rw[z]at this
   rcases this with q|⟨_,q⟩<;>lia
theorem CZ{p:Nat×Nat}(h:∀m∈ms,(m.1,m.2.1)≠p):look ms p=none:=by
 cases e:look ms p with
 | none=>rfl
 | some q=>exact absurd rfl (h _ (nM e))
theorem wD(w:Wf r)(x o:Nat):ldM r.ms (x,o)=turn r.ms x o\/ldM r.ms (x,o)=((turn r.ms x o).2,(turn r.ms x o).1):=by
 have hl:∀m∈r.ms,m.1<=m.2.1:=λm hm=>(w.ms m hm).ab
 rcases FT (x:=(x,o)) hl with ⟨m,hm,hk,e⟩|⟨hk,e⟩
 ·have hu:=yt w hm
  rw[hk]at hu
  rw[e]
  unfold turn
  split
  ·rename_i hle
   have:srt (x,o)=(x,o):=by unfold srt;simp only[Lk hle,KO hle]
   rw[this]at hu
   rw[hu];exact .inl rfl
  ·rename_i hle
   have:srt (x,o)=(o,x):=by unfold srt;simp only[Lc (show o<=x by lia),KU (show o<=x by lia)]
   rw[this]at hu
   rw[hu];exact .inr rfl
 ·have hu:=CZ hk
  rw[e]
  unfold turn
  split
  ·rename_i hle
   have:srt (x,o)=(x,o):=by unfold srt;simp only[Lk hle,KO hle]
   rw[this]at hu
   rw[hu];exact .inl rfl
  ·rename_i hle
   have:srt (x,o)=(o,x):=by unfold srt;simp only[Lc (show o<=x by lia),KU (show o<=x by lia)]
   rw[this]at hu
   rw[hu];exact .inl rfl
theorem Iu(w:Wf r)(f:Nat->Nat)(x o:Nat):srt (f (ldM r.ms (x,o)).1,f (ldM r.ms (x,o)).2)=bh (turn r.ms) f x o:=by
 unfold bh
 rw[zq]
 rcases wD w x o with e|e
 ·exact .inl (by rw[e])
 ·exact .inr (by rw[e])
abbrev lD(p:Nat×Nat):D:=.list [iN p.1,iN p.2]
def vY(F:List (Nat×Nat))(k:Nat×Nat):List (Nat×Nat):=if k∈F then F else F++[k]
theorem mem_addP{k x:Nat×Nat}:x∈vY F k↔x∈F\/x=k:=by
 unfold vY
 split
 ·exact⟨.inl,λh=>h.elim id λe=>by rw[e];assumption⟩
 ·simp
theorem BR(F:List (Nat×Nat))(k:Nat×Nat):(vY F k).length<=F.length+1:=by
 unfold vY
 split
 ·lia
 ·simp
theorem Jx{v:Nat×Nat->D}{k:Nat×Nat}{d:D}(hl:F.length<=90000)(hd:d=v k):cW true (F.map (kP v)) (pD k) d=some ((vY F k).map (kP v)):=by
 unfold vY
 by_cases h:k∈F
 ·rw[ar h,Fo hl h]
  congr 1
  refine ix λx _=>?_
  by_cases e:x=k
  ·subst e;simp[kG,hd]
  ·simp[kG,e]
 ·rw[au h,HJ hl h hd]
def qK(r:Rl)(n:Nat)(d:D):Prop:=∃F:List (Nat×Nat),d=.dict (F.map (kP λp=>lD (ldM r.ms p)))/\∀a b,a<n->b<n->(a,b)∈F
theorem AM(w:Wf r)(hn:r.n<=6):∃d,dZ r.d=.ret d/\qK r r.n d:=by
 unfold dZ
 rw[bL,tP,oMS,bdR,bP r.n (by lia),oMS,bdR]
 refine dW (R:=λm=>∃d,m=.ret d/\qK r r.n d) (P:=λj s=>∃F:List (Nat×Nat),s=(r.d,F.map (kP lD),())/\F.length<=6*j/\(∀a b,a<j->b<r.n->(a,b)∈F)/\∀p∈F,p.1<r.n/\p.2<r.n) _ _ ?_ ⟨[],rfl,aw _,λa b h=>absurd h (L8 _),λ_ h=>(nomatch h)⟩ ?_
 ·rintro j s d hd ⟨F,rfl,hF,hall,hlt⟩ kn hkn
  obtain⟨rfl,hj⟩:=dn hd
  dsimp only
  unfold gQ
  rw[bL,tP,oMS,bdR,bP r.n (by lia),oMS,bdR]
  refine dW (R:=λm=>∃d,m=.ret d/\qK r r.n d) (P:=λi s=>∃F:List (Nat×Nat),s=(r.d,F.map (kP lD),iN j,())/\F.length<=6*j+i/\(∀a b,a<j->b<r.n->(a,b)∈F)/\(∀b,b<i->(j,b)∈F)/\∀p∈F,p.1<r.n/\p.2<r.n) _ _ ?_ ⟨F,rfl,hF,hall,λb h=>absurd h (L8 _),hlt⟩ ?_
  ·rintro i s d hd ⟨F,rfl,hF,hall,hj2,hlt⟩ kn hkn
   obtain⟨rfl,hi⟩:=dn hd
   dsimp only
   unfold gO
   rw[show(PyData.tuple [iN j,iN i])=pD (j,i)from rfl,Jx (v:=lD) (k:=(j,i)) (d:=.list [iN j,iN i]) (by lia) rfl,oMS,bdR]
   have:=BR F (j,i)
   refine hkn _ ⟨vY F (j,i),rfl,by lia,λa b ha hb=>mem_addP.mpr (.inl (hall a b ha hb)),λb hb=>?_,λp hp=>?_⟩
   ·rcases Lo b i with h|h
    ·exact mem_addP.mpr (.inl (hj2 b h))
    ·exact mem_addP.mpr (.inr (by rw[show b=i by lia]))
   ·rcases mem_addP.mp hp with h|h
    ·exact hlt p h
    ·rw[h];exact⟨hj,hi⟩
  ·rintro s ⟨F,rfl,hF,hall,hj2,hlt⟩
   rw[zzd,ba]at hF hj2
   dsimp only
   unfold gR
   refine hkn _ ⟨F,rfl,by lia,λa b ha hb=>?_,hlt⟩
   rcases Lo a j with h|h
   ·exact hall a b h hb
   ·rw[show a=j by lia];exact hj2 b hb
 ·rintro s ⟨F,rfl,hF,hall,hlt⟩
  rw[zzd,ba]at hF hall
  dsimp only
  unfold gS
  rw[bL,A4,oMS,bdR,pc,oMS,bdR]
  refine⟨_,(bM (e:=mD) (F:=λpre=>(F.map (kP λp=>lD (ldM pre p)),())) r.ms ?_).trans rfl,F,rfl,hall⟩
  intro pre m q hpq kn
  dsimp only
  unfold gP
  have ok:=w.ms m (by rw[hpq];simp)
  have hab:=ok.ab
  have hb:=ok.b
  have hu:∀(k:D->D->D->D->M D),un4 (mD m) k=k (iN m.1) (iN m.2.1) (iN m.2.2.1) (iN m.2.2.2):=λ_=>id rfl
  rw[hu,show(PyData.tuple [iN m.1,iN m.2.1])=pD (m.1,m.2.1)from rfl,Fo (by lia) (hall _ _ (by lia) hb),oMS,bdR,show(PyData.tuple [iN m.2.1,iN m.1])=pD (m.2.1,m.1)from rfl,Fo (by lia) (hall _ _ hb (by lia)),oMS,bdR]
  congr 2
  refine ix λx _=>?_
  show(pD x,_)=(pD x,_)
  congr 1
  dsimp only
  rw[tI]
  by_cases h1:x=(m.2.1,m.1)
  ·rw[ar h1,ar (.inr h1)]
  ·rw[au h1]
   by_cases h2:x=(m.1,m.2.1)
   ·rw[ar h2,ar (.inl h2)]
   ·rw[au h2,au (λz=>z.elim h2 h1)]
def jj(r:Rl)(rs:List Nat)(f:Nat->Nat)(x:Nat):Bool×List (Nat×Nat):=(fU r x,rs.map (bh (turn r.ms) f x))
def lkD(p:Bool×List (Nat×Nat)):D:=.list (PyData.bool p.1::p.2.map lD)
theorem Gv(p q:Nat×Nat):PyData.eqv (lD p) (lD q)=decide (p=q):=by
 have e:PyData.eqv (lD p) (lD q)=PyData.eqv (pD p) (pD q):=by simp[PyData.eqv]
 rw[e,n8]
theorem qp:∀l l':List (Nat×Nat),PyData.eqvAll (l.map lD) (l'.map lD)=decide (l=l')
 | [],[]=>by simp[PyData.eqvAll]
 | [],_::_=>by simp[PyData.eqvAll]
 | _::_,[]=>by simp[PyData.eqvAll]
 | a::l,b::l'=>by
  rw[ax,ax,PyData.eqvAll,Gv,qp l l',Km]
  simp
theorem Gu(a b:Bool×List (Nat×Nat)):PyData.eqv (lkD a) (lkD b)=decide (a=b):=by
 obtain⟨a1,a2⟩:=a
 obtain⟨b1,b2⟩:=b
 unfold lkD
 rw[PyData.eqv,PyData.eqvAll,qp,Km]
 cases a1<;>cases b1<;>simp[PyData.eqv]
theorem FQ(a:Bool×List (Nat×Nat)):(lkD a).canLay0=true/\(lkD a).depth<=1000:=by
 unfold lkD
 constructor
 ·rw[PyData.canLay0,PyData.canLayAll0,ac]
  refine⟨by simp[PyData.canLay0],rE λd hd=>?_⟩
  obtain⟨p,_,rfl⟩:=List.mem_map.mp hd
  simp[PyData.canLay0,PyData.canLayAll0]
 ·have hd:PyData.depthAll (PyData.bool a.1::a.2.map lD)<=3:=oC λd hd=>by
   rcases List.mem_cons.mp hd with rfl|hd
   ·simp[PyData.depth]
   ·obtain⟨x,_,rfl⟩:=List.mem_map.mp hd
    simp[lD,PyData.depth,PyData.depthAll]
  simp only[PyData.depth]
  lia
theorem Ig(a b:Bool×List (Nat×Nat)):fW (lkD a) (lkD b)=some (!decide (a=b)):=by
 unfold fW rM
 rw[ar (by simp[FQ]),Gu]
def stB(r:Rl)(rs:List Nat)(f:Nat->Nat):Bool:=rs.all λx=>decide (jj r rs f (aV f rs (f x))=jj r rs f x)
theorem stB_is:stB r rs f=true↔vZ rs (turn r.ms) (fU r) f:=by
 unfold stB
 rw[ir]
 constructor
 ·intro h x hx y hy e
  have h1:=h x hx
  have h2:=h y hy
  rw[zzi]at h1 h2
  rw[e,h2]at h1
  exact⟨(congrArg Prod.fst h1).symm,(congrArg Prod.snd h1).symm⟩
 ·intro h x hx
  rw[zzi]
  obtain⟨h1,h2⟩:=tW (f:=f) hx
  obtain⟨h3,h4⟩:=h _ h1 x hx h2
  exact Prod.ext h3 h4
section
variable {L:D} (w:Wf r) (hc:Cls rs (turn r.ms)) (hl:rs.length<=6) (hlt:∀x∈rs,x<r.n) (hL:qK r r.n L)
include w hc hlt hL
theorem part_of{o:Nat}(hx:x∈rs)(ho:o∈rs):(bd (bd (bd (bd (bd (oM (aE L (pD (x,o)))) λx11=>oM (cn x11)) λl14=>bd (bp (λd12=>bd (oM (aE (.dict (pt rs f)) d12)) λx13=>.ret (some x13)) l14) cC) λl15=>.ret (PyData.list l15)) λx16=>oM (cS [x16])) λl17=>M.ret (PyData.list l17))=.ret (lD (bh (turn r.ms) f x o)):=by
 obtain⟨F,rfl,hF⟩:=hL
 have hin:(ldM r.ms (x,o)).1∈rs/\(ldM r.ms (x,o)).2∈rs:=by
  obtain⟨a,b⟩:=hc x hx o ho
  rcases wD w x o with e|e
  ·rw[e];exact⟨a,b⟩
  ·rw[e];exact⟨b,a⟩
 have h:=br (step:=λd12=>bd (oM (aE (.dict (pt rs f)) d12)) λx13=>.ret (some x13)) (e:=iN) (g:=λy=>iN (f y)) [(ldM r.ms (x,o)).1,(ldM r.ms (x,o)).2] λy hy=>by
  have hy':y∈rs:=by
   simp only[eE,wE,xz]at hy
   rcases hy with rfl|rfl
   ·exact hin.1
   ·exact hin.2
  rw[ixN hy',oMS,bdR]
 rw[ixP (hF x o (hlt x hx) (hlt o ho)),oMS,bdR,lP,oMS,bdR,show[iN (ldM r.ms (x,o)).1,iN (ldM r.ms (x,o)).2]=[(ldM r.ms (x,o)).1,(ldM r.ms (x,o)).2].map iN from rfl,h,bdR,bG (by simp),bdR,bdR,show[(ldM r.ms (x,o)).1,(ldM r.ms (x,o)).2].map (λy=>iN (f y))=[iN (f (ldM r.ms (x,o)).1),iN (f (ldM r.ms (x,o)).2)]from rfl,mY,oMS,bdR,<-Iu w f x o]
 rfl
include hl in
theorem BO:b7 r.d L (.list (rs.map iN)) (.dict (pt rs f))=.ret (.bool (stB r rs f)):=by
 unfold b7
 rw[lP,oMS,bdR]
 refine dW (R:=λm:M D=>m=.ret (PyData.bool (stB r rs f))) (P:=λj s=>s=(r.d,L,PyData.list (rs.map iN),PyData.dict (pt rs f),(gm ((rs.take j).map f) []).map (kN λk=>lkD (jj r rs f (aV f rs k))),())/\∀x∈rs.take j,jj r rs f (aV f rs (f x))=jj r rs f x) _ _ ?_ ⟨rfl,λ_ h=>(by simp at h)⟩ ?_
 ·rintro j s d hd ⟨rfl,hg⟩ kn hkn
  have hj:j<rs.length:=by
   have:=(List.getElem?_eq_some_iff.mp hd).1
   rwa [zzd]at this
  have hd':d=iN rs[j]:=by
   rw[ik,de hj]at hd
   exact(Option.some.inj hd).symm
  subst hd'
  have htk:rs.take (j+1)=rs.take j++[rs[j]]:=by rw[List.take_succ,de hj];rfl
  have hsp:rs=rs.take j++rs[j]::rs.drop (j+1):=by
   conv=>lhs;rw[<-La j rs,KP hj]
  have hx:rs[j]∈rs:=Kk hj
  generalize rs[j]=x at hsp htk hx hkn ⊢
  dsimp only
  unfold dB
  rw[bL,A3,oMS,bdR,bL,tQ PyData.bool r.sy x false (by rw[w.sy];exact hlt x hx),oMS,bdR,bdR,lP,oMS,bdR]
  refine(congrArg (λm=>m=M.ret (PyData.bool (stB r rs f))) (bM (e:=iN) (F:=λpre=>(r.d,L,PyData.list (rs.map iN),PyData.dict (pt rs f),(gm ((rs.take j).map f) []).map (kN λk=>lkD (jj r rs f (aV f rs k))),iN x,PyData.bool (fU r x)::pre.map (λo=>lD (bh (turn r.ms) f x o)),())) rs ?_)).mpr ?_
  ·intro p o q hpq kn2
   dsimp only
   unfold dA
   have ho:o∈rs:=by rw[hpq];simp
   have hpl:p.length<=6:=by
    have:=congrArg List.length hpq
    rw[zzf]at this
    lia
   rw[show(PyData.tuple [iN x,iN o])=pD (x,o)from rfl,part_of w hc hlt hL hx ho,bdR,lx _ _ (by simp;lia),oMS,bdR]
   simp
  ·dsimp only
   unfold dC
   have hFl:(gm ((rs.take j).map f) []).length<=90000:=by
    have:∀(A K:List Nat),(gm A K).length<=K.length+A.length:=λA=>by
     induction A with
     | nil=>intro K;exact ai _
     | cons a A ih =>
      intro K
      have:=ih (add K a)
      have h2:(add K a).length<=K.length+1:=by unfold add;split<;>simp
      show(gm A (add K a)).length<=K.length+(A.length+1)
      lia
    have:=this ((rs.take j).map f) []
    rw[zzd,Ki]at this
    simp only[fi]at this
    lia
   have hlk:(PyData.list (PyData.bool (fU r x)::rs.map λo=>lD (bh (turn r.ms) f x o)))=lkD (jj r rs f x):=by unfold lkD jj;rw[ib];rfl
   rw[ixN hx,oMS,bdR,hlk,sdN hFl (λhk=>?_),oMS,bdR]
   ·dsimp only
    rw[Ig,oMS,bdR]
    by_cases he:jj r rs f (aV f rs (f x))=jj r rs f x
    ·rw[ef he,au (by decide)]
     refine hkn _ ⟨?_,λy hy=>?_⟩
     ·rw[htk,eg]
      congr 5
      unfold gm
      rw[wS]
      rfl
     ·rw[htk]at hy
      rcases List.mem_append.mp hy with h|h
      ·exact hg y h
      ·have:y=x:=by simpa using h
       rw[this];exact he
    ·rw[bu he,ar (show(!false)=true from rfl)]
     have:stB r rs f=false:=by
      unfold stB
      rw[List.all_eq_false]
      exact⟨x,hx,by rw[zzi];exact he⟩
     rw[this]
   ·have hno:∀y∈rs.take j,f y≠f x:=λy hy e=>hk (mem_adds.mpr (.inr (List.mem_map.mpr ⟨y,hy,e⟩)))
    have:aV f rs (f x)=x:=by
     conv=>lhs;rw[hsp]
     exact tX hno
    rw[this]
 ·rintro s ⟨rfl,hg⟩
  rw[zzd,List.take_length]at hg
  dsimp only
  unfold dD
  have:stB r rs f=true:=by
   unfold stB
   rw[ir]
   exact λx hx=>by rw[zzi];exact hg x hx
  rw[this]
end
abbrev rT(p:List Nat):D:=.tuple (p.map iN)
theorem sN(h:n<=6):cF (iN n)=.ret (.list ((rows n).map rT)):=by
 unfold cF eU
 simp only[iY]
 rcases(by lia:n=0\/n=1\/n=2\/n=3\/n=4\/n=5\/n=6)with rfl|rfl|rfl|rfl|rfl|rfl|rfl
 all_goals kernel_rfl
def fn(rs p:List Nat)(x:Nat):Nat:=p.getD (rs.idxOf x) 0
theorem u9(nd:rs.Nodup)(hl:p.length=rs.length):rs.map (fn rs p)=p:=by
 apply List.ext_getElem
 ·rw[zzd,hl]
 ·intro i h1 h2
  rw[zzd]at h1
  rw[List.getElem_map]
  unfold fn
  rw[List.Nodup.idxOf_getElem nd i h1,ou,de h2]
  rfl
theorem wd{f:Nat->Nat}:∀(q p:List Nat),(p++q).Nodup->(p++q).length<=90000->ig false (pt p f) (q.map λx=>.tuple [iN x,iN (f x)])=some (pt (p++q) f)
 | [],p,_,_=>by rw[mo];rfl
 | x::q,p,nd,hl=>by
  have e:p++x::q=(p++[x])++q:=by simp
  have hx:x∉p:=λz=>by
   rw[Kn]at nd
   exact nd.2.2 x z x ak rfl
  have h1:cW false (pt p f) (iN x) (iN (f x))=some (pt (p++[x]) f):=by
   rw[putN (by rw[zzf]at hl;lia) rfl]
   unfold add
   rw[au hx]
  show(cW false (pt p f) (iN x) (iN (f x))).bind (λes1=>ig false es1 (q.map λx=>.tuple [iN x,iN (f x)]))=_
  rw[h1,e]
  exact wd q (p++[x]) (e▸nd) (e▸hl)
theorem w6(nd:rs.Nodup)(hl:rs.length<=6)(h0:rs≠[]):yG false [.list (rs.map iN),rT (rs.map f)]=some (pt rs f):=by
 show(if decide ((rs.map iN).length=((rs.map f).map iN).length) && !(rs.map iN).isEmpty then ig false [] (mM (rs.map iN) ((rs.map f).map iN))else none)=_
 rw[ar,ib,show(iN∘f)=λx=>iN (f x)from rfl,v5]
 ·exact wd rs [] nd (by rw[List.nil_append];lia)
 ·rw[ac,zzi]
  refine⟨by simp,?_⟩
  cases rs with
  | nil=>exact absurd rfl h0
  | cons a l=>rfl
theorem rG:∀p:List Nat,intsOf (p.map iN)=some (p.map λx:Nat=>(x:Int))
 | []=>rfl
 | a::p=>by
  show(match intsOf (p.map iN)with|some l=>some ((a:Int)::l)|none=>none)=_
  rw[rG p]
  rfl
theorem wO:∀(p:List Nat) (a:Nat),p.foldl (λm k=>max m (k+1)) (a+1)=p.foldl max a+1
 | [],a=>rfl
 | b::p,a=>by
  rw[ul,ul,<-wO p (max a b)]
  congr 1
  lia
theorem tF:∀(p:List Nat) (a:Nat),(p.map λx:Nat=>(x:Int)).foldl max (a:Int)=((p.foldl max a:Nat):Int)
 | [],a=>rfl
 | b::p,a=>by
  rw[ax,ul,ul,<-tF p (max a b)]
  congr 1
  lia
theorem u7(h:p≠[]):1<=hgt p/\ki [rT p]=some (iN (hgt p - 1)):=by
 cases p with
 | nil=>exact absurd rfl h
 | cons a p =>
  have e:hgt (a::p)=p.foldl max a+1:=by
   unfold hgt
   rw[ul,show max 0 (a+1)=a+1 by lia,wO]
  rw[e]
  refine⟨by lia,?_⟩
  show(match intsOf ((a::p).map iN)with|some (n::r)=>some (PyData.int (px (n::r)))|_=>none)=_
  rw[rG]
  show some (PyData.int ((p.map λx:Nat=>(x:Int)).foldl max (a:Int)))=_
  rw[tF,Nat.add_sub_cancel]
def bD:Option (List Nat)->D
 | none=>.none
 | some p=>rT p
section
variable {L:D} (w:Wf r) (hc:Cls rs (turn r.ms)) (nd:rs.Nodup) (hl:rs.length<=6) (h0:rs≠[]) (hlt:∀x∈rs,x<r.n) (hL:qK r r.n L)
include w hc nd hl h0 hlt hL
theorem xS{b:Option (List Nat)}(hp:p.length=rs.length)(hb:∀q,b=some q->q.length=rs.length){kn:D×D×D×D×Unit->M D} :
  fN r.d (.list (rs.map iN)) L (bD b) (rT p) kn=kn (r.d,.list (rs.map iN),L,bD (seek (λp=>stB r rs (fn rs p)) b p),()):=by
 have hpn:p≠[]:=λz=>by rw[z]at hp;exact h0 (List.length_eq_zero_iff.mp hp.symm)
 have hz:yG false [.list (rs.map iN),rT p]=some (pt rs (fn rs p)):=by
  have:=w6 (f:=fn rs p) nd hl h0
  rwa [u9 nd hp]at this
 unfold fN
 rw[hz,oMS,bdR,BO w hc hl hlt hL]
 cases b with
 | none =>
  rw[show sR (bD none) .none=some true from rfl,oMS,bdR,ar rfl,bdR,ar rfl,bdR,show zp (.bool (stB r rs (fn rs p)))=some (stB r rs (fn rs p))from rfl,oMS,bdR]
  unfold seek
  dsimp only
  split<;>rfl
 | some q =>
  have hq:=hb q rfl
  have hqn:q≠[]:=λz=>by rw[z]at hq;exact h0 (List.length_eq_zero_iff.mp hq.symm)
  obtain⟨p1,p2⟩:=u7 hpn
  obtain⟨q1,q2⟩:=u7 hqn
  rw[show sR (bD (some q)) .none=some false from rfl,oMS,bdR,au (by decide),p2,oMS,bdR,show bD (some q)=rT q from rfl,q2,oMS,bdR,ltA,oMS,bdR]
  unfold seek
  dsimp only
  by_cases h:hgt p<hgt q
  ·rw[ar (by rw[zzi];lia),ar h,bdR,show zp (.bool (stB r rs (fn rs p)))=some (stB r rs (fn rs p))from rfl,oMS,bdR]
   split<;>rfl
  ·rw[au (by rw[zzi];lia),au h]
   rfl
theorem Dw(b:BX r rs f):(rows rs.length).foldl (seek λp=>stB r rs (fn rs p)) none=some (rs.map f):=by
 obtain⟨h1,h2,h3⟩:=b
 have agree:∀x∈rs,fn rs (rs.map f) x=f x:=List.map_inj_left.mp (u9 nd (by rw[zzd]))
 refine Cb (mem_rows.mpr ⟨h1,by rw[zzd]⟩) ?_ λq hq hs=>?_
 ·rw[stB_is]
  intro x hx y hy e
  rw[agree x hx,agree y hy]at e
  obtain⟨a1,a2⟩:=h2 x hx y hy e
  refine⟨a1,?_⟩
  have go:∀z∈rs,rs.map (bh (turn r.ms) (fn rs (rs.map f)) z)=rs.map (bh (turn r.ms) f z):=λz hz=>ix λo ho=>by
   obtain⟨c1,c2⟩:=hc z hz o ho
   unfold bh
   rw[agree _ c1,agree _ c2]
  rw[go x hx,go y hy,a2]
 ·obtain⟨q1,q2⟩:=mem_rows.mp hq
  have hm:=u9 nd q2
  have hr:=h3 _ (stB_is.mp hs)
  obtain⟨t1,t2⟩:=zF (f:=f) (h:=fn rs q) h1 (by rw[hm];exact q1) hr
  rw[hm]at t1 t2
  rcases Lo (hgt (rs.map f)) (hgt q)with h|h
  ·exact .inr h
  ·exact .inl (t2 (by lia)).symm
theorem Gg{k:Nat}(hk:k∈rs.map f):∃j,nZ (rT (rs.map f)) [iN k]=some (iN j)/\rs[j]? = some (aV f rs k):=by
 have go:∀l:List Nat,k∈l.map f->∃j,((l.map f).map λx:Nat=>(x:Int)).findIdx? (λm=>decide (m=(k:Int)))=some j/\∃x,l[j]? = some x/\l.find? (λx=>decide (f x=k))=some x:=λl=>by
  induction l with
  | nil=>intro h;simp at h
  | cons a l ih =>
   intro h
   rw[ax,ax,List.findIdx?_cons,ue]
   by_cases e:f a=k
   ·rw[ar (by rw[zzi];lia),ef e]
    exact⟨0,rfl,a,rfl,rfl⟩
   ·rw[au (by rw[zzi];lia),bu e]
    rw[ax]at h
    rcases List.mem_cons.mp h with h|h
    ·exact absurd h.symm e
    ·obtain⟨j,e1,x,e2,e3⟩:=ih h
     exact⟨j+1,by rw[e1];rfl,x,by simpa using e2,e3⟩
 obtain⟨j,e1,x,e2,e3⟩:=go rs hk
 refine⟨j,?_,?_⟩
 ·show(match intsOf ((rs.map f).map iN)with|some ns=>(match ns.findIdx? (λm=>decide (m=(k:Int)))with|some j=>some (PyData.int (j:Nat))|none=>none)|none=>none)=_
  rw[rG]
  dsimp only
  rw[e1]
 ·unfold aV
  rw[e3,e2]
  rfl
end
section
variable {L:D} (w:Wf r) (hn:r.n<=6) (hc:Cls rs (turn r.ms)) (nd:rs.Nodup) (hl:rs.length<=6) (h0:rs≠[]) (hlt:∀x∈rs,x<r.n) (hL:qK r r.n L) (hf:RG (rs.map f))
abbrev fsD(rs:List Nat)(f:Nat->Nat):D:=.list ((List.range (hgt (rs.map f))).map λk=>iN (aV f rs k))
include hl hf in
theorem EK{q:Nat}(hq:q<hgt (rs.map f)):aE (fsD rs f) (iN q)=some (iN (aV f rs q)):=by
 rw[jk,lI (λk=>iN (aV f rs k)) (List.range (hgt (rs.map f))) q (by simpa using hq)]
 simp
include w hc hl hlt hL hf in
theorem Dq{acc:List D}{p:Nat}(hp:p<hgt (rs.map f))(ha:acc.length<=36){kn:D×D×List (D×D)×D×List D×Unit->M D} :
  fM r.d L (pt rs f) (fsD rs f) acc (iN p) kn=kn (r.d,L,pt rs f,fsD rs f,acc++cX (turn r.ms) f rs p,()):=by
 have ht:=fL hf
 unfold fM
 rw[lenL,oMS,bdR,zzd,ba,mv p (hgt (rs.map f)) (by lia) (by lia),oMS,bdR]
 have h0:acc=acc++List.filterMap (h8 (turn r.ms) f rs p) []:=by simp
 conv=>lhs;rw[h0]
 refine(bM (e:=iN) (F:=λpre2=>(r.d,L,pt rs f,fsD rs f,acc++pre2.filterMap (h8 (turn r.ms) f rs p),iN p,())) (rng p (hgt (rs.map f))) ?_).trans rfl
 intro pre2 q2 rest hpq2 kn2
 dsimp only
 unfold jo
 have hq:q2<hgt (rs.map f):=(mem_rng.mp (show q2∈rng p (hgt (rs.map f)) by rw[hpq2];simp)).2
 have hp2:pre2.length<=6:=by
  have:=congrArg List.length hpq2
  rw[db,zzf]at this
  lia
 have hu:∀(b:Nat×Nat) (k:D->D->M D),B0 (lD b) k=k (iN b.1) (iN b.2):=λ_ _=>id rfl
 rw[EK hl hf hp,oMS,bdR,EK hl hf hq,oMS,bdR,bdR,show(PyData.tuple [iN (aV f rs p),iN (aV f rs q2)])=pD (aV f rs p,aV f rs q2)from rfl,part_of w hc hlt hL (iC hf hp).1 (iC hf hq).1,bdR,hu,show(PyData.tuple [iN p,iN q2])=pD (p,q2)from rfl,show(PyData.tuple [iN (bh (turn r.ms) f (aV f rs p) (aV f rs q2)).1,iN (bh (turn r.ms) f (aV f rs p) (aV f rs q2)).2])=pD (bh (turn r.ms) f (aV f rs p) (aV f rs q2))from rfl,neP,oMS,bdR,Lb,ng,List.filterMap_nil]
 have hfl:=LO (h8 (turn r.ms) f rs p) pre2
 by_cases he:bh (turn r.ms) f (aV f rs p) (aV f rs q2)=(p,q2)
 ·have hrow:h8 (turn r.ms) f rs p q2=none:=by unfold h8;rw[ar he]
  rw[hrow,ef he,au (by decide),mo]
 ·have hrow:h8 (turn r.ms) f rs p q2=some (.tuple [iN p,iN q2,iN (bh (turn r.ms) f (aV f rs p) (aV f rs q2)).1,iN (bh (turn r.ms) f (aV f rs p) (aV f rs q2)).2]):=by unfold h8;rw[au he]
  rw[hrow,bu he,ar (show(!false)=true from rfl),lx _ _ (by rw[zzf];lia),oMS,bdR,Db]
include w hn hc nd hl h0 hlt hL hf in
theorem Dr(hs:∀s∈r.st,s∈rs)(h4:r.st.length<=4):fO r.d (.list (rs.map iN)) L (rT (rs.map f))=.ret (told r rs f):=by
 have ht:=fL hf
 have hne:rs.map f≠[]:=λz=>h0 (List.map_eq_nil_iff.mp z)
 obtain⟨m1,m2⟩:=u7 hne
 have hb:∀pre:List Nat,pre.length<=6->(pre.flatMap (cX (turn r.ms) f rs)).length<=36:=λpre hp=>by
  have:=kb (g:=cX (turn r.ms) f rs) (B:=6) (λa=>ce (kL _ _ _ _) (by lia)) pre
  have:pre.length*6<=6*6:=Nat.mul_le_mul_right 6 hp
  lia
 have ea:bS (iN (hgt (rs.map f) - 1)) (.int 1)=some (iN (hgt (rs.map f))):=by
  have:=IW (hgt (rs.map f) - 1) 1
  rw[show hgt (rs.map f) - 1+1=hgt (rs.map f) by lia]at this
  exact this
 have c0:=br (step:=λd9=>bd (bd (onT .tup (rT (rs.map f)) (oM (nZ (rT (rs.map f)) [d9]))) λx10=>oM (aE (.list (rs.map iN)) x10)) λx11=>.ret (some x11)) (e:=iN) (g:=λk=>iN (aV f rs k)) (List.range (hgt (rs.map f))) λk hk=>by
  obtain⟨j,e1,e2⟩:=Gg w hc nd hl h0 hlt hL (f:=f) (hf.occ (List.mem_range.mp hk))
  obtain⟨hj,e3⟩:=List.getElem?_eq_some_iff.mp e2
  rw[e1,show ∀m:M D,onT .tup (rT (rs.map f)) m=m from λ_=>rfl,oMS,bdR,jk,lI iN rs j hj,oMS,bdR,e3]
 have c1:=br (step:=λd18=>bd (oM (aE (.dict (pt rs f)) d18)) λx19=>.ret (some x19)) (e:=iN) (g:=λx=>iN (f x)) r.st λx hx=>by
  rw[ixN (hs x hx),oMS,bdR]
 have c2:=br (step:=λd26=>bd (bd (oM (aE r.d (.int 3))) λx27=>oM (aE x27 d26)) λx28=>.ret (some x28)) (e:=λk=>iN (aV f rs k)) (g:=λk=>PyData.bool (fU r (aV f rs k))) (List.range (hgt (rs.map f))) λk hk=>by
  have:=iC hf (List.mem_range.mp hk)
  rw[bL,A3,oMS,bdR,bL,tQ PyData.bool r.sy _ false (by rw[w.sy];exact hlt _ this.1),oMS,bdR]
  rfl
 have c3:=br (step:=λd35=>bd (oM (jl (.dict (pt rs f)) d35 .none)) λx36=>.ret (some x36)) (e:=iN) (g:=λx=>if x∈rs then iN (f x)else .none) (List.range r.n) λx _=>by
  rw[Gz,oMS,bdR]
 unfold fO
 rw[w6 nd hl h0,oMS,bdR,m2,oMS,bdR,ea,oMS,bdR,bP _ (by lia),oMS,bdR,c0,bdR,bG (by rw[zzd,ba];lia),bdR,bdR,lenL,oMS,bdR,zzd,ba,bP _ (by lia),oMS,bdR]
 refine(bM (e:=iN) (F:=λpre=>(r.d,L,pt rs f,fsD rs f,pre.flatMap (cX (turn r.ms) f rs),())) (List.range (hgt (rs.map f))) ?_).trans ?_
 ·intro pre p q hpq kn
  dsimp only
  have hp:p<hgt (rs.map f):=List.mem_range.mp (by rw[hpq];simp)
  have hpl:pre.length<=6:=by
   have:=congrArg List.length hpq
   rw[ba,zzf]at this
   lia
  rw[Dq w hc hl hlt hL hf hp (hb pre hpl),List.flatMap_append,List.flatMap_singleton]
 ·dsimp only
  unfold jp
  have i1:aE r.d (.int 1)=some (.tuple (r.st.map iN)):=by rw[bL,vj]
  have i0:aE r.d (.int 0)=some (iN r.n):=by rw[bL,tP]
  rw[i1,oMS,bdR,pc,oMS,bdR,c1,bdR,bG (by rw[zzd];lia),bdR,bdR,g9,oMS,bdR,lenL,oMS,bdR,g9,oMS,bdR,lP,oMS,bdR,c2,bdR,bG (by rw[zzd,ba];lia),bdR,bdR,g9,oMS,bdR,bdR,i0,oMS,bdR,bP r.n (by lia),oMS,bdR,c3,bdR,bG (by rw[zzd,ba];lia),bdR,bdR,g9,oMS,bdR,bdR]
  unfold told
  rw[zzd,ba]
end
theorem Gx(w:Wf r)(hn:r.n<=6)(hs:1<=r.st.length)(h4:r.st.length<=4)(b:BX r (cr r) f):gL r.d=.ret (told r (cr r) f):=by
 obtain⟨hc,h0,hst⟩:=lq w hs
 have hl:(cr r).length<=6:=ce jI hn
 have hlt:∀x∈cr r,x<r.n:=λx hx=>qP hx
 have nd:(cr r).Nodup:=jr
 obtain⟨L,eL,hL⟩:=AM w hn
 unfold gL
 rw[Bv w hn h4,bdR,eL,bdR,lenL,oMS,bdR,zzd,sN hl,bdR,lP,oMS,bdR]
 refine(bM (e:=rT) (F:=λpre=>(r.d,PyData.list ((cr r).map iN),L,bD (pre.foldl (seek λp=>stB r (cr r) (fn (cr r) p)) none),())) (rows (cr r).length) ?_).trans ?_
 ·intro pre p q hpq kn
  dsimp only
  have hm:∀p'∈pre++[p],p'.length=(cr r).length:=λp' h'=>(mem_rows.mp (show p'∈rows (cr r).length by
   rw[hpq]
   rcases List.mem_append.mp h' with h'|h'
   ·simp[h']
   ·have:p'=p:=by simpa using h'
    simp[this])).2
  have hb:∀(pre:List (List Nat)) (b0:Option (List Nat)),(∀p'∈pre,p'.length=(cr r).length)->(∀q,b0=some q->q.length=(cr r).length)->∀q,pre.foldl (seek λp=>stB r (cr r) (fn (cr r) p)) b0=some q->q.length=(cr r).length:=λpre=>by
   induction pre with
   | nil=>intro b0 _ h q e;exact h q e
   | cons a pre ih =>
    intro b0 ha h q e
    rw[ul]at e
    refine ih _ (λp' hp'=>ha p' (by simp[hp'])) (λq' e'=>?_) q e
    unfold seek at e'
    split at e'
    ·split at e'
     ·cases e';exact ha _ (by simp)
     ·cases e'
    ·split at e'
     ·split at e'
      ·cases e';exact ha _ (by simp)
      ·cases e';exact h _ rfl
     ·cases e';exact h _ rfl
  rw[xS w hc nd hl h0 hlt hL (hm p (by simp)) (hb pre none (λp' h'=>hm p' (by simp[h'])) λq e=>nomatch e),wS]
  rfl
 ·dsimp only
  rw[Dw w hc nd hl h0 hlt hL b]
  exact Dr w hn hc nd hl h0 hlt hL b.1 hst h4
section
variable (hn:r.n<=6) (hc:Cls rs (turn r.ms)) (hl:rs.length<=6) (hf:RG (rs.map f)) (hs:∀s∈r.st,s∈rs) (h4:r.st.length<=4)
include hl hf in
theorem Dn(hx:x∈rs):f x<6:=by
 have:=rC (List.mem_map.mpr ⟨x,hx,rfl⟩:f x∈rs.map f)
 have:=fL hf
 lia
include hc hl hf in
theorem uR{d:D}(hd:d∈(List.range (hgt (rs.map f))).flatMap (cX (turn r.ms) f rs)):∃m:Mt,d=mD m/\m.1<6/\m.2.1<6/\m.2.2.1<6/\m.2.2.2<6:=by
 obtain⟨p,hp,h⟩:=List.mem_flatMap.mp hd
 have hp:=List.mem_range.mp hp
 unfold cX at h
 obtain⟨q,hq,e⟩:=List.mem_filterMap.mp h
 have hq:=(mem_rng.mp hq).2
 unfold h8 at e
 split at e
 ·cases e
 ·cases e
  have ht:=fL hf
  obtain⟨c1,c2⟩:=hc _ (iC hf hp).1 _ (iC hf hq).1
  have b1:=Dn hl hf c1
  have b2:=Dn hl hf c2
  refine⟨(p,q,bh (turn r.ms) f (aV f rs p) (aV f rs q)),rfl,by dsimp only;lia,by dsimp only;lia,?_,?_⟩
  ·show min _ _<6
   lia
  ·show max _ _<6
   lia
include hn hc hl hf hs in
theorem B3:Sm (told r rs f):=by
 have ht:=fL hf
 unfold told
 simp only[Sm,Sms]
 refine⟨⟨by simpa[iN,Sm]using gu (n:=hgt (rs.map f)) (by lia),iL λd hd=>?_,iL λd hd=>?_,iL λd hd=>?_,trivial⟩,iL λd hd=>?_,trivial⟩
 ·obtain⟨x,hx,rfl⟩:=List.mem_map.mp hd
  exact gu (by have:=Dn hl hf (hs x hx);lia)
 ·obtain⟨m,rfl,h1,h2,h3,h4⟩:=uR hc hl hf hd
  exact D1 ⟨by lia,by lia,by lia,by lia⟩
 ·obtain⟨x,_,rfl⟩:=List.mem_map.mp hd
  simp[Sm]
 ·obtain⟨x,_,rfl⟩:=List.mem_map.mp hd
  split
  ·rename_i hx
   exact gu (by have:=Dn hl hf hx;lia)
  ·simp[Sm]
include hn hc hl hf h4 in
theorem B2:sz (told r rs f)<=1000:=by
 have ht:=fL hf
 unfold told
 simp only[sz,szs]
 have s1:=mV (B:=1) (ds:=r.st.map λx=>iN (f x)) λd hd=>by
  obtain⟨x,_,rfl⟩:=List.mem_map.mp hd
  simp[sz]
 have s2:=mV (B:=5) (ds:=(List.range (hgt (rs.map f))).flatMap (cX (turn r.ms) f rs)) λd hd=>by
  obtain⟨m,rfl,_⟩:=uR hc hl hf hd
  simp[sz,szs]
 have s3:=mV (B:=1) (ds:=(List.range (hgt (rs.map f))).map λk=>PyData.bool (fU r (aV f rs k))) λd hd=>by
  obtain⟨x,_,rfl⟩:=List.mem_map.mp hd
  simp[sz]
 have s4:=mV (B:=1) (ds:=(List.range r.n).map λx=>if x∈rs then iN (f x)else PyData.none) λd hd=>by
  obtain⟨x,_,rfl⟩:=List.mem_map.mp hd
  split<;>simp[sz]
 have s5:=kb (g:=cX (turn r.ms) f rs) (B:=6) (λa=>ce (kL _ _ _ _) (by lia)) (List.range (hgt (rs.map f)))
 rw[zzd]at s1 s3 s4
 rw[ba]at s3 s4 s5
 lia
include hc hl hf in
theorem uH:(told r rs f).depth<=60:=by
 have i0:∀n:Nat,(iN n).depth<=1:=λn=>by simp[iN,PyData.depth]
 refine ce (bv (n:=4) λd hd=>?_) (by decide)
 simp only[eE,wE,xz]at hd
 rcases hd with rfl|rfl
 ·refine bv (n:=3) λd hd=>?_
  simp only[eE,wE,xz]at hd
  rcases hd with rfl|rfl|rfl|rfl
  ·exact ce (i0 _) (by decide)
  ·refine ce (bv (n:=1) λd hd=>?_) (by decide)
   obtain⟨s,_,rfl⟩:=List.mem_map.mp hd
   exact i0 _
  ·refine bv (n:=2) λd hd=>?_
   obtain⟨m,rfl,_⟩:=uR hc hl hf hd
   refine bv (n:=1) λd hd=>?_
   simp only[eE,wE,xz]at hd
   rcases hd with rfl|rfl|rfl|rfl<;>exact i0 _
  ·refine ce (bv (n:=1) λd hd=>?_) (by decide)
   obtain⟨s,_,rfl⟩:=List.mem_map.mp hd
   simp[PyData.depth]
 ·refine ce (bv (n:=1) λd hd=>?_) (by decide)
  obtain⟨s,_,rfl⟩:=List.mem_map.mp hd
  split
  ·exact i0 _
  ·simp[PyData.depth]
end
structure Good(r:Rl):Prop where
 w:Wf r
 n:r.n<=6
 s1:1<=r.st.length
 s4:r.st.length<=4
 m:r.ms.length<=100
theorem AX(g:Good r){sc:D}{kn2 kn:D×Unit->M D}:iF kn2 sc r.d kn=kn (sc,()):=by
 obtain⟨w,hn,hs,h4,hm⟩:=g
 obtain⟨f,e,b⟩:=Bi w hn hs h4 hm
 obtain⟨hc,h0,hst⟩:=lq w hs
 have hl:(cr r).length<=6:=ce jI hn
 have sm:=B3 hn hc hl b.1 hst
 have rp:=D6 sm (ce (B2 hn hc hl b.1 h4) (by decide)) (uH hc hl b.1)
 obtain⟨r1,r2⟩:=Cd w (by lia) (by lia) (by lia)
 unfold iF
 rw[r1,oMS,bdR,Gx w hn hs h4 b,bdR,rp,oMS,bdR,e,bdR,rp,oMS,bdR,Az sm,oMS,bdR,au (by decide),bdR,bdR,au (by decide),r2,oMS,bdR,au (by decide)]
theorem FU(ns:List Int)(hn:ns.length<=63)(k:Nat)(hk4:k<4)(kn:D×Unit->M D)(hk:kn (.list (ns.map PyData.int),())=.ret (.bool true)):oK (.list (ns.map PyData.int)) (iN k) kn=.ret (.bool true):=by
 obtain⟨f0,e0,h0⟩:=Dm ns k (by lia) hn
 obtain⟨r1,f1,e1,w1,n1,a1,b1,m1,h1⟩:=v8 (most:=5) h0 (by lia) (by lia) (by lia)
 obtain⟨r2,f2,e2,w2,n2,a2,b2,m2,h2⟩:=v8 (most:=3) h1 (by lia) (by lia) (by lia)
 have q1:r1.n*r1.n<=5*5:=KJ n1 n1
 have q2:r2.n*r2.n<=3*3:=KJ n2 n2
 obtain⟨r3,f3,e3,w3,n3,a3,b3,m3,h3⟩:=Bx h2 (by lia) w2 n2 a2 b2 (by lia)
 have q3:r3.n*r3.n<=6*6:=KJ n3 n3
 have g1:Good r1:=⟨w1,by lia,a1,b1,by lia⟩
 have g3:Good r3:=⟨w3,n3,a3,b3,by lia⟩
 have e1':cf f0 (.int 5)=.ret (r1.d,f1):=e1
 have e2':cf f1 (.int 3)=.ret (r2.d,f2):=e2
 unfold oK
 rw[e0,bdR,e1',bdR];dsimp only
 rw[e2',bdR];dsimp only
 rw[e3,bdR];dsimp only
 rw[lP,oMS,bdR,iY]
 show iF kn _ r3.d (λs=>iF kn s.1 r1.d λs=>oN kn s.1)=_
 rw[AX g3]
 dsimp only
 rw[AX g1]
 unfold oN
 exact hk
theorem main:∀ns:List Int,ns.length<=63->xh (.list (ns.map PyData.int))=.ret (.bool true):=by
 intro ns hn
 unfold xh
 have r5:aZ [.int 4]=some ((List.range 4).map iN):=bP 4 (by lia)
 rw[r5,oMS,bdR]
 refine Dl (P:=λi s=>s=(PyData.list (ns.map PyData.int),())) _ 0 _ _ ?_ rfl ?_
 ·rintro j s d hd _ hj rfl kn hkn
  obtain⟨k,hk,rfl⟩:=List.mem_map.mp hd
  dsimp only
  exact FU ns hn k (List.mem_range.mp hk) kn (hkn _ rfl)
 ·rintro s rfl
  rfl
end K42
namespace PySem.W.Fast
def tw10760363998273133359:=()
def tw420224753498296842:=()
def tw15632876315682543786:=()
def tw11489573429772489733:=()
def tw10673590235358438377:=()
def tw1451200572908804334:=()
def tw3904221054058559912:=()
def tw11159851404724283490:=()
def tw677144440034100541:=()
def tw15575270232049722696:=()
def tw2572097359762519468:=()
def tw7376316605470495807:=()
def tw2163402166962565894:=()
def tw13017662071647467009:=()
def tw12510772691559014385:=()
def tw16166793563437657763:=()
def tw9805968034234138130:=()
def tw9800994019893254878:=()
def tw18404486007354733910:=()
def tw3068167381286550820:=()
def tw16794168788540776672:=()
def tw1549513560647380870:=()
def tw6405322726352264083:=()
def tw11934757136320380434:=()
def tw3390038696785302196:=()
def tw4018263499877688108:=()
def tw17505448082267201942:=()
def tw8578679275855386291:=()
def tw3893489728018824429:=()
def tw16760821726513408871:=()
def tw17542830160518773831:=()
def tw6823871573658255774:=()
def tw4630689100475566271:=()
def tw5549355578608100794:=()
def tw16510846568426927651:=()
def tw16421303562506577042:=()
def tw6979502259621292779:=()
def tw6561400257424855117:=()
def tw5730502614425609690:=()
def tw16152822684494080250:=()
def tw14791887791648154382:=()
def tw921000410757476931:=()
def tw17815023628694760610:=()
def tw7835964759993533236:=()
def tw6112856558400853795:=()
def tw15080932839441822139:=()
def tw1925827490736162637:=()
def tw1085816276565908468:=()
def tw362264331848198066:=()
def tw1188993171536927255:=()
def tw10162400944164906304:=()
def tw11138612262398843905:=()
def tw1032769909598067995:=()
def tw2860337568015733306:=()
def tw1305946530283965620:=()
def tw18093909460349964183:=()
def tw9824225196457034040:=()
def tw195539512646362646:=()
def tw11816926113259258239:=()
def tw9103720137416459977:=()
def tw4260098937836521908:=()
def tw7694075925726779267:=()
def tw11179295081979778933:=()
def tw18090719592473968735:=()
def tw12080440087455831208:=()
def tw6252538377439150391:=()
def tw17652319013994536171:=()
def tw9319963711622566914:=()
def tw7512981064625473929:=()
def tw7380348947551182546:=()
def tw3548354787381457177:=()
def tw18053835617495648077:=()
def tw7361513040172283257:=()
def tw15610915658562115778:=()
def tw14641259271686580038:=()
def tw5562843593827429505:=()
def tw2508088609842317972:=()
def tw6026667418882041835:=()
def tw3131702792607481092:=()
def tw12054883193237782696:=()
def tw235271048593912348:=()
def tw5954477734143856673:=()
def tw15887165952543494659:=()
def tw7107246290682415559:=()
def tw15831405303215448553:=()
def tw11734406319208567087:=()
def tw3482782418677740581:=()
def tw5871417465490876257:=()
def tw12423064471500003620:=()
def tw12167105204647508159:=()
end PySem.W.Fast
namespace K42
open PySem PySem.Spec PyProof.Rows L2 L3 L4
theorem all_mk{l:PySem.W.OpenLaw}{w:World}{K:Fg}{h:Heap}{mg:zzl}{fa:Addr}(X:K.In h)(G:h.Ns mainGlobals mg)(hfa:mg "law" = some (.ref fa))(p0:Fa K "turns_of" jt)(p1:Fa K "turned_from" fE)(p2:Fa K "rooms_come_to" dE)(p3:Fa K "numbered" ju)(p4:Fa K "least_rooms" fF)(p5:Fa K "parts_behind" eu)(p6:Fa K "mark_of" kI)(p7:Fa K "parted" m9)(p8:Fa K "meets_of_parts" cZ)(p9:Fa K "fewer" qT)(p10:Fa K "_law_feed" hW)(p11:Fa K "_law_draw" hZ)(p12:Fa K "_law_rule" hV)(p13:Fa K "_law_blown" gx)(p14:Fa K "_law_leads" gw)(p15:Fa K "_law_come_to" eA)(p16:Fa K "_law_partings" dF)(p17:Fa K "_law_goes_alike" cO)(p18:Fa K "_law_due" jv)(p19:Fa K "law" zx)(bz:(BL.all λx=>Iz (PySem.W.nsIn K mainGlobals x))=true) :
  ∃fd:FuncData,(∀(s:Shared) (v:Value),BindsTo s fd ⟨[v],[]⟩ [("_law_script",v)])/\∀base:Heap,K.In base->base.Ns mainGlobals mg->FnOk l.prog w K mg base (CX1 l.prog w) 6 fa fd ["_law_script"] (spD K 1 rA):=by
 obtain⟨f0,fd0,a0,F0⟩:=p0
 obtain⟨f1,fd1,a1,F1⟩:=p1
 obtain⟨f2,fd2,a2,F2⟩:=p2
 obtain⟨f3,fd3,a3,F3⟩:=p3
 obtain⟨f4,fd4,a4,F4⟩:=p4
 obtain⟨f5,fd5,a5,F5⟩:=p5
 obtain⟨f6,fd6,a6,F6⟩:=p6
 obtain⟨f7,fd7,a7,F7⟩:=p7
 obtain⟨f8,fd8,a8,F8⟩:=p8
 obtain⟨f9,fd9,a9,F9⟩:=p9
 obtain⟨f10,fd10,a10,F10⟩:=p10
 obtain⟨f11,fd11,a11,F11⟩:=p11
 obtain⟨f12,fd12,a12,F12⟩:=p12
 obtain⟨f13,fd13,a13,F13⟩:=p13
 obtain⟨f14,fd14,a14,F14⟩:=p14
 obtain⟨f15,fd15,a15,F15⟩:=p15
 obtain⟨f16,fd16,a16,F16⟩:=p16
 obtain⟨f17,fd17,a17,F17⟩:=p17
 obtain⟨f18,fd18,a18,F18⟩:=p18
 obtain⟨f19,fd19,a19,F19⟩:=p19
 cases hfa.symm.trans (ll X G a19)
 have B:BN mg:=IT X G bz
 refine⟨fd19,λs v=>?_,λbase _ _=>?_⟩
 ·obtain⟨_,_,_,_,_,_,_,_,_,rfl,_⟩:=F19.ex
  exact .of_eq rfl
 have ga4:=sT (P:=l.prog) (w:=w) (base:=base) F0 (ll X G a0) B
 have gaR:=nC (P:=l.prog) (w:=w) (base:=base) F1 (ll X G a1) B
 have gaL:=kU (P:=l.prog) (w:=w) (base:=base) F2 (ll X G a2) B
 have gaX:=sU (P:=l.prog) (w:=w) (base:=base) F3 (ll X G a3) B
 have gaw:=nE (P:=l.prog) (w:=w) (base:=base) F4 (ll X G a4) B
 have gay:=lR (P:=l.prog) (w:=w) (base:=base) F5 (ll X G a5) B gaR
 have gba:=uZ (P:=l.prog) (w:=w) (base:=base) F6 (ll X G a6) B gay
 have gbd:=yj (P:=l.prog) (w:=w) (base:=base) F7 (ll X G a7) B gaX gaw gba
 have gaK:=jR (P:=l.prog) (w:=w) (base:=base) F8 (ll X G a8) B gay
 have gbe:=Aq (P:=l.prog) (w:=w) (base:=base) F9 (ll X G a9) B ga4 gaL gbd gaw gaK
 have ga2:=rg (P:=l.prog) (w:=w) (base:=base) F10 (ll X G a10) B
 have gal:=rh (P:=l.prog) (w:=w) (base:=base) F11 (ll X G a11) B
 have gaS:=rf (P:=l.prog) (w:=w) (base:=base) F12 (ll X G a12) B gal
 have gaW:=pj (P:=l.prog) (w:=w) (base:=base) F13 (ll X G a13) B gal
 have gaV:=pg (P:=l.prog) (w:=w) (base:=base) F14 (ll X G a14) B
 have gaP:=lS (P:=l.prog) (w:=w) (base:=base) F15 (ll X G a15) B
 have gaN:=kX (P:=l.prog) (w:=w) (base:=base) F16 (ll X G a16) B
 have gaJ:=jx (P:=l.prog) (w:=w) (base:=base) F17 (ll X G a17) B
 have ga9:=sV (P:=l.prog) (w:=w) (base:=base) F18 (ll X G a18) B gaP gaV gaN gaJ
 exact Gp F19 B ga2 gaS gaW ga9 gbe
theorem walk{l:PySem.W.OpenLaw}{q:Program}{loose:List Str}{XP:(Str->Option Value)->Heap->Prop}{YP:World->Heap->Prop}{d:DefRec}{K:Params->Fg}(main:∀ns:List Int,ns.length<=63->xh (.list (ns.map PyData.int))=.ret (.bool true))(hn:l.most=some 63)(hdf:d.params.defaults=[])
  (hY:∀(w:World) (h:Heap),YP w h->(K w.params).In h)
  (F:∀(w:World) (mg:zzl) (fa:Addr) (h:Heap),(K w.params).In h->h.Ns mainGlobals mg->mg d.name=some (.ref fa) ->
   ∃fd:FuncData,(∀(s:Shared) (u:Value),BindsTo s fd ⟨[u],[]⟩ [("_law_script",u)])/\∀base:Heap,(K w.params).In base->base.Ns mainGlobals mg->FnOk l.prog w (K w.params) mg base (CX1 l.prog w) 6 fa fd ["_law_script"] (spD (K w.params) 1 rA)) :
  PySem.W.WalkO q loose XP YP l.row.toRowW d [] (λf vs=>PySem.call f vs) :=
 L2.walk_of (n:=63) (k:=6) (x := "_law_script") (CX:=λw=>CX1 l.prog w) (sp:=λw=>spD (K w.params) 1 rA) hn (by decide) hdf ⟨rfl,by decide,by decide,rfl⟩ hY F (λw H a ns hl _ hS=>yv hS (main ns hl)) λ_ _ _ _ _ ⟨_,_,_,_,_,_,_,_,_,_,z⟩=>z
end K42
open PySem PySem.W PyProof.Rows L4
set_option maxRecDepth 100000 in
set_option maxHeartbeats 0 in
theorem PySem.Challenge.cw_passersby_k42_rules_made_fewer_holds : PySem.Challenge.rw_passersby_k42_rules_made_fewer.Holds := by
 w_on;o_law;k_head;(case hw=>w_witness2)
 k_fill
 refine K42.walk (l:=PySem.Challenge.rw_passersby_k42_rules_made_fewer) K42.main rfl rfl (λw h Y=>PySem.W.kIn_of Y) ?F
 case F =>
  intro w mg fa h KX G hmg
  refine' K42.all_mk KX G hmg (cL ?a0 ?l0 ?c0 ?k0) (cL ?a1 ?l1 ?c1 ?k1) (cL ?a2 ?l2 ?c2 ?k2) (cL ?a3 ?l3 ?c3 ?k3) (cL ?a4 ?l4 ?c4 ?k4) (cL ?a5 ?l5 ?c5 ?k5) (cL ?a6 ?l6 ?c6 ?k6) (cL ?a7 ?l7 ?c7 ?k7) (cL ?a8 ?l8 ?c8 ?k8) (cL ?a9 ?l9 ?c9 ?k9) (cL ?a10 ?l10 ?c10 ?k10) (cL ?a11 ?l11 ?c11 ?k11) (cL ?a12 ?l12 ?c12 ?k12) (cL ?a13 ?l13 ?c13 ?k13) (cL ?a14 ?l14 ?c14 ?k14) (cL ?a15 ?l15 ?c15 ?k15) (cL ?a16 ?l16 ?c16 ?k16) (cL ?a17 ?l17 ?c17 ?k17) (cL ?a18 ?l18 ?c18 ?k18) (cL ?a19 ?l19 ?c19 ?k19) ?bz
  (case a0|l0|c0|k0|a1|l1|c1|k1|a2|l2|c2|k2|a3|l3|c3|k3|a4|l4|c4|k4|a5|l5|c5|k5|a6|l6|c6|k6|a7|l7|c7|k7|a8|l8|c8|k8|a9|l9|c9|k9|a10|l10|c10|k10|a11|l11|c11|k11|a12|l12|c12|k12|a13|l13|c13|k13|a14|l14|c14|k14|a15|l15|c15|k15|a16|l16|c16|k16|a17|l17|c17|k17|a18|l18|c18|k18|a19|l19|c19|k19=>k_is)
  (case bz=>kernel_rfl)
