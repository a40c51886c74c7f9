import PyProof.Rows.All
import Wide.All
import OpenK.AllK
import Wide.FinOn
import Lean
import PyProof.EqAt
import PyProof.EqKinds
import PyProof.TupleCall
import PySem.Challenge.RW_passersby_k31_ways_to_goals
noncomputable section
set_option Elab.async false
set_option linter.all false
set_option maxRecDepth 100000
noncomputable def zza:=@PySem.wpAny_bind
noncomputable def zzb:=@PySem.wpAny_pure
noncomputable def zzc:=@PySem.Heap.get?_push_of_some
noncomputable def zzd:=@List.length_map
noncomputable def zze:=@PySem.Heap.get?_push_size
noncomputable def zzf:=@List.length_append
noncomputable def zzg:=@List.mem_cons_of_mem
noncomputable def zzh:=@List.mem_append_left
noncomputable def zzi:=@decide_eq_true_eq
abbrev zzj:=PySem.Value->PySem.Shared->Prop
abbrev zzk:=List (PySem.Addr×PySem.Obj)
abbrev zzl:=PySem.Str->Option PySem.Value
section
open PySem PySem.Spec PyProof.Rows
def ac:=@Array.getElem?_eq_getElem
def ai:=@Nat.le_refl
def am:=@if_neg
def aw:=@if_pos
def ax:=@Bool.and_eq_true
def ay:=@Heap.lt_size
def ba:=@wpS_bind
def be:=@List.size_toArray
def bi:=@Nat.zero_le
def bj:=@List.map_cons
def ce:=@List.mem_cons_self
def cr:=@decide_eq_false
def di:=@wpS_pure
def du:=@Nat.lt_of_lt_of_le
def eE:=@Nat.ne_of_lt
def eT:=@decide_eq_true
def fu:=@Array.length_toList
def ib:=@List.mem_append_right
def ic:=@List.getElem?_eq_getElem
def im:=@PySem.W.mg_of
def io:=@List.getElem_mem
def ir:=@Nat.le_trans
def je:=@List.getElem?_set_ne
def la:=@List.getD_eq_getElem?_getD
def lf:=@List.getElem?_append_left
def li:=@List.extract_eq_take_drop
def ls:=@List.map_append
def mo:=@List.getElem?_take_of_lt
def nc:=@List.getElem?_set_self
def ng:=@List.length_take
def nu:=@List.getElem?_map
def ny:=@List.length_singleton
def ou:=@List.append_nil
def oC:=@Bool.or_eq_true
def oP:=@Array.toList_extract
def oR:=@Obj.data_mapFields
def pd:=@List.all_eq_true
def pi:=@wpAny_newObj_type
def pr:=@Nat.lt_irrefl
def pI:=@PyProof.Rows.callWith_type1
def qu:=@List.length_cons
def re:=@wpAny_Call_Name_kw
def rg:=@List.getElem_of_mem
def r0:=@wpAny_mono
def r6:=@wpS_forRange
def sd:=@Nat.lt_succ_of_lt
def se:=@wpAny_callSpecial?_slot
def si:=@PySem.boot_len
def sk:=@wpAny_holding
def ss:=@List.find?_cons
def su:=@List.drop_eq_getElem_cons
def tu:=@wpAny_field
def ua:=@List.length_range
def ue:=@Heap.get?_update_self
def ug:=@Array.getElem?_toList
def ul:=@Bool.false_ne_true
def um:=@Array.size_extract
def ur:=@decide_eq_false_iff_not
def ut:=@List.mem_of_getElem?
def u8:=@List.take_of_length_le
def wa:=@Heap.get?_update_other
def wd:=@wpAny_call_entry
def wn:=@List.lookup_cons
def wE:=@Heap.size_update
def wP:=@List.map_map
def wS:=@List.getElem_append_left
def wT:=@Int.le_refl
def xt:=@Heap.get?_push_ne
def xv:=@PySem.mem_of_lookup
def xz:=@Nat.ne_of_gt
def ye:=@List.getElem?_append_right
def yi:=@Obj.isFreed_of_fields
def yp:=@List.take_append_drop
def y9:=@PySem.W.kia_one
def zi:=@List.length_nil
def At:=@if_true
def Ba:=@List.append_assoc
def Ch:=@PyProof.Rows.slot_tuple_getitem
def Cn:=@Array.toList_append
def Cr:=@wpAny_setField
def Db:=@List.length_drop
def Er:=@wpAny_pyIter_tuple
def Go:=@tupleKind_room_in1
def Is:=@Nat.lt_of_le_of_lt
def Ix:=@List.length_zipIdx
def JG:=@wpAny_passesOwn
def JH:=@PySem.F.slot_dict_get
def JI:=@wpS_mono
def JJ:=@wpAny_rule
def JK:=@Heap.size_push
def JL:=@F.slot_tuple_iterator_next
def JM:=@wpAny_typeOf
def JN:=@List.ext_getElem
def JO:=@List.filterMap_cons
def JP:=@codeAny_builtin
def JQ:=@Option.map_some
def JR:=@Bool.false_eq_true
def JS:=@PySem.F.args_dict_get_2
def JT:=@wpAny_loadPart_at
def JU:=@if_false
def JV:=@PySem.F.entry_dict_get
def JW:=@Nat.lt_or_ge
def JX:=@List.nodup_nil
def JY:=@List.nodup_append
def JZ:=@List.ext_getElem?
def J0:=@Int.toNat_natCast
def J4:=@F.slot_enumerate_next
def J5:=@Nat.lt_succ_self
def J6:=@wpAny_standAt
def J7:=@strLen_append
def J8:=@List.sum_cons
def Ka:=@wpAny_typeNameOfWhole_keyiter
def Kb:=@sizeLine_eq
def Kc:=@Nat.mul_le_mul_right
def Ke:=@Nat.le_succ
def Kf:=@Around.under_plainId
def Kg:=@wpAny_execs_nil
def Kh:=@List.map_congr_left
def Ki:=@List.getElem?_range
def Kj:=@Heap.get?_update_ne
def Kk:=@Nat.add_sub_cancel
def Kl:=@List.drop_drop
def Km:=@Int.emod_lt_of_pos
def Kn:=@Code.quiet_builtin
def Ko:=@Calls.spliced_cons
def Kp:=@Bool.false_and
def Kq:=@wpS_get
def Kr:=@wpAny_pyIter_enum
def Ks:=@Obj.cls_mapFields
def Kt:=@List.reverse_cons
def Ku:=@Calls.spliced_nil
def Kv:=@Bool.not_eq_true'
def Kw:=@Array.toList_push
def Ky:=@wpAny_attempt
def Kz:=@listUpdate_at
def KA:=@PySem.F.args_tuple_add_2
def KE:=@List.any_cons
def KF:=@wpAny_isInstance
def KG:=@PySem.F.plainAttrs_list
def KI:=@PySem.F.entry_tuple_add
def KJ:=@Option.bind_some
def KM:=@List.getElem?_replicate
def KN:=@List.drop_length
def KO:=@wpS_modify
def KP:=@size_push'
def KQ:=@listItems_at
def KR:=@decide_false
def KU:=@codeAny_mono
def KW:=@call_meetsIn
def KY:=@beq_iff_eq
def KZ:=@PySem.F.slot_tuple_add
def K0:=@Nat.le_of_lt
def K2:=@List.map_nil
def K3:=@Calls.callWith_builtin
def K4:=@get?_update_seq
def K5:=@Int.natCast_add
def K6:=@Int.emod_nonneg
def K7:=@Bool.eq_iff_iff
def K8:=@List.getElem?_toArray
end
namespace L2
open PySem PySem.Spec PyProof.Rows
variable {s:Shared}{pos p:Pos}{x:Str}{pins:zzk}{A:Around}{u:Value}{P:Program}{w:World}{h h' base:Heap}{e tg c:Expr}{t' i:Nat}{E:zzj}{us:List Value}{o:Obj}{es:List Expr}{f:Value->Value->Sem Value}{ch fp:List Addr}{Q:Unit->Shared->Prop}{op:Operator}{body:List Stmt}{mg:zzl}
abbrev Key:=Sum Int Str
def oO:Key->Value->Bool
 | .inl k,v=>Value.isInt k v
 | .inr x,v=>Value.isStrOf x v
def Jf(w:World):Key->Int
 | .inl k=>hashInt k
 | .inr x=>hashStr w x
theorem br:∀{k:Key} {v:Value},oO k v=true->(∃i t,k=Sum.inl i/\v=Value.int i t)\/(∃x t,k=Sum.inr x/\v=Value.str x t)
 | .inl i,v,h=>by
  obtain⟨t,e⟩:=Value.isInt_shape (k:=i) (v:=v) h
  exact .inl ⟨i,t,rfl,e⟩
 | .inr x,v,h=>by
  obtain⟨t,e⟩:=Value.isStrOf_shape (x:=x) (v:=v) h
  exact .inr ⟨x,t,rfl,e⟩
theorem xW(i:Int)(t:Tok):oO (.inl i) (.int i t)=true:=by simp[oO,Value.isInt]
theorem xV(x:Str)(t:Tok):oO (.inr x) (.str x t)=true:=by simp[oO,Value.isStrOf]
theorem Fy(a b:Int):decide ((Sum.inl a:Key)=Sum.inl b)=(a==b):=by
 by_cases e:a=b
 ·subst e;simp
 ·have h:¬ (Sum.inl a:Key)=Sum.inl b:=λq=>e (Sum.inl.inj q)
  rw[cr h]
  exact(beq_eq_false_iff_ne.mpr e).symm
theorem Fv(a b:Str):decide ((Sum.inr a:Key)=Sum.inr b)=decide (a=b):=by
 by_cases e:a=b
 ·subst e;simp
 ·have h:¬ (Sum.inr a:Key)=Sum.inr b:=λq=>e (Sum.inr.inj q)
  rw[cr h,cr e]
theorem Fx(a:Int)(b:Str):decide ((Sum.inl a:Key)=Sum.inr b)=false:=cr (λq=>nomatch q)
theorem Fw(a:Str)(b:Int):decide ((Sum.inr a:Key)=Sum.inl b)=false:=cr (λq=>nomatch q)
def aX(prog:Program)(w:World):PySem.KeyKind prog w Key where
 is:=oO
 hash:=Jf w
 inj:=λv a b ha hb=>by
  rcases br ha with ⟨i,t,rfl,rfl⟩|⟨x,t,rfl,rfl⟩
  ·rcases br hb with ⟨j,u,rfl,e⟩|⟨y,u,rfl,e⟩
   ·injection e with e1 _;rw[e1]
   ·exact nomatch e
  ·rcases br hb with ⟨j,u,rfl,e⟩|⟨y,u,rfl,e⟩
   ·exact nomatch e
   ·injection e with e1 _;rw[e1]
 byValue:=λk v h=>by
  rcases br h with ⟨i,t,rfl,rfl⟩|⟨x,t,rfl,rfl⟩<;>rfl
 pyHash:=λhv h=>by
  rcases br hv with ⟨i,t,rfl,rfl⟩|⟨x,t,rfl,rfl⟩
  ·exact wpAny_pyHash_int h
  ·exact wpAny_pyHash_str h
 eqBool:=λhu hv h=>by
  rcases br hu with ⟨i,t,rfl,rfl⟩|⟨x,t,rfl,rfl⟩
  ·rcases br hv with ⟨j,u,rfl,rfl⟩|⟨y,u,rfl,rfl⟩
   ·rw[Fy]at h;exact wpAny_eqBool_int h
   ·rw[Fx]at h;exact SeqAt.EqAt.int_str i t y u _ _ _ _ h
  ·rcases br hv with ⟨j,u,rfl,rfl⟩|⟨y,u,rfl,rfl⟩
   ·rw[Fw]at h;exact SeqAt.EqAt.str_int x t j u _ _ _ _ h
   ·rw[Fv]at h;exact wpAny_eqBool_str h
 «strs»:=λk x t v h=>by
  rcases br h with ⟨i,u,rfl,e⟩|⟨y,u,rfl,e⟩
  ·exact nomatch e
  ·injection e with e1 _
   subst e1
   cases v<;>rfl
theorem rV(prog:Program)(w:World)(i:Int)(t:Tok):(aX prog w).is (.inl i) (.int i t)=true:=xW i t
theorem rU(prog:Program)(w:World)(x:Str)(t:Tok):(aX prog w).is (.inr x) (.str x t)=true:=xV x t
inductive V where
 | non|bl (b:Bool)|int (i:Int)|str (x:Str)|byt (b:Array UInt8)|flt (b:UInt64)|ref (a:Addr)|ty (n:String)
 deriving DecidableEq
def RelV:V->Value->Prop
 | .non,u=>u=Value.none
 | .bl b,u=>u=Value.bool b
 | .int i,u=>∃t,u=Value.int i t
 | .str x,u=>∃t,u=Value.str x t
 | .byt b,u=>∃t,u=Value.bytes b t
 | .flt b,u=>∃t,u=Value.float b t
 | .ref a,u=>u=Value.ref a
 | .ty n,u=>u=Value.type n
abbrev Vals:List V->List Value->Prop:=Paired RelV
theorem Vals.length{xs:List V}(r:Vals xs us):xs.length=us.length:=Paired.length r
theorem Vals.get:∀{xs:List V} {us:List Value} {i:Nat} {x:V},Vals xs us->xs[i]? = some x->∃u,us[i]? = some u/\RelV x u
 | _,_,_,_,.nil,e=>by simp at e
 | _,_,0,_,.cons r _,e=>by simp at e;subst e;exact⟨_,rfl,r⟩
 | _,_,i+1,x,.cons _ t,e=>by
  obtain⟨u,h1,h2⟩:=Vals.get (i:=i) (x:=x) t (by simpa using e)
  exact⟨u,by simpa using h1,h2⟩
theorem Vals.set{x:V}(r:RelV x u):∀{xs:List V} {us:List Value} (i:Nat),Vals xs us->Vals (xs.set i x) (us.set i u)
 | _,_,_,.nil=>.nil
 | _,_,0,.cons _ t=>.cons r t
 | _,_,i+1,.cons q t=>.cons q (Vals.set r i t)
theorem Vals.append:∀{xs ys:List V} {us ws:List Value},Vals xs us->Vals ys ws->Vals (xs++ys) (us++ws):=by
 intro xs ys us ws h s
 induction h with
 | nil=>exact s
 | cons r _ ih=>exact .cons r ih
theorem Vals.take:∀{xs:List V} {us:List Value} (n:Nat),Vals xs us->Vals (xs.take n) (us.take n)
 | _,_,0,_=>.nil
 | _,_,_+1,.nil=>.nil
 | _,_,n+1,.cons r t=>.cons r (Vals.take n t)
theorem Vals.drop:∀{xs:List V} {us:List Value} (n:Nat),Vals xs us->Vals (xs.drop n) (us.drop n)
 | _,_,0,r=>r
 | _,_,_+1,.nil=>.nil
 | _,_,n+1,.cons _ t=>Vals.drop n t
def RelO:Option V->Option Value->Prop
 | some v,some u=>RelV v u
 | none,none=>True
 | _,_=>False
def KV{κ:Type}:List (κ×V)->List (κ×Value)->Prop:=Paired λ(p:κ×V) (q:κ×Value)=>p.1=q.1/\RelV p.2 q.2
def kV:Key->V
 | .inl i=>.int i
 | .inr x=>.str x
inductive HO where
 | lst (xs:List V)
 | tup (xs:List V)
 | dK (kvs:List (Key×V))|dT (kvs:List (List Key×V))
 | set (S:Int->Bool) (n:Nat)
 | ins (C dx:Addr) (fs:List (Str×V))
 | own (x:Addr)
 | xd (fs:List (Str×V))
 | met (f x:Addr)
 | rng (lo hi:Int)
 | frz (o:Obj) (u:HO)
 | tbl (ps:Array Value)
 | ext (φ:Heap->Prop)
abbrev Hp:=Addr->Option HO
def upd(H:Hp)(a:Addr)(o:HO):Hp:=λb=>if b=a then some o else H b
theorem aB{H:Hp}{a:Addr}{o:HO}:upd H a o a=some o:=by unfold upd;rw[aw rfl]
theorem aA{H:Hp}{a b:Addr}{o:HO}(h:b≠a):upd H a o b=H b:=by unfold upd;rw[am h]
theorem zS{H:Hp}{a b:Addr}{o u:HO}(h:H a=some o)(h':H b=some u)(d:o≠u):a≠b:=by
 intro e;subst e;rw[h]at h';exact d (Option.some.inj h')
theorem aL{H:Hp}{a b:Addr}{o:HO}(h:H a=some o)(h':H b=none):a≠b:=by
 intro e;subst e;rw[h]at h';cases h'
section
variable (P:Program) (w:World)
def _root_.L2.TupN(h:Heap)(a:Addr):Prop:=∃o,h.get? a=some o/\o.dict=none
theorem _root_.L2.TupN.new(h:Heap)(items:Array Value):TupN (h.push { cls:=.type "tuple",data:=.seq items }) h.objs.size:=⟨_,zze _ rfl,rfl⟩
def ObjOk(H:Hp)(h:Heap)(a:Addr):HO->Prop
 | .lst xs=>xs.length<=sizeLine/\∃(its:List Value) (n:Nat),Vals xs its/\h.get? a=some { cls:=.type "list",data:=.seq its.toArray n }
 | .tup xs=>xs.length<=sizeLine/\∃its:List Value,Vals xs its/\IsTup h a its.toArray/\TupN h a
 | .dK kvs=>kvs.length<=sizeLine/\(a==sysModules)=false/\∃vs,KV kvs vs/\h.DictOf (aX P w) a vs
 | .dT kvs=>kvs.length<=sizeLine/\(a==sysModules)=false/\∃xs:List (List Key×Addr×Value),
   Paired (λ(p:List Key×V) (q:List Key×Addr×Value)=>p.1=q.1/\H q.2.1=some (.tup (p.1.map kV))/\RelV p.2 q.2.2) kvs xs /\
   ∃o es ep,h.get? a=some o/\o.ExactDict/\o.data=.dict es ep/\es.toList=xs.map (entryOfKey (tupleKind (aX P w)))/\(xs.map (·.1)).Nodup
 | .set S n=>h.SetOf (intKind P w) a S n
 | .ins C dx fs=>H dx=some (.own a)/\fs.length<=1000/\dx≠a/\h.get? a=some (PySem.W.instObj C dx) /\
   ∃mA,h.Ns1 dx mA/\(∀f,RelO (fs.lookup f) (mA f))/\PySem.Within mA (fs.map (·.1))
 | .own _=>∃o,h.get? a=some o
 | .xd fs=>∃mA,h.Ns1 a mA/\∀f,RelO (fs.lookup f) (mA f)
 | .rng lo hi=>∃t u v,h.get? a=some { cls:=.type "range",data:=.fields #[.int lo t,.int hi u,.int 1 v] }
 | .frz o u=>h.get? a=some o/\ObjOk H h a u
 | .tbl ps=>h.get? a=some { cls:=.none,data:=.fields ps }
 | .met f x=>h.get? a=some (PySem.W.methodObj (.ref f) (.ref x))
 | .ext φ=>φ h/\(∃o,h.get? a=some o)/\∀h1 h2:Heap,φ h1->(∀o,h1.get? a=some o->h2.get? a=some o)->φ h2
def HOk(H:Hp)(h:Heap):Prop:=∀a o,H a=some o->ObjOk P w H h a o
end
section
variable {H H':Hp} {a:Addr} {o:HO}
theorem ObjOk.lt(x:ObjOk P w H h a o):a<h.objs.size:=by
 cases o with
 | lst xs=>obtain⟨_,_,_,_,e⟩:=x;exact ay e
 | tup xs=>obtain⟨_,_,_,p⟩:=x;exact p.1.lt
 | dK kvs=>obtain⟨_,_,_,_,o,_,_,e,_⟩:=x;exact ay e
 | dT kvs=>obtain⟨_,_,_,_,o,_,_,e,_⟩:=x;exact ay e
 | set S n=>obtain⟨o,_,_,_,e,_⟩:=x;exact ay e
 | ins C dx fs=>obtain⟨_,_,_,e,_⟩:=x;exact ay e
 | own y=>obtain⟨_,e⟩:=x;exact ay e
 | xd fs=>obtain⟨_,⟨_,_,_,e,_⟩,_⟩:=x;exact ay e
 | rng lo hi=>obtain⟨_,_,_,e⟩:=x;exact ay e
 | frz ob u=>obtain⟨e,_⟩:=x;exact ay e
 | tbl ps=>exact ay (show h.get? a=some _ from x)
 | met f y=>exact ay (show h.get? a=some _ from x)
 | ext φ=>obtain⟨_,⟨_,e⟩,_⟩:=x;exact ay e
theorem Paired.mapP{α β:Type}{F G:α->β->Prop}:∀{l₁:List α} {l₂:List β},Paired F l₁ l₂->(∀a b,F a b->G a b)->Paired G l₁ l₂:=by
 intro l₁ l₂ h f
 induction h with
 | nil=>exact .nil
 | cons r _ ih=>exact .cons (f _ _ r) ih
theorem ObjOk.stay(x:ObjOk P w H h a o)(k:∀b u,(b=a\/H b=some (.own a))->h.get? b=some u->h'.get? b=some u)
  (ho:∀b,H b=some (.own a)->H' b=some (.own a)) (ht:∀b xs,H b=some (.tup xs)->H' b=some (.tup xs)):ObjOk P w H' h' a o:=by
 induction o with
 | lst xs=>obtain⟨z,its,n,r,e⟩:=x;exact⟨z,its,n,r,k _ _ (.inl rfl) e⟩
 | tup xs=>obtain⟨z,its,r,⟨ob,e,c⟩,ob2,e2,c2⟩:=x;exact⟨z,its,r,⟨ob,k _ _ (.inl rfl) e,c⟩,ob2,k _ _ (.inl rfl) e2,c2⟩
 | dK kvs=>obtain⟨z,y,vs,r,ob,es,ep,e,c⟩:=x;exact⟨z,y,vs,r,ob,es,ep,k _ _ (.inl rfl) e,c⟩
 | dT kvs =>
  obtain⟨z,y,xs,r,ob,es,ep,e,c⟩:=x
  exact⟨z,y,xs,Paired.mapP r λp q z=>⟨z.1,ht _ _ z.2.1,z.2.2⟩,ob,es,ep,k _ _ (.inl rfl) e,c⟩
 | set S n=>obtain⟨ob,es,ep,t,e,c⟩:=x;exact⟨ob,es,ep,t,k _ _ (.inl rfl) e,c⟩
 | ins C dx fs =>
  obtain⟨d,z,ne,e,mA,⟨od,es,ep,e2,c⟩,r⟩:=x
  exact⟨ho _ d,z,ne,k _ _ (.inl rfl) e,mA,⟨od,es,ep,k _ _ (.inr d) e2,c⟩,r⟩
 | own y=>obtain⟨ob,e⟩:=x;exact⟨ob,k _ _ (.inl rfl) e⟩
 | xd fs=>obtain⟨mA,⟨od,es,ep,e,c⟩,r⟩:=x;exact⟨mA,⟨od,es,ep,k _ _ (.inl rfl) e,c⟩,r⟩
 | rng lo hi=>obtain⟨t,u,v,e⟩:=x;exact⟨t,u,v,k _ _ (.inl rfl) e⟩
 | frz ob u ih=>obtain⟨e,q⟩:=x;exact⟨k _ _ (.inl rfl) e,ih q⟩
 | tbl ps =>
  have e:h.get? a=some { cls:=.none,data:=.fields ps }:=x
  show h'.get? a=some { cls:=.none,data:=.fields ps }
  exact k a _ (.inl rfl) e
 | met f y =>
  have e:h.get? a=some (PySem.W.methodObj (.ref f) (.ref y)):=x
  show h'.get? a=some (PySem.W.methodObj (.ref f) (.ref y))
  exact k a _ (.inl rfl) e
 | ext φ=>obtain⟨p,⟨o,e⟩,st⟩:=x;exact⟨st _ _ p λo q=>k _ _ (.inl rfl) q,⟨o,k _ _ (.inl rfl) e⟩,st⟩
theorem HOk.lt(x:HOk P w H h)(e:H a=some o):a<h.objs.size:=(x a o e).lt
theorem HOk.fresh(x:HOk P w H h)(e:h.objs.size<=a):H a=none:=by
 cases q:H a with
 | none=>rfl
 | some u=>exact absurd (du (x.lt q) e) (pr _)
theorem HOk.kept(x:HOk P w H h)(k:∀b u,h.get? b=some u->h'.get? b=some u):HOk P w H h':=λa o e =>
 (x a o e).stay (λb u _ q=>k b u q) (λ_ q=>q) λ_ _ q=>q
theorem HOk.laid(x:HOk P w H h)(k:∀b u,h.get? b=some u->h'.get? b=some u)(hp:h.objs.size<=a)(new:ObjOk P w (upd H a o) h' a o):HOk P w (upd H a o) h':=λb u e=>by
 have hn:=x.fresh hp
 by_cases hb:b=a
 ·subst hb;rw[aB]at e;cases e;exact new
 ·rw[aA hb]at e
  exact(x b u e).stay (λc v _ q=>k c v q) (λc q=>by rw[aA (aL q hn)];exact q) λc xs q=>by rw[aA (aL q hn)];exact q
end
def Rd(H:Hp)(a:Addr)(u:HO):Prop:=H a=some u\/∃o,H a=some (.frz o u)
theorem Rd.ok{H:Hp}{a:Addr}{u:HO}(r:Rd H a u)(x:HOk P w H h):ObjOk P w H h a u:=by
 rcases r with r|⟨o,r⟩
 ·exact x a u r
 ·obtain⟨_,q⟩:=x a _ r
  exact q
def Mut:Option HO->Prop
 | some (.lst _)=>True
 | some (.dK _)=>True
 | some (.dT _)=>True
 | some (.set _ _)=>True
 | some (.ins _ _ _)=>True
 | some (.ext _)=>True
 | _=>False
section
variable {H:Hp} {x e:Addr} {o':HO}
theorem HOk.write(ok:HOk P w H h)(mu:Mut (H x))(he:e=x\/H e=some (.own x))(k:∀b u,b≠e->h.get? b=some u->h'.get? b=some u)(heo:∃u,h'.get? e=some u)
  (new:ObjOk P w (upd H x o') h' x o'):HOk P w (upd H x o') h':=λb u q=>by
 have nown:∀c y,H c=some (.own y)->c≠x:=λc y r z=>by subst z;rw[r]at mu;exact mu
 have ntup:∀c xs,H c=some (.tup xs)->c≠x:=λc xs r z=>by subst z;rw[r]at mu;exact mu
 by_cases hb:b=x
 ·subst hb;rw[aB]at q;cases q;exact new
 ·rw[aA hb]at q
  by_cases hbe:b=e
  ·have q':H b=some (.own x):=by
    rcases he with z|z
    ·exact absurd (hbe.trans z) hb
    ·rw[hbe];exact z
   rw[q]at q';cases q'
   obtain⟨v,hv⟩:=heo
   exact⟨v,by rw[hbe];exact hv⟩
  ·refine(ok b u q).stay (λc v hc r=>k c v ?_ r) (λc r=>by rw[aA (nown c b r)];exact r) λc xs r=>by rw[aA (ntup c xs r)];exact r
   rcases hc with rfl|hc
   ·exact hbe
   ·rintro rfl
    rcases he with z|z
    ·exact nown c b hc z
    ·rw[hc]at z;cases z;exact hb rfl
end
structure Un(fs ex:List Addr)(H H':Hp)(h h':Heap):Prop where
 keep:∀b o,h.get? b=some o->H b=none->b∉fs->b∉ex->h'.get? b=some o
 slot:∀b o,h.get? b=some o->H b=none->b∈fs->b∉ex->∃sl,h'.get? b=some { o with slots:=sl }
 free:∀b o,h.get? b=some o->H b=none->b∉ex->H' b=none
 there:∀b o,h.get? b=some o->b∉ex->∃o',h'.get? b=some o'
 tups:∀b xs,H b=some (.tup xs)->H' b=some (.tup xs)
 frzs:∀b o u,H b=some (.frz o u)->H' b=some (.frz o u)
 tbls:∀b ps,H b=some (.tbl ps)->∃more,H' b=some (.tbl (ps++more))
section
variable {fs fs' ex ex':List Addr} {H H1 H2:Hp} {h1 h2:Heap} {a x e:Addr} {o:HO}
theorem Un.any(u:Un fs ex H H1 h h1){b:Addr}{ob:Obj}(q:h.get? b=some ob)(n:H b=none)(hx:b∉ex):∃sl,h1.get? b=some { ob with slots:=sl }:=by
 by_cases hb:b∈fs
 ·exact u.slot b ob q n hb hx
 ·exact⟨ob.slots,u.keep b ob q n hb hx⟩
theorem Un.kept(k:∀b u,h.get? b=some u->h'.get? b=some u):Un fs ex H H h h' :=
 ⟨λb ob q _ _ _=>k b ob q,λb ob q _ _ _=>⟨ob.slots,k b ob q⟩,λ_ _ _ n _=>n,λb ob q _=>⟨ob,k b ob q⟩,λ_ _ q=>q,λ_ _ _ q=>q,λ_ ps q=>⟨#[],by rw[q];simp⟩⟩
theorem Un.refl:Un fs ex H H h h:=Un.kept λ_ _ q=>q
theorem Un.laid(k:∀b u,h.get? b=some u->h'.get? b=some u)(hp:h.objs.size<=a)(hn:H a=none):Un fs ex H (upd H a o) h h' where
 keep:=λb u q _ _ _=>k b u q
 slot:=λb u q _ _ _=>⟨u.slots,k b u q⟩
 free:=λb u q n _=>by rw[aA (eE (du (ay q) hp))];exact n
 there:=λb u q _=>⟨u,k b u q⟩
 tups:=λb xs q=>by rw[aA (aL q hn)];exact q
 frzs:=λb u xs q=>by rw[aA (aL q hn)];exact q
 tbls:=λb ps q=>⟨#[],by rw[aA (aL q hn),q];simp⟩
theorem Un.write(mu:Mut (H x))(he:e=x\/H e=some (.own x))(k:∀b u,b≠e->h.get? b=some u->h'.get? b=some u)(heo:∃u,h'.get? e=some u):Un fs ex H (upd H x o) h h':=by
 have hx:∀b,H b=none->b≠x:=λb n z=>by subst z;rw[n]at mu;exact mu
 have hb:∀b,H b=none->b≠e:=λb n z=>by
  subst z
  rcases he with r|r
  ·exact hx b n r
  ·rw[n]at r;cases r
 have hm:∀b u,H b=some u->¬ Mut (some u)->b≠x:=λb u q nm z=>by subst z;rw[q]at mu;exact nm mu
 refine⟨λb u q n _ _=>k b u (hb b n) q,λb u q n _ _=>⟨u.slots,k b u (hb b n) q⟩,λb u q n _=>by rw[aA (hx b n)];exact n,λb u q _=>?_,
  λb xs q=>by rw[aA (hm b _ q λz=>z)];exact q,λb u xs q=>by rw[aA (hm b _ q λz=>z)];exact q,λb ps q=>⟨#[],by rw[aA (hm b _ q λz=>z),q];simp⟩⟩
 by_cases hbe:b=e
 ·subst hbe;exact heo
 ·exact⟨u,k b u hbe q⟩
end
def trk(h:Heap)(H:Hp):List Addr:=(List.range h.objs.size).filter λa=>(H a).isSome
def qq(h:Heap)(H:Hp):Heap:=PySem.W.hideAll h (trk h H)
theorem ya(h:Heap)(H:Hp):(qq h H).objs.size=h.objs.size:=PySem.W.hideAll_size _ _
theorem Am{H:Hp}{b:Addr}(e:h.get? b=some o)(n:H b=none):(qq h H).get? b=some o :=
 PySem.W.hideAll_get _ e λhm=>by
  have q:(H b).isSome=true:=(List.mem_filter.mp hm).2
  rw[n]at q;simp at q
theorem Ci{H:Hp}{b:Addr}(e:(qq h H).get? b=some o):h.get? b=some o/\H b=none:=by
 have e':h.get? b=some o:=PySem.W.of_hideAll (trk h H) e
 refine⟨e',?_⟩
 cases q:H b with
 | none=>rfl
 | some x =>
  have hm:b∈trk h H:=List.mem_filter.mpr ⟨List.mem_range.mpr (ay e'),by simp[q]⟩
  have z:(qq h H).get? b=none:=PySem.W.hideAll_none (trk h H) hm
  rw[z]at e;cases e
structure Mod(K:PySem.W.Frag)(mg:zzl)(base:Heap):Prop where
 kin:K.In base
 glob:base.Ns mainGlobals mg
 blt:∃mb,base.Ns builtinsNs mb/\∀x:Str,x ≠ "__name__" -> mb x=bootBuiltins x
 nolimit:base.NoLimit
structure Cx where
 prog:Program
 w:World
 K:PySem.W.Frag
 mg:Str->Option Value
 base:Heap
 A:Around
 N:List Str
 s₀:Shared
 H₀:Hp
 env:Env
 outer:List Env
 stack:List Env
 ex:List Addr
 fn:Str->Bool
 calm:Bool
 pn:List (Addr×Obj)
 xe:Value->Shared->Prop
def frs(l:List Env):List Addr:=l.filterMap (·.frame)
abbrev Cx.fs(X:Cx):List Addr:=frs X.outer
def Vis(sc:Scope)(x:Str):Prop:=sc.names.lookup x=some .local\/sc.names.lookup x=some .cell\/sc.names.lookup x=some .free
def Loc(sc:Scope)(x:Str):Prop:=sc.names.lookup x=some .local\/sc.names.lookup x=some .cell
def Look(env:Env)(h:Heap)(m:zzl)(x:Str)(u:Value):Prop :=
 (env.kindOf x=some .local/\m x=some u)\/((env.kindOf x=some .cell\/env.kindOf x=some .free)/\∃c,env.cells.lookup x=some c/\h.IsCell c (some u))
structure Cx.Ok(X:Cx):Prop where
 mod:Mod X.K X.mg X.base
 kind:X.env.scope.kind=.function
 glob:X.env.globals=mainGlobals
 blt:X.env.builtins=builtinsNs
 above:X.s₀.heap.objs.size<=X.env.locals
 inj:∀x y c,X.env.cells.lookup x=some c->X.env.cells.lookup y=some c->x=y
 has:∀x,(X.env.kindOf x=some .cell\/X.env.kindOf x=some .free)->∃c,X.env.cells.lookup x=some c
 cab:∀x c,X.fn x=true->X.env.cells.lookup x=some c->X.s₀.heap.objs.size<=c
 hd:X.calm=true->X.A.handled=none
 frames:X.A.frames=some X.stack
 stk:X.stack=X.outer\/(X.stack=X.env::X.outer/\X.env.frame=some X.env.locals)
 exf:∀b∈X.ex,b≠X.env.locals/\∀x c,X.env.cells.lookup x=some c->c≠b
 bs:∀b o,X.base.get? b=some o->X.s₀.heap.get? b=some o/\X.H₀ b=none
 bsz:X.base.objs.size<=X.s₀.heap.objs.size
 noex:∀b o,X.base.get? b=some o->b∉X.ex
 exfs:∀b∈X.ex,b∉X.fs
 funs:X.s₀.heap.FunFrames X.base X.outer
 frf:∀b∈X.fs,X.H₀ b=none
structure Inv(X:Cx)(pins:zzk)(Z:List (Option V))(H:Hp)(s:Shared):Prop where
 ok:X.Ok
 os:s.os=X.s₀.os
 bare:AllBare s.gens
 base:Un X.fs X.ex X.H₀ H X.s₀.heap s.heap
 loc:∃m,s.heap.Ns X.env.locals m/\∀(i:Nat) (x:Str) (v:V),X.N[i]? = some x->Z[i]? = some (some v)->Vis X.env.scope x->∃u,RelV v u/\Look X.env s.heap m x u
 cell:∀x c,X.env.cells.lookup x=some c->∃v,s.heap.IsCell c v
 free:H X.env.locals=none
 freeC:∀x c,X.env.cells.lookup x=some c->H c=none
 pin:∀p∈X.pn++pins,s.heap.get? p.1=some p.2/\H p.1=none/\p.1≠X.env.locals/\p.1∉X.fs/\∀v,p.2.data≠.cell v
 hok:HOk X.prog X.w H s.heap
 len:Z.length=X.N.length
section
variable {X:Cx} {Z:List (Option V)} {H H':Hp}
theorem Cx.Ok.nofr(ok:X.Ok){b:Addr}(e:X.base.get? b=some o):b∉X.fs:=λhb=>by
 have:=(ok.funs.mem hb).1
 rw[e]at this;cases this
theorem Inv.bs(I:Inv X pins Z H s):∀b o,X.base.get? b=some o->s.heap.get? b=some o/\H b=none:=λb o e =>
 ⟨I.base.keep b o (I.ok.bs b o e).1 (I.ok.bs b o e).2 (I.ok.nofr e) (I.ok.noex b o e),I.base.free b o (I.ok.bs b o e).1 (I.ok.bs b o e).2 (I.ok.noex b o e)⟩
theorem Inv.bk(I:Inv X pins Z H s):∀b o,X.base.get? b=some o->s.heap.get? b=some o:=λb o e=>(I.bs b o e).1
theorem Inv.mod(I:Inv X pins Z H s):Mod X.K X.mg X.base:=I.ok.mod
theorem Inv.kIn(I:Inv X pins Z H s):X.K.In s.heap:=I.ok.mod.kin.keeps I.bk
theorem Inv.lt(I:Inv X pins Z H s):X.env.locals<s.heap.objs.size:=let ⟨_,hn,_⟩:=I.loc;hn.lt
theorem Inv.sz(I:Inv X pins Z H s):X.s₀.heap.objs.size<=s.heap.objs.size:=ir I.ok.above (K0 I.lt)
theorem Inv.nofs(I:Inv X pins Z H s){a:Addr}(h:s.heap.objs.size<=a):a∉X.fs:=λhb=>by
 obtain⟨_,o,ho,_⟩:=I.ok.funs.mem hb
 exact absurd (du (ay ho) (ir I.sz h)) (pr _)
theorem Inv.cne(I:Inv X pins Z H s):∀x c,X.env.cells.lookup x=some c->c≠X.env.locals:=λx c e z=>by
 obtain⟨v,o,ho,hd⟩:=I.cell x c e
 obtain⟨m,⟨o',es,ep,ho',hd',_⟩,_⟩:=I.loc
 rw[z,ho']at ho;cases ho;rw[hd']at hd;cases hd
theorem Inv.funs(I:Inv X pins Z H s):s.heap.FunFrames X.base X.outer:=by
 have all:∀(l:List Env),(∀b∈frs l,b∈X.fs)->X.s₀.heap.FunFrames X.base l->s.heap.FunFrames X.base l:=by
  intro l
  induction l with
  | nil=>intro _ _;trivial
  | cons env r ih =>
   intro hs hl
   obtain⟨hk,⟨L,o,hf,hn,ho,hd⟩,hr⟩:=hl
   have hL:L∈X.fs:=hs L (by unfold frs;rw[JO,hf];exact ce)
   obtain⟨sl,e⟩:=I.base.slot L o ho (I.ok.frf L hL) hL λz=>I.ok.exfs L z hL
   exact⟨hk,⟨L,_,hf,hn,e,hd⟩,ih (λb hb=>hs b (by unfold frs;rw[JO,hf];exact zzg _ hb)) hr⟩
 exact all X.outer (λ_ hb=>hb) I.ok.funs
theorem Inv.stack(I:Inv X pins Z H s):s.heap.FunFrames X.base X.stack:=by
 rcases I.ok.stk with e|⟨e,hf⟩
 ·rw[e];exact I.funs
 ·rw[e]
  obtain⟨m,hn,_⟩:=I.loc
  refine .cons (by rw[I.ok.kind];decide) hf hn ?_ I.funs
  exact Heap.get?_none_of_le (ir I.ok.bsz I.ok.above)
theorem Inv.stkSub(I:Inv X pins Z H s):∀b∈frs X.stack,b∈X.env.locals::X.fs:=λb hb=>by
 rcases I.ok.stk with e|⟨e,hf⟩
 ·rw[e]at hb;exact zzg _ hb
 ·rw[e]at hb
  unfold frs at hb
  rw[JO,hf]at hb
  exact hb
theorem Inv.stkFree(I:Inv X pins Z H s):∀b∈frs X.stack,H b=none:=λb hb=>by
 rcases List.mem_cons.mp (I.stkSub b hb)with e|hb
 ·rw[e];exact I.free
 ·obtain⟨_,o,ho,_⟩:=I.ok.funs.mem hb
  exact I.base.free b o ho (I.ok.frf b hb) λz=>I.ok.exfs b z hb
theorem Inv.step{g':Array GenState}{d':Drawn}(I:Inv X pins Z H s)
  (hch:∀b∈ch,(b∈X.ex\/X.s₀.heap.objs.size<=b)/\b≠X.env.locals/\(∀x c,X.env.cells.lookup x=some c->c≠b)/\∀p∈X.pn++pins,p.1≠b)
  (keep:∀b o,b≠X.env.locals->b∉X.fs->b∉ch->s.heap.get? b=some o->H b=none->h'.get? b=some o)
  (slot:∀b o,b≠X.env.locals->b∈X.fs->b∉ch->s.heap.get? b=some o->H b=none->∃sl,h'.get? b=some { o with slots:=sl }) (free:∀b o,b∉ch->s.heap.get? b=some o->H b=none->H' b=none)
  (there:∀b o,b∉ch->s.heap.get? b=some o->∃o',h'.get? b=some o')
  (tups:∀b xs,H b=some (.tup xs)->H' b=some (.tup xs)) (frzs:∀b o u,H b=some (.frz o u)->H' b=some (.frz o u)) (tbls:∀b ps,H b=some (.tbl ps)->∃more,H' b=some (.tbl (ps++more)))
  (ns:∀m,s.heap.Ns X.env.locals m->h'.Ns X.env.locals m) (hok:HOk X.prog X.w H' h') (hg:AllBare g') :
  Inv X pins Z H' { s with heap:=h',gens:=g',drawn:=d',toks:=t' }:=by
 have neL:∀b o,X.s₀.heap.get? b=some o->b≠X.env.locals:=λb o e=>eE (du (ay e) I.ok.above)
 have neC:∀b o,X.s₀.heap.get? b=some o->b∉X.ex->b∉ch:=λb o e hx hb=>by
  rcases(hch b hb).1 with z|z
  ·exact hx z
  ·exact absurd (du (ay e) z) (pr _)
 have cellK:∀x c,X.env.cells.lookup x=some c->∀v,s.heap.IsCell c v->h'.IsCell c v:=λx c e v ⟨o,ho,hd⟩=>by
  have nch:c∉ch:=λz=>(hch c z).2.2.1 x c e rfl
  by_cases hc:c∈X.fs
  ·obtain⟨sl,q⟩:=slot c o (I.cne x c e) hc nch ho (I.freeC x c e)
   exact⟨_,q,hd⟩
  ·exact⟨o,keep c o (I.cne x c e) hc nch ho (I.freeC x c e),hd⟩
 refine⟨I.ok,I.os,hg,⟨λb o e n hb hx=>?_,λb o e n hb hx=>?_,λb o e n hx=>?_,λb o e hx=>?_,λb xs e=>tups b xs (I.base.tups b xs e),λb o xs e=>frzs b o xs (I.base.frzs b o xs e),λb ps e=>?_⟩,?_,λx c e=>?_,?_,λx c e=>?_,λp hp=>?_,hok,I.len⟩
 ·exact keep b o (neL b o e) hb (neC b o e hx) (I.base.keep b o e n hb hx) (I.base.free b o e n hx)
 ·obtain⟨sl,e1⟩:=I.base.slot b o e n hb hx
  obtain⟨sl',e2⟩:=slot b _ (neL b o e) hb (neC b o e hx) e1 (I.base.free b o e n hx)
  exact⟨sl',e2⟩
 ·obtain⟨o',e1⟩:=I.base.there b o e hx
  exact free b o' (neC b o e hx) e1 (I.base.free b o e n hx)
 ·obtain⟨o',e1⟩:=I.base.there b o e hx
  exact there b o' (neC b o e hx) e1
 ·obtain⟨m1,e1⟩:=I.base.tbls b ps e
  obtain⟨m2,e2⟩:=tbls b _ e1
  exact⟨m1++m2,by rw[e2,Array.append_assoc]⟩
 ·obtain⟨m,hn,hl⟩:=I.loc
  refine⟨m,ns m hn,λi x v e1 e2 e3=>?_⟩
  obtain⟨u,r,l⟩:=hl i x v e1 e2 e3
  refine⟨u,r,?_⟩
  rcases l with l|⟨k,c,e,z⟩
  ·exact .inl l
  ·exact .inr ⟨k,c,e,cellK x c e _ z⟩
 ·obtain⟨v,z⟩:=I.cell x c e
  exact⟨v,cellK x c e v z⟩
 ·obtain⟨m,⟨o,_,_,ho,_⟩,_⟩:=I.loc
  exact free _ o (λz=>(hch _ z).2.1 rfl) ho I.free
 ·obtain⟨v,o,ho,hd⟩:=I.cell x c e
  exact free c o (λz=>(hch c z).2.2.1 x c e rfl) ho (I.freeC x c e)
 ·obtain⟨e,n,ne,nf,d⟩:=I.pin p hp
  have nch:p.1∉ch:=λz=>(hch p.1 z).2.2.2 p hp rfl
  exact⟨keep p.1 p.2 ne nf nch e n,free p.1 p.2 nch e n,ne,nf,d⟩
theorem Inv.un(I:Inv X pins Z H s)(u:Un X.fs [] H H' s.heap h')(hok:HOk X.prog X.w H' h'):Inv X pins Z H' { s with heap:=h',toks:=t' }:=by
 obtain⟨m,⟨o,es,ep,ho,r⟩,_⟩:=id I.loc
 obtain⟨sl,hL⟩:=u.any ho I.free (by simp)
 exact I.step (g':=s.gens) (d':=s.drawn) (ch:=[]) (λ_ z=>nomatch z) (λb o _ hb _ e n=>u.keep b o e n hb (by simp)) (λb o _ hb _ e n=>u.slot b o e n hb (by simp)) (λb o _ e n=>u.free b o e n (by simp)) (λb o _ e=>u.there b o e (by simp)) u.tups u.frzs u.tbls (λm' hm=>by
  obtain⟨o',es',ep',ho',r'⟩:=hm
  rw[ho]at ho';cases ho'
  exact⟨_,es',ep',hL,r'⟩) hok I.bare
theorem Inv.call{g':Array GenState}{d':Drawn}(I:Inv X pins Z H s)(u:Un (frs X.stack) ch H H' s.heap h')(hok:HOk X.prog X.w H' h')(hg:AllBare g')
  (hch:∀b∈ch,(b∈X.ex\/X.s₀.heap.objs.size<=b)/\b≠X.env.locals/\(∀x c,X.env.cells.lookup x=some c->c≠b)/\∀p∈X.pn++pins,p.1≠b) :
  Inv X pins Z H' { s with heap:=h',gens:=g',drawn:=d',toks:=t' }:=by
 obtain⟨m,⟨o,es,ep,ho,r⟩,_⟩:=id I.loc
 obtain⟨sl,hL⟩:=u.any ho I.free λz=>(hch _ z).2.1 rfl
 exact I.step (ch:=ch) hch (λb o hL hb hc e n=>u.keep b o e n (λz=>(List.mem_cons.mp (I.stkSub b z)).elim hL hb) hc) (λb o _ _ hc e n=>u.any e n hc) (λb o hc e n=>u.free b o e n hc) (λb o hc e=>u.there b o e hc) u.tups u.frzs u.tbls (λm' hm=>by
  obtain⟨o',es',ep',ho',r'⟩:=hm
  rw[ho]at ho';cases ho'
  exact⟨_,es',ep',hL,r'⟩) hok hg
theorem Inv.turned{it:Addr}(I:Inv X pins Z H s)(k:∀b o,b≠it->s.heap.get? b=some o->h'.get? b=some o)(hn:H it=none)(hL:it≠X.env.locals)
  (h1:it∈X.ex\/X.s₀.heap.objs.size<=it) (h2:∀x c,X.env.cells.lookup x=some c->c≠it) (h3:∀p∈X.pn++pins,p.1≠it):Inv X pins Z H { s with heap:=h',toks:=t' }:=by
 have nit:∀b u,H b=some u->b≠it:=λb u e z=>by rw[z,hn]at e;cases e
 refine I.step (g':=s.gens) (d':=s.drawn) (ch:=[it]) (λb hb=>?_) (λb o _ _ hc e _=>k b o (λz=>hc (by simp[z])) e) (λb o _ _ hc e _=>⟨o.slots,k b o (λz=>hc (by simp[z])) e⟩) (λ_ _ _ _ n=>n)
  (λb o hc e=>⟨o,k b o (λz=>hc (by simp[z])) e⟩) (λ_ _ e=>e) (λ_ _ _ e=>e) (λb ps e=>⟨#[],by rw[e];simp⟩) (λm hm=>?_) (λb u e=>?_) I.bare
 ·have e:b=it:=by simpa using hb
  subst e
  exact⟨h1,hL,h2,h3⟩
 ·obtain⟨o,es,ep,ho,r⟩:=hm
  exact⟨o,es,ep,k _ o (Ne.symm hL) ho,r⟩
 ·refine(I.hok b u e).stay (λc v hc q=>k c v ?_ q) (λ_ q=>q) λ_ _ q=>q
  rcases hc with z|z
  ·rw[z];exact nit b u e
  ·exact nit c _ z
theorem Inv.tok(I:Inv X pins Z H s)(t:Nat):Inv X pins Z H { s with toks:=t }:=I.un (h':=s.heap) (t':=t) Un.refl I.hok
theorem Inv.kept(I:Inv X pins Z H s)(k:∀b u,s.heap.get? b=some u->h'.get? b=some u):Inv X pins Z H { s with heap:=h',toks:=t' }:=I.un (Un.kept k) (I.hok.kept k)
theorem Inv.laid{a:Addr}{o:HO}(I:Inv X pins Z H s)(k:∀b u,s.heap.get? b=some u->h'.get? b=some u)(hp:s.heap.objs.size<=a)(new:ObjOk X.prog X.w (upd H a o) h' a o) :
  Inv X pins Z (upd H a o) { s with heap:=h',toks:=t' }:=I.un (Un.laid k hp (I.hok.fresh hp)) (I.hok.laid k hp new)
theorem Inv.write{x e:Addr}{o:HO}(I:Inv X pins Z H s)(mu:Mut (H x))(he:e=x\/H e=some (.own x))(k:∀b u,b≠e->s.heap.get? b=some u->h'.get? b=some u)(heo:∃u,h'.get? e=some u)
  (new:ObjOk X.prog X.w (upd H x o) h' x o):Inv X pins Z (upd H x o) { s with heap:=h',toks:=t' }:=I.un (Un.write mu he k heo) (I.hok.write mu he k heo new)
theorem Inv.pins_of{pins':zzk}(I:Inv X pins Z H s)(h:∀p∈pins',s.heap.get? p.1=some p.2/\H p.1=none/\p.1≠X.env.locals/\p.1∉X.fs/\∀v,p.2.data≠.cell v):Inv X pins' Z H s :=
 ⟨I.ok,I.os,I.bare,I.base,I.loc,I.cell,I.free,I.freeC,λp hp=>(List.mem_append.mp hp).elim (λz=>I.pin p (zzh _ z)) (h p),I.hok,I.len⟩
theorem mz{N:List Str}(hN:N.Nodup){j:Nat}(a:N[i]? = some x)(b:N[j]? = some x):i=j:=by
 obtain⟨h1,e1⟩:=List.getElem?_eq_some_iff.mp a
 obtain⟨h2,e2⟩:=List.getElem?_eq_some_iff.mp b
 exact(List.getElem_inj hN).mp (e1.trans e2.symm)
theorem nZ{M:Model}{v:V}(I:Inv X pins Z H s)(hN:X.N.Nodup)(hi:X.N[i]? = some x)(hx:Loc X.env.scope x)(r:RelV v u)
  (h:∀s',Inv X pins (Z.set i (some v)) H s'->(∃a,Heap.SameBut a s.heap s'.heap/\(a=X.env.locals\/X.env.cells.lookup x=some a))->Q () s') (hf:X.fn x=true\/X.env.scope.names.lookup x=some .local:=by first|exact .inl rfl|exact .inr rfl|assumption):wpAny M A (storeName X.env x u) Q E s:=by
 obtain⟨m,hn,hl⟩:=id I.loc
 have hcls:(X.env.scope.kind==.class||(X.env.scope.kind==.module&&X.env.locals != X.env.globals))=false:=by rw[I.ok.kind];rfl
 have hiσ:i<Z.length:=by rw[I.len];exact(List.getElem?_eq_some_iff.mp hi).1
 have cne:=I.cne
 have tracked:∀{a:Addr} {h':Heap},(∃o,s.heap.get? a=some o/\H a=none)->Heap.SameBut a s.heap h'->HOk X.prog X.w H h':=λ{a h'} ha hs b ob e=>by
  obtain⟨_,_,hfree⟩:=ha
  refine(I.hok b ob e).stay (λc w' hc q=>(hs.2 c ?_).trans q) (λ_ q=>q) λ_ _ q=>q
  rintro rfl
  rcases hc with rfl|hc
  ·rw[hfree]at e;cases e
  ·rw[hfree]at hc;cases hc
 rcases hx with hk|hk
 ·refine wpAny_storeName_local hk hn (λh' hn' hs=>?_) hcls
  obtain⟨oL,_,_,hoL,_⟩:=id hn
  refine h _ ⟨I.ok,I.os,I.bare,⟨λb o e n hb hx=>?_,λb o e n hb hx=>?_,I.base.free,λb o e hx=>?_,I.base.tups,I.base.frzs,I.base.tbls⟩,⟨_,hn',λj y v' e1 e2 e3=>?_⟩,λy c e=>?_,I.free,I.freeC,λp hp=>?_,tracked ⟨oL,hoL,I.free⟩ hs,by simpa using I.len⟩ ⟨_,hs,.inl rfl⟩
  ·exact(hs.2 b (eE (du (ay e) I.ok.above))).trans (I.base.keep b o e n hb hx)
  ·obtain⟨sl,e1⟩:=I.base.slot b o e n hb hx
   exact⟨sl,(hs.2 b (eE (du (ay e) I.ok.above))).trans e1⟩
  ·obtain⟨o',e1⟩:=I.base.there b o e hx
   exact⟨o',(hs.2 b (eE (du (ay e) I.ok.above))).trans e1⟩
  ·by_cases hj:j=i
   ·subst hj
    rw[hi]at e1;cases e1
    rw[nc hiσ]at e2
    cases e2
    exact⟨u,r,.inl ⟨hk,by simp⟩⟩
   ·rw[je (Ne.symm hj)]at e2
    obtain⟨u',r',q⟩:=hl j y v' e1 e2 e3
    refine⟨u',r',?_⟩
    rcases q with ⟨k,e⟩|⟨k,c,e,z⟩
    ·refine .inl ⟨k,?_⟩
     have:y≠x:=λe=>hj (mz hN e1 (e▸hi))
     simp[this,e]
    ·exact .inr ⟨k,c,e,z.sameBut hs (cne y c e)⟩
  ·obtain⟨w',z⟩:=I.cell y c e
   exact⟨w',z.sameBut hs (cne y c e)⟩
  ·obtain⟨e,n,ne,nf,d⟩:=I.pin p hp
   exact⟨(hs.2 p.1 ne).trans e,n,ne,nf,d⟩
 ·have hfn:X.fn x=true:=by
   rcases hf with z|z
   ·exact z
   ·rw[z]at hk;cases hk
  obtain⟨c,hc⟩:=I.ok.has x (.inl hk)
  obtain⟨w',z⟩:=I.cell x c hc
  refine wpAny_storeName_cell I.ok.kind hk hc z (λh' hc' hs=>?_)
  obtain⟨oc,hoc,hocd⟩:=id z
  refine h { s with heap:=h' } ⟨I.ok,I.os,I.bare,⟨λb o e n hb hx=>?_,λb o e n hb hx=>?_,I.base.free,λb o e hx=>?_,I.base.tups,I.base.frzs,I.base.tbls⟩,⟨m,hn.sameBut hs (Ne.symm (cne x c hc)),λj y v' e1 e2 e3=>?_⟩,λy c' e=>?_,I.free,I.freeC,λp hp=>?_,tracked ⟨oc,hoc,I.freeC x c hc⟩ hs,by simpa using I.len⟩ ⟨c,hs,.inr hc⟩
  ·exact(hs.2 b (eE (du (ay e) (I.ok.cab x c hfn hc)))).trans (I.base.keep b o e n hb hx)
  ·obtain⟨sl,e1⟩:=I.base.slot b o e n hb hx
   exact⟨sl,(hs.2 b (eE (du (ay e) (I.ok.cab x c hfn hc)))).trans e1⟩
  ·obtain⟨o',e1⟩:=I.base.there b o e hx
   exact⟨o',(hs.2 b (eE (du (ay e) (I.ok.cab x c hfn hc)))).trans e1⟩
  ·by_cases hj:j=i
   ·subst hj
    rw[hi]at e1;cases e1
    rw[nc hiσ]at e2
    cases e2
    exact⟨u,r,.inr ⟨.inl hk,c,hc,hc'⟩⟩
   ·rw[je (Ne.symm hj)]at e2
    obtain⟨u',r',q⟩:=hl j y v' e1 e2 e3
    refine⟨u',r',?_⟩
    rcases q with q|⟨k,c',e,z'⟩
    ·exact .inl q
    ·refine .inr ⟨k,c',e,z'.sameBut hs ?_⟩
     rintro rfl
     exact hj (mz hN e1 (I.ok.inj _ _ _ e hc▸hi))
  ·by_cases hcc:c'=c
   ·subst hcc;exact⟨_,hc'⟩
   ·obtain⟨w2,z2⟩:=I.cell y c' e
    exact⟨w2,z2.sameBut hs hcc⟩
  ·obtain⟨e,n,ne,nf,d⟩:=I.pin p hp
   refine⟨(hs.2 p.1 ?_).trans e,n,ne,nf,d⟩
   intro q
   rw[q,hoc]at e
   have q':oc=p.2:=Option.some.inj e
   exact d w' (by rw[<-q'];exact hocd)
theorem ju{M:Model}{v:V}(I:Inv X pins Z H s)(hN:X.N.Nodup)(hi:X.N[i]? = some x)(hx:Loc X.env.scope x)(r:RelV v u)
  (h:∀s',Inv X pins (Z.set i (some v)) H s'->Q () s') (hf:X.fn x=true\/X.env.scope.names.lookup x=some .local:=by first|exact .inl rfl|exact .inr rfl|assumption):wpAny M A (storeName X.env x u) Q E s :=
 nZ I hN hi hx r (λs' I' _=>h s' I') hf
theorem Inv.call'{s':Shared}(I:Inv X pins Z H s)(ho:s'.os=s.os)(u:Un (frs X.stack) ch H H' s.heap s'.heap)(hok:HOk X.prog X.w H' s'.heap)(hg:AllBare s'.gens)
  (hch:∀b∈ch,(b∈X.ex\/X.s₀.heap.objs.size<=b)/\b≠X.env.locals/\(∀x c,X.env.cells.lookup x=some c->c≠b)/\∀p∈X.pn++pins,p.1≠b):Inv X pins Z H' s':=by
 obtain⟨h',g',d',t',o'⟩:=s'
 have e:o'=s.os:=ho
 subst e
 exact I.call (g':=g') (t':=t') (d':=d') u hok hg hch
end
abbrev XK:=Value->Option Addr->Hp->Prop
abbrev St:=List (Option V)
abbrev VK:=V->Hp->Prop
abbrev TE:=St->Hp->VK->Prop
abbrev TT:=St->Hp->(Bool->Hp->Prop)->Prop
abbrev TA:=St->Hp->(List V->Hp->Prop)->Prop
structure Ends where
 nx:St->Hp->Prop
 rt:VK
 bk:St->Hp->Prop:=λ_ _=>False
 ct:St->Hp->Prop:=λ_ _=>False
abbrev TS:=Ends->St->Hp->Prop
def EP(X:Cx)(pins:zzk)(Z:St)(Q:VK)(u:Value)(s':Shared):Prop:=∃v H',Inv X pins Z H' s'/\RelV v u/\Q v H'
def TP(X:Cx)(pins:zzk)(Z:St)(Q:Bool->Hp->Prop)(b:Bool)(s':Shared):Prop:=∃H',Inv X pins Z H' s'/\Q b H'
def AP(X:Cx)(pins:zzk)(Z:St)(Q:List V->Hp->Prop)(us:List Value)(s':Shared):Prop:=∃vs H',Inv X pins Z H' s'/\Vals vs us/\Q vs H'
def SP(X:Cx)(pins:zzk)(D:Ends)(f:Flow)(s':Shared):Prop :=
 match f with
 | .next=>∃σ' H',Inv X pins σ' H' s'/\D.nx σ' H'
 | .brk=>∃σ' H',Inv X pins σ' H' s'/\D.bk σ' H'
 | .cont=>∃σ' H',Inv X pins σ' H' s'/\D.ct σ' H'
 | .ret u=>∃v σ' H',Inv X pins σ' H' s'/\RelV v u/\D.rt v H'
def PE(X:Cx)(e:Expr)(t:TE):Prop :=
 ∀(pins:zzk) (s:Shared) (Z:St) (H:Hp) (Q:VK),Inv X pins Z H s->t Z H Q->wpAny (model X.prog X.w) X.A (eval e X.env) (EP X pins Z Q) X.xe s
def PT(X:Cx)(e:Expr)(t:TT):Prop :=
 ∀(pins:zzk) (s:Shared) (Z:St) (H:Hp) (Q:Bool->Hp->Prop),Inv X pins Z H s->t Z H Q->wpAny (model X.prog X.w) X.A (isTrue e X.env (eval e X.env)) (TP X pins Z Q) X.xe s
def PW(X:Cx)(e:Expr)(t:TT):Prop :=
 ∀(whole:Sem Value) (pins:zzk) (s:Shared) (Z:St) (H:Hp) (Q:Bool->Hp->Prop),Inv X pins Z H s->t Z H Q->wpAny (model X.prog X.w) X.A (isTrue e X.env whole) (TP X pins Z Q) X.xe s
def PA(X:Cx)(es:List Expr)(t:TA):Prop :=
 ∀(pos:Pos) (pins:zzk) (s:Shared) (Z:St) (H:Hp) (Q:List V->Hp->Prop),Inv X pins Z H s->t Z H Q->wpAny (model X.prog X.w) X.A (spliced (backTo pos (starEach es X.env))) (AP X pins Z Q) X.xe s
def PS(X:Cx)(st:Stmt)(t:TS):Prop :=
 ∀(pins:zzk) (s:Shared) (Z:St) (H:Hp) (D:Ends),Inv X pins Z H s->t D Z H->wpAny (model X.prog X.w) X.A (exec st X.env) (SP X pins D) X.xe s
def PSs(X:Cx)(st:List Stmt)(t:TS):Prop :=
 ∀(pins:zzk) (s:Shared) (Z:St) (H:Hp) (D:Ends),Inv X pins Z H s->t D Z H->wpAny (model X.prog X.w) X.A (execs st X.env) (SP X pins D) X.xe s
theorem thn{α:Type}{t:Sem α}{Q Q':α->Shared->Prop}{M:Model}(h:wpAny M A t Q E s)(hQ:∀a s,Q a s->Q' a s):wpAny M A t Q' E s:=r0 h hQ λ_ _ x=>x
section
variable {X:Cx}
def GJ(i:Nat):TE:=λZ H Q=>∃v,Z[i]? = some (some v)/\Q v H
def tC(v:V):TE:=λ_ H Q=>Q v H
theorem e8(hN:X.N[i]? = some x)(hv:Vis X.env.scope x)(hd:(x==("__debug__" : Str))=false:=by decide)(hcd:(x==("__classdict__" : Str))=false:=by decide):PE X (.Name x pos) (GJ i):=by
 intro pins s Z H Q I h
 obtain⟨v,e,h⟩:=h
 obtain⟨m,hn,hl⟩:=I.loc
 obtain⟨u,r,l⟩:=hl i x v hN e hv
 have fin:EP X pins Z Q u s:=⟨v,H,I,r,h⟩
 rcases l with ⟨hk,hm⟩|⟨hk,c,hc,hcell⟩
 ·exact wpAny_Name (wpAny_loadName_local I.ok.kind hk hn hm fin) hd
 ·rcases hk with hk|hk
  ·exact wpAny_Name (wpAny_loadName_cell I.ok.kind hk hc hcell fin) hd
  ·exact wpAny_Name (wpAny_loadName_free I.ok.kind hk hc hcell fin hcd) hd
theorem EV{i j pos}:PE X (.Constant (.int i) j pos) (tC (.int i)):=λ_ _ _ H _ I h=>wpAny_Constant_int ⟨.int i,H,I.tok _,⟨_,rfl⟩,h⟩
theorem Hq{b j pos}:PE X (.Constant (.bool b) j pos) (tC (.bl b)):=λ_ _ _ H _ I h=>Constant_bool ⟨.bl b,H,I,rfl,h⟩
theorem EU{j pos}:PE X (.Constant .none j pos) (tC .non):=λ_ _ _ H _ I h=>Constant_none ⟨.non,H,I,rfl,h⟩
theorem ES{x j pos}:PE X (.Constant (.str x) j pos) (tC (.str x)):=λ_ _ _ H _ I h=>Calls.Constant_str ⟨.str x,H,I.tok _,⟨_,rfl⟩,h⟩
def Gl(X:Cx)(x:Str):Prop:=X.env.kindOf x=some .globalImplicit
theorem jG{Z:St}{H:Hp}{Q:zzj}(I:Inv X pins Z H s)(hg:Gl X x)(hm:X.mg x=some u)(h:Q u s)
  (hd:(x==("__debug__" : Str))=false:=by decide):wpAny (model X.prog X.w) X.A (eval (.Name x pos) X.env) Q E s :=
 Calls.Name_function_global I.ok.kind hg (Calls.loadGlobal_global (by rw[I.ok.glob];exact I.mod.glob.keeps I.bk) hm h) hd
theorem fg{Z:St}{H:Hp}{Q:zzj}(I:Inv X pins Z H s)(hg:Gl X x)(hm:X.mg x=none)(hv:bootBuiltins x=some u)(h:Q u s)
  (hn:x ≠ "__name__":=by decide) (hd:(x==("__debug__" : Str))=false:=by decide):wpAny (model X.prog X.w) X.A (eval (.Name x pos) X.env) Q E s:=by
 obtain⟨mb,h1,h2⟩:=I.mod.blt
 exact Calls.Name_function_global I.ok.kind hg (Calls.loadGlobal_builtin (by rw[I.ok.glob];exact I.mod.glob.keeps I.bk) hm (by rw[I.ok.blt];exact h1.keeps I.bk) ((h2 x hn).trans hv) h) hd
theorem pU{v:V}(hg:Gl X x)(hm:X.mg x=some u)(r:RelV v u)(hd:(x==("__debug__" : Str))=false:=by decide):PE X (.Name x pos) (tC v) :=
 λ_ _ _ H _ I h=>jG I hg hm ⟨v,H,I,r,h⟩ hd
theorem vP{v:V}(hg:Gl X x)(hm:X.mg x=none)(hv:bootBuiltins x=some u)(r:RelV v u)(hn:x ≠ "__name__":=by decide)(hd:(x==("__debug__" : Str))=false:=by decide):PE X (.Name x pos) (tC v) :=
 λ_ _ _ H _ I h=>fg I hg hm hv ⟨v,H,I,r,h⟩ hn hd
variable {a b:Expr} {ta tb:TE}
variable {tA tB':TT} {rest:List Expr}
def IK(t u:TT):TT:=λZ H Q=>t Z H λc H1=>if c=true then u Z H1 Q else Q false H1
def tOr(t u:TT):TT:=λZ H Q=>t Z H λc H1=>if c=true then Q true H1 else u Z H1 Q
def ID(t:TT):TT:=λZ H Q=>t Z H λc H1=>Q (!c) H1
theorem vD(ha:PT X a tA):PW X (.BoolOp .And [a] pos) tA:=by
 intro wh pins s Z H Q I h
 refine isTrue_and (thn (ha pins s Z H Q I h) λc s1 e=>?_)
 cases c with
 | true=>exact isTrue_and_nil e
 | false=>exact e
theorem EK(ha:PT X a tA):PW X (.BoolOp .Or [a] pos) tA:=by
 intro wh pins s Z H Q I h
 refine isTrue_or (thn (ha pins s Z H Q I h) λc s1 e=>?_)
 cases c with
 | false=>exact isTrue_or_nil e
 | true=>exact e
theorem zn(ha:PT X a tA)(hb:PW X (.BoolOp .And (b::rest) pos) tB'):PW X (.BoolOp .And (a::b::rest) pos) (IK tA tB'):=by
 intro wh pins s Z H Q I h
 refine isTrue_and (thn (ha pins s Z H _ I h) λc s1 ⟨H1,I1,q1⟩=>?_)
 cases c with
 | true=>exact hb wh pins s1 Z H1 Q I1 q1
 | false=>exact⟨H1,I1,q1⟩
theorem Hm(ha:PT X a tA)(hb:PW X (.BoolOp .Or (b::rest) pos) tB'):PW X (.BoolOp .Or (a::b::rest) pos) (tOr tA tB'):=by
 intro wh pins s Z H Q I h
 refine isTrue_or (thn (ha pins s Z H _ I h) λc s1 ⟨H1,I1,q1⟩=>?_)
 cases c with
 | true=>exact⟨H1,I1,q1⟩
 | false=>exact hb wh pins s1 Z H1 Q I1 q1
theorem EL(ha:PT X a tA):PT X (.UnaryOp .Not a pos) (ID tA):=by
 intro pins s Z H Q I h
 exact isTrue_not (ha pins s Z H (λc H1=>Q (!c) H1) I h)
def GR(ta tb:TE):TE:=λZ H Q=>ta Z H λx H1=>∃c,x=.bl c/\if c=true then tb Z H1 Q else Q (.bl false) H1
theorem ET{op}{t:TE}(h:PE X a t):PE X (.BoolOp op [a] pos) t:=λpins s Z H Q I hw=>BoolOp_one (h pins s Z H Q I hw)
theorem EY(ha:PE X a ta)(hb:PE X (.BoolOp .And (b::rest) pos) tb):PE X (.BoolOp .And (a::b::rest) pos) (GR ta tb):=by
 intro pins s Z H Q I h
 refine BoolOp_and (thn (ha pins s Z H _ I h) λv s1 ⟨x,H1,I1,r1,q1⟩=>?_)
 obtain⟨c,rfl,q1⟩:=q1
 cases r1
 refine wpAny_truthy_bool ?_
 cases c with
 | true=>exact hb pins s1 Z H1 Q I1 q1
 | false=>exact⟨.bl false,H1,I1,rfl,q1⟩
def tIf(t:TT)(ta tb:TE):TE:=λZ H Q=>t Z H λc H1=>if c=true then ta Z H1 Q else tb Z H1 Q
theorem zE(hc:PT X c tA)(ha:PE X a ta)(hb:PE X b tb):PE X (.IfExp c a b pos) (tIf tA ta tb):=by
 intro pins s Z H Q I h
 refine wpAny_IfExp (thn (hc pins s Z H _ I h) λd s1 ⟨H1,I1,q1⟩=>?_)
 cases d with
 | true=>exact ha pins s1 Z H1 Q I1 q1
 | false=>exact hb pins s1 Z H1 Q I1 q1
end
def SqL(K:PySem.W.Frag)(H:Hp)(a:Addr)(xs:List V):Prop :=
 Rd H a (.lst xs) \/
  ∃(o:Obj) (its:Array Value) (n:Nat),K.lookup a=some o/\o.cls=.type "list" /\ o.dict=none/\o.data=.seq its n/\its.size<=sizeLine/\Vals xs its.toList
def SqT(K:PySem.W.Frag)(H:Hp)(a:Addr)(xs:List V):Prop :=
 Rd H a (.tup xs) \/
  ∃(o:Obj) (its:Array Value) (n:Nat),K.lookup a=some o/\o.cls=.type "tuple" /\ o.data=.seq its n/\its.size<=sizeLine/\Vals xs its.toList
def Jt:Value->Option V
 | .none=>some .non
 | .bool b=>some (.bl b)
 | .int i _=>some (.int i)
 | .str x _=>some (.str x)
 | .bytes b _=>some (.byt b)
 | .float b _=>some (.flt b)
 | .ref a=>some (.ref a)
 | .type n=>some (.ty n)
 | _=>none
theorem RelV.abs{x:V}(r:RelV x u):Jt u=some x:=by
 cases x with
 | non=>cases r;rfl
 | bl _=>cases r;rfl
 | int _=>obtain⟨t,rfl⟩:=r;rfl
 | str _=>obtain⟨t,rfl⟩:=r;rfl
 | byt _=>obtain⟨t,rfl⟩:=r;rfl
 | flt _=>obtain⟨t,rfl⟩:=r;rfl
 | ref _=>cases r;rfl
 | ty _=>cases r;rfl
theorem RelV.inj{x y:V}(r:RelV x u)(q:RelV y u):x=y:=Option.some.inj (r.abs.symm.trans q.abs)
theorem Vals.inj:∀{xs ys:List V} {us:List Value},Vals xs us->Vals ys us->xs=ys:=by
 intro xs ys us h
 induction h generalizing ys with
 | nil=>intro h2;cases h2;rfl
 | cons r _ ih =>
  intro h2
  cases h2 with
  | cons r' t'=>rw[r.inj r',ih t']
section
variable {X:Cx} {Z:St} {H:Hp} {a:Addr} {xs ys:List V}
theorem SqL.of{K:PySem.W.Frag}(h:H a=some (.lst xs)):SqL K H a xs:=.inl (.inl h)
theorem SqT.of{K:PySem.W.Frag}(h:H a=some (.tup xs)):SqT K H a xs:=.inl (.inl h)
theorem Inv.list(I:Inv X pins Z H s)(h:SqL X.K H a xs):∃its:List Value,Vals xs its/\PlainL s.heap a its.toArray/\xs.length<=sizeLine:=by
 rcases h with h|⟨o,its,n,hk,hc,hd,hs,hz,r⟩
 ·obtain⟨z,its,n,r,e⟩:=h.ok I.hok
  exact⟨its,r,⟨_,n,e,rfl,rfl,rfl⟩,z⟩
 ·refine⟨its.toList,r,⟨o,n,I.kIn a o hk,hc,hd,by simpa using hs⟩,?_⟩
  have e:=r.length
  simp only[fu]at e
  lia
theorem Inv.tuple(I:Inv X pins Z H s)(h:SqT X.K H a xs):∃its:List Value,Vals xs its/\IsTup s.heap a its.toArray/\xs.length<=sizeLine:=by
 rcases h with h|⟨o,its,n,hk,hc,hs,hz,r⟩
 ·obtain⟨z,its,r,p⟩:=h.ok I.hok
  exact⟨its,r,p.1,z⟩
 ·refine⟨its.toList,r,⟨o,I.kIn a o hk,hc,n,by simpa using hs⟩,?_⟩
  have e:=r.length
  simp only[fu]at e
  lia
theorem Inv.list_inj(I:Inv X pins Z H s)(h:SqL X.K H a xs)(h':SqL X.K H a ys):xs=ys:=by
 obtain⟨its,r,⟨o,n,e,_,_,d⟩,_⟩:=I.list h
 obtain⟨its',r',⟨o',n',e',_,_,d'⟩,_⟩:=I.list h'
 rw[e]at e';cases e'
 rw[d]at d'
 injection d' with d1 _
 have:its=its':=by simpa using congrArg Array.toList d1
 subst this
 exact r.inj r'
theorem Inv.tuple_inj(I:Inv X pins Z H s)(h:SqT X.K H a xs)(h':SqT X.K H a ys):xs=ys:=by
 obtain⟨its,r,⟨o,e,_,n,d⟩,_⟩:=I.tuple h
 obtain⟨its',r',⟨o',e',_,n',d'⟩,_⟩:=I.tuple h'
 rw[e]at e';cases e'
 rw[d]at d'
 injection d' with d1 _
 have:its=its':=by simpa using congrArg Array.toList d1
 subst this
 exact r.inj r'
end
section
variable {X:Cx} {st:Stmt} {rest:List Stmt} {t u:TS} {te:TE}
def Dt:TS:=λD Z H=>D.nx Z H
def IB(t u:TS):TS:=λD Z H=>t { D with nx:=u D } Z H
theorem vJ:PSs X [] Dt:=λ_ _ Z H _ I h=>Kg ⟨Z,H,I,h⟩
theorem rA(h1:PS X st t)(h2:PSs X rest u):PSs X (st::rest) (IB t u):=by
 intro pins s Z H D I h
 refine wpAny_execs_cons (thn (h1 pins s Z H { D with nx:=u D } I h) λf s1 q=>?_)
 cases f with
 | next =>
  obtain⟨σ',H',I',q⟩:=q
  exact h2 pins s1 σ' H' D I' q
 | ret v=>exact q
 | brk=>exact q
 | cont=>exact q
theorem BS(h1:PS X st t):PSs X [st] t:=by
 intro pins s Z H D I h
 refine wpAny_execs_cons (thn (h1 pins s Z H D I h) λf s1 q=>?_)
 cases f with
 | next=>exact Kg q
 | ret v=>exact q
 | brk=>exact q
 | cont=>exact q
theorem BU:PS X (.Pass pos) Dt:=λ_ _ Z H _ I h=>wpAny_Pass ⟨Z,H,I,h⟩
theorem Inv.quiet{Z:St}{H:Hp}(I:Inv X pins Z H s):interactive X.env=false:=by simp[interactive,I.ok.kind]
def GO(te:TE):TS:=λD Z H=>te Z H λ_ H1=>D.nx Z H1
theorem pT(he:PE X e te)(hs:swapsWith e none pos.line X.env=pure false:=by rfl):PS X (.Expr e pos) (GO te):=by
 intro pins s Z H D I h
 exact wpAny_Expr_any (thn (he pins s Z H _ I h) λv s1 ⟨x,H1,I1,r1,q1⟩=>⟨Z,H1,I1,q1⟩) I.quiet hs
def IC(te:TE):TS:=λD Z H=>te Z H D.rt
theorem zq(he:PE X e te):PS X (.Return (some e) pos) (IC te):=by
 intro pins s Z H D I h
 exact wpAny_Return_some (thn (he pins s Z H _ I h) λv s1 ⟨x,H1,I1,r1,q1⟩=>⟨x,Z,H1,I1,r1,q1⟩)
def IF(c:TT)(t u:TS):TS:=λD Z H=>c Z H λb H1=>if b=true then t D Z H1 else u D Z H1
theorem Ho{a b:List Stmt}{tc:TT}(hc:PT X c tc)(ha:PSs X a t)(hb:PSs X b u):PS X (.If c a b pos) (IF tc t u):=by
 intro pins s Z H D I h
 refine wpAny_If (thn (hc pins s Z H _ I h) λd s1 ⟨H1,I1,q1⟩=>?_)
 cases d with
 | true=>exact ha pins s1 Z H1 D I1 q1
 | false=>exact hb pins s1 Z H1 D I1 q1
end
abbrev TG:=V->St->Hp->(St->Hp->Prop)->Prop
abbrev TGs:=List V->St->Hp->(St->Hp->Prop)->Prop
def PG(X:Cx)(target:Expr)(t:TG):Prop :=
 ∀(pins:zzk) (s:Shared) (Z:St) (H:Hp) (v:V) (u:Value) (Q:St->Hp->Prop),Inv X pins Z H s->RelV v u->t v Z H Q ->
  wpAny (model X.prog X.w) X.A (assign target X.env u) (λ_ s'=>∃σ' H',Inv X pins σ' H' s'/\Q σ' H') X.xe s
def PGs(X:Cx)(ts:List Expr)(t:TGs):Prop :=
 ∀(pins:zzk) (s:Shared) (Z:St) (H:Hp) (vs:List V) (us:List Value) (Q:St->Hp->Prop),Inv X pins Z H s->Vals vs us->t vs Z H Q ->
  wpAny (model X.prog X.w) X.A (assignInOrder ((assignEach ts X.env).map (·.2)) us) (λ_ s'=>∃σ' H',Inv X pins σ' H' s'/\Q σ' H') X.xe s
abbrev Bh:=V->V->V->Hp->(Hp->Prop)->Prop
def GB(X:Cx)(t:Bh):Prop :=
 ∀(pins:zzk) (s:Shared) (Z:St) (H:Hp) (o i v:V) (ov iv u:Value) (Q:Hp->Prop),Inv X pins Z H s->RelV o ov->RelV i iv->RelV v u->t o i v H Q ->
  wpAny (model X.prog X.w) X.A (setItem ov iv u) (λ_ s'=>∃H',Inv X pins Z H' s'/\Q H') X.xe s
abbrev TIp:=V->V->Hp->VK->Prop
def PIp(X:Cx)(op:Operator)(t:TIp):Prop :=
 ∀(pins:zzk) (s:Shared) (Z:St) (H:Hp) (x y:V) (v u:Value) (Q:VK),Inv X pins Z H s->RelV x v->RelV y u->t x y H Q ->
  wpAny (model X.prog X.w) X.A (inplaceOp op v u) (EP X pins Z Q) X.xe s
section
variable {X:Cx}
def sC(i:Nat):TG:=λv Z H Q=>Q (Z.set i (some v)) H
theorem B2(hN:X.N.Nodup)(hi:X.N[i]? = some x)(hx:Loc X.env.scope x)(hf:X.fn x=true\/X.env.scope.names.lookup x=some .local:=by first|exact .inl rfl|exact .inr rfl|assumption):PG X (.Name x pos) (sC i):=by
 intro pins s Z H v u Q I r h
 exact wpAny_assign_Name (ju I hN hi hx r (λs' I'=>⟨_,H,I',h⟩) hf)
def Jk:TGs:=λvs Z H Q=>vs=[]/\Q Z H
def Ib(t:TG)(u:TGs):TGs:=λvs Z H Q=>∃v r,vs=v::r/\t v Z H λσ' H'=>u r σ' H' Q
theorem B1:PGs X [] Jk:=by
 intro pins s Z H vs us Q I r h
 obtain⟨e,h⟩:=h
 subst e
 cases r
 exact assignInOrder_nil ⟨Z,H,I,h⟩
theorem zy{t:TG}{u:TGs}(h1:PG X e t)(h2:PGs X es u)
  (hs:(assignEach (e::es) X.env).map (·.2)=assign e X.env::(assignEach es X.env).map (·.2):=by rfl):PGs X (e::es) (Ib t u):=by
 intro pins s Z H vs us Q I r h
 obtain⟨v,vr,e1,h⟩:=h
 subst e1
 cases r with
 | cons r rr =>
  rw[hs]
  refine assignInOrder_cons (thn (h1 pins s Z H _ _ _ I r h) λ_ s1 ⟨σ1,H1,I1,q1⟩=>?_)
  exact h2 pins s1 σ1 H1 _ _ Q I1 rr q1
def Ji(K:PySem.W.Frag)(n:Nat)(t:TGs):TG:=λv Z H Q=>∃a xs,v=.ref a/\SqT K H a xs/\xs.length=n/\t xs Z H Q
theorem EQ{k:Nat}{t:TGs}{n:Nat}(hc:X.calm=true)(h:PGs X es t)
  (hn:(assignEach es X.env).length=n:=by rfl) (hst:(assignEach es X.env).findIdx? (·.1)=none:=by rfl):PG X (.Tuple es k pos) (Ji X.K n t):=by
 intro pins s Z H v u Q I r hw
 obtain⟨a,xs,e1,hq,hl,hw⟩:=hw
 subst e1
 cases r
 obtain⟨its,rv,ht,hz⟩:=I.tuple hq
 refine assign_Tuple_tuple (I.ok.hd hc) ht (by simp[hn,<-hl,rv.length]) hst λh' hx=>?_
 have I1:Inv X pins Z H { s with heap:=h' }:=I.kept (t':=s.toks) λb o e=>hx b o (eE (ay e)) e
 exact h pins _ Z H xs _ Q I1 (by simpa using rv) hw
def Jj(to ti:TE)(t:Bh):TG:=λv Z H Q=>to Z H λo H1=>ti Z H1 λi H2=>t o i v H2 λH3=>Q Z H3
theorem ER{o i:Expr}{to ti:TE}{t:Bh}(ho:PE X o to)(hi:PE X i ti)(hs:GB X t)
  (ha:∀v,assign (.Subscript o i pos) X.env v=(do
   let ov <-holding [v] (eval o X.env)
   let iv <-holding [v,ov] (eval i X.env)
   standAt pos
   holding [v,ov,iv] (setItem ov iv v)
   release [v,ov,iv] []):=by intro _;rfl):PG X (.Subscript o i pos) (Jj to ti t):=by
 intro pins s Z H v u Q I r h
 rw[ha]
 refine zza (sk (thn (ho pins s Z H _ I h) λov s1 ⟨x,H1,I1,r1,q1⟩=>?_))
 refine zza (sk (thn (hi pins s1 Z H1 _ I1 q1) λiv s2 ⟨y,H2,I2,r2,q2⟩=>?_))
 refine zza (J6 (zza (sk (thn (hs pins s2 Z H2 x y v ov iv u _ I2 r1 r2 r q2) λ_ s3 ⟨H3,I3,q3⟩=>?_))))
 exact wpAny_release ⟨Z,H3,I3,q3⟩
def Ek(te:TE)(g:TG):TS:=λD Z H=>te Z H λx H1=>g x Z H1 D.nx
theorem zr{te:TE}{g:TG}(he:PE X e te)(hg:PG X tg g)(hs:swapsWithSole [tg] e pos.line X.env=pure false:=by rfl)(hw:swappedStores [tg] e X.env=pure none:=by rfl)
  (h1:(assignEach [tg] X.env).map (·.2)=[assign tg X.env]:=by rfl):PS X (.Assign [tg] e pos) (Ek te g):=by
 intro pins s Z H D I h
 refine wpAny_Assign_stores (thn (he pins s Z H _ I h) λv s1 ⟨x,H1,I1,r1,q1⟩=>?_) hs hw
 rw[h1]
 exact thn (hg pins s1 Z H1 x v _ I1 r1 q1) λ_ s2 q=>q
theorem jg{te:TE}{pos':Pos}(hN:X.N.Nodup)(hi:X.N[i]? = some x)(hx:Loc X.env.scope x)(he:PE X e te)(hs:swapsWith e (some (.Name x pos')) pos.line X.env=pure false:=by rfl)(hf:X.fn x=true\/X.env.scope.names.lookup x=some .local:=by first|exact .inl rfl|exact .inr rfl|assumption) :
  PS X (.Assign [.Name x pos'] e pos) (Ek te (sC i)):=by
 intro pins s Z H D I h
 refine wpAny_Assign_Name (thn (he pins s Z H _ I h) λv s1 ⟨y,H1,I1,r1,q1⟩=>?_) hs
 exact ju I1 hN hi hx r1 (λs2 I2=>⟨_,H1,I2,q1⟩) hf
def IJ(i:Nat)(te:TE)(ti:TIp):TS:=λD Z H=>∃x,Z[i]? = some (some x)/\te Z H λy H1=>ti x y H1 λz H2=>D.nx (Z.set i (some z)) H2
theorem EN{te:TE}{ti:TIp}{pos':Pos}(hN:X.N.Nodup)(hi:X.N[i]? = some x)(hx:Loc X.env.scope x)(he:PE X e te)(ho:PIp X op ti)(hf:X.fn x=true\/X.env.scope.names.lookup x=some .local:=by first|exact .inl rfl|exact .inr rfl|assumption) :
  PS X (.AugAssign (.Name x pos') op e pos) (IJ i te ti):=by
 intro pins s Z H D I h
 obtain⟨v,e1,h⟩:=h
 obtain⟨m,hn,hl⟩:=I.loc
 have vis:Vis X.env.scope x:=by rcases hx with k|k;exact .inl k;exact .inr (.inl k)
 obtain⟨u,r,l⟩:=hl i x v hi e1 vis
 refine wpAny_AugAssign_Name ?_
 have go:wpAny (model X.prog X.w) X.A (eval e X.env) (λw s₂=>wpAny (model X.prog X.w) X.A (inplaceOp op u w) (λr s₃=>wpAny (model X.prog X.w) X.A (storeName X.env x r) (λ_=>SP X pins D .next) X.xe s₃) X.xe s₂) X.xe s:=by
  refine thn (he pins s Z H _ I h) λw s1 ⟨y,H1,I1,r1,q1⟩=>?_
  refine thn (ho pins s1 Z H1 v y u w _ I1 r r1 q1) λz s2 ⟨zv,H2,I2,r2,q2⟩=>?_
  exact ju I2 hN hi hx r2 (λs3 I3=>⟨_,H2,I3,q2⟩) hf
 rcases l with ⟨hk,hm⟩|⟨hk,c,hc,hcell⟩
 ·exact wpAny_loadName_local I.ok.kind hk hn hm go
 ·rcases hk with hk|hk
  ·exact wpAny_loadName_cell I.ok.kind hk hc hcell go
  ·rcases hx with k|k
   ·have:X.env.scope.names.lookup x=some .free:=hk
    rw[k]at this;cases this
   ·have:X.env.scope.names.lookup x=some .free:=hk
    rw[k]at this;cases this
def GQ(to ti te:TE)(tget:V->V->Hp->VK->Prop)(tip:TIp)(tset:Bh):TS:=λD Z H=>to Z H λo H1=>ti Z H1 λi H2=>tget o i H2 λx H3=>te Z H3 λy H4=>tip x y H4 λz H5=>tset o i z H5 λH6=>D.nx Z H6
def Iu(X:Cx)(t:V->V->Hp->VK->Prop):Prop :=
 ∀(pins:zzk) (s:Shared) (Z:St) (H:Hp) (o i:V) (ov iv:Value) (Q:VK),Inv X pins Z H s->RelV o ov->RelV i iv->t o i H Q ->
  wpAny (model X.prog X.w) X.A (getItem ov iv) (EP X pins Z Q) X.xe s
theorem BW{o i:Expr}{to ti te:TE}{tget:V->V->Hp->VK->Prop}{tip:TIp}{tset:Bh}{tpos:Pos}(ho:PE X o to)(hi:PE X i ti)(hg:Iu X tget)(he:PE X e te)(hp:PIp X op tip)(hs:GB X tset)
  (ha:∀ov iv new,augStore i ov iv new=(do holding [new,ov,iv] (setItem ov iv new);release [new,ov,iv] [];pure .next):=by intros;rfl):PS X (.AugAssign (.Subscript o i tpos) op e pos) (GQ to ti te tget tip tset):=by
 intro pins s Z H D I h
 refine wpAny_AugAssign_SubscriptAny (thn (ho pins s Z H _ I h) λov s1 ⟨x1,H1,I1,r1,q1⟩=>?_) ha
 refine thn (hi pins s1 Z H1 _ I1 q1) λiv s2 ⟨x2,H2,I2,r2,q2⟩=>?_
 refine thn (hg pins s2 Z H2 x1 x2 ov iv _ I2 r1 r2 q2) λold s3 ⟨x3,H3,I3,r3,q3⟩=>?_
 refine thn (he pins s3 Z H3 _ I3 q3) λv s4 ⟨x4,H4,I4,r4,q4⟩=>?_
 refine thn (hp pins s4 Z H4 x3 x4 old v _ I4 r3 r4 q4) λnew s5 ⟨x5,H5,I5,r5,q5⟩=>?_
 exact thn (hs pins s5 Z H5 x1 x2 x5 ov iv new _ I5 r1 r2 r5 q5) λ_ s6 ⟨H6,I6,q6⟩=>⟨Z,H6,I6,q6⟩
def ipI(f:Int->Int->Int):TIp:=λx y H Q=>∃i j,x=.int i/\y=.int j/\Q (.int (f i j)) H
theorem Ai:PIp X .Add (ipI λi j=>i+j):=by
 intro pins s Z H x y v u Q I r1 r2 h
 obtain⟨i,j,e1,e2,q⟩:=h
 subst e1;subst e2
 obtain⟨t,rfl⟩:=r1
 obtain⟨t',rfl⟩:=r2
 exact iadd_int ⟨.int _,H,I.tok _,⟨_,rfl⟩,q⟩
theorem FG:PIp X .Sub (ipI λi j=>i - j):=by
 intro pins s Z H x y v u Q I r1 r2 h
 obtain⟨i,j,e1,e2,q⟩:=h
 subst e1;subst e2
 obtain⟨t,rfl⟩:=r1
 obtain⟨t',rfl⟩:=r2
 exact isub_int ⟨.int _,H,I.tok _,⟨_,rfl⟩,q⟩
end
section
variable {X:Cx}
def Eh(c:TT)(tb:TS):TS:=λD Z H=>∃W:Nat->St->Hp->Prop,(∃m,W m Z H)/\∀m Z H,W m Z H ->
 c Z H λb H1=>if b=true then ∃N:St->Hp->Prop,(∀σ' H',N σ' H'->∃m',m'<m/\W m' σ' H')/\tb { D with nx:=N,ct:=N,bk:=D.nx } Z H1 else D.nx Z H1
theorem zo{tc:TT}{tb:TS}(hp:PassesOwn (model X.prog X.w) X.A X.env X.xe)(hc:PT X c tc)(hb:PSs X body tb):PS X (.While c body [] pos) (Eh tc tb):=by
 intro pins s Z H D I h
 obtain⟨W,⟨m0,w0⟩,turn⟩:=h
 refine wpAny_While (codeAny_whileLoop (λn s'=>∃σ' H',Inv X pins σ' H' s'/\W n σ' H') ?_ m0 ⟨Z,H,I,w0⟩)
 rintro n s1 ⟨σ1,H1,I1,w1⟩
 refine JG hp (thn (hc pins s1 σ1 H1 _ I1 (turn n σ1 H1 w1)) λb s2 ⟨H2,I2,q2⟩=>?_)
 cases b with
 | true =>
  obtain⟨N,hN,q2⟩:=q2
  rw[aw rfl]
  refine JG hp (thn (hb pins s2 σ1 H2 _ I2 q2) λf s3 q3=>?_)
  cases f with
  | next =>
   obtain⟨σ3,H3,I3,n3⟩:=q3
   obtain⟨m',hm,w3⟩:=hN σ3 H3 n3
   exact⟨m',hm,σ3,H3,I3,w3⟩
  | cont =>
   obtain⟨σ3,H3,I3,n3⟩:=q3
   obtain⟨m',hm,w3⟩:=hN σ3 H3 n3
   exact⟨m',hm,σ3,H3,I3,w3⟩
  | brk=>exact q3
  | ret v=>exact q3
 | false =>
  rw[am ul]
  exact Kg ⟨σ1,H2,I2,q2⟩
end
structure It where
 go:Nat->Hp->Prop
 yld:Nat->Hp->V->Hp->Prop
 stop:Nat->Hp->Prop
def jS(X:Cx)(pins:zzk)(H:Hp)(b:Addr):Prop :=
 H b=none/\b≠X.env.locals/\b∉X.fs/\(b∈X.ex\/X.s₀.heap.objs.size<=b)/\(∀x c,X.env.cells.lookup x=some c->c≠b)/\∀p∈X.pn++pins,p.1≠b
theorem Inv.fpOk{X:Cx}{Z:St}{H H':Hp}{b:Addr}(I:Inv X pins Z H s)(hb:s.heap.objs.size<=b)(hn:H' b=none):jS X pins H' b:=by
 refine⟨hn,xz (du I.lt hb),I.nofs hb,.inr (ir I.sz hb),λx c e z=>?_,λp hp z=>?_⟩
 ·obtain⟨v,q⟩:=I.cell x c e
  exact absurd (du q.lt (by rw[z];exact hb)) (pr _)
 ·exact absurd (du (ay (I.pin p hp).1) (by rw[z];exact hb)) (pr _)
structure Turn(P:Program)(w:World)(K:PySem.W.Frag)(tg:Expr)(J:It)(fp:List Addr)(it:Addr)(tn:Nat->Heap->Prop):Prop where
 mem:it∈fp
 obj:∀i h,tn i h->∀b∈fp,∃o,h.get? b=some o/\∀v,o.data≠.cell v
 keep:∀i h h',tn i h->(∀b∈fp,∀o,h.get? b=some o->h'.get? b=some o)->tn i h'
 item:∀(X:Cx),X.prog=P->X.w=w->X.K=K->X.calm=true->∀(i:Nat) (pins:zzk) (s:Shared) (Z:St) (H:Hp) (E:zzj),Inv X pins Z H s->(∀b∈fp,jS X pins H b)->tn i s.heap->J.go i H ->
  wpAny (model P w) X.A (pyNext (.ref it)) (λr s1=>∃u,r=some u /\
   wpAny (model P w) X.A (letOwnedTupleGo tg (.ref it) u) (λ_ s2=>∃x H',Inv X pins Z H' s2/\RelV x u/\J.yld i H x H'/\tn (i+1) s2.heap/\∀b∈fp,H' b=none) E s1) E s
 done:∀(X:Cx),X.prog=P->X.w=w->X.K=K->X.calm=true->∀(i:Nat) (pins:zzk) (s:Shared) (Z:St) (H:Hp) (E:zzj),Inv X pins Z H s->(∀b∈fp,jS X pins H b)->tn i s.heap->J.stop i H ->
  wpAny (model P w) X.A (pyNext (.ref it)) (λr s1=>r=none/\Inv X pins Z H s1) E s
 self:∀(A:Around) (i:Nat) (s:Shared) (Q:zzj) (E:zzj),tn i s.heap->Q (.ref it) s->wpAny (model P w) A (pyIter (.ref it)) Q E s
abbrev TI:=St->Hp->(It->Hp->Prop)->Prop
def PIE(X:Cx)(pins:zzk)(Z:St)(tg:Expr)(R:It->Hp->Prop)(itv:Value)(s2:Shared):Prop :=
 ∃(it:Addr) (fp:List Addr) (tn:Nat->Heap->Prop) (J:It) (H':Hp),itv=.ref it/\Inv X pins Z H' s2/\Turn X.prog X.w X.K tg J fp it tn/\tn 0 s2.heap/\(∀b∈fp,jS X pins H' b)/\R J H'
def PI(X:Cx)(tg iter:Expr)(wi:TI):Prop :=
 ∀(pins:zzk) (s:Shared) (Z:St) (H:Hp) (R:It->Hp->Prop),Inv X pins Z H s->wi Z H R ->
  wpAny (model X.prog X.w) X.A (eval iter X.env) (λv s1=>wpAny (model X.prog X.w) X.A (pyIter v) (PIE X pins Z tg R) X.xe s1) X.xe s
theorem An{M:Model}{it:Addr}{n:String}{vs:Array Value}(ho:s.heap.get? it=some o)(hc:o.cls=.type n)(hd:o.data=.fields vs)
  (hn:["enumerate", "zip", "dict_itemiterator", "dict_reverseitemiterator", "odict_iterator", "itertools.zip_longest", "itertools.pairwise"].contains n=false) (hQ:Q () s):wpAny M A (letOwnedTupleGo tg (.ref it) u) Q E s:=by
 unfold letOwnedTupleGo
 cases tg<;>first
  | exact zzb hQ
  | (cases u<;>first
     | exact zzb hQ
     | (refine zza (wpAny_load ho ?_)
        rw[hc,hd]
        show wpAny M A (if(["enumerate", "zip", "dict_itemiterator", "dict_reverseitemiterator", "odict_iterator", "itertools.zip_longest", "itertools.pairwise"].contains n&&vs[0]? == some (rawInt _))=true then _ else _) Q E s
        rw[am (by intro h;rw[hn,Kp]at h;cases h)]
        exact zzb hQ))
def Itl(K:PySem.W.Frag)(a:Addr):It :=
 ⟨λi H=>∃xs x,SqL K H a xs/\xs[i]? = some x,λi H x H'=>H'=H/\∀xs,SqL K H a xs->xs[i]? = some x,λi H=>∃xs,SqL K H a xs/\xs.length<=i⟩
def Itt(K:PySem.W.Frag)(a:Addr):It :=
 ⟨λi H=>∃xs x,SqT K H a xs/\xs[i]? = some x,λi H x H'=>H'=H/\∀xs,SqT K H a xs->xs[i]? = some x,λi H=>∃xs,SqT K H a xs/\xs.length<=i⟩
def Itr(lo:Int)(n:Nat):It:=⟨λi _=>i<n,λi H x H'=>H'=H/\x=.int (lo+i),λi _=>n<=i⟩
theorem wX{K:PySem.W.Frag}(a it:Addr):Turn P w K tg (Itl K a) [it] it (λi h=>h.IsListIter it a i) where
 mem:=by simp
 obj:=λi h st b hb=>by
  have e:b=it:=by simpa using hb
  subst e
  obtain⟨o,e,c,d⟩:=st
  exact⟨o,e,λv z=>by rw[d]at z;cases z⟩
 keep:=λi h h' st k=>st.at λo e=>k it (by simp) o e
 item:=by
  intro X hP hw hK hc i pins s Z H E I hf st hg
  subst hP hw hK
  obtain⟨xs,x,hq,hx⟩:=hg
  obtain⟨its,rv,p,hz⟩:=I.list hq
  obtain⟨u,hu,ru⟩:=rv.get hx
  obtain⟨f0,f1,f2,f3,f4,f5⟩:=hf it (by simp)
  refine wpAny_pyNext_list_item st p.isList (x:=u) (by simpa using hu) λh' st' sb=>?_
  have I1:Inv X pins Z H { s with heap:=h' }:=I.turned (t':=s.toks) (λb o hb e=>(sb.2 b hb).trans e) f0 f1 f3 f4 f5
  obtain⟨o,e,c,d⟩:=id st'
  exact⟨u,rfl,An (s:={ s with heap:=h' }) e c d (by decide) ⟨x,H,I1,ru,⟨rfl,λys hy=>by rw[I.list_inj hy hq];exact hx⟩,st',λb hb=>(hf b hb).1⟩⟩
 done:=by
  intro X hP hw hK hc i pins s Z H E I hf st hg
  subst hP hw hK
  obtain⟨xs,hq,hx⟩:=hg
  obtain⟨its,rv,p,hz⟩:=I.list hq
  obtain⟨f0,f1,f2,f3,f4,f5⟩:=hf it (by simp)
  have hl:=rv.length
  exact wpAny_pyNext_list_end (I.ok.hd hc) st p.isList (by simp;lia) λh' eb=>⟨rfl,I.turned (t':=s.toks) (λb o hb e=>eb b o hb e) f0 f1 f3 f4 f5⟩
 self:=λ_ _ _ _ _ st h=>wpAny_pyIter_listiter st h
theorem tJ{K:PySem.W.Frag}(a it:Addr):Turn P w K tg (Itt K a) [it] it (λi h=>h.IsTupleIter it a i) where
 mem:=by simp
 obj:=λi h st b hb=>by
  have e:b=it:=by simpa using hb
  subst e
  obtain⟨o,e,c,d⟩:=st
  exact⟨o,e,λv z=>by rw[d]at z;cases z⟩
 keep:=λi h h' st k=>st.at λo e=>k it (by simp) o e
 item:=by
  intro X hP hw hK hc i pins s Z H E I hf st hg
  subst hP hw hK
  obtain⟨xs,x,hq,hx⟩:=hg
  obtain⟨its,rv,p,hz⟩:=I.tuple hq
  obtain⟨u,hu,ru⟩:=rv.get hx
  obtain⟨f0,f1,f2,f3,f4,f5⟩:=hf it (by simp)
  refine wpAny_pyNext_tuple_item st (show s.heap.IsTuple a its.toArray from p) (x:=u) (by simpa using hu) λh' st' sb=>?_
  have I1:Inv X pins Z H { s with heap:=h' }:=I.turned (t':=s.toks) (λb o hb e=>(sb.2 b hb).trans e) f0 f1 f3 f4 f5
  obtain⟨o,e,c,d⟩:=id st'
  exact⟨u,rfl,An (s:={ s with heap:=h' }) e c d (by decide) ⟨x,H,I1,ru,⟨rfl,λys hy=>by rw[I.tuple_inj hy hq];exact hx⟩,st',λb hb=>(hf b hb).1⟩⟩
 done:=by
  intro X hP hw hK hc i pins s Z H E I hf st hg
  subst hP hw hK
  obtain⟨xs,hq,hx⟩:=hg
  obtain⟨its,rv,p,hz⟩:=I.tuple hq
  obtain⟨f0,f1,f2,f3,f4,f5⟩:=hf it (by simp)
  have hl:=rv.length
  exact wpAny_pyNext_tuple_end (I.ok.hd hc) st (show s.heap.IsTuple a its.toArray from p) (by simp;lia) λh' eb=>⟨rfl,I.turned (t':=s.toks) (λb o hb e=>eb b o hb e) f0 f1 f3 f4 f5⟩
 self:=λ_ _ _ _ _ st h=>wpAny_pyIter_tupleiter st h
theorem tK{K:PySem.W.Frag}(it:Addr)(lo:Int)(n:Nat):Turn P w K tg (Itr lo n) [it] it (λi h=>IsRangeIter h it (lo+(i:Nat)*1) ((n:Int) - (i:Nat)) 1) where
 mem:=by simp
 obj:=λi h st b hb=>by
  have e:b=it:=by simpa using hb
  subst e
  exact⟨_,st,λv z=>by
   have z':Data.fields _=Data.cell v:=z
   cases z'⟩
 keep:=λi h h' st k=>k it (by simp) _ st
 item:=by
  intro X hP hw hK hc i pins s Z H E I hf st hg
  subst hP hw hK
  obtain⟨f0,f1,f2,f3,f4,f5⟩:=hf it (by simp)
  have W:=Walks.range (prog:=X.prog) (w:=X.w) (I.ok.hd hc) it lo 1 n
  refine W.item i s _ _ hg st λv h' tk hv st' kk=>?_
  obtain⟨t,rfl⟩:=hv
  have I1:Inv X pins Z H { s with heap:=h',toks:=tk }:=I.turned (λb o hb e=>kk b o (by simpa using hb) e) f0 f1 f3 f4 f5
  refine⟨_,rfl,An (s:={ s with heap:=h',toks:=tk }) (n := "range_iterator") st' rfl rfl (by decide) ⟨.int (lo+i),H,I1,⟨t,?_⟩,⟨rfl,rfl⟩,st',λb hb=>(hf b hb).1⟩⟩
  rw[Int.mul_one]
 done:=by
  intro X hP hw hK hc i pins s Z H E I hf st hg
  subst hP hw hK
  obtain⟨f0,f1,f2,f3,f4,f5⟩:=hf it (by simp)
  exact wpAny_pyNext_range_end (I.ok.hd hc) st (by have:n<=i:=hg;lia) λh' eb=>⟨rfl,I.turned (t':=s.toks) (λb o hb e=>eb b o hb e) f0 f1 f3 f4 f5⟩
 self:=λ_ _ _ _ _ st h=>wpAny_pyIter_rangeiter st h
section
variable {X:Cx}
theorem rh{Z:St}{H:Hp}{R:It->Hp->Prop}{lo hi:Int}{t u v:Tok}{tk:Nat}(I:Inv X pins Z H s)(h1 : -(2^62)<=lo)(h2:lo<2^62)(h3 : -(2^62)<=hi)(h4:hi<2^62)
  (q:R (Itr lo (hi - lo).toNat) H):wpAny (model X.prog X.w) X.A (pyIter (.ref s.heap.objs.size)) (PIE X pins Z tg R) E { s with heap:=s.heap.push { cls:=.type "range",data:=.fields #[.int lo t,.int hi u,.int 1 v] },toks:=tk }:=by
 refine wpAny_pyIter_range (IsRange.new ..) (small_one h1 h2 h3 h4) ?_
 have I1:Inv X pins Z H { s with heap:=s.heap.push { cls:=.type "range",data:=.fields #[.int lo t,.int hi u,.int 1 v] },toks:=tk }:=I.kept λb o e=>zzc _ e
 refine⟨(s.heap.push { cls:=.type "range",data:=.fields #[.int lo t,.int hi u,.int 1 v] }).objs.size,[(s.heap.push { cls:=.type "range",data:=.fields #[.int lo t,.int hi u,.int 1 v] }).objs.size],_,_,H,rfl,
  I1.kept (t':=tk) λb o e=>zzc _ e,tK _ lo (hi - lo).toNat,?_,λb hb=>?_,q⟩
 ·have e1:lo+((0:Nat):Int)*1=lo:=by simp
  have e2:(((hi - lo).toNat:Nat):Int) - ((0:Nat):Int)=Builtin.Range.rangeSize lo hi 1:=by rw[rangeSize_one];split<;>lia
  show IsRangeIter _ _ (lo+((0:Nat):Int)*1) ((((hi - lo).toNat:Nat):Int) - ((0:Nat):Int)) 1
  rw[e1,e2]
  exact zze _ rfl
 ·have e:b=(s.heap.push { cls:=.type "range",data:=.fields #[.int lo t,.int hi u,.int 1 v] }).objs.size:=by simpa using hb
  subst e
  exact I1.fpOk (ai _) (I1.hok.fresh (ai _))
def HV(ta:TA):TI:=λZ H R=>ta Z H λvs H1=>∃j:Int,vs=[.int j] /\ -(2^62)<=j/\j<2^62/\R (Itr 0 j.toNat) H1
def HU(ta:TA):TI:=λZ H R=>ta Z H λvs H1=>∃i j:Int,vs=[.int i,.int j]/\(-(2^62)<=i/\i<2^62 /\ -(2^62)<=j/\j<2^62)/\R (Itr i (j - i).toNat) H1
theorem oD{a:Expr}{ta:TA}(hg:Gl X "range")(hm:X.mg "range" = none)(ha:PA X [a] ta)(hs:starEach [a] X.env=[(false,eval a X.env)]:=by rfl):PI X tg (.Call (.Name "range" p) [a] [] pos) (HV ta):=by
 intro pins s Z H R I h
 refine Call_ (fg I hg hm boot_range (pI (thn (ha pos pins s Z H _ I h) λus s1 ⟨vs,H1,I1,r1,q1⟩=>?_) hs rfl))
 obtain⟨j,e,q1,q2,q⟩:=q1
 subst e
 cases r1 with
 | cons r rr =>
  cases rr
  obtain⟨t,rfl⟩:=r
  exact call_range_1 (rh I1 (by lia) (by lia) q1 q2 (by simpa using q))
theorem xE{a b:Expr}{ta:TA}(hg:Gl X "range")(hm:X.mg "range" = none)(ha:PA X [a,b] ta)(hs:starEach [a,b] X.env=[(false,eval a X.env),(false,eval b X.env)]:=by rfl)(hs2:starEach [b] X.env=[(false,eval b X.env)]:=by rfl) :
  PI X tg (.Call (.Name "range" p) [a,b] [] pos) (HU ta):=by
 intro pins s Z H R I h
 refine Call_ (fg I hg hm boot_range (pI (thn (ha pos pins s Z H _ I h) λus s1 ⟨vs,H1,I1,r1,q1⟩=>?_) (by rw[hs,hs2]) (by rw[hs2];rfl)))
 obtain⟨i,j,e,⟨q1,q2,q3,q4⟩,q⟩:=q1
 subst e
 cases r1 with
 | cons r rr =>
  cases rr with
  | cons r' rr =>
   cases rr
   obtain⟨t,rfl⟩:=r
   obtain⟨t',rfl⟩:=r'
   exact call_range_2 (rh I1 q1 q2 q3 q4 q)
def IG(wi:TI)(g:TG)(tb:TS):TS:=λD Z H=>wi Z H λJ H1=>∃W:Nat->Nat->St->Hp->Prop,(∃m,W 0 m Z H1)/\∀i m Z H,W i m Z H ->
 (J.stop i H/\D.nx Z H)\/(J.go i H/\∃N:St->Hp->Prop,(∀σ' H',N σ' H'->∃m',m'<m/\W (i+1) m' σ' H')/\∀x H',J.yld i H x H'->g x Z H' λσ2 H2=>tb { D with nx:=N,ct:=N,bk:=D.nx } σ2 H2)
def lU(fp:List Addr)(h:Heap):List (Addr×Obj):=fp.filterMap λb=>(h.get? b).map λo=>(b,o)
theorem fY{b:Addr}(hb:b∈fp)(e:h.get? b=some o):(b,o)∈lU fp h:=List.mem_filterMap.mpr ⟨b,hb,by rw[e];rfl⟩
theorem xN{p:Addr×Obj}(hp:p∈lU fp h):p.1∈fp/\h.get? p.1=some p.2:=by
 obtain⟨b,hb,e⟩:=List.mem_filterMap.mp hp
 cases q:h.get? b with
 | none=>rw[q]at e;cases e
 | some o =>
  rw[q]at e
  have e':(b,o)=p:=Option.some.inj e
  subst e'
  exact⟨hb,q⟩
theorem Inv.pinned{Z:St}{H:Hp}(I:Inv X pins Z H s)(hf:∀b∈fp,jS X pins H b)(ho:∀b∈fp,∃o,s.heap.get? b=some o/\∀v,o.data≠.cell v):Inv X (pins++lU fp s.heap) Z H s :=
 I.pins_of λp hp=>(List.mem_append.mp hp).elim (λz=>I.pin p (ib _ z)) λz=>by
  obtain⟨hb,e⟩:=xN z
  obtain⟨f0,f1,f2,_⟩:=hf p.1 hb
  obtain⟨o,e',d⟩:=ho p.1 hb
  rw[e]at e';cases e'
  exact⟨e,f0,f1,f2,d⟩
theorem Inv.unpinned{pl:zzk}{Z:St}{H:Hp}(I:Inv X (pins++pl) Z H s):Inv X pins Z H s:=I.pins_of λp hp=>I.pin p (ib _ (zzh _ hp))
theorem EM{iter:Expr}{wi:TI}{g:TG}{tb:TS}(hp:PassesOwn (model X.prog X.w) X.A X.env X.xe)(hc:X.calm=true)(hi:PI X tg iter wi)(hg:PG X tg g)(hb:PSs X body tb)
  (hs:∀x,foldedSetIterable iter X.env x=pure x:=by intro _;rfl):PS X (.For tg iter body [] pos) (IG wi g tb):=by
 intro pins s Z H D I h
 refine wpAny_For (thn (hi pins s Z H _ I h) λv s1 h1=>thn h1 λitv s2 h2=>?_) hs
 obtain⟨it,fp,tn,J,H2,e,I2,T,st2,f2,W,⟨m0,w0⟩,turn⟩:=h2
 subst e
 have stat:∀{H':Hp},(∀b∈fp,H' b=none)->∀b∈fp,jS X pins H' b:=λhn b hb=>⟨hn b hb,(f2 b hb).2⟩
 refine codeAny_forLoop_any (λn s'=>∃i σ' H',Inv X pins σ' H' s'/\tn i s'.heap/\(∀b∈fp,H' b=none)/\W i n σ' H') ?_ m0 ⟨0,Z,H2,I2,st2,λb hb=>(f2 b hb).1,w0⟩
 rintro n s3 ⟨i,σ3,H3,I3,st3,fr3,w3⟩
 rcases turn i n σ3 H3 w3 with ⟨stop,qn⟩|⟨go,N,hN,step⟩
 ·refine JG hp (thn (T.done X rfl rfl rfl hc i pins s3 σ3 H3 X.xe I3 (stat fr3) st3 stop) λr s4 ⟨hr,I4⟩=>?_)
  subst hr
  exact Kg ⟨σ3,H3,I4,qn⟩
 ·refine JG hp (thn (T.item X rfl rfl rfl hc i pins s3 σ3 H3 X.xe I3 (stat fr3) st3 go) λr s4 ⟨u,hr,h4⟩=>?_)
  subst hr
  refine JG hp (thn h4 λ_ s5 ⟨x,H5,I5,r5,y5,st5,fr5⟩=>?_)
  have I5':=I5.pinned (stat fr5) (T.obj _ _ st5)
  refine JG hp (thn (hg _ s5 σ3 H5 x u _ I5' r5 (step x H5 y5)) λ_ s6 ⟨σ6,H6,I6,q6⟩=>?_)
  refine JG hp (thn (hb _ s6 σ6 H6 _ I6 q6) λf s7 q7=>?_)
  have again:∀{σ7:St} {H7:Hp},Inv X (pins++lU fp s5.heap) σ7 H7 s7->N σ7 H7->∃m,m<n/\∃i σ' H',Inv X pins σ' H' s7/\tn i s7.heap/\(∀b∈fp,H' b=none)/\W i m σ' H':=λ{σ7 H7} I7 n7=>by
   obtain⟨m',hm,w7⟩:=hN σ7 H7 n7
   refine⟨m',hm,i+1,σ7,H7,I7.unpinned,T.keep _ _ _ st5 λb hb o e=>(I7.pin (b,o) (ib _ (ib _ (fY hb e)))).1,λb hb=>?_,w7⟩
   obtain⟨o,e,d⟩:=T.obj _ _ st5 b hb
   exact(I7.pin (b,o) (ib _ (ib _ (fY hb e)))).2.1
  cases f with
  | next=>obtain⟨σ7,H7,I7,n7⟩:=q7;exact again I7 n7
  | cont=>obtain⟨σ7,H7,I7,n7⟩:=q7;exact again I7 n7
  | brk=>obtain⟨σ7,H7,I7,q7⟩:=q7;exact⟨σ7,H7,I7.unpinned,q7⟩
  | ret v=>obtain⟨x7,σ7,H7,I7,r7,q7⟩:=q7;exact⟨x7,σ7,H7,I7.unpinned,r7,q7⟩
end
abbrev R2:=V->V->Hp->VK->Prop
def OpR(X:Cx)(f:Value->Value->Sem Value)(r:R2):Prop :=
 ∀(pins:zzk) (s:Shared) (Z:St) (H:Hp) (x y:V) (v u:Value) (Q:VK),Inv X pins Z H s->RelV x v->RelV y u->r x y H Q ->
  wpAny (model X.prog X.w) X.A (f v u) (EP X pins Z Q) X.xe s
def CallR(X:Cx)(f:Value)(r:List V->Hp->VK->Prop):Prop :=
 ∀(pins:zzk) (s:Shared) (Z:St) (H:Hp) (xs:List V) (us:List Value) (Q:VK),Inv X pins Z H s->Vals xs us->r xs H Q ->
  wpAny (model X.prog X.w) X.A (call f us) (EP X pins Z Q) X.xe s
def Ju(X:Cx)(r:V->Hp->(Bool->Hp->Prop)->Prop):Prop :=
 ∀(pins:zzk) (s:Shared) (Z:St) (H:Hp) (x:V) (v:Value) (Q:Bool->Hp->Prop),Inv X pins Z H s->RelV x v->r x H Q ->
  wpAny (model X.prog X.w) X.A (truthy v) (TP X pins Z Q) X.xe s
def tOp(r:R2)(ta tb:TE):TE:=λZ H Q=>ta Z H λx H1=>tb Z H1 λy H2=>r x y H2 Q
def rI(C:Int->Int->Prop)(g:Int->Int->V):R2:=λx y H Q=>∃i j,x=.int i/\y=.int j/\C i j/\Q (g i j) H
def rI0(g:Int->Int->V):R2:=λx y H Q=>∃i j,x=.int i/\y=.int j/\Q (g i j) H
section
variable {X:Cx} {a b:Expr} {ta tb tc:TE}
theorem Gg(ha:PE X a ta)(hb:PE X b tb){Z:St}{H:Hp}{R:V->V->Hp->Prop}(I:Inv X pins Z H s)
  (h:ta Z H λx H1=>tb Z H1 λy H2=>R x y H2) {Q:zzj} {f:Value->Value->Sem Value}
  (hf:∀v u s2 x y H2,Inv X pins Z H2 s2->RelV x v->RelV y u->R x y H2->wpAny (model X.prog X.w) X.A (f v u) Q X.xe s2) :
  wpAny (model X.prog X.w) X.A (eval a X.env) (λv s₁=>wpAny (model X.prog X.w) X.A (eval b X.env) (λu s₂=>wpAny (model X.prog X.w) X.A (f v u) Q X.xe s₂) X.xe s₁) X.xe s:=by
 refine thn (ha pins s Z H _ I h) λv s1 ⟨x,H1,I1,r1,q1⟩=>?_
 refine thn (hb pins s1 Z H1 _ I1 q1) λu s2 ⟨y,H2,I2,r2,q2⟩=>?_
 exact hf v u s2 x y H2 I2 r1 r2 q2
theorem DS{r:R2}(ho:OpR X (binaryOp op) r)(ha:PE X a ta)(hb:PE X b tb):PE X (.BinOp a op b pos) (tOp r ta tb):=by
 intro pins s Z H Q I h
 exact wpAny_BinOp (Gg ha hb I h λv u s2 x y H2 I2 rx ry q=>ho pins s2 Z H2 x y v u Q I2 rx ry q)
theorem opI{C:Int->Int->Prop}{g:Int->Int->Int}
  (rule:∀(i j:Int) (t u:Tok) (s:Shared) (Q:zzj) (E:zzj),C i j->Q (.int (g i j) s.toks) { s with toks:=s.toks+1 }->wpAny (model X.prog X.w) X.A (f (.int i t) (.int j u)) Q E s) :
  OpR X f (rI C λi j=>.int (g i j)):=by
 intro pins s Z H x y v u Q I rx ry h
 obtain⟨i,j,rfl,rfl,hc,q⟩:=h
 obtain⟨t,rfl⟩:=rx
 obtain⟨t',rfl⟩:=ry
 exact rule i j t t' s _ _ hc ⟨.int (g i j),H,I.tok _,⟨_,rfl⟩,q⟩
theorem HA{g:Int->Int->Int}
  (rule:∀(i j:Int) (t u:Tok) (s:Shared) (Q:zzj) (E:zzj),Q (.int (g i j) s.toks) { s with toks:=s.toks+1 }->wpAny (model X.prog X.w) X.A (f (.int i t) (.int j u)) Q E s) :
  OpR X f (rI0 λi j=>.int (g i j)):=by
 intro pins s Z H x y v u Q I rx ry h
 obtain⟨i,j,rfl,rfl,q⟩:=h
 obtain⟨t,rfl⟩:=rx
 obtain⟨t',rfl⟩:=ry
 exact rule i j t t' s _ _ ⟨.int (g i j),H,I.tok _,⟨_,rfl⟩,q⟩
theorem E6{g:Int->Int->Bool}
  (rule:∀(i j:Int) (t u:Tok) (s:Shared) (Q:zzj) (E:zzj),Q (.bool (g i j)) s->wpAny (model X.prog X.w) X.A (f (.int i t) (.int j u)) Q E s) :
  OpR X f (rI0 λi j=>.bl (g i j)):=by
 intro pins s Z H x y v u Q I rx ry h
 obtain⟨i,j,rfl,rfl,q⟩:=h
 obtain⟨t,rfl⟩:=rx
 obtain⟨t',rfl⟩:=ry
 exact rule i j t t' s _ _ ⟨.bl (g i j),H,I,rfl,q⟩
def Iy(i j:Int):Prop:=0<j/\j<1073741824
def Iw(i j:Int):Prop:=0<=j/\j<=1000000/\i.natAbs<2^64
def CMul(i j:Int):Prop:=(-(2^64)<i/\i<2^64)\/(-(2^64)<j/\j<2^64)
theorem CMul.ok{i j:Int}(h:CMul i j):IntMulOk i j:=by
 rcases h with ⟨h1,h2⟩|⟨h1,h2⟩
 ·exact .of_left (intBits_le_64 h1 h2)
 ·exact .of_right (intBits_le_64 h1 h2)
theorem op_add:OpR X (binaryOp .Add) (rI0 λi j=>.int (i+j)):=HA λ_ _ _ _ _ _ _ q=>add_int q
theorem zL:OpR X (binaryOp .Sub) (rI0 λi j=>.int (i - j)):=HA λ_ _ _ _ _ _ _ q=>sub_int q
theorem gU:OpR X (binaryOp .Mult) (rI CMul λi j=>.int (i*j)):=opI λ_ _ _ _ _ _ _ hc q=>mul_int q hc.ok
theorem kX:OpR X (binaryOp .FloorDiv) (rI Iy λi j=>.int (i / j)):=opI λi j _ _ _ _ _ hc q=>by
 have h1:(0:Int)<j:=hc.1
 have h2:j<1073741824:=hc.2
 exact floordiv_int (by lia) (by rw[Int.fdiv_eq_ediv_of_nonneg i (by lia)];exact q) (.inl (PyProof.noPylong_small (by lia)))
theorem jZ:OpR X (binaryOp .Mod) (rI (λ_ j=>0<j) λi j=>.int (i % j)):=opI λi j _ _ _ _ _ hc q=>by
 have h1:(0:Int)<j:=hc
 exact mod_int' (by lia) (by rw[Int.fmod_eq_emod_of_nonneg i (by lia)];exact q)
theorem E4:OpR X (binaryOp .Pow) (rI Iw λi j=>.int (i^j.toNat)):=opI λ_ _ _ _ _ _ _ hc q=>pow_int_small hc.1 hc.2.1 hc.2.2 q
end
section
variable {X:Cx} {a b:Expr} {ta tb tc:TE}
theorem Ar{Z:St}{H:Hp}{Q:VK}{k k':Bool}(I:Inv X pins Z H s)(q:Q (.bl k) H)(e:k=k'):EP X pins Z Q (.bool k') s:=by
 subst e
 exact⟨.bl k,H,I,rfl,q⟩
theorem Hz:OpR X (compareOp .Lt) (rI0 λi j=>.bl (decide (i<j))):=E6 λ_ _ _ _ _ _ _ q=>lt_int q
theorem rH:OpR X (compareOp .Gt) (rI0 λi j=>.bl (decide (j<i))):=E6 λ_ _ _ _ _ _ _ q=>gt_int q
theorem vR:OpR X (compareOp .GtE) (rI0 λi j=>.bl (decide (j<=i))):=E6 λ_ _ _ _ _ _ _ q=>ge_int q
theorem B7:OpR X (compareOp .IsNot) (λx y H Q=>y=.non/\Q (.bl (!decide (x=.non))) H):=by
 intro pins s Z H x y v u Q I rx ry h
 obtain⟨rfl,q⟩:=h
 cases ry
 refine isnot_none_gen (Ar I q ?_)
 cases x<;>first
  | (cases rx;rfl)
  | (obtain⟨t,rfl⟩:=rx;rfl)
theorem pV:OpR X (compareOp .NotIn) (λx y H Q=>∃i j,x=.str i/\y=.str j/\Q (.bl (!(!(Builtin.Str.occurrences j i 0 j.length 1).isEmpty))) H):=by
 intro pins s Z H x y v u Q I rx ry h
 obtain⟨i,j,rfl,rfl,q⟩:=h
 obtain⟨t,rfl⟩:=rx
 obtain⟨t',rfl⟩:=ry
 exact notIn_str (Ar I q rfl)
theorem OpR.or{r r':R2}(h:OpR X f r)(h':OpR X f r'):OpR X f (λx y H Q=>r x y H Q\/r' x y H Q):=by
 intro pins s Z H x y v u Q I rx ry q
 rcases q with q|q
 ·exact h pins s Z H x y v u Q I rx ry q
 ·exact h' pins s Z H x y v u Q I rx ry q
theorem vO{op:CmpOp}{r:R2}(ho:OpR X (compareOp op) r)(ha:PE X a ta)(hb:PE X b tb)(hm:behindInMarks op b=false):PE X (.Compare a [op] [b] pos) (tOp r ta tb):=by
 intro pins s Z H Q I h
 exact wpAny_Compare1 (Gg ha hb I h λv u s2 x y H2 I2 rx ry q=>ho pins s2 Z H2 x y v u Q I2 rx ry q) hm
def GK(t:TE):TT:=λZ H Q=>t Z H λx H'=>∃k,x=.bl k/\Q k H'
theorem vI{op:CmpOp}{r:R2}(ho:OpR X (compareOp op) r)(ha:PE X a ta)(hb:PE X b tb)(hm:behindInMarks op b=false):PT X (.Compare a [op] [b] pos) (GK (tOp r ta tb)):=by
 intro pins s Z H Q I h
 refine wpAny_isTrue_Compare1 (thn (ha pins s Z H _ I h) λv s1 ⟨x,H1,I1,r1,q1⟩=>thn (hb pins s1 Z H1 _ I1 q1) λu s2 ⟨y,H2,I2,r2,q2⟩ =>
  thn (ho pins s2 Z H2 x y v u _ I2 r1 r2 q2) λc s3 ⟨z,H3,I3,r3,k,e,q3⟩=>?_) hm
 subst e
 cases r3
 exact wpAny_truthy_bool ⟨H3,I3,q3⟩
def GA(K:PySem.W.Frag)(x:V)(H:Hp)(k:Bool):Prop :=
 match x with
 | .non=>k=false
 | .bl b=>k=b
 | .int i=>k=(i != 0)
 | .str y=>y.length<=sizeLine/\k=((y.length:Int) != 0)
 | .byt y=>y.size<=sizeLine/\k=((y.size:Int) != 0)
 | .ref p=>(∃xs,SqL K H p xs/\k = !xs.isEmpty)\/(∃xs,SqT K H p xs/\k = !xs.isEmpty)\/∃kvs,H p=some (.dK kvs)/\k = !kvs.isEmpty
 | _=>False
theorem uF{κ:Type}{kvs:List (κ×V)}{vs:List (κ×Value)}(r:KV kvs vs):(!vs.isEmpty) = !kvs.isEmpty:=by
 cases r<;>rfl
theorem mQ{xs:List V}{its:List Value}(r:Vals xs its):(!its.toArray.isEmpty) = !xs.isEmpty:=by
 cases r<;>simp
theorem gZ:(sizeLine:Nat)<2^63:=by rw[Kb];decide
theorem yO:Ju X (λx H Q=>∃k,GA X.K x H k/\Q k H):=by
 intro pins s Z H x v Q I rx h
 obtain⟨k,e,q⟩:=h
 have hl:=gZ
 have hs:sizeLine=16777216:=Kb
 cases x with
 | non =>
  cases rx
  have e':k=false:=e
  subst e'
  exact truthy_none ⟨H,I,q⟩
 | bl b =>
  cases rx
  have e':k=b:=e
  subst e'
  exact wpAny_truthy_bool ⟨H,I,q⟩
 | int i =>
  obtain⟨t,rfl⟩:=rx
  have e':k=(i != 0):=e
  subst e'
  exact PySem.P.truthy_int ⟨H,I,q⟩
 | str y =>
  obtain⟨t,rfl⟩:=rx
  obtain⟨hy,e'⟩:y.length<=sizeLine/\k=((y.length:Int) != 0):=e
  subst e'
  exact PySem.P.truthy_str (by lia) ⟨H,I.tok _,q⟩
 | byt y =>
  obtain⟨t,rfl⟩:=rx
  obtain⟨hy,e'⟩:y.size<=sizeLine/\k=((y.size:Int) != 0):=e
  subst e'
  exact PySem.W.truthy_bytes (by lia) ⟨H,I.tok _,q⟩
 | ref p =>
  cases rx
  have e':(∃xs,SqL X.K H p xs/\k = !xs.isEmpty)\/(∃xs,SqT X.K H p xs/\k = !xs.isEmpty)\/∃kvs,H p=some (.dK kvs)/\k = !kvs.isEmpty:=e
  rcases e' with ⟨xs,hx,e'⟩|⟨xs,hx,e'⟩|⟨kvs,hx,e'⟩
  ·subst e'
   obtain⟨its,r,pl,hz⟩:=I.list hx
   have hlen:=r.length
   exact wpAny_truthy_list pl.isList (by simp only[be];lia) ⟨H,I.tok _,by rw[mQ r];exact q⟩
  ·subst e'
   obtain⟨its,r,pl,hz⟩:=I.tuple hx
   have hlen:=r.length
   exact truthy_tuple pl (by simp only[be];lia) ⟨H,I.tok _,by rw[mQ r];exact q⟩
  ·subst e'
   obtain⟨hz,hS,vs,r,m⟩:kvs.length<=sizeLine/\(p==sysModules)=false/\∃vs,KV kvs vs/\s.heap.DictOf (aX X.prog X.w) p vs:=I.hok p _ hx
   have hlen:kvs.length=vs.length:=Paired.length r
   exact wpAny_truthy_dict hS m (by lia) ⟨H,I.tok _,by rw[uF r];exact q⟩
 | _=>exact(show False from e).elim
theorem rq(ha:PE X a ta)(he:∀whole,isTrue a X.env whole=(do let v <-whole;standAt a.pos;holding [v] (truthy v))) :
  PT X a (λZ H Q=>ta Z H λx H'=>∃k,GA X.K x H' k/\Q k H'):=by
 intro pins s Z H Q I h
 exact isTrue_plain (thn (ha pins s Z H _ I h) λv s1 ⟨x,H1,I1,r1,q1⟩=>yO pins s1 Z H1 x v Q I1 r1 q1) (he _)
theorem tY:OpR X (binaryOp .Add) (λx y H Q=>∃i j,x=.str i/\y=.str j/\i.length+j.length<=sizeLine/\Q (.str (i++j)) H):=by
 intro pins s Z H x y v u Q I rx ry h
 obtain⟨i,j,rfl,rfl,hz,q⟩:=h
 obtain⟨t,rfl⟩:=rx
 obtain⟨t',rfl⟩:=ry
 exact add_str (λt' tk=>⟨.str (i++j),H,I.tok _,⟨_,rfl⟩,q⟩) hz
theorem vals1{x:V}(r:Vals [x] us):∃u,us=[u]/\RelV x u:=by
 cases r with
 | cons r1 r2=>cases r2;exact⟨_,rfl,r1⟩
theorem vals2{x y:V}(r:Vals [x,y] us):∃u w',us=[u,w']/\RelV x u/\RelV y w':=by
 cases r with
 | cons r1 r2 =>
  cases r2 with
  | cons r3 r4=>cases r4;exact⟨_,_,rfl,r1,r3⟩
theorem yz(hc:X.calm=true):CallR X (.builtin "max") (λxs H Q=>∃i j,xs=[.int i,.int j]/\Q (.int (if j>i then j else i)) H):=by
 intro pins s Z H xs us Q I r h
 obtain⟨i,j,rfl,q⟩:=h
 obtain⟨u,w',rfl,⟨t,rfl⟩,⟨t',rfl⟩⟩:=vals2 r
 refine max_two_ints (I.ok.hd hc) λh' tk k=>⟨_,H,I.kept k,?_,q⟩
 by_cases hj:j>i
 ·rw[aw hj,aw hj];exact⟨_,rfl⟩
 ·rw[am hj,am hj];exact⟨_,rfl⟩
theorem yv(hc:X.calm=true):CallR X (.builtin "min") (λxs H Q=>∃i j,xs=[.int i,.int j]/\Q (.int (if j<i then j else i)) H):=by
 intro pins s Z H xs us Q I r h
 obtain⟨i,j,rfl,q⟩:=h
 obtain⟨u,w',rfl,⟨t,rfl⟩,⟨t',rfl⟩⟩:=vals2 r
 refine min_two_ints (I.ok.hd hc) λh' tk k=>⟨_,H,I.kept k,?_,q⟩
 by_cases hj:j<i
 ·rw[aw hj,aw hj];exact⟨_,rfl⟩
 ·rw[am hj,am hj];exact⟨_,rfl⟩
theorem yB:CallR X (.type "int") (λxs H Q=>(∃i,xs=[.int i]/\Q (.int i) H)\/∃k,xs=[.bl k]/\Q (.int (if k then 1 else 0)) H):=by
 intro pins s Z H xs us Q I r h
 rcases h with ⟨i,rfl,q⟩|⟨k,rfl,q⟩
 ·obtain⟨u,rfl,t,rfl⟩:=vals1 r
  exact call_int_int ⟨.int i,H,I,⟨_,rfl⟩,q⟩
 ·obtain⟨u,rfl,r1⟩:=vals1 r
  cases r1
  exact call_int_bool ⟨.int (if k then 1 else 0),H,I.tok _,⟨_,rfl⟩,q⟩
end
theorem xR{dx:Addr}{mA:zzl}(n:h.Ns1 dx mA):∃od,h.get? dx=some od/\∀name,PySem.W.lookIn name od=some (mA name):=by
 obtain⟨o,es,ep,ho,hd,hk,_,hm⟩:=n
 refine⟨o,ho,λname=>?_⟩
 have e:=hm name
 unfold nsFind findBy at e
 rw[<-Array.find?_toList]at e
 unfold PySem.W.lookIn
 rw[hd]
 dsimp only
 split
 ·rename_i y q
  rw[q]at e
  exact congrArg some e
 ·rename_i q
  rw[q]at e
  have a:es.toList.any (·.refKey)=false:=by
   rw[List.any_eq_false]
   intro y hy
   obtain⟨z,t,hkey⟩:=hk y (Array.mem_toList_iff.mp hy)
   simp[DictEntry.refKey,hkey]
  have a':¬ es.toList.any (·.refKey)=true:=by rw[a];exact ul
  rw[am a']
  exact congrArg some e
theorem RelO.some_of{v:V}{o:Option Value}(r:RelO (some v) o):∃u,o=some u/\RelV v u:=by
 cases o with
 | none=>exact(show False from r).elim
 | some u=>exact⟨u,rfl,r⟩
def nB(K:PySem.W.Frag)(C:Addr)(f:Str):Prop:=PySem.W.findIn K (.ref C) f=some none
structure Room(k:Nat)(A:Around):Prop where
 hd:A.handled=none
 dp:A.depth+3*k+5<recursionLimit
 un:A.units+16*k+1200<cLine
 gd:A.guards=some []
theorem Room.mono{j k:Nat}(r:Room k A)(h:j<=k):Room j A:=⟨r.hd,by have:=r.dp;lia,by have:=r.un;lia,r.gd⟩
theorem Room.deeper{k:Nat}(r:Room (k+1) A)(env:Env):Room k (A.deeper env) :=
 ⟨r.hd,by have:=r.dp;show A.depth+1+3*k+5<_;lia,by have:=r.un;show A.units+3+16*k+1200<_;lia,r.gd⟩
theorem uj{C:Addr}{kw:List (Str×Value)}:(A.under (.builtin "type.__call__" ⟨.ref C::us,kw⟩)).depth=A.depth+1:=by
 first|rfl|simp[Around.under,Code.weight,Code.isCreation,Code.isGuard,Code.isCaller,Code.frames,Code.isFrame,guardIds]
theorem ui{C:Addr}{kw:List (Str×Value)}:(A.under (.builtin "type.__call__" ⟨.ref C::us,kw⟩)).units=A.units+1:=by
 first|rfl|simp[Around.under,Code.cUnits,Code.frames,Code.isFrame]
theorem Room.make{k:Nat}(r:Room (k+1) A)(C:Addr)(us:List Value)(kw:List (Str×Value)):Room k (A.under (.builtin "type.__call__" ⟨.ref C::us,kw⟩)) :=
 ⟨r.hd,by have:=r.dp;rw[uj];lia,by have:=r.un;rw[ui];lia,by first|exact r.gd|simpa[Around.under,Code.isGuard,guardIds]using r.gd⟩
theorem Room.depth{k:Nat}(r:Room k A):A.depth<recursionLimit:=by have:=r.dp;lia
def GN:TA:=λ_ H Q=>Q [] H
def Du(ta:TE)(tr:TA):TA:=λZ H Q=>ta Z H λx H1=>tr Z H1 λxs H2=>Q (x::xs) H2
section
variable {X:Cx} {te:TE} {t:TA}
theorem gT:PA X [] GN:=λ_ _ _ _ H Q I h=>Ku ⟨[],H,I,.nil,h⟩
theorem b6(ha:PE X e te)(hr:PA X es t)(hs:starEach (e::es) X.env=(false,eval e X.env)::starEach es X.env:=by rfl):PA X (e::es) (Du te t):=by
 intro pos pins s Z H Q I h
 rw[hs]
 show wpAny _ _ (spliced ((false,eval e X.env)::backTo pos (starEach es X.env))) _ _ s
 refine Ko (thn (ha pins s Z H _ I h) λu s1 ⟨x,H1,I1,r1,q1⟩=>?_)
 exact thn (hr pos pins s1 Z H1 _ I1 q1) λus s2 ⟨xs,H2,I2,r2,q2⟩=>⟨x::xs,H2,I2,.cons r1 r2,q2⟩
def IA(t:TA):TE:=λZ H Q=>t Z H λxs H1=>xs.length<=sizeLine/\∀p,H1 p=none->Q (.ref p) (upd H1 p (.tup xs))
def IE(t:TA):TE:=λZ H Q=>t Z H λxs H1=>xs.length<=sizeLine/\∀p,H1 p=none->Q (.ref p) (upd H1 p (.lst xs))
theorem zB{x1}(h:PA X es t):PE X (.Tuple es x1 pos) (IA t):=by
 intro pins s Z H Q I hq
 refine wpAny_Tuple_spliced (thn (h pos pins s Z H _ I hq) λus s1 ⟨xs,H1,I1,r,z,q⟩=>⟨by rw[<-r.length];exact z,?_⟩)
 have hf:H1 s1.heap.objs.size=none:=I1.hok.fresh (ai _)
 refine⟨.ref s1.heap.objs.size,upd H1 s1.heap.objs.size (.tup xs),I1.laid (t':=s1.toks) (λb u e=>zzc _ e) (ai _) ?_,rfl,q _ hf⟩
 exact⟨z,us,r,⟨_,zze _ rfl,rfl,_,rfl⟩,⟨_,zze _ rfl,rfl⟩⟩
theorem zD(h:PA X es t):PE X (.List es pos) (IE t):=by
 intro pins s Z H Q I hq
 refine wpAny_List_spliced (thn (h pos pins s Z H _ I hq) λus s1 ⟨xs,H1,I1,r,z,q⟩=>⟨by rw[<-r.length];exact z,?_⟩)
 have hf:H1 s1.heap.objs.size=none:=I1.hok.fresh (ai _)
 refine⟨.ref s1.heap.objs.size,upd H1 s1.heap.objs.size (.lst xs),I1.laid (t':=s1.toks) (λb u e=>zzc _ e) (ai _) ?_,rfl,q _ hf⟩
 exact⟨z,us,0,r,zze _ rfl⟩
end
abbrev Sp:=List V->Hp->VK->XK->Prop
abbrev CXT:=List Env->Hp->Shared->XK->Value->Shared->Prop
structure Env0(P:Program)(w:World)(K:PySem.W.Frag)(mg:zzl)(base:Heap)(A:Around)(outer:List Env)(s:Shared)(H:Hp):Prop where
 frames:A.frames=some outer
 mod:Mod K mg base
 bs:∀b o,base.get? b=some o->s.heap.get? b=some o/\H b=none
 bsz:base.objs.size<=s.heap.objs.size
 funs:s.heap.FunFrames base outer
 frf:∀b∈frs outer,H b=none
 hok:HOk P w H s.heap
 bare:AllBare s.gens
def CE(outer:List Env)(P:Program)(w:World)(H:Hp)(s:Shared)(Q:VK)(u:Value)(s':Shared):Prop :=
 ∃v H',s'.os=s.os/\AllBare s'.gens/\Un (frs outer) [] H H' s.heap s'.heap/\HOk P w H' s'.heap/\RelV v u/\Q v H'
def CR(CX:CXT)(outer:List Env)(P:Program)(w:World)(H:Hp)(s:Shared)(Q:VK)(E:XK)(r:Result)(s':Shared):Prop :=
 match r with
 | .ok (.ret u)=>CE outer P w H s Q u s'
 | .ok _=>False
 | .error e=>CX outer H s E e s'
structure FnOk(P:Program)(w:World)(K:PySem.W.Frag)(mg:zzl)(base:Heap)(CX:CXT)(k:Nat)(f:Addr)(fd:FuncData)(ps:List Str)(sp:Sp):Prop where
 len:∀vs H Q E,sp vs H Q E->vs.length=ps.length
 run:∀(A:Around) (outer:List Env) (s:Shared) (H:Hp) (args:Args) (us:List Value) (vs:List V) (Q:VK) (E:XK),Room k A->Env0 P w K mg base A outer s H->BindsTo s fd args (ps.zip us)->Vals vs us->sp vs H Q E ->
  codeAny (model P w) A (.call (.ref f) args) (CR CX outer P w H s Q E) s
theorem Env0.make{K:PySem.W.Frag}{outer:List Env}{H:Hp}(e:Env0 P w K mg base A outer s H)(C:Addr)(us:List Value)(kw:List (Str×Value)) :
  Env0 P w K mg base (A.under (.builtin "type.__call__" ⟨.ref C::us,kw⟩)) outer s H:=⟨by first|exact e.frames|(simpa[Around.under,Code.envs,Code.isFrame,pushEnvs]using e.frames),e.mod,e.bs,e.bsz,e.funs,e.frf,e.hok,e.bare⟩
section
variable {X:Cx} {Z:St} {H:Hp} {s':Shared}
theorem Inv.env0(I:Inv X pins Z H s):Env0 X.prog X.w X.K X.mg X.base X.A X.stack s H :=
 ⟨I.ok.frames,I.ok.mod,I.bs,ir I.ok.bsz I.sz,I.stack,I.stkFree,I.hok,I.bare⟩
theorem Inv.after{Q:VK}(I:Inv X pins Z H s)(h:CE X.stack X.prog X.w H s Q u s'):EP X pins Z Q u s':=by
 obtain⟨v,H',os,bare,un,hok,r,q⟩:=h
 obtain⟨hh,g,d,t,os'⟩:=s'
 obtain rfl:os'=s.os:=os
 exact⟨v,H',I.call (h':=hh) (g':=g) (d':=d) (t':=t) (ch:=[]) un hok bare (λb z=>absurd z (by simp)),r,q⟩
end
def Binds(K:PySem.W.Frag)(fd:FuncData)(ps:List Str)(ds:List Value):Prop :=
 ∀(s:Shared) (us:List Value),K.In s.heap->(us++ds).length=ps.length->BindsTo s fd ⟨us,[]⟩ (ps.zip (us++ds))
theorem Binds.all{K:PySem.W.Frag}{fd:FuncData}{ps:List Str}(h:∀us:List Value,us.length=ps.length->bindArgs fd ⟨us,[]⟩=pure (ps.zip us)):Binds K fd ps []:=λs us _ hl=>by
 rw[ou]at hl ⊢
 exact .of_eq (h us hl)
structure FnScope(N P:List Str)(sc:Scope):Prop where
 kind:sc.kind=.function
 co:sc.isCoroutine=false
 gen:sc.isGenerator=false
 nd:N.Nodup
 pre:N.take P.length=P
 par:∀x∈P,sc.names.lookup x=some .local\/sc.names.lookup x=some .cell
 nofree:∀y∈sc.names,y.2≠.free
theorem py{kindOf:Str->Option NameKind}{x:Str}:∀{binds:List (Str×Value)} {m:zzl},(∀v,(x,v)∉binds)->bindL kindOf binds m x=m x
 | [],_,_=>rfl
 | (n,v)::r,m,h=>by
  unfold bindL
  rw[py λw hw=>h w (zzg _ hw)]
  split
  ·have:x≠n:=by rintro rfl;exact h v ce
   simp[this]
  ·rfl
theorem pE{kindOf:Str->Option NameKind}{x:Str}:∀{binds:List (Str×Value)} {m:zzl},(∀v,(x,v)∉binds)->bindC kindOf binds m x=m x
 | [],_,_=>rfl
 | (n,v)::r,m,h=>by
  unfold bindC
  rw[pE λw hw=>h w (zzg _ hw)]
  split
  ·rfl
  ·have:x≠n:=by rintro rfl;exact h v ce
   simp[this]
theorem pA{kindOf:Str->Option NameKind}{x:Str}{v:Value}:∀{P:List Str} {vs:List Value} {i:Nat} {m:zzl},P.Nodup->P[i]? = some x->vs[i]? = some v->kindOf x=some .local ->
  bindL kindOf (P.zip vs) m x=some v
 | [],_,_,_,_,h,_,_=>by simp at h
 | _::_,[],_,_,_,_,h,_=>by simp at h
 | p::P,w::vs,0,m,nd,h1,h2,hk=>by
  simp at h1 h2;subst h1;subst h2
  show bindL kindOf ((p,w)::P.zip vs) m p=_
  unfold bindL
  rw[py λv hv=>(List.nodup_cons.mp nd).1 (List.of_mem_zip hv).1,aw hk]
  simp
 | p::P,w::vs,i+1,m,nd,h1,h2,hk=>by
  show bindL kindOf ((p,w)::P.zip vs) m x=_
  unfold bindL
  exact pA (i:=i) (List.nodup_cons.mp nd).2 (by simpa using h1) (by simpa using h2) hk
theorem pF{kindOf:Str->Option NameKind}{x:Str}{v:Value}:∀{P:List Str} {vs:List Value} {i:Nat} {m:zzl},P.Nodup->P[i]? = some x->vs[i]? = some v->kindOf x≠some .local ->
  bindC kindOf (P.zip vs) m x=some v
 | [],_,_,_,_,h,_,_=>by simp at h
 | _::_,[],_,_,_,_,h,_=>by simp at h
 | p::P,w::vs,0,m,nd,h1,h2,hk=>by
  simp at h1 h2;subst h1;subst h2
  show bindC kindOf ((p,w)::P.zip vs) m p=_
  unfold bindC
  rw[pE λv hv=>(List.nodup_cons.mp nd).1 (List.of_mem_zip hv).1,am hk]
  simp
 | p::P,w::vs,i+1,m,nd,h1,h2,hk=>by
  show bindC kindOf ((p,w)::P.zip vs) m x=_
  unfold bindC
  exact pF (i:=i) (List.nodup_cons.mp nd).2 (by simpa using h1) (by simpa using h2) hk
def start(N:List Str)(vs:List V):St:=vs.map some++List.replicate (N.length - vs.length) none
def jL(CX:CXT)(P:Program)(w:World)(K:PySem.W.Frag)(mg:zzl)(base:Heap)(N:List Str)(qual:Str)(scope:Scope)(f:Addr)(cd:Value)(A:Around)(outer:List Env)(s:Shared)(H:Hp)(E:XK):Cx where
 prog:=P
 w:=w
 K:=K
 mg:=mg
 base:=base
 A:=A.deeper (envOfC qual scope s.heap.objs.size f cd)
 N:=N
 s₀:=s
 H₀:=H
 env:=envOfC qual scope s.heap.objs.size f cd
 outer:=outer
 stack:=envOfC qual scope s.heap.objs.size f cd::outer
 ex:=[]
 calm:=true
 fn:=λ_=>true
 pn:=[]
 xe:=λe s'=>wpAny (model P w) (A.deeper (envOfC qual scope s.heap.objs.size f cd)) (leaving (envOfC qual scope s.heap.objs.size f cd) e) (λ_ s''=>CX outer H s E e s'') (λe' s''=>CX outer H s E e' s'') s'
theorem sV{sc:Scope}{n:Nat}(h:sc.names.lookup x=some .cell):∃c,(cellsFrom n sc.names []).lookup x=some c:=by
 have q:=PySem.W.cellsFrom_some sc.names n [] (.inl h)
 exact Option.isSome_iff_exists.mp q
theorem xY{CX:CXT}{K:PySem.W.Frag}{N ps:List Str}{qual:Str}{scope:Scope}{f:Addr}{cd:Value}{outer:List Env}{s1:Shared}{H:Hp}{E:XK}{vs:List V}
  (S:FnScope N ps scope) (hd:A.handled=none) (e0:Env0 P w K mg base A outer s H) (hl:vs.length=ps.length) (r:Vals vs us)
  (x:InCallC s s.heap.objs.size (bindL (envOfC qual scope s.heap.objs.size f cd).kindOf (ps.zip us) λ_=>none) (cellsFrom (s.heap.objs.size+1) scope.names []) (bindC (envOfC qual scope s.heap.objs.size f cd).kindOf (ps.zip us) λ_=>none) s1) :
  Inv (jL CX P w K mg base N qual scope f cd A outer s H E) [] (start N vs) H s1:=by
 have hpl:ps.length<=N.length:=by have:=congrArg List.length S.pre;rw[ng]at this;lia
 obtain⟨h1,tk,rfl,hk⟩:=x.done
 have noA:∀b:Addr,b∉(jL CX P w K mg base N qual scope f cd A outer s H E).ex:=λb z=>absurd (show b∈([]:List Addr)from z) (by simp)
 refine⟨⟨e0.mod,S.kind,rfl,rfl,ai _,λy z c h1 h2=>?_,λy hy=>?_,λy c _ h=>?_,λ_=>hd,Around.frames_deeper e0.frames,.inr ⟨rfl,rfl⟩,λb z=>absurd z (noA b),e0.bs,e0.bsz,λb _ _=>noA b,λb z=>absurd z (noA b),e0.funs,e0.frf⟩,
  rfl,e0.bare,Un.kept hk,⟨_,x.toInCall.ns,λi y v h1 h2 h3=>?_⟩,λy c h=>⟨_,x.cell y c h⟩,e0.hok.fresh (ai _),λy c h=>?_,λp hp=>absurd (show p∈([]:zzk)from hp) (by simp),e0.hok.kept hk,?_⟩
 ·exact name_of_addr x.apart (xv h1) (xv h2)
 ·have hy:scope.names.lookup y=some .cell\/scope.names.lookup y=some .free:=hy
  rcases hy with hy|hy
  ·exact sV hy
  ·exact absurd rfl (S.nofree _ (xv hy))
 ·exact K0 (x.above y c (xv h))
 ·have hi:i<vs.length:=by
   unfold start at h2
   by_cases hi:i<vs.length
   ·exact hi
   ·rw[ye (by simpa using hi)]at h2
    rw[KM]at h2
    split at h2<;>cases h2
  have ha:vs[i]? = some v:=by
   unfold start at h2
   rw[lf (by simpa using hi),nu]at h2
   cases e:vs[i]? with
   | none=>rw[e]at h2;cases h2
   | some a=>rw[e]at h2;cases h2;rfl
  obtain⟨u,hu,rv⟩:=r.get ha
  have hp:ps[i]? = some y:=by
   rw[<-S.pre,mo (by lia)];exact h1
  have ndP:ps.Nodup:=by rw[<-S.pre];exact S.nd.sublist (List.take_sublist _ _)
  refine⟨u,rv,?_⟩
  rcases S.par y (ut hp)with k|k
  ·exact .inl ⟨k,pA ndP hp hu k⟩
  ·obtain⟨c,e⟩:=sV (n:=s.heap.objs.size+1) k
   refine .inr ⟨.inl k,c,e,?_⟩
   have q:=x.cell y c e
   rw[pF ndP hp hu (by show scope.names.lookup y≠_;rw[k];decide)]at q
   exact q
 ·exact e0.hok.fresh (K0 (x.above y c (xv h)))
 ·unfold start
  show _=N.length
  rw[zzf,zzd,List.length_replicate]
  lia
theorem Eb{CX:CXT}{K:PySem.W.Frag}{k:Nat}{f:Addr}{name qual:Str}{params:Arguments}{scope:Scope}{dV kV doc pm cdv ct oc:Value}{an od:Option Addr}
  {osl:Array (Option Value)} {N ps:List Str} {sp:Sp} (lk:K.lookup f=some ⟨oc,od,.func (PySem.W.fnOf name qual params body scope dV kV doc pm an cdv ct),osl⟩) (hcd:PySem.W.codeIn K cdv qual=true) (S:FnScope N ps scope)
  (len:∀vs H Q E,sp vs H Q E->vs.length=ps.length)
  (hbody:∀(A:Around) (outer:List Env) (s:Shared) (H:Hp) (vs:List V) (Q:VK) (E:XK),Room k (A.deeper (envOfC qual scope s.heap.objs.size f cdv))->sp vs H Q E ->
   ∃t,PSs (jL CX P w K mg base N qual scope f cdv A outer s H E) body t/\t { nx:=λ_ H'=>Q .non H',rt:=Q } (start N vs) H) :
  FnOk P w K mg base CX (k+1) f (PySem.W.fnOf name qual params body scope dV kV doc pm an cdv ct) ps sp:=by
 refine⟨len,λA outer s H args us vs Q E hr e0 hb r hsp=>?_⟩
 have hl:=len _ _ _ _ hsp
 have KX:K.In s.heap:=e0.mod.kin.keeps λb o e=>(e0.bs b o e).1
 have lim:s.heap.NoLimit:=e0.mod.nolimit.keeps λb o e=>(e0.bs b o e).1
 have hkind:∀y∈ps.zip us,scope.names.lookup y.1=some .local\/(scope.names.lookup y.1=some .cell/\((cellsFrom (s.heap.objs.size+1) scope.names []).lookup y.1).isSome=true):=λ⟨n,v⟩ hy=>by
  rcases S.par n (List.of_mem_zip hy).1 with q|q
  ·exact .inl q
  ·exact .inr ⟨q,PySem.W.cellsFrom_some _ _ _ (.inl q)⟩
 refine codeAny_call_function hr.depth (KX _ _ lk) rfl S.co S.gen rfl (PySem.W.codeRec_of KX hcd) (hb _ _ _ _ ?_)
 refine wpAny_newFunctionEnv_cells S.kind hkind λenv he s1 x=>?_
 subst he
 refine⟨lim.keeps x.toInCall.keep,codeAny_func ?_⟩
 obtain⟨t,ht,hq⟩:=hbody A outer s H vs Q E (hr.deeper _) hsp
 have I:Inv (jL CX P w K mg base N qual scope f cdv A outer s H E) [] (start N vs) H s1:=xY S hr.hd e0 hl r x
 refine r0 (ht [] s1 (start N vs) H _ I hq) (λfl s' hs=>?_) λe s' hs=>hs
 have fin:∀{σ':St} {H':Hp} {v:V} {u:Value},Inv (jL CX P w K mg base N qual scope f cdv A outer s H E) [] σ' H' s'->RelV v u->Q v H'->CE outer P w H s Q u s' :=
  λ{σ' H' v u} J rv q=>⟨v,H',J.os,J.bare,J.base,J.hok,rv,q⟩
 cases fl with
 | ret u =>
  obtain⟨v,σ',H',J,rv,q⟩:=hs
  exact fin J rv q
 | next =>
  obtain⟨σ',H',J,q⟩:=hs
  exact fin (v:=V.non) (u:=Value.none) J rfl q
 | brk =>
  obtain⟨_,_,_,q⟩:=hs
  exact False.elim q
 | cont =>
  obtain⟨_,_,_,q⟩:=hs
  exact False.elim q
section
variable {X:Cx} {t:TA} {id T:String} {r:List V->Hp->VK->Prop}
def tCB(r:List V->Hp->VK->Prop)(t:TA):TE:=λZ H Q=>t Z H λvs H1=>r vs H1 Q
theorem gS(hc:CallR X (.builtin id) r)(hg:Gl X x)(hm:X.mg x=none)(hv:bootBuiltins x=some (.builtin id))(ha:PA X (e::es) t)(hn:x ≠ "__name__":=by decide)(hdb:(x==("__debug__" : Str))=false:=by decide)
  (he:starEach (e::es) X.env=(false,eval e X.env)::starEach es X.env:=by rfl) (hpl:(backTo pos (starEach es X.env)).any (·.1)=false:=by rfl):PE X (.Call (.Name x p) (e::es) [] pos) (tCB r t):=by
 intro pins s Z H Q I h
 refine re (fg I hg hm hv ?_ hn hdb)
 exact PyProof.Rows.callWith_builtin1 (thn (ha pos pins s Z H _ I h) λus s1 ⟨vs,H1,I1,r1,q1⟩=>hc pins s1 Z H1 vs us Q I1 r1 q1) he hpl
theorem jY(hc:CallR X (.type T) r)(hg:Gl X x)(hm:X.mg x=none)(hv:bootBuiltins x=some (.type T))(ha:PA X (e::es) t)(hn:x ≠ "__name__":=by decide)(hdb:(x==("__debug__" : Str))=false:=by decide)
  (he:starEach (e::es) X.env=(false,eval e X.env)::starEach es X.env:=by rfl) (hpl:(backTo pos (starEach es X.env)).any (·.1)=false:=by rfl):PE X (.Call (.Name x p) (e::es) [] pos) (tCB r t):=by
 intro pins s Z H Q I h
 refine re (fg I hg hm hv ?_ hn hdb)
 exact pI (thn (ha pos pins s Z H _ I h) λus s1 ⟨vs,H1,I1,r1,q1⟩=>hc pins s1 Z H1 vs us Q I1 r1 q1) he hpl
end
end L2
namespace HT
open PySem PyProof.Rows
variable {Q:zzj}
def lexLt:List Int->List Int->Bool
 | [],[]=>false
 | [],_::_=>true
 | _::_,[]=>false
 | x::xs,y::ys=>if x=y then lexLt xs ys else decide (x<y)
theorem lexLt_cons(x y:Int)(xs ys:List Int):lexLt (x::xs) (y::ys)=if x=y then lexLt xs ys else decide (x<y):=rfl
theorem lexLt_nil_nil:lexLt [] []=false:=rfl
theorem mH(y:Int)(ys:List Int):lexLt [] (y::ys)=true:=rfl
theorem mI(x:Int)(xs:List Int):lexLt (x::xs) []=false:=rfl
theorem Az(A:Around)(s:Shared)(a:Int)(t:Tok)(c:Int)(u:Tok):∃e,SeqAt.EqAt A s (.int a t) (.int c u) e/\(e=true↔a=c) :=
 ⟨(a==c),SeqAt.EqAt.int_int a t c u,by simp⟩
theorem zj(A:Around)(s:Shared)(a:Int)(t:Tok)(c:Int)(u:Tok)(prog:Program)(w:World)(E:zzj)(Q:zzj)(h:Q (.bool (decide (a<c))) s) :
  wpAny (model prog w) A (richCompare .Lt (.int a t) (.int c u)) Q E s :=
 (PyProof.Rows.lt_int h:wpAny (model prog w) A (compareOp .Lt (.int a t) (.int c u)) Q E s)
section
open PySem.SeqAt
open PySem.AutoSeq1 (wpAny_loadPart')
open PySem.MeetsSeq PySem.MeetsSeq2 PySem.MeetsSeq3
theorem nE(l b:Addr)(items items2:Array Value)(n n2:Nat)(dd dd2:Option Addr)(sl sl2:Array (Option Value))(ns ms:List Int)(hi:IntsAre items.toList ns)(hj:IntsAre items2.toList ms) :
  Meets (Builtin.«tuple.__lt__» ⟨[.ref l,.ref b],[]⟩)
   (λ_ R s=>s.heap.get? l=some { cls:=.type "tuple",dict:=dd,data:=.seq items n,slots:=sl }/\s.heap.get? b=some { cls:=.type "tuple",dict:=dd2,data:=.seq items2 n2,slots:=sl2 } /\
    R (.ok (.ret (.bool (lexLt ns ms)))) s) :=
 .of_wp λprog w A R s h=>by
  obtain⟨hp,g,d,tk,os⟩:=s;obtain⟨hl,hb,h⟩:=h
  have f2:=AutoSeq1.sub_tuple_tuple
  have z1:items.size=ns.length:=by rw[<-hi.length];simp
  have z2:items2.size=ms.length:=by rw[<-hj.length];simp
  wp_walk using wpAny_loadPart' hl,wpAny_loadPart' hb,wpAny_forIn_list _ (λrest b s'=>b.1=none/\s'=⟨hp,g,d,tk,os⟩/\∃(vs ws:List Value) (ns' ms':List Int),rest=vs.zip ws /\
   IntsAre vs ns'/\IntsAre ws ms'/\ns'.length+items2.size=ms'.length+items.size/\R (.ok (.ret (.bool (lexLt ns' ms')))) ⟨hp,g,d,tk,os⟩) _
  case turn =>
   rintro⟨y,x⟩ rest b s' ⟨hb',rfl,vs,ws,ns',ms',hz,hvi,hwi,hlen,hR⟩
   cases hvi with
   | nil=>rw[List.zip_nil_left]at hz;cases hz
   | cons a t hvi' =>
    cases hwi with
    | nil=>rw[List.zip_nil_right]at hz;cases hz
    | cons c u hwi' =>
     rw[List.zip_cons_cons]at hz
     injection hz with hyx hrest
     injection hyx with hy hx
     subst hy hx
     rw[lexLt_cons]at hR
     simp only[qu]at hlen
     obtain⟨e,he,hiff⟩:=Az A.in1 ⟨hp,g,d,tk,os⟩ a t c u
     refine zza (he prog w _ _ ?_)
     cases e with
     | true =>
      rw[aw (hiff.mp rfl)]at hR
      wp_walk
      exact⟨rfl,rfl,_,_,_,_,hrest,hvi',hwi',by lia,hR⟩
     | false =>
      rw[am (λq=>absurd (hiff.mpr q) ul)]at hR
      have hri:=zj A.in1 ⟨hp,g,d,tk,os⟩ a t c u prog w
      wp_walk using hri
      exact⟨_,rfl,by simpa using hR⟩
  case fin =>
   rintro⟨b1,b2⟩ s' ⟨hb',rfl,vs,ws,ns',ms',hz,hvi,hwi,hlen,hR⟩
   simp only at hb'
   subst hb'
   have hv:lexLt ns' ms'=decide (items.size<items2.size):=by
    cases hvi with
    | nil =>
     cases hwi with
     | nil =>
      simp only[zi]at hlen
      rw[lexLt_nil_nil]
      exact(cr (by lia)).symm
     | cons c u hw =>
      simp only[zi,qu]at hlen
      rw[mH]
      exact(eT (by lia)).symm
    | cons a t hv =>
     cases hwi with
     | nil =>
      simp only[zi,qu]at hlen
      rw[mI]
      exact(cr (by lia)).symm
     | cons c u hw =>
      rw[List.zip_cons_cons]at hz
      cases hz
   rw[hv]at hR
   wp_walk
   exact⟨_,rfl,by simpa[Builtin.Tuple.tupleCompareSizes]using hR⟩
  case h =>
   exact⟨rfl,rfl,items.toList,items2.toList,ns,ms,rfl,hi,hj,by lia,h⟩
end
section
variable {prog:Program} {w:World} {A:Around} {E:zzj} {s:Shared}
theorem lt_tupInts{l b:Addr}{items items2:Array Value}{ns ms:List Int}(hl:IsTup s.heap l items)(hb:IsTup s.heap b items2)(hi:IntsAre items.toList ns)(hj:IntsAre items2.toList ms)
  (hu:A.units<cLine) (h:Q (.bool (lexLt ns ms)) s):wpAny (model prog w) A (compareOp .Lt (.ref l) (.ref b)) Q E s:=by
 obtain⟨⟨cls,dd,data,sl⟩,ho,hc,n,hd⟩:=id hl
 obtain⟨⟨cls2,dd2,data2,sl2⟩,ho2,hc2,n2,hd2⟩:=id hb
 simp only at hc hd hc2 hd2
 subst hc hd hc2 hd2
 exact richCompare_meets_room (op:=.Lt) ⟨_,ho,rfl⟩ ⟨_,ho2,rfl⟩ PySem.F.slot_tuple_lt PySem.F.entry_tuple_lt (PySem.F.args_tuple_lt_2 _ _) (nE l b items items2 n n2 dd dd2 sl sl2 ns ms hi hj)
  ⟨ho,ho2,show Value.bool (lexLt ns ms)≠Value.notImplemented/\Q (.bool (lexLt ns ms)) s from⟨(λx=>nomatch x),h⟩⟩ hu
theorem cat_tup{t b:Addr}{vs ws:List Value}(ht:IsTup s.heap t vs.toArray)(hb:IsTup s.heap b ws.toArray)(hv:vs≠[])
  (h1:ws=[]->Q (.ref t) s) (h2:ws≠[]->Q (.ref s.heap.objs.size) { s with heap:=s.heap.push { cls:=.type "tuple",data:=.seq (vs++ws).toArray } })
  (hsz:vs.length+ws.length<=sizeLine):wpAny (model prog w) A (binaryOp .Add (.ref t) (.ref b)) Q E s:=by
 obtain⟨⟨cls,dd,data,sl⟩,ho,hc,n,hd⟩:=id ht
 obtain⟨⟨cls2,dd2,data2,sl2⟩,ho2,hc2,n2,hd2⟩:=id hb
 simp only at hc hd hc2 hd2
 subst hc hd hc2 hd2
 have e:vs.toArray++ws.toArray=(vs++ws).toArray:=by simp
 by_cases hw:ws=[]
 ·exact concat_meets ⟨_,ho,rfl⟩ ⟨_,ho2,rfl⟩ noFill_tuple_add seq_tuple_add KZ KI (KA _ _)
   (tuple_addW1 t b vs.toArray ws.toArray n n2 dd dd2 sl sl2 (by simpa using hv) (by simp[hw])) ⟨ho,ho2,h1 hw⟩
 ·refine concat_meets ⟨_,ho,rfl⟩ ⟨_,ho2,rfl⟩ noFill_tuple_add seq_tuple_add KZ KI (KA _ _)
   (tuple_addW2 t b vs.toArray ws.toArray n n2 dd dd2 sl sl2 (by simpa using hv) (by simpa using hw) (by rw[be,be];exact hsz)) ⟨ho,ho2,?_⟩
  rw[e]
  exact h2 hw
def sIx(n d:Nat):Option Int->Nat
 | none=>d
 | some v=>if v<0 then(v+(n:Int)).toNat else min v.toNat n
theorem Ez(n d:Nat)(hd:d<=n)(o:Option Int):sIx n d o<=n:=by
 cases o with
 | none=>exact hd
 | some v =>
  show(if v<0 then(v+(n:Int)).toNat else min v.toNat n)<=n
  by_cases hv:v<0
  ·rw[aw hv];lia
  ·rw[am hv];exact Nat.min_le_right _ _
theorem wN(v:Int)(n d:Nat):(if v<0 then max (v+(n:Int)) 0 else min v (n:Int))=((sIx n d (some v):Nat):Int):=by
 show(if v<0 then max (v+(n:Int)) 0 else min v (n:Int))=(((if v<0 then(v+(n:Int)).toNat else min v.toNat n):Nat):Int)
 by_cases hv:v<0
 ·simp only[aw hv];lia
 ·simp only[am hv];lia
theorem vb(lo hi:Option Int)(n:Nat):Builtin.Slice.sliceAdjust lo hi 1 (n:Int)=(((sIx n 0 lo:Nat):Int),((sIx n n hi:Nat):Int)):=by
 have h1:¬ ((1:Int)<0):=by lia
 unfold Builtin.Slice.sliceAdjust
 simp only[h1,JU]
 refine Prod.ext ?_ ?_
 ·cases lo with
  | none=>rfl
  | some v=>exact wN v n 0
 ·cases hi with
  | none=>rfl
  | some v=>exact wN v n n
theorem tW(i j:Nat):Builtin.Slice.slicePlaces (i:Int) (j:Int) 1=j - i:=by
 unfold Builtin.Slice.slicePlaces
 have h1:(1:Int)>0:=by lia
 simp only[h1,At,Int.ediv_one]
 split<;>lia
theorem lC{v:Value}{o:Option Int}{Q:Option Int->Shared->Prop}(p:IsPart v o)(h:Q o s):wpAny (model prog w) A (Builtin.Slice.slicePartIndex v) Q E s:=by
 cases p with
 | none=>exact slicePart_none h
 | int i t=>exact slicePart_int h
theorem fq{sl:Addr}{vl vu:Value}{lo hi:Option Int}{n:Nat}{Q:Int×Int×Nat->Shared->Prop}(hs:s.heap.IsSliceOf sl vl vu .none)(pl:IsPart vl lo)(pu:IsPart vu hi)
  (h:Q (((sIx n 0 lo:Nat):Int),1,sIx n n hi - sIx n 0 lo) s):wpAny (model prog w) A (Builtin.Slice.sliceApplied (.ref sl) (pure (n:Int))) Q E s:=by
 obtain⟨os,hos,hcs,hds⟩:=id hs
 unfold Builtin.Slice.sliceApplied Builtin.Slice.sliceFields
 refine zza (zza (tu hos hds (x:=vl) rfl (zza (tu hos hds (x:=vu) rfl (zza (tu hos hds (x:=.none) rfl (zzb ?_)))))))
 refine zza (slicePart_none ?_)
 show wpAny _ _ (if((1:Int)==0)=true then _ else _) _ _ s
 rw[am (by decide)]
 refine zza (lC pl (zza (lC pu (zza (zzb ?_)))))
 show wpAny _ _ (match Builtin.Slice.sliceAdjust lo hi 1 (n:Int)with|(lo,hi)=>pure (lo,(1:Int),Builtin.Slice.slicePlaces lo hi 1)) _ _ s
 rw[vb lo hi n]
 show wpAny _ _ (pure (((sIx n 0 lo:Nat):Int),(1:Int),Builtin.Slice.slicePlaces ((sIx n 0 lo:Nat):Int) ((sIx n n hi:Nat):Int) 1)) _ _ s
 rw[tW]
 exact zzb h
theorem zw(xs:Array Value)(i k:Nat):((List.range k).filterMap λ(m:Nat)=>xs[((i:Int)+(m:Int)*1).toNat]?).toArray=((xs.toList.drop i).take k).toArray:=by
 have e:(λ(m:Nat)=>xs[((i:Int)+(m:Int)*1).toNat]?)=λm=>xs[i+m]?:=by
  funext m
  have:((i:Int)+(m:Int)*1).toNat=i+m:=by lia
  rw[this]
 rw[e]
 have:=pick_run xs i k
 rw[List.filterMap_map]at this
 have e2:((λx=>xs[x]?)∘λx=>i+x)=λm=>xs[i+m]?:=rfl
 rw[e2]at this
 rw[this]
theorem getItem_tuple_cut{t sl:Addr}{items:Array Value}{vl vu:Value}{lo hi:Option Int}(ht:IsTup s.heap t items)(hs:s.heap.IsSliceOf sl vl vu .none)(pl:IsPart vl lo)(pu:IsPart vu hi)
  (hw:¬ (sIx items.size 0 lo=0/\sIx items.size items.size hi=items.size))
  (h:Q (.ref s.heap.objs.size) { s with heap:=s.heap.push { cls:=.type "tuple",data:=.seq ((items.toList.drop (sIx items.size 0 lo)).take (sIx items.size items.size hi - sIx items.size 0 lo)).toArray } })
  (hsz:items.size<=sizeLine):wpAny (model prog w) A (getItem (.ref t) (.ref sl)) Q E s:=by
 have htake:sizeOk (.seq ((items.toList.drop (sIx items.size 0 lo)).take (sIx items.size items.size hi - sIx items.size 0 lo)).toArray):=by
  show((items.toList.drop (sIx items.size 0 lo)).take (sIx items.size items.size hi - sIx items.size 0 lo)).toArray.size<=sizeLine
  rw[be,ng,Db,fu]
  lia
 have hj:sIx items.size items.size hi<=items.size:=Ez _ _ (ai _) hi
 obtain⟨os,hos,hcs,hds⟩:=id hs
 have hTs:s.TypeIs (.ref sl) "slice":=⟨os,hos,hcs⟩
 unfold getItem
 try with_reducible refine sk ?_
 first|refine zza (zzb ?_)|skip
 refine zza (wpAny_sequenceKey ht.typeIs (by decide) ?_)
 refine zza (se (name:=Str.ofString "__getitem__") ht.typeIs Ch
  (wd Ch ht.typeIs entry_tuple_getitem ?_ (args_tuple_getitem _ _)))
 show wpAny _ _ (Builtin.Tuple.tupleItemsOf (.ref t) >>= _) _ _ s
 refine zza (tupleItemsOf_ ht ?_)
 refine zza (JM hTs ?_)
 rw[aw (by decide)]
 refine zza (fq hs pl pu ?_)
 have hno:¬ ((((sIx items.size 0 lo:Nat):Int)==0&&(1:Int)==1&&(sIx items.size items.size hi - sIx items.size 0 lo)==items.size)=true):=by
  intro q
  rw[ax,ax]at q
  have q1:((sIx items.size 0 lo:Nat):Int)=0:=eq_of_beq q.1.1
  have q2:sIx items.size items.size hi - sIx items.size 0 lo=items.size:=eq_of_beq q.2
  exact hw ⟨by lia,by lia⟩
 show wpAny _ _ (if(((sIx items.size 0 lo:Nat):Int)==0&&(1:Int)==1&&(sIx items.size items.size hi - sIx items.size 0 lo)==items.size)=true then _ else _) _ _ s
 rw[am hno,zw]
 first
  | exact zza (m:=Builtin.Tuple.tupleExact _) (pi (zzb ⟨_,rfl,zzb h⟩) htake)
  | exact zza (m:=Builtin.Tuple.tupleExact _) (pi (zza (zzb (zzb ⟨_,rfl,zzb h⟩))) htake)
  | exact zza (zza (m:=Builtin.Tuple.tupleExact _) (pi (zzb (zzb ⟨_,rfl,zzb h⟩)) htake))
  | exact zza (zza (m:=Builtin.Tuple.tupleExact _) (pi (zzb ⟨_,rfl,zzb h⟩) htake))
end
end HT
namespace L2
open PySem PySem.Spec PyProof.Rows
variable {xs:List V}{X:Cx}{n:Nat}{pins:zzk}{Z:St}{H:Hp}{s:Shared}
abbrev TO:=St->Hp->(Option Int->Hp->Prop)->Prop
def PO(X:Cx)(e:Option Expr)(t:TO):Prop :=
 ∀(pins:zzk) (s:Shared) (Z:St) (H:Hp) (Q:Option Int->Hp->Prop),Inv X pins Z H s->t Z H Q ->
  wpAny (model X.prog X.w) X.A (evalPart e X.env) (λu s'=>∃o H',Inv X pins Z H' s'/\IsPart u o/\Q o H') X.xe s
def By:TO:=λ_ H Q=>Q none H
def GM(t:TE):TO:=λZ H Q=>t Z H λx H1=>∃i,x=.int i/\Q (some i) H1
theorem intsAre_of{ns:List Int}:∀{us:List Value},Vals (ns.map V.int) us->IntsAre us ns:=by
 induction ns with
 | nil=>intro us r;rw[K2]at r;cases r;exact .nil
 | cons n ns ih =>
  intro us r
  rw[bj]at r
  cases r with
  | cons r1 r2 =>
   obtain⟨t,e⟩:=r1
   subst e
   exact .cons n t (ih r2)
section
variable {e:Expr} {te:TE} {lo hi:Option Expr} {tl th:TO} {pos p2:Pos}
theorem BZ:PO X none By:=by
 intro pins s Z H Q I h
 rw[evalPart_none]
 exact zzb ⟨none,H,I,.none,h⟩
theorem BY(h:PE X e te):PO X (some e) (GM te):=by
 intro pins s Z H Q I hw
 rw[evalPart_some]
 refine thn (h pins s Z H _ I hw) λu s1 ⟨x,H1,I1,r1,q1⟩=>?_
 obtain⟨i,rfl,q⟩:=q1
 obtain⟨t,rfl⟩:=r1
 exact⟨some i,H1,I1,.int i t,q⟩
def SlR(X:Cx)(r:V->Option Int->Option Int->Hp->VK->Prop):Prop :=
 ∀(pins:zzk) (s:Shared) (Z:St) (H:Hp) (x:V) (v vl vu:Value) (lo hi:Option Int) (sl:Addr) (Q:VK),Inv X pins Z H s->RelV x v->s.heap.IsSliceOf sl vl vu .none->IsPart vl lo->IsPart vu hi->r x lo hi H Q ->
  ∃T id,typeLookup (.type T) "__getitem__" = pure (some (.builtin id))/\s.TypeIs v T/\wpAny (model X.prog X.w) X.A (getItem v (.ref sl)) (EP X pins Z Q) X.xe s
theorem SlR.or{r r':V->Option Int->Option Int->Hp->VK->Prop}(h:SlR X r)(h':SlR X r'):SlR X (λx lo hi H Q=>r x lo hi H Q\/r' x lo hi H Q):=by
 intro pins s Z H x v vl vu lo hi sl Q I rx hs pl pu q
 rcases q with q|q
 ·exact h pins s Z H x v vl vu lo hi sl Q I rx hs pl pu q
 ·exact h' pins s Z H x v vl vu lo hi sl Q I rx hs pl pu q
def tSl(r:V->Option Int->Option Int->Hp->VK->Prop)(te:TE)(tl th:TO):TE:=λZ H Q=>te Z H λx H1=>tl Z H1 λl H2=>th Z H2 λu H3=>r x l u H3 Q
theorem zC{r:V->Option Int->Option Int->Hp->VK->Prop}(hr:SlR X r)(he:PE X e te)(hl:PO X lo tl)(hu:PO X hi th):PE X (.Subscript e (.Slice lo hi none p2) pos) (tSl r te tl th):=by
 intro pins s Z H Q I h
 refine Subscript_ (thn (he pins s Z H _ I h) λv s1 ⟨x,H1,I1,r1,q1⟩=>?_)
 refine wpAny_Slice (thn (hl pins s1 Z H1 _ I1 q1) λvl s2 ⟨l,H2,I2,pl,q2⟩=>thn (hu pins s2 Z H2 _ I2 q2) λvu s3 ⟨u,H3,I3,pu,q3⟩=>?_)
 rw[evalPart_none]
 refine zzb ?_
 have I4:Inv X pins Z H3 { s3 with heap:=s3.heap.push { cls:=.type "slice",data:=.fields #[vl,vu,.none] } }:=I3.kept (t':=s3.toks) λb ob q=>zzc _ q
 obtain⟨T,id,hT,ht,hg⟩:=hr pins { s3 with heap:=s3.heap.push { cls:=.type "slice",data:=.fields #[vl,vu,.none] } } Z H3 x v vl vu l u s3.heap.objs.size Q I4 r1 (Heap.IsSliceOf.new ..) pl pu q3
 show wpAny (model X.prog X.w) X.A (subscriptTail e (.Slice lo hi none p2) v (.ref s3.heap.objs.size)) (EP X pins Z Q) X.xe { s3 with heap:=s3.heap.push { cls:=.type "slice",data:=.fields #[vl,vu,.none] } }
 exact tail_any (ops:=[.ref s3.heap.objs.size,v]) ht hT hg (by with_unfolding_all rfl)
def sO(xs:List V)(lo hi:Option Int):List V:=(xs.drop (HT.sIx xs.length 0 lo)).take (HT.sIx xs.length xs.length hi - HT.sIx xs.length 0 lo)
theorem kz(xs:List V)(lo hi:Option Int):(sO xs lo hi).length<=xs.length:=by
 unfold sO
 rw[ng,Db]
 lia
def IR(K:PySem.W.Frag):V->Option Int->Option Int->Hp->VK->Prop:=λx lo hi H Q=>∃a xs,x=.ref a/\SqT K H a xs /\
 ¬ (HT.sIx xs.length 0 lo=0/\HT.sIx xs.length xs.length hi=xs.length)/\∀p,H p=none->Q (.ref p) (upd H p (.tup (sO xs lo hi)))
theorem sl_tup:SlR X (IR X.K):=by
 intro pins s Z H x v vl vu lo hi sl Q I rx hs pl pu h
 obtain⟨a,xs,rfl,hx,hw,q⟩:=h
 cases rx
 obtain⟨its,r,ht,hz⟩:=I.tuple hx
 have hlen:its.toArray.size=xs.length:=by rw[be];exact r.length.symm
 refine⟨"tuple",_,PyProof.Rows.slot_tuple_getitem.lookup,ht.typeIs,?_⟩
 refine HT.getItem_tuple_cut ht hs pl pu (by rw[hlen];exact hw) ?_ (by rw[hlen];exact hz)
 rw[hlen]
 refine⟨.ref s.heap.objs.size,_,I.laid (t':=s.toks) (o:=.tup (sO xs lo hi)) (λb ob q=>zzc _ q) (ai _) ?_,rfl,q _ (I.hok.fresh (ai _))⟩
 exact⟨ir (kz xs lo hi) hz,_,(r.drop (HT.sIx xs.length 0 lo)).take (HT.sIx xs.length xs.length hi - HT.sIx xs.length 0 lo),IsTup.new _ _,TupN.new _ _⟩
def Hd(K:PySem.W.Frag):R2:=λx y H Q=>∃a b ns ms,x=.ref a/\y=.ref b/\SqT K H a (ns.map V.int)/\SqT K H b (ms.map V.int)/\Q (.bl (HT.lexLt ns ms)) H
theorem E5(hu:X.A.units<cLine):OpR X (compareOp .Lt) (Hd X.K):=by
 intro pins s Z H x y v u Q I rx ry h
 obtain⟨a,b,ns,ms,rfl,rfl,ha,hb,q⟩:=h
 cases rx
 cases ry
 obtain⟨its,r1,p1,_⟩:=I.tuple ha
 obtain⟨its2,r2,p2,_⟩:=I.tuple hb
 have i1:IntsAre its.toArray.toList ns:=intsAre_of r1
 have i2:IntsAre its2.toArray.toList ms:=intsAre_of r2
 exact HT.lt_tupInts p1 p2 i1 i2 hu ⟨.bl (HT.lexLt ns ms),H,I,rfl,q⟩
def Hl(K:PySem.W.Frag):R2:=λx y H Q=>∃a b xs ys,x=.ref a/\y=.ref b/\SqT K H a xs/\SqT K H b ys/\xs≠[]/\xs.length+ys.length<=sizeLine /\
 (ys=[]->Q (.ref a) H)/\(ys≠[]->∀p,H p=none->Q (.ref p) (upd H p (.tup (xs++ys))))
theorem Vals.nil_iff{us:List Value}(r:Vals xs us):us=[]↔xs=[]:=by
 cases r with
 | nil=>simp
 | cons _ _=>simp
theorem B8:OpR X (binaryOp .Add) (Hl X.K):=by
 intro pins s Z H x y v u Q I rx ry h
 obtain⟨a,b,xs,ys,rfl,rfl,ha,hb,hx,hz,q1,q2⟩:=h
 cases rx
 cases ry
 obtain⟨its,r1,p1,_⟩:=I.tuple ha
 obtain⟨its2,r2,p2,_⟩:=I.tuple hb
 refine HT.cat_tup p1 p2 (λz=>hx (r1.nil_iff.mp z)) (λz=>⟨.ref a,H,I,rfl,q1 (r2.nil_iff.mp z)⟩) (λz=>?_) (by rw[<-r1.length,<-r2.length];exact hz)
 refine⟨.ref s.heap.objs.size,_,I.laid (t':=s.toks) (o:=.tup (xs++ys)) (λb ob q=>zzc _ q) (ai _) ?_,rfl,q2 (λw=>z (r2.nil_iff.mpr w)) _ (I.hok.fresh (ai _))⟩
 exact⟨by rw[zzf];exact hz,_,r1.append r2,IsTup.new _ _,TupN.new _ _⟩
end
def ixN(n:Nat)(i:Int):Option Nat:=if 0<=i then(if i<n then some i.toNat else none)else if -(n:Int)<=i then some (i+n).toNat else none
def atI{α:Type}(xs:List α)(i:Int):Option α:=(ixN xs.length i).bind λj=>xs[j]?
theorem wg{i:Int}{j:Nat}(h:ixN n i=some j):seqIndex? i n=some j/\j<n /\ -(n:Int)<=i/\i<n:=by
 unfold ixN at h
 by_cases h0:0<=i
 ·rw[aw h0]at h
  by_cases h1:i<n
  ·rw[aw h1]at h
   have e:i.toNat=j:=Option.some.inj h
   exact⟨by rw[seqIndex_of h0 h1,e],by lia,by lia,h1⟩
  ·rw[am h1]at h;cases h
 ·rw[am h0]at h
  by_cases h1 : -(n:Int)<=i
  ·rw[aw h1]at h
   have e:(i+n).toNat=j:=Option.some.inj h
   exact⟨by rw[seqIndex_neg (by lia) h1,e],by lia,h1,by lia⟩
  ·rw[am h1]at h;cases h
theorem lc{α:Type}{xs:List α}{i:Int}{v:α}(h:atI xs i=some v):∃j,seqIndex? i xs.length=some j/\xs[j]? = some v/\j<xs.length /\ -(xs.length:Int)<=i/\i<xs.length:=by
 unfold atI at h
 cases e:ixN xs.length i with
 | none=>rw[e]at h;cases h
 | some j =>
  rw[e]at h
  obtain⟨h1,h2,h3,h4⟩:=wg e
  exact⟨j,h1,h,h2,h3,h4⟩
def qO(b:Expr):Prop:=∀o i,subscripted b false o i=operate [o,i] (getItem o i)
def IxR(X:Cx)(r:R2):Prop :=
 ∀(value slice:Expr) (pins:zzk) (s:Shared) (Z:St) (H:Hp) (x y:V) (v u:Value) (Q:VK),Inv X pins Z H s->RelV x v->RelV y u->r x y H Q ->
  subscripted slice false v u=operate [v,u] (getItem v u)->wpAny (model X.prog X.w) X.A (subscriptTail value slice v u) (EP X pins Z Q) X.xe s
def MtR(X:Cx)(id:String)(r:V->List V->Hp->VK->Prop):Prop :=
 ∀(pins:zzk) (s:Shared) (Z:St) (H:Hp) (x:V) (xs:List V) (v:Value) (us:List Value) (Q:VK),Inv X pins Z H s->RelV x v->Vals xs us->r x xs H Q ->
  wpAny (model X.prog X.w) X.A (call (.builtin id) (v::us)) (EP X pins Z Q) X.xe s
section
variable {a b:Expr} {ta tb:TE} {pos:Pos}
theorem IxR.or{r r':R2}(h:IxR X r)(h':IxR X r'):IxR X (λx y H Q=>r x y H Q\/r' x y H Q):=by
 intro value slice pins s Z H x y v u Q I rx ry q hs
 rcases q with q|q
 ·exact h value slice pins s Z H x y v u Q I rx ry q hs
 ·exact h' value slice pins s Z H x y v u Q I rx ry q hs
theorem DU{r:R2}(hr:IxR X r)(ha:PE X a ta)(hb:PE X b tb)(hs:qO b):PE X (.Subscript a b pos) (tOp r ta tb):=by
 intro pins s Z H Q I h
 exact Subscript_ (Gg ha hb I h λv u s2 x y H2 I2 rx ry q=>hr a b pins s2 Z H2 x y v u Q I2 rx ry q (hs _ _))
def Hi(K:PySem.W.Frag):R2:=λx y H Q=>∃p xs i v,x=.ref p/\y=.int i/\SqL K H p xs/\atI xs i=some v/\Q v H
def Hg(K:PySem.W.Frag):R2:=λx y H Q=>∃p xs i v,x=.ref p/\y=.int i/\SqT K H p xs/\atI xs i=some v/\Q v H
def Hh:R2:=λx y H Q=>∃z i c,x=.str z/\y=.int i/\z.length<=sizeLine/\atI z.cps.toList i=some c/\Q (.str ⟨#[c]⟩) H
theorem ix_list:IxR X (Hi X.K):=by
 intro value slice pins s Z H x y v u Q I rx ry h hs
 obtain⟨p,xs,i,z,rfl,rfl,hq,he,q⟩:=h
 cases rx
 obtain⟨t,rfl⟩:=ry
 obtain⟨its,r,pl,hz⟩:=I.list hq
 obtain⟨j,h1,h2,h3,h4,h5⟩:=lc he
 obtain⟨w,ew,rw'⟩:=r.get h2
 have hl:=r.length
 have hn:=gZ
 have fin:EP X pins Z Q w s:=⟨z,H,I,rw',q⟩
 by_cases h0:0<=i
 ·have hj:i.toNat=j:=by
   rw[seqIndex_of h0 h5]at h1
   exact Option.some.inj h1
  exact item_listR pl.isList h0 (by lia) (by rw[hj];simpa using ew) fin hs
 ·have hj:(i+(its.toArray.size:Int)).toNat=j:=by
   rw[seqIndex_neg (by lia) h4]at h1
   rw[be,<-hl]
   exact Option.some.inj h1
  exact subscriptTail_builtinR (x:=w) pl.isList.typeIs slot_list_getitem.lookup
   (wpAny_getItem_list_neg (Q:=λr s'=>r=w/\EP X pins Z Q r s') pl.isList (by lia) (by rw[be]<;>lia) (by lia) (by rw[hj];simpa using ew) ⟨rfl,fin⟩) hs
theorem ix_tup:IxR X (Hg X.K):=by
 intro value slice pins s Z H x y v u Q I rx ry h hs
 obtain⟨p,xs,i,z,rfl,rfl,hq,he,q⟩:=h
 cases rx
 obtain⟨t,rfl⟩:=ry
 obtain⟨its,r,pl,hz⟩:=I.tuple hq
 obtain⟨j,h1,h2,h3,h4,h5⟩:=lc he
 obtain⟨w,ew,rw'⟩:=r.get h2
 have hl:=r.length
 have hn:=gZ
 have fin:EP X pins Z Q w s:=⟨z,H,I,rw',q⟩
 exact subscriptTail_builtinR (x:=w) pl.typeIs slot_tuple_getitem.lookup
  (getItem_tuple (j:=j) (Q:=λr s'=>r=w/\EP X pins Z Q r s') pl (by lia) (by lia) (by rw[be,<-hl];exact h1) (by simpa using ew) ⟨rfl,fin⟩) hs
theorem Fz:IxR X Hh:=by
 intro value slice pins s Z H x y v u Q I rx ry h hs
 obtain⟨z,i,c,rfl,rfl,hz,he,q⟩:=h
 obtain⟨t,rfl⟩:=rx
 obtain⟨t',rfl⟩:=ry
 obtain⟨j,h1,h2,h3,h4,h5⟩:=lc he
 have hl:z.cps.toList.length=z.length:=by simp[Str.length]
 rw[hl]at h1 h4 h5
 have hn:=gZ
 exact tail_any (typeIs_str s z t) slot_str_getitem.lookup (getItem_str (c:=c) (by
  have e1:decide (i < -(2^63:Int))=false:=cr (by lia)
  have e2:decide (i>=2^63)=false:=cr (by lia)
  rw[e1,e2,Bool.or_false]) (by rw[h1];simpa using h2) ⟨.str ⟨#[c]⟩,H,I.tok _,⟨_,rfl⟩,q⟩) hs
def rIx(K:PySem.W.Frag):R2:=λx y H Q=>Hi K x y H Q\/Hg K x y H Q\/Hh x y H Q
theorem FA:IxR X (rIx X.K):=ix_list.or (ix_tup.or Fz)
theorem uh(its:List Value)(n j:Nat)(u:Value):Obj.mapSeq (·.setIfInBounds j u) { cls:=.type "list",data:=.seq its.toArray n }={ cls:=.type "list",data:=.seq (its.set j u).toArray n }:=by
 simp[Obj.mapSeq]
theorem Inv.lst{p:Addr}(I:Inv X pins Z H s)(h:H p=some (.lst xs)) :
  ∃(its:List Value) (n:Nat),Vals xs its/\s.heap.get? p=some { cls:=.type "list",data:=.seq its.toArray n }/\xs.length<=sizeLine:=by
 obtain⟨z,its,n,r,e⟩:=I.hok p _ h
 exact⟨its,n,r,e,z⟩
theorem Inv.lstUpd{p:Addr}{ys:List V}{its its':List Value}{n':Nat}{f:Obj->Obj}(I:Inv X pins Z H s)(h:H p=some (.lst xs))
  (ho:s.heap.get? p=some { cls:=.type "list",data:=.seq its.toArray n }) (hf:f { cls:=.type "list",data:=.seq its.toArray n }={ cls:=.type "list",data:=.seq its'.toArray n' }) (r:Vals ys its') (hz:ys.length<=sizeLine) (t:Nat) :
  Inv X pins Z (upd H p (.lst ys)) { s with heap:=s.heap.update p f,toks:=t }:=by
 have e:(s.heap.update p f).get? p=some { cls:=.type "list",data:=.seq its'.toArray n' }:=by
  rw[ue f ho (by rw[hf]<;>rfl),hf]
 refine I.write (x:=p) (e:=p) (by rw[h];trivial) (.inl rfl) (λb u hb q=>(wa _ _ (Ne.symm hb)).trans q) ⟨_,e⟩ ?_
 exact⟨hz,its',n',r,e⟩
def Hc:V->V->V->Hp->(Hp->Prop)->Prop:=λo i v H Q=>∃p xs k j,o=.ref p/\i=.int k/\H p=some (.lst xs)/\ixN xs.length k=some j/\Q (upd H p (.lst (xs.set j v)))
theorem set_list:GB X Hc:=by
 intro pins s Z H o i v ov iv u Q I ro ri rv h
 obtain⟨p,xs,k,j,rfl,rfl,hp,hj,q⟩:=h
 cases ro
 obtain⟨t,rfl⟩:=ri
 obtain⟨its,n,r,ho,hz⟩:=I.lst hp
 obtain⟨h1,h2,h3,h4⟩:=wg hj
 have hl:=r.length
 have hn:=gZ
 have I':Inv X pins Z (upd H p (.lst (xs.set j v))) { s with heap:=s.heap.update p (Obj.mapSeq (·.setIfInBounds j u)) } :=
  I.lstUpd hp ho (uh its n j u) (r.set rv j) (by rw[List.length_set];exact hz) s.toks
 by_cases h0:0<=k
 ·have hk:k.toNat=j:=by
   rw[seqIndex_of h0 h4]at h1
   exact Option.some.inj h1
  exact PySem.W.ki_setAt ho h0 (by lia) (by rw[be,<-hl];exact h4) (by rw[hk];exact⟨_,I',q⟩)
 ·have hk:(k+(its.toArray.size:Int)).toNat=j:=by
   rw[seqIndex_neg (by lia) h3]at h1
   rw[be,<-hl]
   exact Option.some.inj h1
  exact PySem.W.ki_setBack ho (by lia) (by rw[be,<-hl];exact h3) (by lia) (by rw[hk];exact⟨_,I',q⟩)
theorem pO(lo hi:Option Int)(n:Nat):(sliceBounds lo hi none n).1=((HT.sIx n 0 lo:Nat):Int)/\(sliceBounds lo hi none n).2.1=((HT.sIx n n hi:Nat):Int)/\(sliceBounds lo hi none n).2.2=1:=by
 refine⟨?_,?_,rfl⟩
 ·cases lo with
  | none=>simp[sliceBounds,HT.sIx]
  | some i =>
   simp only[sliceBounds,HT.sIx,Option.getD_none,show(1:Int)>0 by decide,At]
   by_cases h:i<0
   ·simp only[h,At]<;>lia
   ·simp only[h,JU]<;>lia
 ·cases hi with
  | none=>simp[sliceBounds,HT.sIx]
  | some i =>
   simp only[sliceBounds,HT.sIx,Option.getD_none,show(1:Int)>0 by decide,At]
   by_cases h:i<0
   ·simp only[h,At]<;>lia
   ·simp only[h,JU]<;>lia
theorem nF(its:List Value)(lo hi:Option Int):slicePick its.toArray lo hi none=((its.drop (HT.sIx its.length 0 lo)).take (HT.sIx its.length its.length hi - HT.sIx its.length 0 lo)).toArray:=by
 obtain⟨h1,h2,h3⟩:=pO lo hi its.toArray.size
 unfold slicePick
 rw[h1,h2,h3]
 simp only[sliceRange_one,pick_run,be]<;>rfl
def IS(K:PySem.W.Frag):V->Option Int->Option Int->Hp->VK->Prop:=λx lo hi H Q=>∃a xs,x=.ref a/\SqL K H a xs/\∀p,H p=none->Q (.ref p) (upd H p (.lst (sO xs lo hi)))
theorem BC:SlR X (IS X.K):=by
 intro pins s Z H x v vl vu lo hi sl Q I rx hs pl pu h
 obtain⟨a,xs,rfl,hx,q⟩:=h
 cases rx
 obtain⟨its,r,ht,hz⟩:=I.list hx
 have hlen:=r.length
 refine⟨"list",_,slot_list_getitem.lookup,ht.isList.typeIs,?_⟩
 refine wpAny_getItem_list_slice ht.isList hs pl pu .none (by simp) ?_ (by rw[be]<;>lia)
 rw[nF,<-hlen]
 refine⟨.ref s.heap.objs.size,_,I.laid (t':=s.toks) (o:=.lst (sO xs lo hi)) (λb ob q=>zzc _ q) (ai _) ?_,rfl,q _ (I.hok.fresh (ai _))⟩
 exact⟨ir (kz xs lo hi) hz,_,0,(r.drop (HT.sIx xs.length 0 lo)).take (HT.sIx xs.length xs.length hi - HT.sIx xs.length 0 lo),zze _ rfl⟩
theorem qC:CallR X (.builtin "len") (λxs H Q=>∃p ys,xs=[.ref p]/\(SqL X.K H p ys\/SqT X.K H p ys)/\Q (.int ys.length) H):=by
 intro pins s Z H xs us Q I r h
 obtain⟨p,ys,rfl,hq,q⟩:=h
 obtain⟨u,rfl,rx⟩:=vals1 r
 cases rx
 have hn:=gZ
 rcases hq with hq|hq
 ·obtain⟨its,r',pl,hz⟩:=I.list hq
  have hlen:=r'.length
  exact Calls.call_len_list pl.isList (by simp only[be]<;>lia) ⟨.int ys.length,H,I.tok _,⟨s.toks+1,by rw[be,hlen]⟩,q⟩
 ·obtain⟨its,r',pl,hz⟩:=I.tuple hq
  have hlen:=r'.length
  exact len_tuple pl (by simp only[be]<;>lia) ⟨.int ys.length,H,I.tok _,⟨s.toks+1,by rw[be,hlen]⟩,q⟩
theorem qB:CallR X (.builtin "len") (λxs H Q=>∃z,xs=[.str z]/\z.length<=sizeLine/\Q (.int z.length) H):=by
 intro pins s Z H xs us Q I r h
 obtain⟨z,rfl,hz,q⟩:=h
 obtain⟨u,rfl,t,rfl⟩:=vals1 r
 have hn:=gZ
 exact len_str (by lia) ⟨.int z.length,H,I.tok _,⟨_,rfl⟩,q⟩
theorem CallR.or{f:Value}{r r':List V->Hp->VK->Prop}(h:CallR X f r)(h':CallR X f r'):CallR X f (λxs H Q=>r xs H Q\/r' xs H Q):=by
 intro pins s Z H xs us Q I rs q
 rcases q with q|q
 ·exact h pins s Z H xs us Q I rs q
 ·exact h' pins s Z H xs us Q I rs q
theorem qA:CallR X (.type "list") (λxs H Q=>∃p ys,xs=[.ref p]/\(SqL X.K H p ys\/SqT X.K H p ys)/\∀l,H l=none->Q (.ref l) (upd H l (.lst ys))):=by
 intro pins s Z H xs us Q I r h
 obtain⟨p,ys,rfl,hq,q⟩:=h
 obtain⟨u,rfl,rx⟩:=vals1 r
 cases rx
 have fin:∀(its:List Value),Vals ys its->ys.length<=sizeLine->∀(h':Heap) (c':Nat),(∀b o',s.heap.get? b=some o'->h'.get? b=some o') ->
   h'.get? s.heap.objs.size=some { cls:=.type "list",dict:=none,data:=.seq its.toArray c',slots:=#[] }->EP X pins Z Q (.ref s.heap.objs.size) { s with heap:=h' }:=λits r' hz h' c' kp e =>
  ⟨.ref s.heap.objs.size,_,I.laid (t':=s.toks) kp (ai _) (show ObjOk X.prog X.w _ h' _ (.lst ys)from⟨hz,its,c',r',e⟩),rfl,q _ (I.hok.fresh (ai _))⟩
 rcases hq with hq|hq
 ·obtain⟨its,r',pl,hz⟩:=I.list hq
  have hlen:=r'.length
  obtain⟨o,ho,hc,n,hd⟩:=pl.isList
  exact call_list_seq p (.inl rfl) ho hc hd (λh' c' kp e=>fin its r' hz h' c' kp e) (by simp only[be]<;>lia)
 ·obtain⟨its,r',pl,hz⟩:=I.tuple hq
  have hlen:=r'.length
  obtain⟨o,ho,hc,n,hd⟩:=pl
  exact call_list_seq p (.inr rfl) ho hc hd (λh' c' kp e=>fin its r' hz h' c' kp e) (by simp only[be]<;>lia)
theorem bB:CallR X (.type "tuple") (λxs H Q=>∃p ys,xs=[.ref p]/\((SqL X.K H p ys/\∀l,H l=none->Q (.ref l) (upd H l (.tup ys)))\/(SqT X.K H p ys/\Q (.ref p) H))):=by
 intro pins s Z H xs us Q I r h
 obtain⟨p,ys,rfl,h⟩:=h
 obtain⟨u,rfl,rx⟩:=vals1 r
 cases rx
 rcases h with ⟨hq,q⟩|⟨hq,q⟩
 ·obtain⟨its,r',pl,hz⟩:=I.list hq
  have hlen:=r'.length
  refine call_tuple_list pl.isList (λh' kp=>?_) (by simp only[be]<;>lia)
  have I1:Inv X pins Z H { s with heap:=h' }:=I.kept (t':=s.toks) kp
  have I2:Inv X pins Z (upd H h'.objs.size (.tup ys)) { s with heap:=h'.push { cls:=.type "tuple",data:=.seq its.toArray } } :=
   I1.laid (t':=s.toks) (λb o e=>zzc _ e) (ai _) (show ObjOk X.prog X.w _ _ _ (.tup ys)from⟨hz,its,r',IsTup.new _ _,TupN.new _ _⟩)
  exact⟨.ref h'.objs.size,_,I2,rfl,q _ (I1.hok.fresh (ai _))⟩
 ·obtain⟨its,r',pl,hz⟩:=I.tuple hq
  exact call_tuple_same pl ⟨.ref p,H,I,rfl,q⟩
def tyV(K:PySem.W.Frag)(T:String)(x:V)(H:Hp):Prop:=match x with
 | .str _=>T = "str"
 | .int _=>T = "int"
 | .ref p=>(T = "list" /\ ∃xs,SqL K H p xs)\/(T = "tuple" /\ ∃o,K.lookup p=some o/\o.cls=.type "tuple" /\ o.dict=none) \/
   (T = "dict" /\ ((∃kvs,H p=some (.dK kvs))\/∃kvs,H p=some (.dT kvs)))\/(T = "set" /\ ∃S n,H p=some (.set S n))
 | _=>False
theorem yN{T:String}{x:V}{v:Value}(I:Inv X pins Z H s)(r:RelV x v)(ty:tyV X.K T x H) :
  s.TypeIs v T/\∀a,v=.ref a->∃ob,s.heap.get? a=some ob/\ob.dict=none:=by
 cases x with
 | str z =>
  obtain⟨t,rfl⟩:=r
  cases (show T = "str" from ty)
  exact⟨typeIs_str s z t,λ_ e=>nomatch e⟩
 | int i =>
  obtain⟨t,rfl⟩:=r
  cases (show T = "int" from ty)
  exact⟨typeIs_int s i t,λ_ e=>nomatch e⟩
 | ref p =>
  cases r
  rcases ty with ⟨rfl,xs,hq⟩|⟨rfl,o,hk,hc,hd⟩|⟨rfl,hk⟩|⟨rfl,S,n,hk⟩
  ·obtain⟨its,_,pl,_⟩:=I.list hq
   refine⟨pl.isList.typeIs,λa e=>?_⟩
   cases e
   obtain⟨o,n,e,c,hd,_⟩:=pl
   exact⟨o,e,hd⟩
  ·refine⟨⟨o,I.kIn p o hk,hc⟩,λa e=>?_⟩
   cases e
   exact⟨o,I.kIn _ o hk,hd⟩
  ·have z:∃o,s.heap.get? p=some o/\o.ExactDict:=by
    rcases hk with ⟨kvs,hk⟩|⟨kvs,hk⟩
    ·obtain⟨_,_,_,_,o,_,_,e,ex,_⟩:=I.hok p _ hk
     exact⟨o,e,ex⟩
    ·obtain⟨_,_,_,_,o,_,_,e,ex,_⟩:=I.hok p _ hk
     exact⟨o,e,ex⟩
   obtain⟨o,e,ex⟩:=z
   refine⟨⟨o,e,ex.1⟩,λa e2=>?_⟩
   cases e2
   exact⟨o,e,ex.2.1⟩
  ·obtain⟨o,_,_,_,e,ex,_⟩:=I.hok p _ hk
   refine⟨⟨o,e,ex.1⟩,λa e2=>?_⟩
   cases e2
   exact⟨o,e,ex.2.1⟩
 | _=>exact False.elim ty
def II(K:PySem.W.Frag)(T:String)(r:V->List V->Hp->VK->Prop)(to:TE):TE:=λZ H Q=>to Z H λx H1=>tyV K T x H1/\r x [] H1 Q
def tBM(K:PySem.W.Frag)(T:String)(r:V->List V->Hp->VK->Prop)(to:TE)(t:TA):TE:=λZ H Q=>to Z H λx H1=>tyV K T x H1/\t Z H1 λxs H2=>r x xs H2 Q
variable {o e:Expr} {es:List Expr} {to:TE} {t:TA} {name:Str} {apos cpos:Pos} {T id:String} {r:V->List V->Hp->VK->Prop}
theorem EW(pa:PlainAttrs T)(slot:Slot T name id)(hty:typeOf (.builtin id)=pure (.type "method_descriptor"))(hm:MtR X id r)(ho:PE X o to)
  (hbase:attributeBase o name X.env (eval o X.env)=eval o X.env:=by rfl) (hline:(apos.endLine==cpos.line)=true:=by rfl):PE X (.Call (.Attribute o name apos) [] [] cpos) (II X.K T r to):=by
 intro pins s Z H Q I h
 refine wpAny_Call_method0_late hbase hline (thn (ho pins s Z H _ I h) λv s1 ⟨x,H1,I1,r1,ty,q1⟩=>?_)
 obtain⟨h1,h2⟩:=yN I1 r1 ty
 exact⟨T,id,pa,slot,hty,h1,h2,K3 rfl (PySem.evalArgs_none (hm pins s1 Z H1 x [] v [] Q I1 r1 .nil q1))⟩
theorem DV(pa:PlainAttrs T)(slot:Slot T name id)(hty:typeOf (.builtin id)=pure (.type "method_descriptor"))(hm:MtR X id r)(ho:PE X o to)(ha:PA X (e::es) t)
  (hbase:attributeBase o name X.env (eval o X.env)=eval o X.env:=by rfl)
  (hfew:((backTo cpos (starEach (e::es) X.env)).all (λx=>!x.1)&&(backToKw cpos (keywordEach [] X.env)).all (λx=>x.1.isSome)
   && decide ((e::es).length+([]:List Keyword).length+(if([]:List Keyword).isEmpty then 0 else 1)<30))=true:=by rfl)
  (hline:(apos.endLine==cpos.line)=true:=by rfl) (hs:starEach (e::es) X.env=(false,eval e X.env)::starEach es X.env:=by rfl) (hplain:(backTo cpos (starEach es X.env)).any (·.1)=false:=by rfl) :
  PE X (.Call (.Attribute o name apos) (e::es) [] cpos) (tBM X.K T r to t):=by
 intro pins s Z H Q I h
 refine wpAny_Call_method_late hbase hfew hline rfl (thn (ho pins s Z H _ I h) λv s1 ⟨x,H1,I1,r1,ty,q1⟩=>?_)
 obtain⟨h1,h2⟩:=yN I1 r1 ty
 refine⟨T,id,pa,slot,hty,h1,h2,?_⟩
 have hA:=ha cpos pins s1 Z H1 _ I1 q1
 rw[hs]at hA ⊢
 refine K3 (by show(false||(backTo cpos (starEach es X.env)).any (·.1))=false;rw[hplain]<;>rfl) (Calls.evalArgs_plain ?_)
 exact thn hA λus s2 ⟨vs,H2,I2,r2,q2⟩=>hm pins s2 Z H2 x vs v us Q I2 r1 r2 q2
end
def MtM(X:Cx)(id:String)(r:V->List V->Hp->VK->Prop):Prop :=
 ∀(pins:zzk) (s:Shared) (Z:St) (H:Hp) (x:V) (xs:List V) (v:Value) (us:List Value) (Q:VK),Inv X pins Z H s->RelV x v->Vals xs us->r x xs H Q ->
  wpAny (model X.prog X.w) X.A (call (.builtin id) (v::us)) (EP X pins Z Q) X.xe s
theorem Vals.one:∀{x:V} {us:List Value},Vals [x] us->∃u,us=[u]/\RelV x u:=by
 intro x us h
 cases h with
 | cons r t=>cases t;exact⟨_,rfl,r⟩
theorem Vals.zero:∀{us:List Value},Vals [] us->us=[]
 | _,.nil=>rfl
theorem Vals.dropLast{us:List Value}(h:Vals xs us):Vals xs.dropLast us.dropLast:=by
 induction h with
 | nil=>exact .nil
 | cons r t ih =>
  cases t with
  | nil=>exact .nil
  | cons q t'=>exact .cons r ih
theorem uJ{α:Type}(l:List α):l.eraseIdx (l.length - 1)=l.dropLast:=by
 induction l with
 | nil=>rfl
 | cons a r ih =>
  cases r with
  | nil=>rfl
  | cons b r =>
   have e:(a::b::r).length - 1=((b::r).length - 1)+1:=by
    have h1:(a::b::r).length=r.length+2:=rfl
    have h2:(b::r).length=r.length+1:=rfl
    lia
   rw[e,List.eraseIdx_cons_succ,ih]
   all_goals rfl
section
variable {l b:Addr} {ys zs:List V}
theorem Inv.lset{its its':List Value}{f:Array Value->Array Value}{t':Nat}(I:Inv X pins Z H s)(hH:H l=some (.lst xs))
  (e:s.heap.get? l=some { cls:=.type "list",data:=.seq its.toArray n }) (hf:f its.toArray=its'.toArray) (hv:Vals ys its') (hz:ys.length<=sizeLine) :
  Inv X pins Z (upd H l (.lst ys)) { s with heap:=s.heap.update l (Obj.mapSeq f),toks:=t' }:=by
 have q:=PySem.IsL.update e f
 rw[hf]at q
 refine I.write (x:=l) (e:=l) (by rw[hH];exact trivial) (.inl rfl) (λb' u hb hu=>(wa s.heap (Obj.mapSeq f) (Ne.symm hb)).trans hu) ⟨_,q⟩ ?_
 exact⟨hz,its',_,hv,q⟩
theorem Inv.fresh(I:Inv X pins Z H s):H s.heap.objs.size=none:=I.hok.fresh (ai _)
theorem Inv.lstM(I:Inv X pins Z H s)(hH:H l=some (.lst xs)):xs.length<=sizeLine/\∃(its:List Value) (n:Nat),Vals xs its/\xs.length=its.length/\s.heap.get? l=some { cls:=.type "list",data:=.seq its.toArray n }:=by
 obtain⟨z,its,n,r,e⟩:=I.hok l _ hH
 exact⟨z,its,n,r,r.length,e⟩
theorem zR(h:n<=sizeLine):Builtin.List.listTooLong n=false:=by
 unfold Builtin.List.listTooLong
 exact cr (by lia)
end
section
def BO:V->List V->Hp->VK->Prop:=λx vs H Q=>∃l xs y,x=.ref l/\vs=[y]/\H l=some (.lst xs)/\xs.length<sizeLine/\Q .non (upd H l (.lst (xs++[y])))
theorem xQ:MtM X "list.append" BO:=by
 intro pins s Z H x vs v us Q I rx rv h
 obtain⟨l,xs,y,rfl,rfl,hH,hz,q⟩:=h
 cases rx
 obtain⟨u,rfl,ru⟩:=rv.one
 obtain⟨z,its,n,r,hl,e⟩:=I.lstM hH
 refine call_meets F.slot_list_append ⟨_,e,rfl⟩ F.entry_list_append (F.args_list_append_2 _ _) (PySem.list_append l its.toArray n u (by rw[be];lia)) ⟨e,?_⟩
 refine⟨.non,_,I.lset (its':=its++[u]) hH e (by simp) (r.append (.cons ru .nil)) ?_,rfl,q⟩
 rw[zzf,ny]
 lia
def BM:V->List V->Hp->VK->Prop:=λx vs H Q=>∃l b xs zs,x=.ref l/\vs=[.ref b]/\H l=some (.lst xs)/\H b=some (.lst zs)/\xs.length+zs.length<=sizeLine/\Q .non (upd H l (.lst (xs++zs)))
theorem xP:MtM X "list.extend" BM:=by
 intro pins s Z H x vs v us Q I rx rv h
 obtain⟨l,b,xs,zs,rfl,rfl,hH,hB,hz,q⟩:=h
 cases rx
 obtain⟨u,rfl,ru⟩:=rv.one
 cases ru
 obtain⟨z,its,n,r,hl,e⟩:=I.lstM hH
 obtain⟨z2,its2,n2,r2,hl2,e2⟩:=I.lstM hB
 have hsz:its.toArray.size+its2.toArray.size<=sizeLine:=by rw[be,be];lia
 have hlong:¬ (!its.toArray.isEmpty&&Builtin.List.listTooLong (its.toArray.size+its2.toArray.size))=true:=by
  rw[zR hsz,Bool.and_false]
  exact ul
 refine call_meets F.slot_list_extend ⟨_,e,rfl⟩ F.entry_list_extend (F.args_list_extend_2 _ _)
  (AutoSeq1.list_extend_list_list_0 l its.toArray n b its2.toArray n2 hlong (by rw[be];lia) (by lia)) ⟨e,e2,?_⟩
 refine⟨.non,_,I.lset (its':=its++its2) hH e (by simp) (r.append r2) ?_,rfl,q⟩
 rw[zzf]
 lia
def IV:V->List V->Hp->VK->Prop:=λx vs H Q=>∃l xs y,x=.ref l/\vs=[]/\H l=some (.lst xs)/\xs[xs.length - 1]? = some y/\Q y (upd H l (.lst xs.dropLast))
theorem Fk:MtM X "list.pop" IV:=by
 intro pins s Z H x vs v us Q I rx rv h
 obtain⟨l,xs,y,rfl,rfl,hH,hy,q⟩:=h
 cases rx
 have hus:=rv.zero
 subst hus
 obtain⟨z,its,n,r,hl,e⟩:=I.lstM hH
 obtain⟨u,hu,ru⟩:=r.get hy
 have hy':its.toArray[its.toArray.size - 1]? = some u:=by
  show its.toArray[its.length - 1]? = some u
  rw[<-ug,<-hl]
  exact hu
 refine call_meets F.slot_list_pop ⟨_,e,rfl⟩ F.entry_list_pop (F.args_list_pop_1 _) (MeetsSeq.list_pop_last l its.toArray n u hy' (by rw[be];lia)) ⟨e,?_⟩
 refine⟨y,_,I.lset (its':=its.dropLast) hH e ?_ r.dropLast ?_,ru,q⟩
 ·show its.toArray.eraseIdxIfInBounds (its.toArray.size - 1)=its.dropLast.toArray
  rw[be,List.eraseIdxIfInBounds_toArray,uJ]
 ·rw[List.length_dropLast]
  lia
end
end L2
namespace Att
open PySem PySem.W PySem.Calls PyProof.Rows
theorem kL{P:Params}{h:Heap}:∀(ns:List Int) (vs:List Value),WellAll P h vs (ns.map WData.int)->IntsAre vs ns:=by
 intro ns
 induction ns with
 | nil =>
  intro vs w
  rw[K2]at w
  cases w
  exact .nil
 | cons n ns ih =>
  intro vs w
  rw[bj]at w
  cases w with
  | cons a b =>
   cases a
   exact .cons _ _ (ih _ b)
theorem xx{l:OpenLaw}{n:Nat}(hn:l.most=some n){P:Params}{h:Heap}{args:List WData}{vals:List Value}
  (hpre:l.row.toRowW.claim.pre args=true) (hwl:WellAll P h vals args) :
  ∃a vs ns,vals=[Value.ref a]/\args=[WData.list (ns.map WData.int)]/\h.get? a=some { cls:=.type "list",data:=.seq vs.toArray }/\IntsAre vs ns/\ns.length<=n:=by
 have hsh:WShape.hasAll [] args [.list .int]=true:=(pre_splitW hpre).1
 have hc:l.pre.holds [] { args:=args }=true:=(pre_splitW hpre).2
 obtain⟨d,r,rfl,h1,h2⟩:=hasAllW_cons hsh
 obtain rfl:=hasAllW_nil h2
 obtain⟨xs,rfl,h3⟩:=hasW_list h1
 obtain⟨ns,rfl⟩:=items_int h3
 have hlen:ns.length<=n:=by
  unfold OpenLaw.pre at hc
  have h4:(WTm.not (.lt (.lit (.int (n:Int))) (.len (.arg 0)))).holds [] { args:=[.list (ns.map .int)] }=true:=by
   have h4:=(holds_andW hc).1
   rw[hn]at h4
   exact h4
  have h5:=condW_of h4 (w_not (w_lt w_lit (w_len_list (w_arg rfl))))
  rw[zzd]at h5
  refine Nat.le_of_not_lt λq=>?_
  have q':(n:Int)<((ns.length:Nat):Int):=by lia
  first
   | (rw[eT q']at h5;exact absurd h5 (by decide))
   | (simp at h5;lia)
 cases hwl with
 | cons w1 w2 =>
  cases w2
  cases w1 with
  | list ho hall=>exact⟨_,_,ns,rfl,rfl,ho,kL ns _ hall,hlen⟩
theorem xD(l:OpenLaw)(args:List WData):l.row.toRowW.claim.post args (.bool true) args=true :=
 postW_of (r:=l.row.toRowW) (X:=(true==true))
  (show WShape.has [] (.bool true) .bool=true by first|rfl|decide|simp[WShape.has,WShape.arms,WShape.armsAll])
  (show(WTm.eq .res (.lit (.bool true))).value [] { args:=args,res:=some (.bool true),after:=args }=some (.bool (true==true))from w_eq_bool (w_res rfl) w_lit) rfl
theorem attach_call{l:OpenLaw}{n:Nat}{q:Program}{loose:List Str}{XP:(Str->Option Value)->Heap->Prop}{YP:World->Heap->Prop}{d:DefRec}
  (hn:l.most=some n) (hdf:d.params.defaults=[])
  (call:∀(w:World) (s₀ s₁:Shared) (mg mb:zzl) (fa:Addr) (o:Obj) (pm cd doc:Value) (a:Addr) (vs:List Value) (ns:List Int),
   Ground q loose [] XP w s₀ mg mb s₁.heap->YP w s₁.heap ->
   s₁.heap.get? fa=some o->o.data=.func (docDef d.name d.params d.body d.scope pm cd doc)->s₁.heap.CodeRec cd d.name->mg d.name=some (.ref fa) ->
   s₁.heap.get? a=some { cls:=.type "list",data:=.seq vs.toArray }->IntsAre vs ns->ns.length<=n->s₁.gens = #[] ->
   codeAny (model l.prog w) callerA (.call (.ref fa) ⟨[.ref a],[]⟩) (λr s'=>r=.ok (.ret (.bool true))/\OldK s₁.heap s'.heap/\s'.os=s₁.os/\AllBare s'.gens) s₁) :
  WalkO q loose XP YP l.row.toRowW d [] (λf vs=>PySem.call f vs):=by
 intro w s₀ s₁ mg mb G Y fa o pm cd doc dV kV ho hd hcd hD hmg hg args vals as hpre hlay hrd hwl hlo
 obtain rfl:dV=.none:=Dflts.none hD hdf
 obtain rfl:kV=.none:=Dflts.noKw hD
 obtain⟨a,vs,ns,rfl,rfl,hobj,hints,hlen⟩:=xx hn hpre hwl
 refine enter_call (KU (call w s₀ s₁ mg mb fa o pm cd doc a vs ns G Y ho (fd_plain hd) hcd hmg hobj hints hlen hg) λr s' hq=>?_)
 obtain⟨rfl,h2,h3,h4⟩:=hq
 exact⟨.inl ⟨.bool true,.bool true,[],rfl,λ_=>rfl,.bool true,xD l _,λ_=>⟨List.Pairwise.nil,λ_ hm=>(nomatch hm)⟩⟩,h2,h3,h4⟩
end Att
namespace L2
open PySem PySem.Spec PyProof.Rows
variable {H H':Hp}{X:Cx}{w:World}{P:Program}{pos:Pos}{u:Value}{kvs:List (List Key×V)}{y:V}{s:Shared}{pins:zzk}{Z:St}{scope:Scope}{o:Option V}{x:Str}{A:Around}{elt iter tg:Expr}{ifs:List Expr}{E Q:zzj}{xs:List (List Key×Addr×Value)}{N':List Str}{g:TG}{tc:TT}{te:TE}
theorem nR:∀{vs:List Value} {ns:List Int},IntsAre vs ns->Vals (ns.map V.int) vs
 | _,_,.nil=>.nil
 | _,_,.cons n t h=>.cons ⟨t,rfl⟩ (nR h)
def GC(H:Hp):Prop:=∀b,H b=none\/∃o xs,H b=some (.frz o (.lst xs))
theorem z8{K:PySem.W.Frag}{mg mb:zzl}{CX:CXT}{k:Nat}{fa a:Addr}{fd:FuncData}{sp:Sp}{s₁:Shared}{vs:List Value}{ns:List Int}
  (KX:K.In s₁.heap) (hns:s₁.heap.Ns mainGlobals mg) (hb:s₁.heap.Ns builtinsNs mb) (hbb:∀x:Str,x ≠ "__name__" -> mb x=bootBuiltins x) (hlim:s₁.heap.NoLimit) (hg:s₁.gens = #[])
  (ha:s₁.heap.get? a=some { cls:=.type "list",data:=.seq vs.toArray }) (hi:IntsAre vs ns) (hl:ns.length<=sizeLine) (hr:Room k callerA)
  (F:∀base:Heap,K.In base->base.Ns mainGlobals mg->FnOk P w K mg base CX k fa fd [x] sp) (hbind:∀(s:Shared) (u:Value),BindsTo s fd ⟨[u],[]⟩ [(x,u)])
  (hsp:∀H:Hp,GC H->SqL K H a (ns.map V.int)->sp [.ref a] H (λv _=>v=.bl true) λ_ _ _=>False)
  (hCX:∀H e s',CX [] H s₁ (λ_ _ _=>False) e s'->False) :
  codeAny (model P w) callerA (.call (.ref fa) ⟨[.ref a],[]⟩) (λr s'=>r=.ok (.ret (.bool true))/\OldK s₁.heap s'.heap/\s'.os=s₁.os/\AllBare s'.gens) s₁:=by
 have rv:=nR hi
 have lenV:=hi.length
 have core:∀H:Hp,GC H->SqL K H a (ns.map V.int)->HOk P w H s₁.heap->(∀b,H b≠none->b=a)->(H a≠none->K.lookup a=none) ->
   codeAny (model P w) callerA (.call (.ref fa) ⟨[.ref a],[]⟩) (λr s'=>r=.ok (.ret (.bool true))/\OldK s₁.heap s'.heap/\s'.os=s₁.os/\AllBare s'.gens) s₁:=by
  intro H hO hS hok hA hK
  have base_of:∀{b:Addr} {o:Obj},s₁.heap.get? b=some o->H b=none->(qq s₁.heap H).get? b=some o:=λe n=>Am e n
  have noA:∀{b:Addr} {o:Obj} {es:Array DictEntry} {ep:Nat},s₁.heap.get? b=some o->o.data=.dict es ep->H b=none:=λ{b o es ep} e d=>by
   cases q:H b with
   | none=>rfl
   | some u =>
    have e':b=a:=hA b (by rw[q];simp)
    subst e'
    rw[ha]at e;cases e
    have d':Data.seq vs.toArray _=Data.dict es ep:=d
    cases d'
  have nsK:∀{b:Addr} {m:zzl},s₁.heap.Ns b m->(qq s₁.heap H).Ns b m:=λ{b m} ⟨o,es,ep,e,d,r⟩=>⟨o,es,ep,base_of e (noA e d),d,r⟩
  have hKb:K.In (qq s₁.heap H):=λb o e=>base_of (KX b o e) (by
   cases q:H b with
   | none=>rfl
   | some u =>
    have e':b=a:=hA b (by rw[q];simp)
    subst e'
    rw[hK (by rw[q];simp)]at e;cases e)
  have hM:Mod K mg (qq s₁.heap H):=⟨hKb,nsK hns,⟨mb,nsK hb,hbb⟩,let ⟨mc,h1,h2⟩:=hlim;⟨mc,nsK h1,h2⟩⟩
  have e0:Env0 P w K mg (qq s₁.heap H) callerA [] s₁ H:=⟨rfl,hM,λb o e=>Ci e,Nat.le_of_eq (ya _ _),trivial,λb hb=>absurd (show b∈([]:List Addr)from hb) (by simp),hok,.of_eq hg⟩
  refine KU ((F _ hKb (nsK hns)).run callerA [] s₁ H ⟨[.ref a],[]⟩ [.ref a] [.ref a] _ _ hr e0 (hbind s₁ (.ref a)) (.cons rfl .nil) (hsp H hO hS)) λr s' h=>?_
  cases r with
  | error e=>exact(hCX H e s' h).elim
  | ok fl =>
   cases fl with
   | next=>exact False.elim h
   | brk=>exact False.elim h
   | cont=>exact False.elim h
   | ret u =>
    obtain⟨v,H',os,bare,un,hok',r',q⟩:=h
    have q':v=.bl true:=q
    subst q'
    obtain rfl:u=Value.bool true:=r'
    refine⟨rfl,OldK.of_keep λb o e=>?_,os,bare⟩
    cases q:H b with
    | none=>exact un.keep b o e q (by intro z;exact absurd (show b∈([]:List Addr)from z) (by simp)) (by simp)
    | some u =>
     rcases hO b with z|⟨ob,xs,z⟩
     ·rw[q]at z;cases z
     ·have z2:=un.frzs b ob _ z
      obtain⟨e1,_⟩:=hok b _ z
      obtain⟨e2,_⟩:=hok' b _ z2
      rw[e]at e1;cases e1
      exact e2
 cases hk:K.lookup a with
 | some o =>
  have e:=KX a o hk
  rw[ha]at e
  cases e
  refine core (λ_=>none) (λ_=>.inl rfl) (.inr ⟨_,vs.toArray,_,hk,rfl,rfl,rfl,by rw[be,lenV];exact hl,by simpa using rv⟩) (λb u z=>by have z':(none:Option HO)=some u:=z;cases z') (λb z=>absurd rfl z) λz=>absurd rfl z
 | none =>
  refine core (λb=>if b=a then some (.frz { cls:=.type "list",data:=.seq vs.toArray } (.lst (ns.map V.int)))else none) (λb=>?_) (.inl (.inr ⟨{ cls:=.type "list",data:=.seq vs.toArray },aw rfl⟩)) (λb u z=>?_) (λb z=>?_) λ_=>hk
  ·by_cases hb:b=a
   ·exact .inr ⟨_,_,aw hb⟩
   ·exact .inl (am hb)
  ·by_cases hb:b=a
   ·have z':=(aw hb).symm.trans z
    cases z'
    subst hb
    exact⟨ha,by rw[zzd];exact hl,vs,_,rv,ha⟩
   ·have z':=(am hb).symm.trans z
    cases z'
  ·by_cases hb:b=a
   ·exact hb
   ·exact absurd (am hb) z
theorem walk_of{l:PySem.W.OpenLaw}{n k:Nat}{q:Program}{loose:List Str}{XP:(Str->Option Value)->Heap->Prop}{YP:World->Heap->Prop}{d:DefRec}{K:Params->PySem.W.Frag}{CX:World->CXT}{sp:World->Sp}
  (hn:l.most=some n) (hn2:n<=sizeLine) (hdf:d.params.defaults=[]) (hr:Room k callerA)
  (hY:∀(w:World) (h:Heap),YP w h->(K w.params).In h)
  (F:∀(w:World) (mg:zzl) (fa:Addr) (h:Heap),(K w.params).In h->h.Ns mainGlobals mg->mg d.name=some (.ref fa) ->
   ∃fd:FuncData,(∀(s:Shared) (u:Value),BindsTo s fd ⟨[u],[]⟩ [(x,u)]) /\
    ∀base:Heap,(K w.params).In base->base.Ns mainGlobals mg->FnOk l.prog w (K w.params) mg base (CX w) k fa fd [x] (sp w))
  (hsp:∀(w:World) (H:Hp) (a:Addr) (ns:List Int),ns.length<=n->GC H->SqL (K w.params) H a (ns.map V.int)->sp w [.ref a] H (λv _=>v=.bl true) λ_ _ _=>False)
  (hCX:∀(w:World) (H:Hp) (s:Shared) (e:Value) (s':Shared),CX w [] H s (λ_ _ _=>False) e s'->False) :
  PySem.W.WalkO q loose XP YP l.row.toRowW d [] (λf vs=>PySem.call f vs):=by
 refine Att.attach_call hn hdf λw s₀ s₁ mg mb fa o pm cd doc a vs ns G Y ho hd hcd hmg hobj hints hlen hg=>?_
 have KX:=hY w _ Y
 obtain⟨fd,hb,hF⟩:=F w mg fa _ KX G.T.g hmg
 exact z8 KX G.T.g G.T.b G.T.builtins G.T.nolimit hg hobj hints (ir hlen hn2) hr hF hb (λH hO hS=>hsp w H a ns hlen hO hS) λH e s'=>hCX w H s₁ e s'
def bD(s:Stmt):Arguments:=match s with
 | .FunctionDef _ a _ _ _ _ _ _ _ _=>a
 | _=>{ posonlyargs:=[],args:=[],vararg:=none,kwonlyargs:=[],kw_defaults:=[],kwarg:=none,defaults:=[] }
def aZ(s:Stmt):List Stmt:=match s with
 | .FunctionDef _ _ b _ _ _ _ _ _ _=>b
 | _=>[]
def au(s:Stmt):Scope:=match s with
 | .FunctionDef _ _ _ _ _ _ sc _ _ _=>sc
 | _=>{ kind:=.function,names:=[],isGenerator:=false,isCoroutine:=false }
structure Fun(K:PySem.W.Frag)(x qual:Str)(st:Stmt)(f:Addr)(fd:FuncData):Prop where
 ex:∃(oc:Value) (od:Option Addr) (kV doc pm:Value) (an:Option Addr) (cdv ct:Value) (osl:Array (Option Value)),
  fd=PySem.W.fnOf x qual (bD st) (aZ st) (au st) .none kV doc pm an cdv ct/\K.lookup f=some ⟨oc,od,.func fd,osl⟩/\PySem.W.codeIn K cdv qual=true
 kp:PySem.W.keepIn K (.ref f)=true
section
variable {K:PySem.W.Frag} {mg:zzl} {base:Heap}
theorem Fun.binds{qual:Str}{st:Stmt}{f:Addr}{fd:FuncData}{ps:List Str}(F:Fun K x qual st f fd)
  (h:∀(kV doc pm:Value) (an:Option Addr) (cdv ct:Value) (us:List Value),us.length=ps.length->bindArgs (PySem.W.fnOf x qual (bD st) (aZ st) (au st) .none kV doc pm an cdv ct) ⟨us,[]⟩=pure (ps.zip us)):Binds K fd ps []:=by
 obtain⟨oc,od,kV,doc,pm,an,cdv,ct,osl,rfl,lk,hcd⟩:=F.ex
 exact .all (h kV doc pm an cdv ct)
theorem Aq{qual:Str}{st:Stmt}{f:Addr}{oc:Value}{od an:Option Addr}{osl:Array (Option Value)}{kV doc pm cdv ct:Value}(l:K.lookup f=some ⟨oc,od,.func (PySem.W.fnOf x qual (bD st) (aZ st) (au st) .none kV doc pm an cdv ct),osl⟩)
  (c:PySem.W.codeIn K cdv qual=true) (k:PySem.W.keepIn K (.ref f)=true):Fun K x qual st f (PySem.W.fnOf x qual (bD st) (aZ st) (au st) .none kV doc pm an cdv ct):=⟨⟨oc,od,kV,doc,pm,an,cdv,ct,osl,rfl,l,c⟩,k⟩
end
theorem uC{A B:Prop}(h:B):if false=true then A else B:=by
 rw[am ul]
 exact h
theorem sv{A B:Prop}(h:A):if true=true then A else B:=by
 rw[aw rfl]
 exact h
def Same(H H':Hp):Prop:=∀b o,H b=some o->H' b=some o
theorem Same.refl(H:Hp):Same H H:=λ_ _ h=>h
theorem Same.trans{H1 H2:Hp}(a:Same H H1)(b:Same H1 H2):Same H H2:=λc o h=>b c o (a c o h)
theorem Same.free(e:Same H H'){l:Addr}(h:H' l=Option.none):H l=Option.none:=by
 cases q:H l with
 | none=>rfl
 | some o =>
  rw[e l o q]at h
  cases h
theorem Same.seq{K:PySem.W.Frag}{a:Addr}{xs:List V}(e:Same H H')(h:SqL K H a xs):SqL K H' a xs:=by
 rcases h with (h|⟨o,h⟩)|h
 ·exact .inl (.inl (e _ _ h))
 ·exact .inl (.inr ⟨o,e _ _ h⟩)
 ·exact .inr h
def aR(X:Cx)(N':List Str)(scope:Scope)(cl:List (Str×Addr))(s₂:Shared)(H₂:Hp)(fp:List Addr)(C:Addr):Cx :=
 { X with N:=N',s₀:=s₂,H₀:=H₂,env:=compEnvC scope cl C X.env,outer:=X.stack,ex:=fp,fn:=λ_=>false,pn:=[],xe:=λ_ _=>False }
def lobj(ys:List Value)(k:Nat):Obj:={ cls:=.type "list",data:=.seq ys.toArray k }
section
variable {prog:Program} {R:Result->Shared->Prop}
theorem hW{target:Expr}{it acc:Value}{env:Env}(I:Nat->Shared->Prop)
  (turn:∀n s,I n s->wpAny (model prog w) A (pyNext it) (λr s₁=>match r with
   | none=>R (.ok .next) s₁
   | some v=>wpAny (model prog w) A (letOwnedTupleGo target it v) (λ_ s₁'=>wpAny (model prog w) A (assign target env v) (λ_ s₂ =>
     wpAny (model prog w) A (forIn ifs true λc r=>if r=true then do let ok <-isTrue c env (eval c env);pure (ForInStep.yield ok)else pure (ForInStep.yield r)) (λok s₃ =>
      if ok=true then wpAny (model prog w) A (eval elt env) (λx s₄ =>
       wpAny (model prog w) A (call (.builtin "list.append") [acc,x]) (λ_ s₅=>∃m,m<n/\I m s₅) (λ_ _=>False) s₄) (λ_ _=>False) s₃
      else ∃m,m<n/\I m s₃) (λ_ _=>False) s₂) (λ_ _=>False) s₁') (λ_ _=>False) s₁) (λ_ _=>False) s)
  (n:Nat) (h:I n s) :
  codeAny (model prog w) A (.compLoop (.ListComp elt [⟨target,iter,ifs,0⟩] scope pos) 0 it acc env) R s:=by
 refine codeAny_loop rfl I (λn s hI=>?_) n h
 show wpAny _ A ((compTurn (.ListComp elt [⟨target,iter,ifs,0⟩] scope pos) 0 it acc env).onRaise (λx=>do noteFrame x env;theTreesLotGoes x)) _ _ s
 refine wpAny_noted ?_
 rw[compTurn_list]
 refine zza (J6 (zza (r0 (turn n s hI) (λr s₁ h₁=>?_) λ_ _ h'=>h'.elim)))
 cases r with
 | none=>exact zzb h₁
 | some v =>
  refine zza (r0 h₁ (λ_ s₁' h₁'=>?_) λ_ _ h'=>h'.elim)
  refine zza (r0 h₁' (λ_ s₂ h₂=>zza (r0 h₂ (λok s₃ h₃=>?_) λ_ _ h'=>h'.elim)) λ_ _ h'=>h'.elim)
  cases ok with
  | false=>exact zzb ⟨rfl,h₃⟩
  | true =>
   exact zza (zza (r0 h₃ (λx s₄ h₄=>zza (r0 h₄ (λ_ s₅ h₅=>zzb (zzb ⟨rfl,h₅⟩)) λ_ _ h'=>h'.elim)) λ_ _ h'=>h'.elim))
end
def PTs(X:Cx)(ifs:List Expr)(t:TT):Prop :=
 ∀(pins:zzk) (s:Shared) (Z:St) (H:Hp) (Q:Bool->Hp->Prop),Inv X pins Z H s->t Z H Q ->
  wpAny (model X.prog X.w) X.A (forIn ifs true λc r=>if r=true then do let ok <-isTrue c X.env (eval c X.env);pure (ForInStep.yield ok)else pure (ForInStep.yield r)) (TP X pins Z Q) X.xe s
theorem BR:PTs X [] (λ_ H Q=>Q true H):=λ_ _ _ H _ I h=>wpAny_tests_nil ⟨H,I,h⟩
theorem BQ{c:Expr}{t:TT}(h:PT X c t):PTs X [c] t:=λpins s Z H Q I q=>wpAny_tests_one (h pins s Z H Q I q)
theorem d6{env:Env}:∀{names:List (Str×NameKind)} {x:Str},
  (names.map λ(n,k)=>if(k==NameKind.free&&env.scope.kind==.function&&env.kindOf n==some .cell)then(n,NameKind.cell)else(n,k)).lookup x
   = (names.lookup x).map λk=>if(k==NameKind.free&&env.scope.kind==.function&&env.kindOf x==some .cell)then NameKind.cell else k
 | [],_=>rfl
 | (n,k)::r,x=>by
  have ih:=@d6 env r x
  show List.lookup x ((if(k==NameKind.free&&env.scope.kind==.function&&env.kindOf n==some .cell)=true then(n,NameKind.cell)else(n,k))::_)=_
  cases hx:x==n with
  | true =>
   have e:x=n:=by simpa using hx
   subst e
   by_cases hc:(k==NameKind.free&&env.scope.kind==.function&&env.kindOf x==some .cell)=true
   ·rw[aw hc];simp only[wn,hx,JQ,aw hc]
   ·rw[am hc];simp only[wn,hx,JQ,am hc]
  | false =>
   by_cases hc:(k==NameKind.free&&env.scope.kind==.function&&env.kindOf n==some .cell)=true
   ·rw[aw hc];simp only[wn,hx];exact ih
   ·rw[am hc];simp only[wn,hx];exact ih
theorem jp{env:Env}:∀(names:List (Str×NameKind)) (acc:List (Str×Addr)),(∀x∈names,x.2=.free->∃c,env.cells.lookup x.1=some c) ->
  (∀x c,acc.lookup x=some c->env.cells.lookup x=some c) ->
  ∃cl,(forIn names acc λ(x:Str×NameKind) (cs:List (Str×Addr))=>(if(x.2==NameKind.free)=true then(do let c <-cellOf env x.1;pure (ForInStep.yield ((x.1,c)::cs)))else pure (ForInStep.yield cs):Sem (ForInStep (List (Str×Addr)))))=pure cl /\
   (∀x c,cl.lookup x=some c->env.cells.lookup x=some c)/\(∀x,(acc.lookup x).isSome->(cl.lookup x).isSome)/\∀x∈names,x.2=.free->(cl.lookup x.1).isSome
 | [],acc,_,ha=>⟨acc,rfl,ha,λ_ h=>h,λ_ h=>nomatch h⟩
 | (n,k)::r,acc,hn,ha=>by
  cases hk:(k==NameKind.free)with
  | true =>
   obtain⟨c,hc⟩:=hn (n,k) ce (by simpa using hk)
   have ha':∀x d,((n,c)::acc).lookup x=some d->env.cells.lookup x=some d:=λx d e=>by
    rw[wn]at e
    cases q:x==n with
    | true =>
     rw[q]at e
     have:x=n:=by simpa using q
     subst this
     exact hc.trans e
    | false=>rw[q]at e;exact ha x d e
   obtain⟨cl,e,h1,h2,h3⟩:=jp r ((n,c)::acc) (λx hx=>hn x (zzg _ hx)) ha'
   have grow:∀x,(acc.lookup x).isSome->(((n,c)::acc).lookup x).isSome:=λx hx=>by
    rw[wn]
    cases q:x==n with
    | true=>rfl
    | false=>exact hx
   refine⟨cl,?_,h1,λx hx=>h2 x (grow x hx),λx hx hf=>?_⟩
   ·rw[List.forIn_cons]
    have q:cellOf env n=pure c:=by
     unfold cellOf
     rw[hc]
    simp only[hk,At,q]
    exact e
   ·rcases List.mem_cons.mp hx with rfl|hx
    ·exact h2 _ (by simp[wn])
    ·exact h3 x hx hf
  | false =>
   obtain⟨cl,e,h1,h2,h3⟩:=jp r acc (λx hx=>hn x (zzg _ hx)) ha
   refine⟨cl,?_,h1,h2,λx hx hf=>?_⟩
   ·rw[List.forIn_cons]
    simp only[hk,JR,JU]
    exact e
   ·rcases List.mem_cons.mp hx with rfl|hx
    ·exfalso;have:k=.free:=hf;subst this;simp at hk
    ·exact h3 x hx hf
theorem m6{env:Env}(h:∀x∈scope.names,x.2=.free->∃c,env.cells.lookup x.1=some c) :
  ∃cl,closureFor scope env=pure cl/\(∀x c,cl.lookup x=some c->env.cells.lookup x=some c)/\∀x∈scope.names,x.2=.free->(cl.lookup x.1).isSome:=by
 obtain⟨cl,e,h1,_,h3⟩:=jp (env:=env) scope.names [] h (λx c e=>by simp at e)
 refine⟨cl,?_,h1,h3⟩
 unfold closureFor
 have q:(forIn scope.names [] λ(x:Str×NameKind) (cs:List (Str×Addr))=>(match x with|(name,kind)=>if(kind==NameKind.free)=true then(do let c <-cellOf env name;pure (ForInStep.yield ((name,c)::cs)))else pure (ForInStep.yield cs):Sem (ForInStep (List (Str×Addr)))))=pure cl:=e
 first
  | (simp only[];rw[q];rfl)
  | (show(do let cs <-_;pure cs)=_;rw[q];rfl)
  | (rw[show(forIn scope.names [] _)=pure cl from q];rfl)
structure CompOk(X:Cx)(N':List Str)(k:Nat)(scope:Scope):Prop where
 kind:scope.kind=.function
 len:N'.length=X.N.length+k
 nocell:∀y∈scope.names,y.2≠.cell
 names:∀y∈scope.names,y.2=.local->scope.names.lookup y.1=some .local
 outer:∀(i:Nat) x,i<X.N.length->N'[i]? = some x->(scope.names.lookup x).isSome->(scope.names.lookup x=some .free\/scope.names.lookup x=some .local\/scope.names.lookup x=some .cell)->X.N[i]? = some x/\scope.names.lookup x=some .free
 free:∀y∈scope.names,y.2=.free->X.env.kindOf y.1=some .cell\/X.env.kindOf y.1=some .free
def vy(wi:TI)(k:Nat)(g:TG)(tc:TT)(te:TE):TE:=λZ H Q=>wi Z H λJ H1=>∃W:Nat->Nat->List V->St->Hp->Prop,(∃m,W 0 m [] (Z++List.replicate k none) H1) /\
 ∀i m vs σ' H',W i m vs σ' H'->vs.length<=sizeLine /\
  ((J.stop i H'/\∀p,H' p=none->Q (.ref p) (upd H' p (.lst vs))) \/
   (J.go i H'/\∀x H2,J.yld i H' x H2->g x σ' H2 λσ3 H3=>tc σ3 H3 λb H4=>if b=true then te σ3 H4 λy H5=>∃m',m'<m/\W (i+1) m' (vs++[y]) σ3 H5 else ∃m',m'<m/\W (i+1) m' vs σ3 H4))
section
variable {H2:Hp} {s2:Shared}
theorem HOk.track{h:Heap}{D:Addr}{vs:List V}{ys:List Value}{k:Nat}(x:HOk P w H h)(hn:H D=none)(hl:vs.length<=sizeLine)(r:Vals vs ys)(e:h.get? D=some (lobj ys k)) :
  HOk P w (upd H D (.lst vs)) h:=λb u q=>by
 by_cases hb:b=D
 ·subst hb
  rw[aB]at q
  cases q
  exact⟨hl,ys,k,r,e⟩
 ·rw[aA hb]at q
  exact(x b u q).stay (λ_ _ _ z=>z) (λc z=>by rw[aA (aL z hn)];exact z) λc xs z=>by rw[aA (aL z hn)];exact z
theorem o8{k:Nat}{cl:List (Str×Addr)}{J:It}{fp:List Addr}{it:Addr}{tn:Nat->Heap->Prop}
  {RR:Value->Addr->Result->Shared->Prop} {Q:VK}
  (hc:X.calm=true) (S:CompOk X N' k scope) (hcl:∀x c,cl.lookup x=some c->X.env.cells.lookup x=some c) (hcf:∀x∈scope.names,x.2=.free->(cl.lookup x.1).isSome)
  (I:Inv X pins Z H2 s2) (T:Turn X.prog X.w X.K tg J fp it tn) (st:tn 0 s2.heap) (ff:∀b∈fp,jS X pins H2 b)
  (hg:∀C,PG (aR X N' scope cl s2 H2 fp C) tg g) (ht:∀C,PTs (aR X N' scope cl s2 H2 fp C) ifs tc) (he:∀C,PE (aR X N' scope cl s2 H2 fp C) elt te)
  (rd:∃W:Nat->Nat->List V->St->Hp->Prop,(∃m,W 0 m [] (Z++List.replicate k none) H2) /\
   ∀i m vs σ' H',W i m vs σ' H'->vs.length<=sizeLine /\
    ((J.stop i H'/\∀p,H' p=none->Q (.ref p) (upd H' p (.lst vs))) \/
     (J.go i H'/\∀x H2,J.yld i H' x H2->g x σ' H2 λσ3 H3=>tc σ3 H3 λb H4=>if b=true then te σ3 H4 λy H5=>∃m',m'<m/\W (i+1) m' (vs++[y]) σ3 H5 else ∃m',m'<m/\W (i+1) m' vs σ3 H4)))
  (hRR:∀D C s' H',Inv X pins Z H' s'->(∃m,s'.heap.Ns C m)->jS X pins H' C->Q (.ref D) H'->RR (.ref D) C (.ok .next) s') :
  wpAny (model X.prog X.w) X.A (newList []) (λacc s₃=>wpAny (model X.prog X.w) X.A (newFunctionEnv scope X.env.globals cl [] X.env.qual none .none (some X.env)) (λcenv s₄ =>
   codeAny (model X.prog X.w) X.A (.compStart (.ListComp elt [⟨tg,iter,ifs,0⟩] scope pos) 0 (.ref it) acc { cenv with scope:=relabel scope X.env }) (RR acc cenv.locals) s₄) E s₃) E s2:=by
 obtain⟨W,⟨m0,w0⟩,turn⟩:=rd
 refine pi (wpAny_newFunctionEnv S.nocell (by intro y hy;simp at hy) (λh₁ hns₁ hsb₁=>?_) S.kind)
 dsimp only at hns₁ hsb₁ ⊢
 generalize hH2:s2.heap.push { cls:=.type "list",dict:=none,data:=.seq ([]:List Value).toArray }=G2 at hns₁ hsb₁ ⊢
 have hCs:G2.objs.size=s2.heap.objs.size+1:=by rw[<-hH2,JK]
 have hDC:s2.heap.objs.size≠G2.objs.size:=by rw[hCs];exact eE (J5 _)
 have hCle:s2.heap.objs.size<=G2.objs.size:=by rw[hCs];exact Ke _
 have below:∀b,b<s2.heap.objs.size->b≠G2.objs.size/\b≠s2.heap.objs.size:=λb hb=>⟨by rw[hCs];exact eE (sd hb),eE hb⟩
 have old:∀b o,s2.heap.get? b=some o->h₁.get? b=some o:=λb o e=>hsb₁.extBut b o (below b (ay e)).1 (zzc _ (hH2▸zzc _ e))
 have hacc:h₁.get? s2.heap.objs.size=some (lobj [] 0):=hsb₁.extBut _ _ hDC (zzc _ (hH2▸zze _ rfl))
 generalize hDe:s2.heap.objs.size=D at *
 generalize hCe:G2.objs.size=C at *
 have fpD:jS X pins H2 D:=I.fpOk (by rw[hDe];exact ai _) (I.hok.fresh (by rw[hDe];exact ai _))
 have fpC:∀H',H' C=none->jS X pins H' C:=λH' hn=>I.fpOk (by rw[hDe];exact hCle) hn
 have hfpD:∀b∈fp,b<D:=λb hb=>by
  obtain⟨o,e,_⟩:=T.obj _ _ st b hb
  rw[<-hDe];exact ay e
 have nofr:∀b,D<=b->b∉frs X.stack:=λb hb hm=>by
  rcases List.mem_cons.mp (I.stkSub b hm)with e|hm
  ·have:=I.lt;rw[hDe]at this;rw[e]at hb;exact absurd (du this hb) (pr _)
  ·exact I.nofs (by rw[hDe];exact hb) hm
 let X':=aR X N' scope cl s2 H2 fp C
 have cellLt:∀x c,cl.lookup x=some c->c<D:=λx c e=>by
  obtain⟨v,z⟩:=I.cell x c (hcl x c e)
  rw[<-hDe];exact z.lt
 have ok':X'.Ok:=by
  refine⟨I.ok.mod,S.kind,I.ok.glob,I.ok.blt,?_,λx y c e1 e2=>I.ok.inj x y c (hcl _ _ e1) (hcl _ _ e2),λx hx=>?_,λx c hf _=>(nomatch hf),I.ok.hd,I.ok.frames,.inl rfl,λb hb=>⟨?_,λx c e z=>?_⟩,I.bs,?_,λb o e hb=>?_,λb hb hm=>?_,I.stack,I.stkFree⟩
  ·show s2.heap.objs.size<=C
   rw[hDe];exact hCle
  ·have hx':(relabel scope X.env).names.lookup x=some .cell\/(relabel scope X.env).names.lookup x=some .free:=hx
   have e:=d6 (env:=X.env) (names:=scope.names) (x:=x)
   have e':(relabel scope X.env).names.lookup x=(scope.names.lookup x).map λk=>if(k==NameKind.free&&X.env.scope.kind==.function&&X.env.kindOf x==some .cell)then NameKind.cell else k:=e
   rw[e']at hx'
   cases q:scope.names.lookup x with
   | none=>rw[q]at hx';rcases hx' with z|z<;>cases z
   | some kd =>
    have hmem:=xv q
    rw[q]at hx'
    have hkd:kd=.free:=by
     by_cases hz:kd=.free
     ·exact hz
     ·exfalso
      have hb:(kd==NameKind.free)=false:=by simpa using hz
      simp only[hb,Kp,JR,JU,JQ]at hx'
      rcases hx' with z|z
      ·exact S.nocell _ hmem (Option.some.inj z)
      ·exact hz (Option.some.inj z)
    exact Option.isSome_iff_exists.mp (hcf _ hmem hkd)
  ·exact eE (du (hfpD b hb) hCle)
  ·exact(ff b hb).2.2.2.2.1 x c (hcl x c e) z
  ·exact ir I.ok.bsz I.sz
  ·obtain⟨_,_,_,hx,_⟩:=ff b hb
   rcases hx with hx|hx
   ·exact I.ok.noex b o e hx
   ·exact absurd (du (ay (I.ok.bs b o e).1) hx) (pr _)
  ·obtain⟨_,hl,hfs,_⟩:=ff b hb
   rcases List.mem_cons.mp (I.stkSub b hm)with e|hm
   ·exact hl e
   ·exact hfs hm
 have lenσ:(Z++List.replicate k none).length=N'.length:=by rw[zzf,List.length_replicate,I.len,S.len]
 have I0:Inv X' [(D,lobj [] 0)] (Z++List.replicate k none) H2 { s2 with heap:=h₁,toks:=s2.toks+([]:List (Str×Value)).length }:=by
  refine⟨ok',rfl,I.bare,Un.kept old,⟨_,hns₁,λi x v e1 e2 e3=>?_⟩,λx c e=>?_,I.hok.fresh (by rw[hDe];exact hCle),λx c e=>I.freeC x c (hcl x c e),λp hp=>?_,I.hok.kept old,lenσ⟩
  ·have hi:i<Z.length:=by
    by_cases hi:i<Z.length
    ·exact hi
    ·rw[ye (Nat.not_lt.mp hi),KM]at e2
     split at e2<;>cases e2
   rw[lf hi]at e2
   have e':(relabel scope X.env).names.lookup x=(scope.names.lookup x).map λk=>if(k==NameKind.free&&X.env.scope.kind==.function&&X.env.kindOf x==some .cell)then NameKind.cell else k:=d6 (env:=X.env) (names:=scope.names) (x:=x)
   have hsome:∃kd,scope.names.lookup x=some kd/\(kd=.free\/kd=.local\/kd=.cell):=by
    have e3':(relabel scope X.env).names.lookup x=some .local\/(relabel scope X.env).names.lookup x=some .cell\/(relabel scope X.env).names.lookup x=some .free:=e3
    rw[e']at e3'
    cases q:scope.names.lookup x with
    | none=>rw[q]at e3';rcases e3' with z|z|z<;>cases z
    | some kd =>
     refine⟨kd,rfl,?_⟩
     rw[q]at e3'
     by_cases hz:kd=.free
     ·exact .inl hz
     ·have hb:(kd==NameKind.free)=false:=by simpa using hz
      simp only[hb,Kp,JR,JU,JQ,Option.some.injEq]at e3'
      rcases e3' with z|z|z
      ·exact .inr (.inl z)
      ·exact .inr (.inr z)
      ·exact .inl z
   obtain⟨kd,hk1,hk2⟩:=hsome
   obtain⟨hN,hfree⟩:=S.outer i x (by rw[<-I.len];exact hi) e1 (by rw[hk1];rfl) (by rcases hk2 with z|z|z<;>subst z<;>simp[hk1])
   have hmem:=xv hfree
   have hko:=S.free _ hmem rfl
   have hkx:X.env.kindOf x=some .cell\/X.env.kindOf x=some .free:=hko
   obtain⟨m,hn,hl⟩:=I.loc
   obtain⟨u,r,lk⟩:=hl i x v hN e2 (by rcases hkx with z|z;exact .inr (.inl z);exact .inr (.inr z))
   refine⟨u,r,.inr ⟨?_,?_⟩⟩
   ·show(relabel scope X.env).names.lookup x=some .cell\/(relabel scope X.env).names.lookup x=some .free
    rw[e',hfree,JQ]
    split
    ·exact .inl rfl
    ·exact .inr rfl
   ·rcases lk with ⟨kl,_⟩|⟨_,c,ec,hcell⟩
    ·rcases hkx with z|z<;>(rw[z]at kl;cases kl)
    ·obtain⟨c',ec'⟩:=Option.isSome_iff_exists.mp (hcf _ hmem rfl)
     have q:=hcl _ _ ec'
     rw[ec]at q
     cases q
     exact⟨c,ec',hcell.keeps old⟩
  ·obtain⟨v,z⟩:=I.cell x c (hcl x c e)
   exact⟨v,z.keeps old⟩
  ·have hp':p∈([]:zzk)++[(D,lobj [] 0)]:=hp
   have ep:p=(D,lobj [] 0):=by simpa using hp'
   subst ep
   exact⟨hacc,fpD.1,hDC,nofr D (ai _),λv z=>nomatch z⟩
 have stat:∀{H':Hp} {o:Obj},(∀b∈fp,H' b=none)->∀b∈fp,jS X' [(D,o)] H' b:=λ{H' o} hn b hb=>by
  refine⟨hn b hb,eE (du (hfpD b hb) hCle),ok'.exfs b hb,.inl hb,λx c e z=>(ff b hb).2.2.2.2.1 x c (hcl x c e) z,λp hp=>?_⟩
  have hp':p∈([]:zzk)++[(D,o)]:=hp
  have ep:p=(D,o):=by simpa using hp'
  subst ep
  exact xz (hfpD b hb)
 have loop:∀s₃:Shared,s₃={ s2 with heap:=h₁,toks:=s2.toks+([]:List (Str×Value)).length } ->
   codeAny (model X.prog X.w) X.A (.compLoop (.ListComp elt [⟨tg,iter,ifs,0⟩] scope pos) 0 (.ref it) (.ref D) (compEnvC scope cl C X.env)) (RR (.ref D) C) s₃:=by
  rintro s₃ rfl
  refine hW (λn s'=>∃i vs ys kk σ' H',Inv X' [(D,lobj ys kk)] σ' H' s'/\tn i s'.heap/\(∀b∈fp,H' b=none)/\Vals vs ys/\W i n vs σ' H') ?_ m0
   ⟨0,[],[],0,_,H2,I0,T.keep _ _ _ st λb _ o e=>old b o e,λb hb=>(ff b hb).1,.nil,w0⟩
  rintro n s3 ⟨i,vs,ys,kk,σ3,H3,I3,st3,fr3,rv,w3⟩
  obtain⟨hvl,hcase⟩:=turn i n vs σ3 H3 w3
  have pinD:∀{o:Obj} {σ' H' s'},Inv X' [(D,o)] σ' H' s'->s'.heap.get? D=some o/\H' D=none:=λJ=>⟨(J.pin _ (ib _ ce)).1,(J.pin _ (ib _ ce)).2.1⟩
  rcases hcase with ⟨stop,qn⟩|⟨go,step⟩
  ·refine thn (T.done X' rfl rfl rfl hc i _ s3 σ3 H3 (λ_ _=>False) I3 (stat fr3) st3 stop) λr s4 ⟨hr,I4⟩=>?_
   subst hr
   obtain⟨gD,nD⟩:=pinD I4
   obtain⟨m',hm',_⟩:=I4.loc
   have hC4:H3 C=none:=I4.free
   have u0:Un (frs X.stack) fp H2 H3 s2.heap s4.heap:=I4.base
   have neD:∀b o,s2.heap.get? b=some o->b≠D:=λb o e=>by rw[<-hDe];exact eE (ay e)
   have u1:Un (frs X.stack) fp H2 (upd H3 D (.lst vs)) s2.heap s4.heap :=
    ⟨u0.keep,u0.slot,λb o e n hx=>by rw[aA (neD b o e)];exact u0.free b o e n hx,u0.there,
     λb xs e=>by have q:=u0.tups b xs e;rw[aA (aL q nD)];exact q,
     λb o u e=>by have q:=u0.frzs b o u e;rw[aA (aL q nD)];exact q,
     λb ps e=>by obtain⟨more,q⟩:=u0.tbls b ps e;exact⟨more,by rw[aA (aL q nD)];exact q⟩⟩
   have I5:Inv X pins Z (upd H3 D (.lst vs)) s4:=I.call' I4.os u1 (I4.hok.track nD hvl rv gD) I4.bare λb hb=>⟨(ff b hb).2.2.2.1,(ff b hb).2.1,(ff b hb).2.2.2.2.1,(ff b hb).2.2.2.2.2⟩
   exact hRR D C s4 _ I5 ⟨m',hm'⟩ (fpC _ (by rw[aA (Ne.symm hDC)];exact hC4)) (qn D nD)
  ·refine thn (T.item X' rfl rfl rfl hc i _ s3 σ3 H3 (λ_ _=>False) I3 (stat fr3) st3 go) λr s4 ⟨u,hr,h4⟩=>?_
   subst hr
   refine thn h4 λ_ s5 ⟨x,H5,I5,r5,y5,st5,fr5⟩=>?_
   have I5':=I5.pinned (stat fr5) (T.obj _ _ st5)
   refine thn (hg C _ s5 σ3 H5 x u _ I5' r5 (step x H5 y5)) λ_ s6 ⟨σ6,H6,I6,q6⟩=>?_
   refine thn (ht C _ s6 σ6 H6 _ I6 q6) λok s7 ⟨H7,I7,q7⟩=>?_
   have unpin:∀{σ' H' s'},Inv X' ([(D,lobj ys kk)]++lU fp s5.heap) σ' H' s'->Inv X' [(D,lobj ys kk)] σ' H' s'/\tn (i+1) s'.heap/\∀b∈fp,H' b=none:=λ{σ' H' s'} J =>
    ⟨J.unpinned,T.keep _ _ _ st5 λb hb o e=>(J.pin (b,o) (ib _ (ib _ (fY hb e)))).1,λb hb=>by
     obtain⟨o,e,d⟩:=T.obj _ _ st5 b hb
     exact(J.pin (b,o) (ib _ (ib _ (fY hb e)))).2.1⟩
   cases ok with
   | false =>
    rw[am ul]
    rw[am ul]at q7
    obtain⟨m',hm',w7⟩:=q7
    obtain⟨J1,J2,J3⟩:=unpin I7
    exact⟨m',hm',i+1,vs,ys,kk,σ6,H7,J1,J2,J3,rv,w7⟩
   | true =>
    rw[aw rfl]
    rw[aw rfl]at q7
    refine thn (he C _ s7 σ6 H7 _ I7 q7) λuy s8 ⟨y,H8,I8,r8,m',hm',w8⟩=>?_
    obtain⟨J1,J2,J3⟩:=unpin I8
    obtain⟨gD,nD⟩:=pinD J1
    refine append_at (hsz:=by show ys.toArray.size<=sizeLine;rw[be,<-rv.length];exact hvl) gD λh9 hs9 hD9=>?_
    have J1':Inv X' [] σ6 H8 s8:=J1.pins_of λp hp=>nomatch hp
    have J9:Inv X' [] σ6 H8 { s8 with heap:=h9 }:=J1'.turned (t':=s8.toks) (it:=D) (λb o hb e=>hs9.extBut b o hb e) nD hDC (.inr (by show s2.heap.objs.size<=D;rw[hDe];exact ai _)) (λx c e=>eE (cellLt x c e)) λp hp=>nomatch hp
    have eo:({ cls:=.type "list",data:=.seq (ys.toArray.push uy) (kk+1) }:Obj)=lobj (ys++[uy]) (kk+1):=by
     unfold lobj
     rw[List.push_toArray]
    refine⟨m',hm',i+1,vs++[y],ys++[uy],kk+1,σ6,H8,J9.pins_of λp hp=>?_,T.keep _ _ _ J2 λb hb o e=>hs9.extBut b o (eE (hfpD b hb)) e,J3,rv.append (.cons r8 .nil),w8⟩
    have ep:p=(D,lobj (ys++[uy]) (kk+1)):=by simpa using hp
    subst ep
    exact⟨by show h9.get? D=_;rw[hD9,eo],nD,hDC,nofr D (ai _),λv z=>nomatch z⟩
 exact codeAny_compStart_list (loop _ rfl) (T.self _ 0 _ _ _ (T.keep _ _ _ st λb _ o e=>old b o e) (loop _ rfl))
end
section
theorem vN{k:Nat}{wi:TI}
  (hc:X.calm=true) (S:CompOk X N' k scope) (hcells:∀x∈scope.names,x.2=.free->∃c,X.env.cells.lookup x.1=some c) (hi:PI X tg iter wi)
  (hg:∀cl s H fp C,PG (aR X N' scope cl s H fp C) tg g) (ht:∀cl s H fp C,PTs (aR X N' scope cl s H fp C) ifs tc) (he:∀cl s H fp C,PE (aR X N' scope cl s H fp C) elt te)
  (hs:∀x,foldedSetIterable iter X.env x=pure x:=by intro _;rfl) :
  PE X (.ListComp elt [⟨tg,iter,ifs,0⟩] scope pos) (vy wi k g tc te):=by
 intro pins s Z H Q I h
 obtain⟨cl,hclos,h1,h2⟩:=m6 (env:=X.env) (scope:=scope) hcells
 rw[eval_ListComp]
 refine wpAny_comprehension_free (use:=none) rfl hs hclos S.kind S.names (thn (hi pins s Z H _ I h) λxv s1 h1'=>thn h1' λitv s2 h2'=>?_)
 obtain⟨it,fp,tn,J,H2,e,I2,T,st2,f2,rd⟩:=h2'
 subst e
 refine o8 hc S h1 h2 I2 T st2 f2 (λC=>hg _ _ _ _ C) (λC=>ht _ _ _ _ C) (λC=>he _ _ _ _ C) rd λD C s' H' I' ⟨m,hm⟩ fC q=>?_
 refine⟨m,hm,λh' hs'=>⟨.ref D,H',?_,rfl,q⟩⟩
 exact I'.turned (t':=s'.toks) (it:=C) (λb o hb e=>hs'.extBut b o hb e) fC.1 fC.2.1 fC.2.2.2.1 fC.2.2.2.2.1 fC.2.2.2.2.2
theorem lR{pos' spos:Pos}{k i:Nat}{y:Str}{wi:TI}
  (hN:X.N.Nodup) (hy:X.N[i]? = some y) (hly:Loc X.env.scope y) (hfn:X.fn y=true\/X.env.scope.names.lookup y=some .local)
  (hc:X.calm=true) (S:CompOk X N' k scope) (hcells:∀x∈scope.names,x.2=.free->∃c,X.env.cells.lookup x.1=some c) (hi:PI X tg iter wi)
  (hg:∀cl s H fp C,PG (aR X N' scope cl s H fp C) tg g) (ht:∀cl s H fp C,PTs (aR X N' scope cl s H fp C) ifs tc) (he:∀cl s H fp C,PE (aR X N' scope cl s H fp C) elt te)
  (hsw:swapsWith (.ListComp elt [⟨tg,iter,ifs,0⟩] scope pos) (some (.Name y pos')) spos.line X.env=pure true)
  (hs:∀x,foldedSetIterable iter X.env x=pure x:=by intro _;rfl) :
  PS X (.Assign [.Name y pos'] (.ListComp elt [⟨tg,iter,ifs,0⟩] scope pos) spos) (Ek (vy wi k g tc te) (sC i)):=by
 intro pins s Z H D₀ I h
 obtain⟨cl,hclos,h1,h2⟩:=m6 (env:=X.env) (scope:=scope) hcells
 rw[exec_Assign_Name_used _ _ _ _ hsw]
 refine zza (J6 (zza ?_))
 show wpAny _ X.A (do let _ <-comprehension (.ListComp elt [⟨tg,iter,ifs,0⟩] scope pos) scope X.env _ (newList []) false (eval iter X.env) (some (assign (.Name y pos') X.env))) _ _ s
 refine zza (r0 (wpAny_comprehension_free (use:=some (assign (.Name y pos') X.env)) (Q:=λ_ s'=>SP X pins D₀ .next s') rfl hs hclos S.kind S.names
  (thn (hi pins s Z H _ I h) λxv s1 h1'=>thn h1' λitv s2 h2'=>?_)) (λ_ s' hq=>zzb (zzb hq)) λ_ _ e=>e)
 obtain⟨it,fp,tn,J,H2,e,I2,T,st2,f2,rd⟩:=h2'
 subst e
 refine o8 (Q:=λx H1=>sC i x Z H1 D₀.nx) hc S h1 h2 I2 T st2 f2 (λC=>hg _ _ _ _ C) (λC=>ht _ _ _ _ C) (λC=>he _ _ _ _ C) rd λD C s' H' I' ⟨m,hm⟩ fC q=>?_
 show wpAny _ X.A (assign (.Name y pos') X.env (.ref D)) _ _ _
 refine wpAny_assign_Name (nZ I' hN hy hly (show RelV (.ref D) (.ref D)from rfl) (λs'' I'' ⟨a,hsb,ha⟩=>?_) hfn)
 have hCa:C≠a:=by
  rcases ha with rfl|ha
  ·exact fC.2.1
  ·exact λz=>fC.2.2.2.2.1 y a ha z.symm
 refine⟨m,hm.sameBut hsb hCa,λh' hs'=>⟨_,H',?_,q⟩⟩
 exact I''.turned (t':=s''.toks) (it:=C) (λb o hb e=>hs'.extBut b o hb e) fC.1 fC.2.1 fC.2.2.2.1 fC.2.2.2.2.1 fC.2.2.2.2.2
end
section
variable {κ:Type} [DecidableEq κ]
def i8(kvs:List (κ×V))(k:κ):Option V:=(kvs.find? λkv=>decide (kv.1=k)).map (·.2)
def putK(kvs:List (κ×V))(k:κ)(v:V):List (κ×V) :=
 if(kvs.any λkv=>decide (kv.1=k))=true then kvs.map (λkv=>if kv.1=k then(kv.1,v)else kv)else kvs++[(k,v)]
theorem lm{p:κ×V}{r:List (κ×V)}{k:κ}(e:p.1=k):i8 (p::r) k=some p.2:=by simp[i8,ss,e]
theorem lp{p:κ×V}{r:List (κ×V)}{k:κ}(e:¬ p.1=k):i8 (p::r) k=i8 r k:=by simp[i8,ss,e]
theorem qV(k:κ):∀kvs:List (κ×V),(kvs.any λkv=>decide (kv.1=k))=(i8 kvs k).isSome
 | []=>rfl
 | p::r=>by
  rw[KE]
  by_cases e:p.1=k
  ·simp only[lm e,eT e,Bool.true_or,Option.isSome_some]
  ·rw[lp e,cr e,Bool.false_or];exact qV k r
theorem cX(kvs:List (κ×V))(k:κ)(v:V):(putK kvs k v).length<=kvs.length+1:=by
 unfold putK
 split
 ·rw[zzd];lia
 ·rw[zzf,qu,zi];lia
theorem RelO.isSome_eq{u:Option Value}(r:RelO o u):o.isSome=u.isSome:=by
 cases o with
 | none=>cases u with
  | none=>rfl
  | some _=>exact(show False from r).elim
 | some _=>cases u with
  | none=>exact(show False from r).elim
  | some _=>rfl
theorem RelO.getD{u:Option Value}{d:V}{d':Value}(r:RelO o u)(rd:RelV d d'):RelV (o.getD d) (u.getD d'):=by
 cases o with
 | none=>cases u with
  | none=>exact rd
  | some _=>exact(show False from r).elim
 | some _=>cases u with
  | none=>exact(show False from r).elim
  | some _=>exact r
theorem KV.val{kvs:List (κ×V)}{vs:List (κ×Value)}(r:KV kvs vs)(k:κ):RelO (i8 kvs k) (valueAt vs k):=by
 unfold KV at r
 induction r with
 | nil=>exact True.intro
 | @cons p q ps qs h t ih =>
  obtain⟨h1,h2⟩:=h
  by_cases e:p.1=k
  ·have e':q.1=k:=h1.symm.trans e
   have b:valueAt (q::qs) k=some q.2:=by simp[valueAt,ss,e']
   rw[lm e,b];exact h2
  ·have e':¬ q.1=k:=λz=>e (h1.trans z)
   have b:valueAt (q::qs) k=valueAt qs k:=by simp[valueAt,ss,e']
   rw[lp e,b];exact ih
theorem KV.any{kvs:List (κ×V)}{vs:List (κ×Value)}(r:KV kvs vs)(k:κ):(kvs.any λkv=>decide (kv.1=k))=vs.any λkv=>decide (kv.1=k):=by
 unfold KV at r
 induction r with
 | nil=>rfl
 | cons h t ih=>rw[KE,KE,ih,h.1]
theorem KV.repl{kvs:List (κ×V)}{vs:List (κ×Value)}(r:KV kvs vs)(k:κ)(ry:RelV y u) :
  KV (kvs.map λkv=>if kv.1=k then(kv.1,y)else kv) (vs.map λkv=>if kv.1=k then(kv.1,u)else kv):=by
 unfold KV at r ⊢
 induction r with
 | nil=>exact .nil
 | @cons p q ps qs h t ih =>
  rw[bj,bj]
  refine .cons ?_ ih
  obtain⟨h1,h2⟩:=h
  by_cases e:p.1=k
  ·rw[aw e,aw (h1.symm.trans e)];exact⟨h1,ry⟩
  ·rw[am e,am (λz=>e (h1.trans z))];exact⟨h1,h2⟩
theorem KV.put{kvs:List (κ×V)}{vs:List (κ×Value)}(r:KV kvs vs)(k:κ)(ry:RelV y u):KV (putK kvs k y) (stored vs k u):=by
 unfold putK stored
 rw[r.any k]
 by_cases e:(vs.any λkv=>decide (kv.1=k))=true
 ·rw[aw e,aw e];exact r.repl k ry
 ·rw[am e,am e];exact Paired.snoc r ⟨rfl,ry⟩
theorem KV.length{kvs:List (κ×V)}{vs:List (κ×Value)}(r:KV kvs vs):kvs.length=vs.length:=Paired.length r
end
theorem ky{k:Key}(r:RelV (kV k) u):(aX P w).is k u=true:=by
 cases k with
 | inl i=>obtain⟨t,e⟩:=(show ∃t,u=Value.int i t from r);subst e;exact rV P w i t
 | inr x=>obtain⟨t,e⟩:=(show ∃t,u=Value.str x t from r);subst e;exact rU P w x t
theorem oQ{P:Program}{w:World}:∀{ks:List Key} {us:List Value},Vals (ks.map kV) us->ItemsAre (aX P w) ks us
 | [],_,r=>by rw[K2]at r;cases r;exact .nil
 | k::ks,_,r=>by
  rw[bj]at r
  cases r with
  | cons h t=>exact .cons (ky h) (oQ t)
abbrev KT(H:Hp):List (List Key×V)->List (List Key×Addr×Value)->Prop:=Paired λp q=>p.1=q.1/\H q.2.1=some (.tup (p.1.map kV))/\RelV p.2 q.2.2
theorem KT.val(r:KT H kvs xs)(k:List Key):RelO (i8 kvs k) ((atKey xs k).map (·.2)):=by
 induction r with
 | nil=>exact True.intro
 | @cons p q ps qs h t ih =>
  obtain⟨h1,_,h2⟩:=h
  by_cases e:p.1=k
  ·have e':q.1=k:=h1.symm.trans e
   have b:atKey (q::qs) k=some q.2:=by simp[atKey,ss,e']
   rw[lm e,b];exact h2
  ·have e':¬ q.1=k:=λz=>e (h1.trans z)
   have b:atKey (q::qs) k=atKey qs k:=by simp[atKey,ss,e']
   rw[lp e,b];exact ih
theorem KT.repl(r:KT H kvs xs)(k:List Key)(ry:RelV y u) :
  KT H (kvs.map λkv=>if kv.1=k then(kv.1,y)else kv) (xs.map (putAt k u)):=by
 induction r with
 | nil=>exact .nil
 | @cons p q ps qs h t ih =>
  rw[bj,bj]
  refine .cons ?_ ih
  obtain⟨h1,h2,h3⟩:=h
  unfold putAt
  by_cases e:p.1=k
  ·rw[aw e,aw (h1.symm.trans e)];exact⟨h1,h2,ry⟩
  ·rw[am e,am (λz=>e (h1.trans z))];exact⟨h1,h2,h3⟩
theorem KT.put(r:KT H kvs xs)(k:List Key){b:Addr}(hb:H b=some (.tup (k.map kV)))(ry:RelV y u) :
  KT H (putK kvs k y) (storedH xs k b u):=by
 have e:(kvs.any λkv=>decide (kv.1=k))=(atKey xs k).isSome:=by
  rw[qV,(r.val k).isSome_eq,Option.isSome_map]
 unfold putK storedH
 rw[e]
 by_cases q:(atKey xs k).isSome=true
 ·rw[aw q,aw q];exact r.repl k ry
 ·rw[am q,am q];exact Paired.snoc r ⟨rfl,hb,ry⟩
theorem KT.keeps(r:KT H kvs xs)(ht:∀b ys,H b=some (.tup ys)->H' b=some (.tup ys)):KT H' kvs xs :=
 Paired.mapP r λ_ _ z=>⟨z.1,ht _ _ z.2.1,z.2.2⟩
section
variable {h:Heap} {a:Addr}
theorem DG{u:HO}(ok:HOk P w H h)(e:Rd H a u):ObjOk P w H h a u:=e.ok ok
theorem mZ{kvs:List (Key×V)}(ok:HOk P w H h)(e:Rd H a (.dK kvs)):kvs.length<=sizeLine/\(a==sysModules)=false/\∃vs,KV kvs vs/\h.DictOf (aX P w) a vs :=
 show ObjOk P w H h a (.dK kvs)from DG ok e
theorem sK{kvs:List (Key×V)}(ok:HOk P w H h)(e:H a=some (.dK kvs)):kvs.length<=sizeLine/\(a==sysModules)=false/\∃vs,KV kvs vs/\h.DictOf (aX P w) a vs:=mZ ok (.inl e)
theorem fZ{ks:List Key}(ok:HOk P w H h)(e:H a=some (.tup (ks.map kV))):(tupleKind (aX P w)).is h ks a:=by
 obtain⟨_,its,r,⟨o,h1,h2,n,h3⟩,_⟩:=(show ObjOk P w H h a (.tup (ks.map kV))from ok a _ e)
 exact⟨o,its.toArray,n,h1,h2,h3,by simpa using oQ r⟩
theorem oY(ok:HOk P w H h)(e:Rd H a (.dT kvs)):kvs.length<=sizeLine/\(a==sysModules)=false /\
  ∃xs,KT H kvs xs/\h.DictOfH (tupleKind (aX P w)) a xs:=by
 obtain⟨z,y,xs,r,o,es,ep,h1,h2,h3,h4,h5⟩:=(show ObjOk P w H h a (.dT kvs)from DG ok e)
 refine⟨z,y,xs,r,o,es,ep,h1,h2,h3,h4,λx hx=>?_,h5⟩
 have all:∀{l:List (List Key×V)} {m:List (List Key×Addr×Value)},KT H l m->∀x∈m,(tupleKind (aX P w)).is h x.1 x.2.1:=by
  intro l m q
  induction q with
  | nil=>intro x hx;exact nomatch hx
  | @cons p q ps qs hq t ih =>
   intro x hx
   rcases List.mem_cons.mp hx with e|hx
   ·subst e
    exact fZ ok (by rw[<-hq.1];exact hq.2.1)
   ·exact ih x hx
 exact all r x hx
theorem mX(ok:HOk P w H h)(e:H a=some (.dT kvs)):kvs.length<=sizeLine/\(a==sysModules)=false /\
  ∃xs,KT H kvs xs/\h.DictOfH (tupleKind (aX P w)) a xs:=oY ok (.inl e)
end
def DGet(H:Hp)(a:Addr)(y:V)(r:Option V):Prop :=
 (∃kvs k,Rd H a (.dK kvs)/\y=kV k/\r=i8 kvs k)\/∃kvs k b,Rd H a (.dT kvs)/\y=.ref b/\H b=some (.tup (k.map kV))/\r=i8 kvs k
def DPut(H:Hp)(a:Addr)(y v:V)(H':Hp):Prop :=
 (∃kvs k,H a=some (.dK kvs)/\y=kV k/\kvs.length<sizeLine/\H'=upd H a (.dK (putK kvs k v))) \/
 ∃kvs k b,H a=some (.dT kvs)/\y=.ref b/\H b=some (.tup (k.map kV))/\kvs.length<sizeLine/\H'=upd H a (.dT (putK kvs k v))
theorem DGet.k{H:Hp}{a:Addr}{kvs:List (Key×V)}{k:Key}(e:H a=some (.dK kvs)):DGet H a (kV k) (i8 kvs k):=.inl ⟨kvs,k,.inl e,rfl,rfl⟩
theorem DGet.t{a b:Addr}{k:List Key}(e:H a=some (.dT kvs))(eb:H b=some (.tup (k.map kV))):DGet H a (.ref b) (i8 kvs k):=.inr ⟨kvs,k,b,.inl e,rfl,eb,rfl⟩
theorem DPut.k{H:Hp}{a:Addr}{kvs:List (Key×V)}{k:Key}{v:V}(e:H a=some (.dK kvs))(hl:kvs.length<sizeLine):DPut H a (kV k) v (upd H a (.dK (putK kvs k v))):=.inl ⟨kvs,k,e,rfl,hl,rfl⟩
theorem DPut.t{a b:Addr}{k:List Key}{v:V}(e:H a=some (.dT kvs))(eb:H b=some (.tup (k.map kV)))(hl:kvs.length<sizeLine) :
  DPut H a (.ref b) v (upd H a (.dT (putK kvs k v))):=.inr ⟨kvs,k,b,e,rfl,eb,hl,rfl⟩
section
variable {a:Addr} {v:V} {r:Value}
theorem Inv.big(I:Inv X pins Z H s):sysModules<s.heap.objs.size:=by
 have h:mainGlobals<s.heap.objs.size:=(I.mod.glob.keeps I.bk).lt
 exact Nat.lt_trans (by decide) h
theorem yj(hu:A.units+1<cLine)(I:Inv X pins Z H s)(g:DGet H a y (some v))(ry:RelV y u)(h:∀w' s',Inv X pins Z H s'->RelV v w'->Q w' s') :
  wpAny (model X.prog X.w) A (getItem (.ref a) u) Q E s:=by
 rcases g with ⟨kvs,k,e,ey,l⟩|⟨kvs,k,b,e,ey,eb,l⟩
 ·subst ey
  obtain⟨z,hd,vs,rel,dd⟩:=mZ I.hok e
  obtain⟨w',hw,rw'⟩:=RelO.some_of (v:=v) (o:=valueAt vs k) (by rw[l];exact rel.val k)
  exact wpAny_getItem_of (ky ry) dd.mapOf hw (h w' _ (I.tok _) rw')
 ·subst ey
  cases (show u=Value.ref b from ry)
  obtain⟨z,hd,xs,rel,dd⟩:=oY I.hok e
  obtain⟨w',hw,rw'⟩:=RelO.some_of (v:=v) (o:=(atKey xs k).map (·.2)) (by rw[l];exact rel.val k)
  obtain⟨p,hp,hp2⟩:=Option.map_eq_some_iff.mp hw
  refine wpAny_getItem_heap (Go hu) (fZ I.hok eb) dd hp ?_
  rw[hp2]
  exact h w' _ (I.tok _) rw'
theorem CW(hu:A.units+1<cLine)(I:Inv X pins Z H s)(g:DGet H a y o)(ry:RelV y u)(h:∀s',Inv X pins Z H s'->Q (.bool (!o.isSome)) s') :
  wpAny (model X.prog X.w) A (compareOp .NotIn u (.ref a)) Q E s:=by
 rcases g with ⟨kvs,k,e,ey,l⟩|⟨kvs,k,b,e,ey,eb,l⟩
 ·subst ey
  obtain⟨z,hd,vs,rel,dd⟩:=mZ I.hok e
  refine wpAny_notIn_of (ky ry) hd dd.mapOf ?_
  rw[<-(rel.val k).isSome_eq,<-l]
  exact h _ (I.tok _)
 ·subst ey
  cases (show u=Value.ref b from ry)
  obtain⟨z,hd,xs,rel,dd⟩:=oY I.hok e
  refine wpAny_notIn_heap (Go hu) (fZ I.hok eb) hd dd ?_
  have q:=(rel.val k).isSome_eq
  rw[Option.isSome_map]at q
  rw[<-q,<-l]
  exact h _ (I.tok _)
theorem jK{h':Heap}{t':Nat}{ob:HO}(I:Inv X pins Z H s)(mu:Mut (H a))(hs:Heap.SameBut a s.heap h')(he:∃q,h'.get? a=some q)(new:ObjOk X.prog X.w (upd H a ob) h' a ob) :
  Inv X pins Z (upd H a ob) { s with heap:=h',toks:=t' } :=
 I.write (x:=a) (e:=a) mu (.inl rfl) (λb q hb z=>(hs.2 b hb).trans z) he new
theorem AM{h':Heap}{kvs:List (Key×V)}{vs:List (Key×Value)}(z:kvs.length<=sizeLine)(hd:(a==sysModules)=false)(rel:KV kvs vs)(dd:h'.DictOf (aX P w) a vs) :
  ObjOk P w H' h' a (.dK kvs):=⟨z,hd,vs,rel,dd⟩
theorem yh{Q:Unit->Shared->Prop}(hu:A.units+1<cLine)(I:Inv X pins Z H s)(g:DPut H a y v H')(ry:RelV y u)(rv:RelV v r)(h:∀s',Inv X pins Z H' s'->Q () s') :
  wpAny (model X.prog X.w) A (setItem (.ref a) u r) Q E s:=by
 rcases g with ⟨kvs,k,e,ey,l,eH⟩|⟨kvs,k,b,e,ey,eb,l,eH⟩
 ·subst ey eH
  obtain⟨z,hd,vs,rel,dd⟩:=sK I.hok e
  have hz:vs.length<=sizeLine:=by rw[<-rel.length];exact z
  have hl:(putK kvs k v).length<=sizeLine:=by have:=cX kvs k v;lia
  refine wpAny_setItem_pairs (hsz:=hz) (ky ry) dd λh' dd' hs=>h _ ?_
  have he:∃q,h'.get? a=some q:=let ⟨q,_,_,hq,_⟩:=dd';⟨q,hq⟩
  exact jK I (by rw[e];exact True.intro) hs he (AM hl hd (rel.put k rv) dd')
 ·subst ey eH
  cases (show u=Value.ref b from ry)
  obtain⟨z,hd,xs,rel,dd⟩:=mX I.hok e
  have hz:xs.length<=sizeLine:=by rw[<-Paired.length rel];exact z
  have hl:(putK kvs k v).length<=sizeLine:=by have:=cX kvs k v;lia
  refine wpAny_setItem_heap (hsz:=hz) (Go hu) (fZ I.hok eb) dd λh' dd' hs=>h _ ?_
  obtain⟨q,es,ep,hq,h2,h3,h4,_,h5⟩:=dd'
  refine jK I (by rw[e];exact True.intro) hs ⟨q,hq⟩ ⟨hl,hd,_,(rel.put k eb rv).keeps λc ys ec=>?_,q,es,ep,hq,h2,h3,h4,h5⟩
  rw[aA (zS ec e (λz=>nomatch z))]
  exact ec
end
section
variable {a:Addr} {kvs:List (Key×V)} {k:Key}
theorem Im(I:Inv X pins Z H s)(e:Rd H a (.dK kvs))(h:∀t s',Inv X pins Z H s'->Q (.int kvs.length t) s'):wpAny (model X.prog X.w) A (call (.builtin "len") [.ref a]) Q E s:=by
 obtain⟨z,hd,vs,rel,dd⟩:=mZ I.hok e
 refine call_len_dict hd dd (by rw[<-rel.length];rw[Kb]at z;lia) ?_
 rw[<-rel.length]
 exact h _ _ (I.tok _)
end
theorem sM{a:Addr}(I:Inv X pins Z H s)(g:DGet H a y o):s.TypeIs (.ref a) "dict":=by
 rcases g with ⟨kvs,k,e,_,_⟩|⟨kvs,k,b,e,_,_,_⟩
 ·obtain⟨_,_,vs,_,dd⟩:=mZ I.hok e
  exact dd.typeIs
 ·obtain⟨_,_,xs,_,dd⟩:=oY I.hok e
  exact dd.typeIs
def G4(td ty tv:TE):TS:=λD Z H=>tv Z H λv H1=>td Z H1 λx H2=>ty Z H2 λy H3=>∃a H4,x=.ref a/\DPut H3 a y v H4/\D.nx Z H4
section
variable {o i e value:Expr} {pos' tpos:Pos} {td ty tv:TE}
theorem BV(hu:X.A.units+1<cLine)(ho:PE X o td)(hi:PE X i ty)(hv:PE X value tv)(hs:swapsWith value (some (.Subscript o i pos')) pos.line X.env=pure false) :
  PS X (.Assign [.Subscript o i pos'] value pos) (G4 td ty tv):=by
 intro pins s Z H D I h
 refine wpAny_Assign_Subscript (thn (hv pins s Z H _ I h) λr s1 ⟨v,H1,I1,rv,q1⟩=>thn (ho pins s1 Z H1 _ I1 q1) λu s2 ⟨x,H2,I2,rx,q2⟩=>thn (hi pins s2 Z H2 _ I2 q2) λiv s3 ⟨y,H3,I3,ry,a,H4,ex,g,q3⟩=>?_) hs
 subst ex
 obtain rfl:u=Value.ref a:=rx
 exact yh hu I3 g ry rv λs4 I4=>⟨Z,H4,I4,q3⟩
end
theorem sL(h:Heap)(hb:sysModules<h.objs.size):ObjOk P w H (h.push { cls:=.type "dict",data:=.dict #[] }) h.objs.size (.dK []) :=
 ⟨bi _,beq_eq_false_iff_ne.mpr (Ne.symm (eE hb)),[],.nil,Heap.DictOf.new h⟩
theorem mY(h:Heap)(hb:sysModules<h.objs.size):ObjOk P w H (h.push { cls:=.type "dict",data:=.dict #[] }) h.objs.size (.dT []) :=
 ⟨bi _,beq_eq_false_iff_ne.mpr (Ne.symm (eE hb)),[],.nil,_,#[],0,zze _ rfl,⟨rfl,rfl,rfl⟩,rfl,rfl,JX⟩
def Ej:TE:=λ_ H Q=>∀p,H p=none->Q (.ref p) (upd H p (.dK []))
def Ei:TE:=λ_ H Q=>∀p,H p=none->Q (.ref p) (upd H p (.dT []))
section
theorem zG:PE X (.Dict [] [] pos) Ej:=λpins s Z H Q I h =>
 wpAny_Dict_empty ⟨.ref s.heap.objs.size,_,I.laid (a:=s.heap.objs.size) (o:=.dK []) (t':=s.toks) (λ_ _ q=>zzc _ q) (ai _) (sL s.heap I.big),rfl,h _ (I.hok.fresh (ai _))⟩
theorem zF:PE X (.Dict [] [] pos) Ei:=λpins s Z H Q I h =>
 wpAny_Dict_empty ⟨.ref s.heap.objs.size,_,I.laid (a:=s.heap.objs.size) (o:=.dT []) (t':=s.toks) (λ_ _ q=>zzc _ q) (ai _) (mY s.heap I.big),rfl,h _ (I.hok.fresh (ai _))⟩
end
def yS:List (TE×TE)->St->Hp->(List (V×V)->Hp->Prop)->Prop
 | [],_,H,Q=>Q [] H
 | (tk,tv)::r,Z,H,Q=>tk Z H λx H1=>tv Z H1 λy H2=>yS r Z H2 λps H3=>Q ((x,y)::ps) H3
abbrev VV:List (V×V)->List (Value×Value)->Prop:=Paired λp q=>RelV p.1 q.1/\RelV p.2 q.2
def PPs(X:Cx)(pos:Pos)(keys:List (Option Expr))(values:List Expr)(trs:List (TE×TE)):Prop :=
 ∀(pins:zzk) (s:Shared) (Z:St) (H:Hp) (Q:List (V×V)->Hp->Prop),Inv X pins Z H s->yS trs Z H Q ->
  wpAny (model X.prog X.w) X.A (evalPairs (pairTrees keys values X.env pos)) (λvs s'=>∃ps H',Inv X pins Z H' s'/\VV ps vs/\Q ps H') X.xe s
theorem BX:PPs X pos [] [] []:=λpins s Z H Q I h=>pairTrees_nil_walk ⟨[],H,I,.nil,h⟩
theorem zt{k v:Expr}{ks:List (Option Expr)}{vs:List Expr}{tk tv:TE}{trs:List (TE×TE)}(hk:PE X k tk)(hv:PE X v tv)(hr:PPs X pos ks vs trs) :
  PPs X pos (some k::ks) (v::vs) ((tk,tv)::trs):=λpins s Z H Q I h =>
 pairTrees_cons_walk (thn (hk pins s Z H _ I h) λu s1 ⟨x,H1,I1,rx,q1⟩=>thn (hv pins s1 Z H1 _ I1 q1) λw2 s2 ⟨y,H2,I2,ry,q2⟩ =>
  thn (hr pins s2 Z H2 _ I2 q2) λws s3 ⟨ps,H3,I3,rel,q3⟩=>⟨(x,y)::ps,H3,I3,.cons ⟨rx,ry⟩ rel,q3⟩)
structure M1(X:Cx)(o:Expr)(m:Str)(apos:Pos)(e:Expr)(cpos:Pos):Prop where
 base:attributeBase o m X.env (eval o X.env)=eval o X.env
 few:((backTo cpos (starEach [e] X.env)).all (λx=>!x.1)&&(backToKw cpos (keywordEach [] X.env)).all (λx=>x.1.isSome)
  && decide (([e]:List Expr).length+([]:List Keyword).length+(if([]:List Keyword).isEmpty then 0 else 1)<30))=true
 line:(apos.endLine==cpos.line)=true
 trees:backTo cpos (starEach [e] X.env)=[(false,eval e X.env)]
def IsD(H:Hp)(a:Addr):Prop:=(∃kvs,Rd H a (.dK kvs))\/∃kvs,Rd H a (.dT kvs)
theorem FF{a:Addr}(I:Inv X pins Z H s)(d:IsD H a) :
  s.TypeIs (.ref a) "dict" /\ (∀b,Value.ref a=.ref b->∃ob,s.heap.get? b=some ob/\ob.dict=none)/\(a==sysModules)=false:=by
 rcases d with ⟨kvs,e⟩|⟨kvs,e⟩
 ·obtain⟨_,hd,vs,_,dd⟩:=mZ I.hok e
  refine⟨dd.typeIs,λb q=>?_,hd⟩
  cases q
  obtain⟨ob,_,_,h1,h2,_⟩:=dd
  exact⟨ob,h1,h2.2.1⟩
 ·obtain⟨_,hd,xs,_,dd⟩:=oY I.hok e
  refine⟨dd.typeIs,λb q=>?_,hd⟩
  cases q
  obtain⟨ob,_,_,h1,h2,_⟩:=dd
  exact⟨ob,h1,h2.2.1⟩
section
variable {a:Addr} {d:V} {r:Value}
theorem FW(hu:A.units+1<cLine)(I:Inv X pins Z H s)(g:DGet H a y o)(ry:RelV y u)(h:∀w' s',Inv X pins Z H s'->RelV (o.getD .non) w'->Q w' s') :
  wpAny (model X.prog X.w) A (call (.builtin "dict.get") [.ref a,u]) Q E s:=by
 rcases g with ⟨kvs,k,e,ey,l⟩|⟨kvs,k,b,e,ey,eb,l⟩
 ·subst ey
  obtain⟨z,hd,vs,rel,dd⟩:=mZ I.hok e
  refine KW JH dd.typeIs JV (JS _ _) (meets_dict_get (aX X.prog X.w) a (ky ry) hd) ⟨_,dd.mapOf,h _ _ (I.tok _) ?_⟩
  rw[l]
  exact(rel.val k).getD rfl
 ·subst ey
  cases (show u=Value.ref b from ry)
  obtain⟨z,hd,xs,rel,dd⟩:=oY I.hok e
  refine KW JH dd.typeIs JV (JS _ _) (meetsH_dict_get (tupleKind (aX X.prog X.w)) a b hd) ⟨Go hu,k,xs,fZ I.hok eb,dd,h _ _ (I.tok _) ?_⟩
  rw[l]
  exact(rel.val k).getD rfl
end
end L2
namespace L4
open PySem PySem.Spec PyProof.Rows L2 PySem.W
def XO(e C:Addr)(dd:Option Addr):Heap->Prop:=λh=>∃oe,h.get? e=some oe/\oe.cls=.ref C/\oe.dict=dd/\PySem.W.notCls oe=true
def XD(dx:Addr)(fs:List (Str×V)):Heap->Prop:=λh=>∃mA,h.Ns1 dx mA/\PySem.Within mA (fs.map (·.1))/\∀f,RelO (fs.lookup f) (mA f)
abbrev bmV:List Value:=[.type "ValueError",.type "Exception",.type "BaseException",.type "object"]
structure XC(K:Frag)(C D fI:Addr):Prop where
 obj:∃nm q N bs sn sub ab col dd k0 k1 k2 k3 k5,K.lookup C=some (excClassObj nm q C N bs (.ref D::bmV) true sn sub ab col dd k0 k1 k2 k3 k5 "ValueError.__new__")
 tl:tailIn K bmV (.ref D::bmV)=true
 ini:findIn K (.ref C) "__init__" = some (some (.ref fI))
 fn:typeIn K (.ref fI)=some (.type "function")
 sa:findIn K (.ref C) "__setattr__" = some (some (.builtin "object.__setattr__"))
 ga:findIn K (.ref C) "__getattribute__" = some (some (.builtin "BaseException.__getattribute__"))
 gr:findIn K (.ref C) "__getattr__" = some none
structure KC(K:Frag)(C:Addr):Prop where
 ha:findIn K (.ref C) "__class__" = some (some (.builtin "object.__class__"))
 hn:specialIn K (.builtin "object.__class__") "__get__" = some (some (.builtin "getset_descriptor.__get__"))
 htk:takesIn K (.builtin "object.__class__")=some true
def nC(T:String):Bool:=T == "bool" || T == "int" || T == "str" || T == "list" || T == "tuple" || T == "dict"
structure XQ(K:Frag)(C:Addr)(x:Str):Prop where
 ns:nsIn K mainGlobals x=some (some (.ref C))
 xc:∃D fI,XC K C D fI
 kc:KC K C
 no:∀T,nC T=true->kitOne K (.ref C) (.type T)=some false
def FX(F:Hp)(dd:Option Addr)(fv:List (Str×V)):Prop:=(dd=none/\fv=[])\/∃dx,dd=some dx/\F dx=some (.ext (XD dx fv))
theorem FX.mono{F F':Hp}{dd:Option Addr}{fv:List (Str×V)}(e:Same F F')(h:FX F dd fv):FX F' dd fv:=h.imp id λ⟨dx,h1,h2⟩=>⟨dx,h1,e _ _ h2⟩
end L4
namespace L3
open PySem PySem.Spec PyProof.Rows L2
variable {F H F':Hp}{v:V}{vs:List V}{p:Addr}{o:HO}{Z:L2.St}
abbrev D:=PyData
abbrev Fg:=PySem.W.Frag
def keyD:Key->D
 | .inl i=>.int i
 | .inr x=>.str x
def g7(k:List Key):D:=.tuple (k.map keyD)
mutual
inductive Rep(K:Fg)(F:Hp):V->D->Prop
 | non:Rep K F .non .none
 | bl (b):Rep K F (.bl b) (.bool b)
 | int (i):Rep K F (.int i) (.int i)
 | str (x):Rep K F (.str x) (.str x)
 | tup {a vs ds}:F a=some (.tup vs)->RepL K F vs ds->Rep K F (.ref a) (.tuple ds)
 | lst {a vs ds}:SqL K F a vs->RepL K F vs ds->Rep K F (.ref a) (.list ds)
 | dct {a kvs es}:F a=some (.dT kvs)->es.map (·.1)=kvs.map (λp=>g7 p.1)->RepL K F (kvs.map (·.2)) (es.map (·.2))->Rep K F (.ref a) (.dict es)
 | dck {a kvs es}:F a=some (.dK kvs)->es.map (·.1)=kvs.map (λp=>keyD p.1)->RepL K F (kvs.map (·.2)) (es.map (·.2))->Rep K F (.ref a) (.dict es)
 | exc {a C dd cl fv es}:F a=some (.ext (L4.XO a C dd))->L4.XQ K C cl->L4.FX F dd fv->es.map (·.1)=fv.map (λp=>.str p.1)->RepL K F (fv.map (·.2)) (es.map (·.2))->Rep K F (.ref a) (.dict ((.none,.str cl)::es))
 | fn {a f}:PySem.W.nsIn K mainGlobals f=some (some (.ref a))->Rep K F (.ref a) (.dict [(.bool true,.str f)])
inductive RepL(K:Fg)(F:Hp):List V->List D->Prop
 | nil:RepL K F [] []
 | cons {v d vs ds}:Rep K F v d->RepL K F vs ds->RepL K F (v::vs) (d::ds)
end
theorem bK{K:Fg}{a:Addr}{xs:List V}(e:Same F F')(h:SqT K F a xs):SqT K F' a xs:=by
 rcases h with (h|⟨o,h⟩)|h
 ·exact .inl (.inl (e _ _ h))
 ·exact .inl (.inr ⟨o,e _ _ h⟩)
 ·exact .inr h
theorem Rep.mono{K:Fg}(e:Same F F'){d:D}(h:Rep K F v d):Rep K F' v d :=
 Rep.rec (motive_1:=λv d _=>Rep K F' v d) (motive_2:=λvs ds _=>RepL K F' vs ds) .non .bl .int .str (λh _ r=>.tup (e _ _ h) r) (λh _ r=>.lst (e.seq h) r) (λh k _ r=>.dct (e _ _ h) k r) (λh k _ r=>.dck (e _ _ h) k r) (λh q f k _ r=>.exc (e _ _ h) q (f.mono e) k r) (λh=>.fn h) .nil (λ_ _ a b=>.cons a b) h
theorem RepL.mono{K:Fg}(e:Same F F'){ds:List D}(h:RepL K F vs ds):RepL K F' vs ds:=by
 induction vs generalizing ds with
 | nil=>cases h;exact .nil
 | cons v vs ih=>cases h with
  | cons a b=>exact .cons (a.mono e) (ih b)
def Ha(K:Fg)(F:Hp):D->V->Prop
 | .none,v=>v=.non
 | .bool b,v=>v=.bl b
 | .int i,v=>v=.int i
 | .str x,v=>v=.str x
 | .tuple ds,v=>∃a vs,v=.ref a/\F a=some (.tup vs)/\RepL K F vs ds
 | .list ds,v=>∃a vs,v=.ref a/\SqL K F a vs/\RepL K F vs ds
 | _,_=>True
theorem Rep.inv{K:Fg}{d:D}(h:Rep K F v d):Ha K F d v :=
 Rep.casesOn (motive_1:=λv d _=>Ha K F d v) h rfl (λ_=>rfl) (λ_=>rfl) (λ_=>rfl) (λh r=>⟨_,_,rfl,h,r⟩) (λh r=>⟨_,_,rfl,h,r⟩) (λ_ _ _=>True.intro) (λ_ _ _=>True.intro) (λ_ _ _ _ _=>True.intro) (λ_=>True.intro)
theorem Rep.int_inv{K:Fg}{i:Int}(h:Rep K F v (.int i)):v=.int i:=h.inv
theorem Rep.bool_inv{K:Fg}{i:Bool}(h:Rep K F v (.bool i)):v=.bl i:=h.inv
theorem Rep.str_inv{K:Fg}{i:Str}(h:Rep K F v (.str i)):v=.str i:=h.inv
theorem Rep.tup_inv{K:Fg}{ds:List D}(h:Rep K F v (.tuple ds)):∃a vs,v=.ref a/\F a=some (.tup vs)/\RepL K F vs ds:=h.inv
theorem Rep.lst_inv{K:Fg}{ds:List D}(h:Rep K F v (.list ds)):∃a vs,v=.ref a/\SqL K F a vs/\RepL K F vs ds:=h.inv
def DF(K:Fg)(F:Hp):List D->List V->Prop
 | [],vs=>vs=[]
 | d::ds,vs=>∃v us,vs=v::us/\Rep K F v d/\RepL K F us ds
theorem RepL.inv{K:Fg}{ds:List D}(h:RepL K F vs ds):DF K F ds vs :=
 RepL.casesOn (motive_2:=λvs ds _=>DF K F ds vs) h rfl (λa b=>⟨_,_,rfl,a,b⟩)
theorem RepL.one_inv{K:Fg}{d:D}(h:RepL K F vs [d]):∃v,vs=[v]/\Rep K F v d:=by
 obtain⟨v,us,rfl,a,b⟩:=(h.inv:∃v us,vs=v::us/\Rep K F v d/\RepL K F us [])
 obtain rfl:us=[]:=b.inv
 exact⟨v,rfl,a⟩
theorem RepL.two_inv{K:Fg}{d e:D}(h:RepL K F vs [d,e]):∃v u,vs=[v,u]/\Rep K F v d/\Rep K F u e:=by
 obtain⟨v,us,rfl,a,b⟩:=(h.inv:∃v us,vs=v::us/\Rep K F v d/\RepL K F us [e])
 obtain⟨u,rfl,c⟩:=b.one_inv
 exact⟨v,u,rfl,a,c⟩
theorem RepL.length{K:Fg}:∀{vs ds},RepL K F vs ds->vs.length=ds.length
 | _,_,.nil=>rfl
 | _,_,.cons _ r=>by simp[RepL.length r]
theorem RepL.get{K:Fg}:∀{vs ds} {i:Nat} {d:D},RepL K F vs ds->ds[i]? = some d->∃v,vs[i]? = some v/\Rep K F v d
 | _,_,_,_,.nil,e=>by simp at e
 | _,_,0,_,.cons h _,e=>by simp at e;subst e;exact⟨_,rfl,h⟩
 | _,_,i+1,d,.cons _ r,e=>by
  obtain⟨v,h1,h2⟩:=RepL.get (i:=i) (d:=d) r (by simpa using e)
  exact⟨v,by simpa using h1,h2⟩
theorem RepL.append{K:Fg}{ds:List D}{us:List V}{es:List D}(h:RepL K F vs ds)(s:RepL K F us es):RepL K F (vs++us) (ds++es):=by
 induction vs generalizing ds with
 | nil=>cases h;exact s
 | cons v vs ih=>cases h with
  | cons a b=>exact .cons a (ih b)
theorem RepL.take{K:Fg}:∀{vs ds} (n:Nat),RepL K F vs ds->RepL K F (vs.take n) (ds.take n)
 | _,_,0,_=>.nil
 | _,_,_+1,.nil=>.nil
 | _,_,n+1,.cons h r=>.cons h (RepL.take n r)
theorem RepL.drop{K:Fg}:∀{vs ds} (n:Nat),RepL K F vs ds->RepL K F (vs.drop n) (ds.drop n)
 | _,_,0,r=>r
 | _,_,_+1,.nil=>.nil
 | _,_,n+1,.cons _ r=>RepL.drop n r
theorem RepL.set{K:Fg}{d:D}(h:Rep K F v d):∀{vs ds} (i:Nat),RepL K F vs ds->RepL K F (vs.set i v) (ds.set i d)
 | _,_,_,.nil=>.nil
 | _,_,0,.cons _ r=>.cons h r
 | _,_,i+1,.cons q r=>.cons q (RepL.set h i r)
theorem RepL.ints{K:Fg}:∀(ns:List Int),RepL K F (ns.map V.int) (ns.map PyData.int)
 | []=>.nil
 | n::r=>.cons (.int n) (RepL.ints r)
section
variable {X:Cx} {pins:zzk} {s:Shared}
theorem oz{u:List Value}(r:Vals [] u):∃as,ReadsAll s.heap u [] as:=by cases r;exact⟨_,.nil⟩
theorem lL{d:D}{ds:List D}(h:d.canLay0=true->∀{u},RelV v u->∃as,Reads s.heap u d as)(t:PyData.canLayAll0 ds=true->∀{us},Vals vs us->∃as,ReadsAll s.heap us ds as)(c:PyData.canLayAll0 (d::ds)=true){us:List Value}(r:Vals (v::vs) us):∃as,ReadsAll s.heap us (d::ds) as:=by
 simp only[PyData.canLayAll0,ax]at c
 cases r with
 | cons r rr =>
  obtain⟨as,ra⟩:=h c.1 r
  obtain⟨bs,rb⟩:=t c.2 rr
  exact⟨_,.cons ra rb⟩
theorem xA(I:Inv X pins Z H s){a:Addr}{ds:List D}(hq:H a=some (.tup vs))(ih:PyData.canLayAll0 ds=true->∀{us},Vals vs us->∃as,ReadsAll s.heap us ds as)(c:(PyData.tuple ds).canLay0=true){u:Value}(r:RelV (.ref a) u):∃as,Reads s.heap u (.tuple ds) as:=by
 cases r
 obtain⟨its,rv,⟨o,e1,e2,n',e3⟩,hz⟩:=I.tuple (SqT.of hq)
 obtain⟨as,ra⟩:=ih (by simpa[PyData.canLay0]using c) rv
 exact⟨_,.tuple e1 e2 e3 (by simpa using ra)⟩
theorem xB(I:Inv X pins Z H s){a:Addr}{ds:List D}(hq:SqL X.K H a vs)(ih:PyData.canLayAll0 ds=true->∀{us},Vals vs us->∃as,ReadsAll s.heap us ds as)(c:(PyData.list ds).canLay0=true){u:Value}(r:RelV (.ref a) u):∃as,Reads s.heap u (.list ds) as:=by
 cases r
 obtain⟨its,rv,⟨o,n',e1,e2,e3,e4⟩,hz⟩:=I.list hq
 obtain⟨as,ra⟩:=ih (by simpa[PyData.canLay0]using c) rv
 exact⟨_,.list e1 e2 e4 (by simpa using ra)⟩
theorem iB{es:List (D×D)}{P:Prop}(c:(PyData.dict es).canLay0=true):P:=by simp[PyData.canLay0]at c
theorem zh(I:Inv X pins Z H s){d:D}(h:Rep X.K H v d):d.canLay0=true->∀{u},RelV v u->∃as,Reads s.heap u d as :=
 Rep.rec (motive_1:=λv d _=>d.canLay0=true->∀{u},RelV v u->∃as,Reads s.heap u d as) (motive_2:=λvs ds _=>PyData.canLayAll0 ds=true->∀{us},Vals vs us->∃as,ReadsAll s.heap us ds as)
  (λ_ {_} r=>by cases r;exact⟨_,.none⟩) (λb _ {_} r=>by cases r;exact⟨_,.bool b⟩) (λi _ {_} r=>by obtain⟨t,rfl⟩:=r;exact⟨_,.int i t⟩) (λx _ {_} r=>by obtain⟨t,rfl⟩:=r;exact⟨_,.str x t⟩)
  (λhq _ ih=>xA I hq ih) (λhq _ ih=>xB I hq ih) (λ_ _ _ _ c=>iB c) (λ_ _ _ _ c=>iB c) (λ_ _ _ _ _ _ c=>iB c) (λ_ c=>iB c)
  (λ_ {_} r=>oz r) (λ_ _ a b=>lL a b) h
theorem EG(I:Inv X pins Z H s){ds:List D}(h:RepL X.K H vs ds):PyData.canLayAll0 ds=true->∀{us},Vals vs us->∃as,ReadsAll s.heap us ds as:=by
 induction vs generalizing ds with
 | nil=>cases h;exact λ_ _ r=>oz r
 | cons v vs ih=>cases h with
  | cons a b=>exact lL (zh I a) (ih b)
end
theorem bR{X:Cx}{pins:zzk}{s:Shared}(I:Inv X pins Z H s) :
  (∀{v d},Rep X.K H v d->d.canLay0=true->∀{u},RelV v u->∃as,Reads s.heap u d as)/\(∀{vs ds},RepL X.K H vs ds->PyData.canLayAll0 ds=true->∀{us},Vals vs us->∃as,ReadsAll s.heap us ds as) :=
 ⟨λ{v d} h c {u} r=>zh I h c r,λ{vs ds} h c {us} r=>EG I h c r⟩
def d9:List (D×D)->Bool
 | (.none,_)::_=>true
 | (.bool _,_)::_=>true
 | _=>false
def isFn:D->Bool
 | .dict ((.bool _,_)::_)=>true
 | _=>false
inductive OC where
 | l (ds:List D)
 | t (es:List (D×D))
 | k (es:List (D×D))
 | i (x:Str) (ns:List Str) (ds:List D)
def OC.isI:OC->Bool
 | .i _ _ _=>true
 | _=>false
inductive AV where
 | fz (d:D)
 | ol (c:OC)
 | op (c:OC)
abbrev En:=List (Option AV)
inductive RV where
 | fz (d:D)
 | fr (c:OC)
 | bor (i:Nat)
def yG:HO->Prop
 | .tup _=>False
 | .ext _=>False
 | _=>True
structure Gh where
 P:Nat->Option Addr
 O:Hp
 B:Hp
def Held(K:Fg)(F H:Hp)(a:Addr):OC->Prop
 | .l ds=>∃vs,H a=some (.lst vs)/\RepL K F vs ds
 | .t es=>∃kvs,H a=some (.dT kvs)/\es.map (·.1)=kvs.map (λp=>g7 p.1)/\RepL K F (kvs.map (·.2)) (es.map (·.2))
 | .k es=>∃kvs,H a=some (.dK kvs)/\es.map (·.1)=kvs.map (λp=>keyD p.1)/\RepL K F (kvs.map (·.2)) (es.map (·.2))
 | .i x ns ds=>∃C dx fs,H a=some (.ins C dx fs)/\PySem.W.nsIn K mainGlobals x=some (some (.ref C))/\fs.map (·.1)=ns/\RepL K F (fs.map (·.2)) ds
structure OwnAt(K:Fg)(G:Gh)(F H:Hp)(a:Addr)(c:OC):Prop where
 nf:F a=none
 no:G.O a=none
 he:Held K F H a c
def own(ρ:En)(i:Nat)(c:OC):Prop:=ρ[i]? = some (some (.ol c))\/ρ[i]? = some (some (.op c))
structure StOk(K:Fg)(G:Gh)(F:Hp)(Z:L2.St)(H:Hp)(ρ:En):Prop where
 fh:Same F H
 oh:Same G.O H
 fo:∀b o,G.O b=some o->F b=none/\yG o
 ln:Z.length=ρ.length
 fz:∀(i:Nat) (d:D),ρ[i]? = some (some (AV.fz d))->∃v,Z[i]? = some (some v)/\Rep K F v d
 ow:∀(i:Nat) (c:OC),own ρ i c->∃a:Addr,Z[i]? = some (some (V.ref a))/\OwnAt K G F H a c
 dj:∀(i j:Nat) (c e:OC) (a:Addr),own ρ i c->own ρ j e->Z[i]? = some (some (V.ref a))->Z[j]? = some (some (V.ref a))->i=j
 pp:∀(i:Nat) (a:Addr),G.P i=some a->Z[i]? = some (some (V.ref a))/\∃c,ρ[i]? = some (some (AV.op c))
 pq:∀(i:Nat) (c:OC),ρ[i]? = some (some (AV.op c))->∃a,G.P i=some a
 fb:Same G.B F
def RVR(K:Fg)(G:Gh)(F:Hp)(Z:L2.St)(H:Hp)(ρ:En)(v:V):RV->Prop
 | .fz d=>Rep K F v d
 | .fr c=>∃a,v=.ref a/\OwnAt K G F H a c/\∀(i:Nat) (e:OC),own ρ i e->Z[i]? ≠ some (some (V.ref a))
 | .bor i=>∃c,own ρ i c/\Z[i]? = some (some v)
theorem Held.mono{K:Fg}{a:Addr}{c:OC}(e:Same F F')(h:Held K F H a c):Held K F' H a c:=by
 cases c with
 | l ds=>obtain⟨vs,h1,h2⟩:=h;exact⟨vs,h1,h2.mono e⟩
 | t es=>obtain⟨vs,h1,h2,h3⟩:=h;exact⟨vs,h1,h2,h3.mono e⟩
 | k es=>obtain⟨vs,h1,h2,h3⟩:=h;exact⟨vs,h1,h2,h3.mono e⟩
 | i x ns ds=>obtain⟨C,dx,fs,h1,h2,h3,h4⟩:=h;exact⟨C,dx,fs,h1,h2,h3,h4.mono e⟩
theorem Held.some{K:Fg}{a:Addr}{c:OC}(h:Held K F H a c):∃o,H a=some o:=by
 cases c with
 | l ds=>obtain⟨vs,h1,h2⟩:=h;exact⟨_,h1⟩
 | t es=>obtain⟨vs,h1,h2⟩:=h;exact⟨_,h1⟩
 | k es=>obtain⟨vs,h1,h2⟩:=h;exact⟨_,h1⟩
 | i x ns ds=>obtain⟨C,dx,fs,h1,_⟩:=h;exact⟨_,h1⟩
theorem Held.at{K:Fg}{H':Hp}{a:Addr}{c:OC}(h:Held K F H a c)(e:H' a=H a):Held K F H' a c:=by
 cases c with
 | l ds=>obtain⟨vs,h1,h2⟩:=h;exact⟨vs,e.trans h1,h2⟩
 | t es=>obtain⟨vs,h1,h2⟩:=h;exact⟨vs,e.trans h1,h2⟩
 | k es=>obtain⟨vs,h1,h2⟩:=h;exact⟨vs,e.trans h1,h2⟩
 | i x ns ds=>obtain⟨C,dx,fs,h1,h2⟩:=h;exact⟨C,dx,fs,e.trans h1,h2⟩
theorem bL(h:F p=none):Same F (upd F p o):=λb u e=>by
 rw[aA (aL e h)]
 exact e
theorem dP(s:Same F H)(h:F p=none):Same F (upd H p o):=λb u e=>by
 rw[aA (aL e h)]
 exact s b u e
section
variable {K:Fg} {G:Gh} {ρ:En}
theorem StOk.lay(S:StOk K G F Z H ρ)(hp:H p=none):StOk K G F Z (upd H p o) ρ:=by
 have fp:F p=none:=S.fh.free hp
 have op:G.O p=none:=S.oh.free hp
 refine⟨dP S.fh fp,dP S.oh op,S.fo,S.ln,S.fz,λi c h=>?_,S.dj,S.pp,S.pq,S.fb⟩
 obtain⟨a,e,oa⟩:=S.ow i c h
 refine⟨a,e,oa.nf,oa.no,oa.he.at ?_⟩
 obtain⟨u,hu⟩:=oa.he.some
 exact aA (aL hu hp)
theorem StOk.fresh_ne(S:StOk K G F Z H ρ)(hp:H p=none):∀(i:Nat) (e:OC),own ρ i e->Z[i]? ≠ some (some (V.ref p)):=λi e h q=>by
 obtain⟨a,e1,oa⟩:=S.ow i e h
 rw[e1]at q
 injection q with q;injection q with q;injection q with q
 subst q
 obtain⟨u,hu⟩:=oa.he.some
 rw[hp]at hu;cases hu
theorem StOk.freeze(S:StOk K G F Z H ρ){a:Addr}(ha:H a=some o)(fa:F a=none)(oa:G.O a=none)(ne:∀(i:Nat) (e:OC),own ρ i e->Z[i]? ≠ some (some (V.ref a))):StOk K G (upd F a o) Z H ρ:=by
 have sm:Same F (upd F a o):=bL fa
 refine⟨λb u e=>?_,S.oh,λb u e=>?_,S.ln,λi d h=>?_,λi c h=>?_,S.dj,S.pp,S.pq,S.fb.trans sm⟩
 ·by_cases hb:b=a
  ·subst hb;rw[aB]at e;cases e;exact ha
  ·rw[aA hb]at e;exact S.fh b u e
 ·rw[aA (aL e oa)];exact S.fo b u e
 ·obtain⟨v,e,r⟩:=S.fz i d h;exact⟨v,e,r.mono sm⟩
 ·obtain⟨b,e,ob⟩:=S.ow i c h
  refine⟨b,e,?_,ob.no,ob.he.mono sm⟩
  rw[aA (λz=>ne i c h (by rw[e,z]))]
  exact ob.nf
theorem StOk.newTup(S:StOk K G F Z H ρ){ds:List D}(hp:H p=none)(r:RepL K F vs ds) :
  Same F (upd F p (.tup vs))/\StOk K G (upd F p (.tup vs)) Z (upd H p (.tup vs)) ρ/\Rep K (upd F p (.tup vs)) (.ref p) (.tuple ds):=by
 have fp:F p=none:=S.fh.free hp
 refine⟨bL fp,(S.lay hp).freeze aB fp (S.oh.free hp) (S.fresh_ne hp),?_⟩
 exact .tup aB (r.mono (bL fp))
theorem StOk.newLst(S:StOk K G F Z H ρ){ds:List D}(hp:H p=none)(r:RepL K F vs ds) :
  StOk K G F Z (upd H p (.lst vs)) ρ/\RVR K G F Z (upd H p (.lst vs)) ρ (.ref p) (.fr (.l ds)) :=
 ⟨S.lay hp,p,rfl,⟨S.fh.free hp,S.oh.free hp,vs,aB,r⟩,S.fresh_ne hp⟩
theorem StOk.settle(S:StOk K G F Z H ρ){ds:List D}(r:RVR K G F Z H ρ v (.fr (.l ds))) :
  ∃F',Same F F'/\StOk K G F' Z H ρ/\Rep K F' v (.list ds):=by
 obtain⟨a,rfl,oa,ne⟩:=r
 obtain⟨vs,h1,h2⟩:=oa.he
 exact⟨upd F a (.lst vs),bL oa.nf,S.freeze h1 oa.nf oa.no ne,.lst (.inl (.inl aB)) (h2.mono (bL oa.nf))⟩
theorem kM{α:Type}(l:List α)(i:Nat)(x y:α)(h:l[i]? = some y):(l.set i x)[i]? = some x:=by
 rw[nc (List.getElem?_eq_some_iff.mp h).1]
def OC.d:OC->D
 | .l ds=>.list ds
 | .t es=>.dict es
 | .k es=>.dict es
 | .i _ _ _=>.none
theorem wt{a:Addr}{c:OC}(hI:c.isI=false)(h:Held K F H a c):∃o,H a=some o/\∀F',Same F F'->F' a=some o->Rep K F' (.ref a) c.d:=by
 cases c with
 | l ds=>obtain⟨vs,h1,h2⟩:=h;exact⟨_,h1,λF' s e=>.lst (.inl (.inl e)) (h2.mono s)⟩
 | t es=>obtain⟨vs,h1,h2,h3⟩:=h;exact⟨_,h1,λF' s e=>.dct e h2 (h3.mono s)⟩
 | k es=>obtain⟨vs,h1,h2,h3⟩:=h;exact⟨_,h1,λF' s e=>.dck e h2 (h3.mono s)⟩
 | i x ns ds=>cases hI
theorem StOk.settleE(S:StOk K G F Z H ρ){i:Nat}{oc:OC}(hI:oc.isI=false)(hi:ρ[i]? = some (some (.ol oc)))(hv:Z[i]? = some (some v)) :
  ∃F',Same F F'/\StOk K G F' Z H (ρ.set i (some (.fz oc.d)))/\Rep K F' v oc.d/\∀b,v=.ref b->F' b=H b:=by
 obtain⟨a,e,oa⟩:=S.ow i _ (.inl hi)
 rw[hv]at e
 injection e with e;injection e with e
 subst e
 obtain⟨vo,h1,hrep⟩:=wt hI oa.he
 have sm:Same F (upd F a vo):=bL oa.nf
 have rp:Rep K (upd F a vo) (.ref a) oc.d:=hrep _ sm aB
 have ne:∀j,j≠i->(ρ.set i (some (.fz oc.d)))[j]? = ρ[j]?:=λj hj=>je (Ne.symm hj)
 have at_i:(ρ.set i (some (.fz oc.d)))[i]? = some (some (.fz oc.d)):=kM _ _ _ _ hi
 have ownj:∀j c,own (ρ.set i (some (.fz oc.d))) j c->j≠i/\own ρ j c:=λj c h=>by
  have hj:j≠i:=by
   rintro rfl
   rcases h with h|h<;>(rw[at_i]at h;cases h)
  refine⟨hj,?_⟩
  rcases h with h|h
  ·exact .inl (by rw[<-ne j hj];exact h)
  ·exact .inr (by rw[<-ne j hj];exact h)
 refine⟨upd F a vo,sm,⟨λb u e=>?_,S.oh,λb u e=>?_,by simpa using S.ln,λj d h=>?_,λj c h=>?_,λj k c e b h1 h2=>S.dj j k c e b (ownj j c h1).2 (ownj k e h2).2,λj b h=>?_,λj c h=>?_,S.fb.trans sm⟩,rp,λb e=>by cases e;rw[aB,h1]⟩
 ·by_cases hb:b=a
  ·subst hb;rw[aB]at e;cases e;exact h1
  ·rw[aA hb]at e;exact S.fh b u e
 ·rw[aA (aL e oa.no)];exact S.fo b u e
 ·by_cases hj:j=i
  ·subst hj
   rw[at_i]at h
   cases h
   exact⟨_,hv,rp⟩
  ·rw[ne j hj]at h
   obtain⟨w,e,r⟩:=S.fz j d h
   exact⟨w,e,r.mono sm⟩
 ·obtain⟨hj,h'⟩:=ownj j c h
  obtain⟨b,e,ob⟩:=S.ow j c h'
  refine⟨b,e,?_,ob.no,ob.he.mono sm⟩
  rw[aA (λz=>hj (S.dj j i _ _ a h' (.inl hi) (by rw[e,z]) hv))]
  exact ob.nf
 ·obtain⟨q,c,q'⟩:=S.pp j b h
  refine⟨q,c,?_⟩
  have hj:j≠i:=by rintro rfl;rw[hi]at q';cases q'
  rw[ne j hj];exact q'
 ·have hj:j≠i:=by rintro rfl;rw[at_i]at h;cases h
  rw[ne j hj]at h
  exact S.pq j c h
theorem StOk.settleC(S:StOk K G F Z H ρ){i:Nat}{oc:OC}(hI:oc.isI=false)(hi:ρ[i]? = some (some (.ol oc)))(hv:Z[i]? = some (some v)) :
  ∃F',Same F F'/\StOk K G F' Z H (ρ.set i (some (.fz oc.d)))/\Rep K F' v oc.d:=let ⟨F',a,b,c,_⟩:=S.settleE hI hi hv;⟨F',a,b,c⟩
theorem StOk.store(S:StOk K G F Z H ρ){j:Nat}{av:AV}(hj:∀c,ρ[j]? ≠ some (some (.op c)))(hl:j<ρ.length)
  (h:(∃d,av=.fz d/\Rep K F v d)\/∃c,av=.ol c/\RVR K G F Z H ρ v (.fr c)):StOk K G F (Z.set j (some v)) H (ρ.set j (some av)):=by
 have hls:j<Z.length:=by rw[S.ln];exact hl
 have ne:∀i,i≠j->(ρ.set j (some av))[i]? = ρ[i]?:=λi hi=>je (Ne.symm hi)
 have nes:∀i,i≠j->(Z.set j (some v))[i]? = Z[i]?:=λi hi=>je (Ne.symm hi)
 have atj:(ρ.set j (some av))[j]? = some (some av):=nc hl
 have atjs:(Z.set j (some v))[j]? = some (some v):=nc hls
 have owni:∀i c,i≠j->own (ρ.set j (some av)) i c->own ρ i c:=λi c hi h=>by
  unfold own at h ⊢
  rw[ne i hi]at h
  exact h
 refine⟨S.fh,S.oh,S.fo,by simpa using S.ln,λi d q=>?_,λi c q=>?_,λi k c e a q1 q2 e1 e2=>?_,λi a q=>?_,λi c q=>?_,S.fb⟩
 ·by_cases hi:i=j
  ·subst hi
   rw[atj]at q
   rcases h with ⟨d',rfl,r⟩|⟨c,rfl,_⟩
   ·cases q;exact⟨v,atjs,r⟩
   ·cases q
  ·rw[ne i hi]at q
   obtain⟨w,e,r⟩:=S.fz i d q
   exact⟨w,by rw[nes i hi];exact e,r⟩
 ·by_cases hi:i=j
  ·subst hi
   rcases h with ⟨d',rfl,r⟩|⟨c',rfl,a,rfl,oa,_⟩
   ·rcases q with q|q<;>(rw[atj]at q;cases q)
   ·rcases q with q|q
    ·rw[atj]at q;cases q;exact⟨a,atjs,oa⟩
    ·rw[atj]at q;cases q
  ·obtain⟨a,e,oa⟩:=S.ow i c (owni i c hi q)
   exact⟨a,by rw[nes i hi];exact e,oa⟩
 ·by_cases hi:i=j
  ·by_cases hk:k=j
   ·rw[hi,hk]
   ·exfalso
    subst hi
    rw[nes k hk]at e2
    rw[atjs]at e1
    injection e1 with e1;injection e1 with e1
    subst e1
    rcases h with ⟨d',rfl,r⟩|⟨c',rfl,a',e,oa,nn⟩
    ·rcases q1 with q|q<;>(rw[atj]at q;cases q)
    ·injection e with e;subst e
     exact nn k _ (owni k _ hk q2) e2
  ·by_cases hk:k=j
   ·exfalso
    subst hk
    rw[nes i hi]at e1
    rw[atjs]at e2
    injection e2 with e2;injection e2 with e2
    subst e2
    rcases h with ⟨d',rfl,r⟩|⟨c',rfl,a',e,oa,nn⟩
    ·rcases q2 with q|q<;>(rw[atj]at q;cases q)
    ·injection e with e;subst e
     exact nn i _ (owni i _ hi q1) e1
   ·rw[nes i hi]at e1
    rw[nes k hk]at e2
    exact S.dj i k _ _ a (owni i _ hi q1) (owni k _ hk q2) e1 e2
 ·obtain⟨q1,c,q2⟩:=S.pp i a q
  have hi:i≠j:=by rintro rfl;exact hj c q2
  exact⟨by rw[nes i hi];exact q1,c,by rw[ne i hi];exact q2⟩
 ·have hi:i≠j:=by
   rintro rfl
   rw[atj]at q
   rcases h with ⟨d',rfl,r⟩|⟨c',rfl,_⟩<;>cases q
  rw[ne i hi]at q
  exact S.pq i c q
theorem StOk.change(S:StOk K G F Z H ρ){j:Nat}{a:Addr}{c c':OC}(hj:own ρ j c)(ha:Z[j]? = some (some (.ref a)))(hh:Held K F (upd H a o) a c') :
  StOk K G F Z (upd H a o) (ρ.set j ((ρ[j]?.join).map fun | .op _=>.op c'|_=>.ol c')):=by
 obtain⟨b,e,ob⟩:=S.ow j c hj
 rw[ha]at e
 injection e with e;injection e with e;injection e with e
 subst e
 have hl:j<ρ.length:=by rcases hj with h|h<;>exact(List.getElem?_eq_some_iff.mp h).1
 generalize hav:((ρ[j]?.join).map λ(x:AV)=>match x with | .op _=>AV.op c'|_=>AV.ol c')=av
 have ne:∀i,i≠j->(ρ.set j av)[i]? = ρ[i]?:=λi hi=>je (Ne.symm hi)
 have atj:(ρ.set j av)[j]? = some av:=nc hl
 have owni:∀i e,i≠j->own (ρ.set j av) i e->own ρ i e:=λi c hi h=>by
  unfold own at h ⊢
  rw[ne i hi]at h
  exact h
 have kind:(ρ[j]? = some (some (.ol c))/\av=some (.ol c'))\/(ρ[j]? = some (some (.op c))/\av=some (.op c')):=by
  rcases hj with h|h
  ·exact .inl ⟨h,by rw[<-hav,h];rfl⟩
  ·exact .inr ⟨h,by rw[<-hav,h];rfl⟩
 have ownj:∀e,own (ρ.set j av) j e->e=c':=λe h=>by
  unfold own at h
  rw[atj]at h
  rcases kind with ⟨_,k⟩|⟨_,k⟩<;>rw[k]at h<;>rcases h with h|h<;>cases h<;>rfl
 refine⟨dP S.fh ob.nf,dP S.oh ob.no,S.fo,by simpa using S.ln,λi d q=>?_,λi e q=>?_,λi k c1 e1 b q1 q2=>?_,λi b q=>?_,λi e q=>?_,S.fb⟩
 ·by_cases hi:i=j
  ·subst hi
   rw[atj]at q
   rcases kind with ⟨_,k⟩|⟨_,k⟩<;>rw[k]at q<;>cases q
  ·rw[ne i hi]at q;exact S.fz i d q
 ·by_cases hi:i=j
  ·subst hi
   have:=ownj e q
   subst this
   exact⟨a,ha,ob.nf,ob.no,hh⟩
  ·have q':=owni i e hi q
   obtain⟨b',e',ob'⟩:=S.ow i e q'
   refine⟨b',e',ob'.nf,ob'.no,ob'.he.at (aA λz=>hi (S.dj i j _ _ a q' hj (by rw[e',z]) ha))⟩
 ·have o1:∃e,own ρ i e:=by
   by_cases hi:i=j
   ·exact⟨c,hi▸hj⟩
   ·exact⟨_,owni i _ hi q1⟩
  have o2:∃e,own ρ k e:=by
   by_cases hk:k=j
   ·exact⟨c,hk▸hj⟩
   ·exact⟨_,owni k _ hk q2⟩
  exact S.dj i k _ _ b o1.choose_spec o2.choose_spec
 ·obtain⟨q1,e,q2⟩:=S.pp i b q
  refine⟨q1,?_⟩
  by_cases hi:i=j
  ·subst hi
   rcases kind with ⟨k1,k⟩|⟨k1,k⟩
   ·rw[k1]at q2;cases q2
   ·exact⟨c',by rw[atj,k]⟩
  ·exact⟨e,by rw[ne i hi];exact q2⟩
 ·by_cases hi:i=j
  ·subst hi
   rcases kind with ⟨k1,k⟩|⟨k1,k⟩
   ·rw[atj,k]at q;cases q
   ·exact S.pq i c k1
  ·rw[ne i hi]at q;exact S.pq i e q
end
end L3
namespace L4
open PySem PySem.Spec PyProof.Rows L2 L3
variable {s:Shared}{e L C:Addr}{Q:Unit->Shared->Prop}{H:Hp}{A:Around}{base:Heap}{outer:List Env}{dd:Option Addr}{P:Program}{w:World}
def iP(h:Heap)(e b:Addr):Prop:=∃oe vs,h.get? e=some oe/\oe.data=.fields vs/\vs[1]? = some (.ref b)
structure Ent(fs:List Addr)(h h':Heap)(e T:Addr)(oe:Obj)(ts:Array Value):Prop where
 keep:∀b o,h.get? b=some o->b∉fs->b≠e->h'.get? b=some o
 slot:∀b o,h.get? b=some o->b≠e->∃sl,h'.get? b=some { o with slots:=sl }
 new:h.objs.size<=T
 exc:h'.get? e=some (oe.mapFields (·.setIfInBounds 1 (.ref T)))
 way:∃oT,h'.get? T=some oT/\oT.data=.fields ts
section
variable {M:Model} {E:zzj} {env:Env} {oe:Obj} {vs:Array Value}
theorem mU{top:Value}{nx:Bool}(hA:A.frames=some (env::outer))(hF:s.heap.FunFrames base (env::outer))(hL:env.frame=some L)
  (he:s.heap.get? e=some oe) (hd:oe.data=.fields vs) (hz:1<vs.size)
  (k:∀h' T ts,Ent (frs (env::outer)) s.heap h' e T oe ts->3<ts.size->ts[3]? = some (rawInt L)->Q () { s with heap:=h' }) :
  wpAny M A (do let a <-frameOf env;let pl <-entryPlaceOf L nx;let b <-EntryCells.newEntry top a .none (rawInt L) .none pl;setField (.ref e) 1 b) Q E s:=by
 have ne:e∉frs (env::outer):=λz=>by
  obtain⟨_,o,q,r⟩:=hF.mem z
  rw[he]at q;cases q
  exact r vs hd
 refine zza (wpAny_frameOf_fun hA hF hL λh1 so=>zza (wpAny_entryPlaceOf λpl ip=>?_))
 simp only[EntryCells.newEntry,newFields]
 refine zza (pi ?_ (ip.sizeOk5 _ _ _ _ _))
 generalize hts:([top,.ref L,.none,rawInt L,.none]++(if pl.isEmpty then List.replicate 6 Value.none else pl)).toArray=ts
 have z3:3<ts.size:=by
  rw[<-hts,be,zzf]
  simp only[qu,zi]
  lia
 have g3:ts[3]? = some (rawInt L):=by rw[<-hts];simp
 generalize htb:({ cls:=.type "traceback",dict:=none,data:=.fields ts }:Obj)=tb
 have fr:tb.isFreed=false:=by rw[<-htb];rfl
 have e1:h1.get? e=some oe:=by rw[so.2.1 e ne];exact he
 have lt:e<h1.objs.size:=ay e1
 refine Cr (zzc tb e1) hd hz ?_
 have hd':=oR hd (·.setIfInBounds 1 (Value.ref h1.objs.size))
 have up:∀b,b≠e->((h1.push tb).update e (Obj.mapFields (·.setIfInBounds 1 (.ref h1.objs.size)))).get? b=(h1.push tb).get? b:=λb hb=>wa _ _ (Ne.symm hb)
 refine k _ h1.objs.size ts ⟨λb o q nf nb=>?_,λb o q nb=>?_,by rw[so.1];exact ai _,?_,⟨tb,?_,?_⟩⟩ z3 g3
 ·exact(up b nb).trans (zzc _ ((so.2.1 b nf).trans q))
 ·obtain⟨sl,q'⟩:=so.2.2 b o q
  exact⟨sl,(up b nb).trans (zzc _ q')⟩
 ·exact ue _ (zzc tb e1) (yi hd')
 ·exact(up _ (xz lt)).trans (zze h1 fr)
 ·rw[<-htb]
end
structure XS(H:Hp)(h:Heap)(lo:Nat)(e C:Addr)(dd:Option Addr):Prop where
 yg:lo<=e
 trk:H e=some (.ext (XO e C dd))
 obj:∃oe vs,h.get? e=some oe/\oe.cls=.ref C/\oe.dict=dd/\oe.data=.fields vs/\1<vs.size /\
  (vs[1]? = some .none\/∃T oT ts,vs[1]? = some (.ref T)/\T≠e/\lo<=T/\H T=none/\h.get? T=some oT/\oT.data=.fields ts/\ts[3]? = some .none)
structure Mv(fs:List Addr)(h h':Heap)(e:Addr):Prop where
 keep:∀b o,h.get? b=some o->b∉fs->b≠e->¬ iP h e b->h'.get? b=some o
 slot:∀b o,h.get? b=some o->b≠e->¬ iP h e b->∃sl,h'.get? b=some { o with slots:=sl }
 there:∀b o,h.get? b=some o->∃o',h'.get? b=some o'
theorem wJ(f:Array Value->Array Value)(o:Obj):(o.mapFields f).dict=o.dict:=by
 obtain⟨c,d,dt,sl⟩:=o
 cases dt<;>rfl
theorem HF:¬ ((Value.none==rawInt L)=true):=by simp[rawInt]
section
variable {M:Model} {E:zzj} {env:Env} {lo:Nat}
theorem mR{oe:Obj}{vs:Array Value}{h0:Heap}{T:Addr}{ts:Array Value}(en:Ent (frs (env::outer)) h0 s.heap e T oe ts)(hd:oe.data=.fields vs)(hz:1<vs.size)(z3:3<ts.size)(hh:e<h0.objs.size)
  (k:∀h',(∀b,b≠T->h'.get? b=s.heap.get? b)->(∃oT tz,h'.get? T=some oT/\oT.data=.fields tz/\tz[3]? = some .none)->Q () { s with heap:=h' }):wpAny M A (setFlight (.ref e) none) Q E s:=by
 obtain⟨oT,q1,q2⟩:=en.way
 have d':=oR hd (·.setIfInBounds 1 (Value.ref T))
 simp only[setFlight]
 refine zza (tu en.exc d' (x:=.ref T) (by simp[hz]) ?_)
 rw[aw (by simp)]
 refine Cr q1 q2 z3 (k _ (λb hb=>wa _ _ (Ne.symm hb)) ⟨_,_,ue _ q1 (yi (oR q2 _)),oR q2 _,by simp[z3]⟩)
theorem rS(hA:A.frames=some (env::outer))(hF:s.heap.FunFrames base (env::outer))(hL:env.frame=some L)(hk:HOk P w H s.heap)(xs:XS H s.heap lo e C dd)
  (k:∀h',Mv (frs (env::outer)) s.heap h' e->XS H h' lo e C dd->(∀b,iP h' e b->s.heap.objs.size<=b)->Q () { s with heap:=h' }) :
  wpAny M A (noteFrame (.ref e) env) (λ_ s2=>wpAny M A (setFlight (.ref e) none) Q E s2) E s:=by
 obtain⟨oe,vs,he,hc,hdd,hd,hz,tb⟩:=xs.obj
 have elt:e<s.heap.objs.size:=ay he
 have hlo:lo<=s.heap.objs.size:=ir xs.yg (K0 elt)
 simp only[noteFrame,hL]
 rcases tb with tb|⟨T,oT,ts,tb,hTe,hTl,hTn,hT,hTd,t3⟩
 ·refine zza (tu he hd tb ?_)
  rw[am (by decide)]
  refine mU hA hF hL he hd hz λh1 T1 t1 en z3 g3=>?_
  refine mR (s:={ s with heap:=h1 }) en hd hz z3 elt λh2 same way=>?_
  have nT:∀b o,s.heap.get? b=some o->b≠T1:=λb o q=>eE (du (ay q) en.new)
  have d1:=oR hd (·.setIfInBounds 1 (Value.ref T1))
  refine k h2 ⟨λb o q nf nb _=>?_,λb o q nb _=>?_,λb o q=>?_⟩ ⟨xs.yg,xs.trk,_,_,?_,?_,?_,d1,by simpa using hz,.inr ?_⟩ ?_
  ·rw[same b (nT b o q)];exact en.keep b o q nf nb
  ·obtain⟨sl,z⟩:=en.slot b o q nb
   exact⟨sl,by rw[same b (nT b o q)];exact z⟩
  ·by_cases nb:b=e
   ·subst nb;exact⟨_,by rw[same _ (nT _ o q)];exact en.exc⟩
   ·obtain⟨sl,z⟩:=en.slot b o q nb
    exact⟨_,by rw[same b (nT b o q)];exact z⟩
  ·rw[same e (nT e _ he)];exact en.exc
  ·rw[Ks];exact hc
  ·rw[wJ];exact hdd
  ·obtain⟨o1,tz,w1,w2,w3⟩:=way
   exact⟨T1,o1,tz,by simp[hz],λz=>nT e _ he z.symm,ir hlo en.new,hk.fresh en.new,w1,w2,w3⟩
  ·intro b ⟨oe',vs',g1,g2,g3⟩
   rw[same e (nT e _ he),en.exc]at g1
   cases g1
   rw[d1]at g2
   cases g2
   have:Value.ref T1=Value.ref b:=by simpa[hz]using g3
   injection this with this
   rw[<-this]
   exact en.new
 ·refine zza (tu he hd tb ?_)
  rw[aw (by simp)]
  refine zza (tu hT hTd t3 ?_)
  rw[am HF]
  have z3':3<ts.size:=(Array.getElem?_eq_some_iff.mp t3).1
  refine zza (Cr hT hTd z3' ?_)
  have off:∀b,b≠T->(s.heap.update T (Obj.mapFields (·.setIfInBounds 3 Value.none))).get? b=s.heap.get? b:=λb hb=>wa _ _ (Ne.symm hb)
  have hF':(s.heap.update T (Obj.mapFields (·.setIfInBounds 3 Value.none))).FunFrames base (env::outer):=hF.of_keeps λb o q r=>⟨o,(off b λz=>by subst z;rw[hT]at q;cases q;exact r ts hTd).trans q,rfl⟩
  have he':(s.heap.update T (Obj.mapFields (·.setIfInBounds 3 Value.none))).get? e=some oe:=(off e (Ne.symm hTe)).trans he
  have zz:(s.heap.update T (Obj.mapFields (·.setIfInBounds 3 Value.none))).objs.size=s.heap.objs.size:=wE ..
  refine mU (s:={ s with heap:=s.heap.update T (Obj.mapFields (·.setIfInBounds 3 Value.none)) }) hA hF' hL he' hd hz λh1 T1 t1 en z3 g3=>?_
  refine mR (s:={ s with heap:=h1 }) en hd hz z3 (by rw[zz];exact elt) λh2 same way=>?_
  have nw:s.heap.objs.size<=T1:=by have:=en.new;rw[zz]at this;exact this
  have nT:∀b o,s.heap.get? b=some o->b≠T1:=λb o q=>eE (du (ay q) nw)
  have isT:iP s.heap e T:=⟨oe,vs,he,hd,tb⟩
  have nTT:∀b,¬ iP s.heap e b->b≠T:=λb z q=>z (q▸isT)
  have d1:=oR hd (·.setIfInBounds 1 (Value.ref T1))
  have T0:(s.heap.update T (Obj.mapFields (·.setIfInBounds 3 Value.none))).get? T=some (oT.mapFields (·.setIfInBounds 3 Value.none)):=ue _ hT (yi (oR hTd _))
  refine k h2 ⟨λb o q nf nb nt=>?_,λb o q nb nt=>?_,λb o q=>?_⟩ ⟨xs.yg,xs.trk,_,_,?_,?_,?_,d1,by simpa using hz,.inr ?_⟩ ?_
  ·rw[same b (nT b o q)];exact en.keep b o ((off b (nTT b nt)).trans q) nf nb
  ·obtain⟨sl,z⟩:=en.slot b o ((off b (nTT b nt)).trans q) nb
   exact⟨sl,by rw[same b (nT b o q)];exact z⟩
  ·by_cases nb:b=e
   ·subst nb;exact⟨_,by rw[same _ (nT _ o q)];exact en.exc⟩
   ·by_cases nt:b=T
    ·subst nt
     obtain⟨sl,z⟩:=en.slot b _ T0 nb
     exact⟨_,by rw[same b (nT b o q)];exact z⟩
    ·obtain⟨sl,z⟩:=en.slot b o ((off b nt).trans q) nb
     exact⟨_,by rw[same b (nT b o q)];exact z⟩
  ·rw[same e (nT e _ he)];exact en.exc
  ·rw[Ks];exact hc
  ·rw[wJ];exact hdd
  ·obtain⟨o1,tz,w1,w2,w3⟩:=way
   exact⟨T1,o1,tz,by simp[hz],λz=>nT e _ he z.symm,ir hlo nw,hk.fresh nw,w1,w2,w3⟩
  ·intro b ⟨oe',vs',g1,g2,g3⟩
   rw[same e (nT e _ he),en.exc]at g1
   cases g1
   rw[d1]at g2
   cases g2
   have:Value.ref T1=Value.ref b:=by simpa[hz]using g3
   injection this with this
   rw[<-this]
   exact nw
theorem uu(hA:A.frames=some (env::outer))(hF:s.heap.FunFrames base (env::outer))(hL:env.frame=some L)(hk:HOk P w H s.heap)(xs:XS H s.heap lo e C dd)
  (k:∀h',Mv (frs (env::outer)) s.heap h' e->XS H h' lo e C dd->Q () { s with heap:=h' }):wpAny M A (leaving env (.ref e)) Q E s:=by
 unfold leaving
 exact zza (rS hA hF hL hk xs λh' m x _=>k h' m x)
end
section
variable {fs:List Addr} {h h':Heap} {lo:Nat}
theorem XO.ok{H':Hp}(x:XO e C dd h):ObjOk P w H' h e (.ext (XO e C dd)):=by
 obtain⟨oe,q,r⟩:=x
 exact⟨⟨oe,q,r⟩,⟨oe,q⟩,λh1 h2 ⟨o,z,r⟩ k=>⟨o,k o z,r⟩⟩
theorem XS.xo(xs:XS H h lo e C dd):XO e C dd h:=by
 obtain⟨oe,vs,q,c,d,z,_⟩:=xs.obj
 exact⟨oe,q,c,d,by unfold PySem.W.notCls;rw[z]⟩
theorem XS.tb(xs:XS H h lo e C dd){b:Addr}(t:iP h e b):H b=none/\lo<=b/\b≠e/\∃oT ts,h.get? b=some oT/\oT.data=.fields ts:=by
 obtain⟨oe,vs,q,c,d,z,_,k⟩:=xs.obj
 obtain⟨oe',vs',q',z',k'⟩:=t
 rw[q]at q';cases q'
 rw[z]at z';cases z'
 rcases k with k|⟨T,oT,ts,k,ne,l,n,g,gd,_⟩
 ·rw[k]at k';cases k'
 ·rw[k]at k'
  cases k'
  exact⟨n,l,ne,oT,ts,g,gd⟩
theorem XS.tb_list(xs:XS H h lo e C dd):∃ch:List Addr,∀b,b∈ch↔iP h e b:=by
 obtain⟨oe,vs,q,c,d,z,_,k⟩:=xs.obj
 rcases k with k|⟨T,oT,ts,k,_⟩
 ·exact⟨[],λb=>⟨λz=>(nomatch z),λ⟨oe',vs',q',z',k'⟩=>by rw[q]at q';cases q';rw[z]at z';cases z';rw[k]at k';cases k'⟩⟩
 ·refine⟨[T],λb=>⟨λy=>?_,λ⟨oe',vs',q',z',k'⟩=>?_⟩⟩
  ·rw[List.mem_singleton.mp y];exact⟨oe,vs,q,z,k⟩
  ·rw[q]at q';cases q'
   rw[z]at z';cases z'
   rw[k]at k';cases k'
   exact List.mem_singleton.mpr rfl
theorem Mv.hok(m:Mv fs h h' e)(ok:HOk P w H h)(xs:XS H h lo e C dd)(xs':XS H h' lo e C dd)(hf:∀b∈fs,H b=none):HOk P w H h':=λa o q=>by
 by_cases ae:a=e
 ·subst ae
  rw[xs.trk]at q;cases q
  exact xs'.xo.ok
 ·refine(ok a o q).stay (λb u hb z=>?_) (λ_ z=>z) λ_ _ z=>z
  have hbH:∃v,H b=some v:=by
   rcases hb with rfl|hb
   ·exact⟨o,q⟩
   ·exact⟨_,hb⟩
  obtain⟨v,hv⟩:=hbH
  refine m.keep b u z (λy=>by rw[hf b y]at hv;cases hv) (λy=>?_) λy=>by rw[(xs.tb y).1]at hv;cases hv
  subst y
  rcases hb with rfl|hb
  ·exact ae rfl
  ·rw[xs.trk]at hb;cases hb
theorem Mv.un{ch:List Addr}(m:Mv fs h h' e)(xs:XS H h lo e C dd)(hc:∀b,b∈ch↔iP h e b):Un fs ch H H h h' where
 keep:=λb o q n hb hx=>m.keep b o q hb (λz=>by subst z;rw[xs.trk]at n;cases n) λz=>hx ((hc b).mpr z)
 slot:=λb o q n hb hx=>m.slot b o q (λz=>by subst z;rw[xs.trk]at n;cases n) λz=>hx ((hc b).mpr z)
 free:=λ_ _ _ n _=>n
 there:=λb o q _=>m.there b o q
 tups:=λ_ _ z=>z
 frzs:=λ_ _ _ z=>z
 tbls:=λb ps z=>⟨#[],by rw[z];simp⟩
end
section
variable {X:Cx} {pins:zzk} {Z:L2.St} {h':Heap} {lo:Nat}
theorem Inv.mv(I:Inv X pins Z H s)(m:Mv (frs X.stack) s.heap h' e)(xs:XS H s.heap lo e C dd)(xs':XS H h' lo e C dd)(hlo:X.s₀.heap.objs.size<=lo)(hp:∀p∈X.pn++pins,¬ iP s.heap e p.1)(t':Nat):Inv X pins Z H { s with heap:=h',toks:=t' }:=by
 obtain⟨ch,hc⟩:=xs.tb_list
 refine I.call (g':=s.gens) (d':=s.drawn) (t':=t') (m.un xs hc) (m.hok I.hok xs xs' I.stkFree) I.bare λb hb=>?_
 have tb:=(hc b).mp hb
 obtain⟨n,l,ne,oT,ts,g,gd⟩:=xs.tb tb
 refine⟨.inr (ir hlo l),λz=>?_,λx c q z=>?_,λp hp' z=>hp p hp' (z▸tb)⟩
 ·subst z
  obtain⟨m,⟨o,es,ep,ho,hd,_⟩,_⟩:=I.loc
  rw[g]at ho;cases ho
  rw[gd]at hd;cases hd
 ·subst z
  obtain⟨v,o,ho,hd⟩:=I.cell x c q
  rw[g]at ho;cases ho
  rw[gd]at hd;cases hd
end
def CX1(P:Program)(w:World):CXT:=λouter H s E e s'=>∃a C dd H',e=.ref a/\s'.os=s.os/\AllBare s'.gens/\Un (frs outer) [] H H' s.heap s'.heap/\HOk P w H' s'.heap/\XS H' s'.heap s.heap.objs.size a C dd/\E (.ref C) dd H'
theorem Cw{K:Fg}{mg:zzl}{N:List Str}{qual:Str}{scope:Scope}{f:Addr}{cd:Value}{E:XK}
  {pins:zzk} {Z:L2.St} {H':Hp} {s':Shared} {a C:Addr} {dd:Option Addr} (I:Inv (jL (CX1 P w) P w K mg base N qual scope f cd A outer s H E) pins Z H' s') (xs:XS H' s'.heap s.heap.objs.size a C dd) (hE:E (.ref C) dd H') :
  (jL (CX1 P w) P w K mg base N qual scope f cd A outer s H E).xe (.ref a) s':=by
 have hF:=I.stack
 have hS:=I.stkFree
 refine uu (base:=base) (L:=s.heap.objs.size) (P:=P) (w:=w) (s:=s') I.ok.frames hF rfl I.hok xs λh1 m xs1=>?_
 have un:Un (frs outer) [] H H' s.heap s'.heap:=I.base
 have lt:∀b o,s.heap.get? b=some o->b<s.heap.objs.size:=λb o q=>ay q
 have ne:∀b o,s.heap.get? b=some o->b≠a:=λb o q=>eE (du (lt b o q) xs.yg)
 have nt:∀b o,s.heap.get? b=some o->¬ iP s'.heap a b:=λb o q z=>absurd (du (lt b o q) (xs.tb z).2.1) (pr _)
 refine⟨a,C,dd,H',rfl,I.os,I.bare,⟨λb o q n hb hx=>?_,λb o q n hb hx=>?_,un.free,λb o q hx=>?_,un.tups,un.frzs,un.tbls⟩,m.hok I.hok xs xs1 hS,xs1,hE⟩
 ·refine m.keep b o (un.keep b o q n hb hx) (λz=>?_) (ne b o q) (nt b o q)
  rcases List.mem_cons.mp (I.stkSub b z)with y|y
  ·exact absurd (lt b o q) (by rw[y];exact pr _)
  ·exact hb y
 ·obtain⟨sl,z⟩:=un.slot b o q n hb hx
  obtain⟨sl',z'⟩:=m.slot b _ z (ne b o q) (nt b o q)
  exact⟨sl',z'⟩
 ·obtain⟨o',z⟩:=un.there b o q hx
  exact m.there b o' z
end L4
namespace L4
open PySem PySem.Spec PyProof.Rows L2 L3 PySem.W
variable {C fI:Addr}{K:Frag}{s:Shared}{od:Option Obj}
theorem Gb{D:Addr}(c:XC K C D fI):∃cd,PySem.W.clsIn K C=some cd/\cd.mro=.ref C::.ref D::bmV/\cd.hasDict=true:=by
 obtain⟨nm,q,N,bs,sn,sub,ab,col,dd,k0,k1,k2,k3,k5,lk⟩:=c.obj
 refine⟨_,by unfold PySem.W.clsIn;rw[lk],rfl,rfl⟩
section
variable {prog:Program} {w:World} {A:Around} {E:zzj} {x:Addr} {ox:Obj}
theorem CZ{Q:Option Value->Shared->Prop}(X:K.In s.heap)(I:PySem.W.InstAt s.heap x ox C od)(hga:findIn K (.ref C) "__getattribute__" = some (some (.builtin "BaseException.__getattribute__")))(hgr:findIn K (.ref C) "__getattr__" = some none)(hb:mroIn K C (.type "BaseException")=some true)
  (hf:findObj K C od "__class__" = some (.bind (.builtin "getset_descriptor.__get__") (.builtin "object.__class__"))) (hm:mroIn K C (.type "object")=some true) (h:Q (some (.ref C)) { s with toks:=s.toks+1 }):wpAny (model prog w) A (getAttr? (.ref x) "__class__") Q E s:=by
 obtain⟨hp,g,d,t,os⟩:=s
 have L0:=I.type (M:=model prog w)
 have L1:=looks_findIn (M:=model prog w) X hga
 have L2:=looks_findIn (M:=model prog w) X hgr
 have L3:=looks_find (M:=model prog w) X I hf
 have L4:=looks_mroIn (M:=model prog w) X hb
 have bnd:=F.attr_ValueError.ga.bind (.ref x)
 have ok:=F.args_bexc_ga (.ref x) (.str "__class__" t)
 have kd:builtinKind "BaseException.__getattribute__" = some .slot:=by decide +kernel
 have sp:splitId "BaseException.__getattribute__" = some ("BaseException", "__getattribute__"):=by decide +kernel
 unfold getAttr? getAttrBy?
 refine zza (wpAny_mkText (zza (Ky ?_)))
 unfold getAttrBy
 refine sk (zza (L0.at (zza (L1.at ?_))))
 show wpAny _ _ (getAttrByItsOwn _ _ _ _ _ _) _ _ _
 unfold getAttrByItsOwn
 repeat (any_goals (first|assumption|with_reducible refine L0.at ?_|with_reducible refine L2.at ?_|wp_step))
 refine codeAny_call_builtin F.attr_ValueError.ga.plain F.entry_bexc_ga ?_
 simp only[checkBuiltinCall,kd,sp]
 refine zza ?_
 unfold isInstance
 refine zza (L0.at (L4.at ?_))
 repeat (any_goals (first|assumption|with_reducible refine L0.at ?_|with_reducible refine L3.at ?_|wp_step))
 refine class_get (s:=⟨hp,g,d,t+1,os⟩) (ox:=ox) (od:=od) X I hm ?_
 exact zzb (handed_on rfl (zzb h))
theorem Ab{D:Addr}(c:XC K C D fI)(hb:mroIn K C (.type "BaseException")=some true)
  (hf:findObj K C od "__class__" = some (.bind (.builtin "getset_descriptor.__get__") (.builtin "object.__class__"))) (hm:mroIn K C (.type "object")=some true) :
  KitX K (.ref x) (.ref C) (λh=>PySem.W.InstAt h x ox C od) where
 ty:=λ_ _ _ I=>I.type
 it:=λ_ _ X _=>by
  obtain⟨nm,q,N,bs,sn,sub,ab,col,dd,k0,k1,k2,k3,k5,ho⟩:=c.obj
  intro A' Q' E' s' k q
  unfold isType loadHead
  exact zza (wpAny_loadPart (k _ _ (X _ _ ho)) (zzb q))
 ne:=λh tp dd its n sl X htp=>by
  obtain⟨nm,q,N,bs,sn,sub,ab,col,dd',k0,k1,k2,k3,k5,ho⟩:=c.obj
  refine Bool.eq_false_iff.mpr λq=>?_
  have e:C=tp:=Value.ref.inj (beq_iff_eq.mp q)
  subst e
  have z:=(X _ _ ho).symm.trans htp
  injection z with z
  injection z with z1 z2 z3
  cases z3
 ca:=λX I k=>CZ X I c.ga c.gr hb hf hm k
end
def XAt(H:Hp)(a C:Addr)(dd:Option Addr):Prop:=H a=some (.ext (XO a C dd))/\∀dx,dd=some dx->∃fv,H dx=some (.ext (XD dx fv))
theorem wo{X:Cx}{pins:zzk}{Z:L2.St}{H:Hp}{a:Addr}{dd:Option Addr}(I:Inv X pins Z H s)(h:XAt H a C dd):∃ox od,PySem.W.InstAt s.heap a ox C od:=by
 obtain⟨h1,h2⟩:=h
 obtain⟨⟨oe,q1,q2,q3,q4⟩,_⟩:=I.hok a _ h1
 cases dd with
 | none=>exact⟨oe,none,q1,q2,q4,by rw[q3];trivial⟩
 | some dx =>
  obtain⟨fv,h2⟩:=h2 dx rfl
  obtain⟨⟨mA,na,wi,r⟩,_⟩:=I.hok dx _ h2
  obtain⟨od,z1,hlk⟩:=xR na
  exact⟨oe,some od,q1,q2,q4,by rw[q3];exact z1⟩
theorem nM{name:Str}{a g:Value}(hc:(clsIn K C).isSome=true)(ha:findIn K (.ref C) name=some (some a))(hg:specialIn K a "__get__" = some (some g))(ht:takesIn K a=some true):findObj K C od name=some (.bind g a):=by
 obtain⟨cd,hc⟩:=Option.isSome_iff_exists.mp hc
 unfold findObj
 rw[hc,KJ,ha,KJ]
 simp[hg,ht]
section
variable {X:Cx} {pins:zzk} {Z:L2.St} {H:Hp} {a D:Addr} {dd:Option Addr} {Q:zzj} {E:zzj} {b:Bool}
theorem mK(c:XC X.K C D fI)(kc:KC X.K C){ox:Obj}:KitX X.K (.ref a) (.ref C) (λh=>PySem.W.InstAt h a ox C od):=by
 obtain⟨cd,k1,k2,k3⟩:=Gb c
 refine Ab c (by unfold PySem.W.mroIn;rw[k1,KJ,k2];rfl) (nM (by rw[k1];rfl) kc.ha kc.hn kc.htk) (by unfold PySem.W.mroIn;rw[k1,KJ,k2];rfl)
theorem mN(I:Inv X pins Z H s)(c:XC X.K C D fI)(kc:KC X.K C)(h:XAt H a C dd){cv:Value}(e:kitOne X.K (.ref C) cv=some b)(q:∀tk,Q (.bool b) { s with toks:=tk }) :
  wpAny (model X.prog X.w) X.A (call (.builtin "isinstance") [.ref a,cv]) Q E s:=by
 obtain⟨ox,od,It⟩:=wo I h
 exact kia_one (mK c kc) I.kIn It e (λz=>nomatch z) q
theorem sw(I:Inv X pins Z H s)(c:XC X.K C D fI)(kc:KC X.K C)(h:XAt H a C dd){tp:Addr}{d:Option Addr}{its:List Value}{n:Nat}{sl:Array (Option Value)}(ht:s.heap.get? tp=some ⟨.type "tuple",d,.seq its.toArray n,sl⟩)
  (e:kitAny X.K (.ref C) its=some b) (q:∀tk,Q (.bool b) { s with toks:=tk }):wpAny (model X.prog X.w) X.A (call (.builtin "isinstance") [.ref a,.ref tp]) Q E s:=by
 obtain⟨ox,od,It⟩:=wo I h
 exact kia_tup (mK c kc) I.kIn It ht e (λz=>nomatch z) q
end
end L4
namespace L4
open PySem PySem.Spec PyProof.Rows L2 L3
variable {F H F' H':Hp}{X:Cx}{K:Fg}{Z:L2.St}{ρ:En}{i n j kk:Nat}{S α:Type}{vs:List V}{x y:Str}{e tg:Expr}{v:V}{r:R2}{es:List Expr}{pos p pos':Pos}{c:OC}{Q:VK}{T:String}{ex dd:Option Addr}{C f:Addr}{op:CmpOp}{R:It->Hp->Prop}{E:XK}{s:Shared}{st:Stmt}{A:Around}
structure Ex where
 cls:Str
 fs:List (Str×D)
inductive M(S:Type) where
 | ret (s:S)
 | exc (x:Ex)
 | bad
def M.on{S T:Type}(m:M S)(x:Ex->M T)(k:S->M T):M T:=match m with
 | .ret s=>k s
 | .exc e=>x e
 | .bad=>.bad
def bd{S T:Type}(m:M S)(k:S->M T):M T:=m.on .exc k
def oM{S:Type}(o:Option S):M S:=match o with
 | some s=>.ret s
 | none=>.bad
section
variable {T U:Type}
@[simp] theorem E7(s:S)(x:Ex->M T)(k:S->M T):(M.ret s).on x k=k s:=rfl
@[simp] theorem gn(s:S)(k:S->M T):bd (.ret s) k=k s:=rfl
end
abbrev Pu(α:Type):=En->M α
def XR(K:Fg)(F:Hp)(C:Addr)(dd:Option Addr)(x:Ex):Prop:=XQ K C x.cls /\
 ∃fv,FX F dd fv/\Paired (λ(p:Str×V) (q:Str×D)=>p.1=q.1/\Rep K F p.2 q.2) fv x.fs
def mV(x:Ex):D:=.dict ((.none,.str x.cls)::x.fs.map λp=>(.str p.1,p.2))
theorem lW:∀{fv:List (Str×V)} {fs:List (Str×D)},Paired (λ(p:Str×V) (q:Str×D)=>p.1=q.1/\Rep K F p.2 q.2) fv fs->(fs.map λp=>((PyData.str p.1,p.2):D×D)).map (·.1)=fv.map (λp=>.str p.1)/\RepL K F (fv.map (·.2)) ((fs.map λp=>((PyData.str p.1,p.2):D×D)).map (·.2))
:=by
 intro fv fs h
 induction h with
 | nil=>exact⟨rfl,.nil⟩
 | cons h _ ih=>exact⟨by simp only[bj,ih.1,h.1],by simp only[bj];exact .cons h.2 ih.2⟩
theorem XR.rep{a:Addr}{x:Ex}(h:XR K F C dd x)(e:F a=some (.ext (XO a C dd))):Rep K F (.ref a) (mV x):=by
 obtain⟨q,fv,fx,p⟩:=h
 exact .exc e q fx (lW p).1 (lW p).2
theorem XR.mono{x:Ex}(s:Same F F')(h:XR K F C dd x):XR K F' C dd x:=by
 obtain⟨q,fv,fx,p⟩:=h
 refine⟨q,fv,fx.mono s,?_⟩
 clear fx q
 revert p
 generalize x.fs=fs
 intro p
 induction p with
 | nil=>exact .nil
 | cons h t ih=>exact .cons ⟨h.1,h.2.mono s⟩ ih
structure FzOk(K:Fg)(F:Hp)(Z:L2.St)(ρ:En):Prop where
 ln:Z.length=ρ.length
 fz:∀(i:Nat) (d:D),ρ[i]? = some (some (AV.fz d))->∃v,Z[i]? = some (some v)/\Rep K F v d
theorem _root_.L3.StOk.fzok{G:Gh}(S:StOk K G F Z H ρ)(s:Same F F'):FzOk K F' Z ρ:=⟨S.ln,λi d q=>by
 obtain⟨v,e,r⟩:=S.fz i d q
 exact⟨v,e,r.mono s⟩⟩
structure GOk(G:Gh)(F H:Hp):Prop where
 fh:Same F H
 oh:Same G.O H
 fo:∀b o,G.O b=some o->F b=none/\yG o
 fb:Same G.B F
def XW(X:Cx)(G:Gh)(F:Hp)(ρ:En)(x:Ex):Prop:=∀F' H' s' a C dd pins Z,GOk G F' H'->FzOk X.K F' Z ρ->Inv X pins Z H' s'->XS H' s'.heap X.s₀.heap.objs.size a C dd->(∀p∈X.pn++pins,¬ iP s'.heap a p.1)->XR X.K F' C dd x->X.xe (.ref a) s'
theorem XW.mono{G:Gh}{x:Ex}(s:Same F F')(h:XW X G F ρ x):XW X G F' ρ x:=h
def W(X:Cx)(G:Gh)(F:Hp)(Z:L2.St)(ρ:En){α:Type}(m:M α)(C:α->Hp->Hp->Prop):Prop:=match m with
 | .ret a=>∀F' H',Same F F'->StOk X.K G F' Z H' ρ->C a F' H'
 | .exc x=>XW X G F ρ x
 | .bad=>False
section
variable {G:Gh} {β:Type} {m:M α} {k:α->M β} {C C':α->Hp->Hp->Prop}
theorem W.up{C:β->Hp->Hp->Prop}{m:M β}(s:Same F F')(h:W X G F Z ρ m C):W X G F' Z ρ m C:=by
 cases m with
 | ret a=>exact λF2 H2 s2 S2=>h F2 H2 (s.trans s2) S2
 | exc x=>exact XW.mono (X:=X) (G:=G) (ρ:=ρ) (x:=x) s h
 | bad=>exact h
theorem W.bind{C:β->Hp->Hp->Prop}(h:W X G F Z ρ (bd m k) C):W X G F Z ρ m λa F' H'=>W X G F' Z ρ (k a) C:=by
 cases m with
 | ret a=>exact λF2 H2 s2 S2=>W.up s2 h
 | exc x=>exact h
 | bad=>exact h
theorem W.imp(h:W X G F Z ρ m C)(w:∀a F' H',Same F F'->StOk X.K G F' Z H' ρ->C a F' H'->C' a F' H'):W X G F Z ρ m C':=by
 cases m with
 | ret a=>exact λF2 H2 s2 S2=>w a F2 H2 s2 S2 (h F2 H2 s2 S2)
 | exc x=>exact h
 | bad=>exact h
theorem W.opt{o:Option α}(h:W X G F Z ρ (oM o) C):∃a,o=some a/\∀F' H',Same F F'->StOk X.K G F' Z H' ρ->C a F' H':=by
 cases o with
 | none=>exact h.elim
 | some a=>exact⟨a,rfl,h⟩
end
@[irreducible] def dW(X:Cx)(e:Expr):TE:=λZ H Q=>∀(pins:zzk) (s:Shared),Inv X pins Z H s->wpAny (model X.prog X.w) X.A (eval e X.env) (EP X pins Z Q) X.xe s
@[irreducible] def nU(X:Cx)(e:Expr):TT:=λZ H Q=>∀(pins:zzk) (s:Shared),Inv X pins Z H s->wpAny (model X.prog X.w) X.A (isTrue e X.env (eval e X.env)) (TP X pins Z Q) X.xe s
@[irreducible] def nS(X:Cx)(e:Expr):TT:=λZ H Q=>∀(whole:Sem Value) (pins:zzk) (s:Shared),Inv X pins Z H s->wpAny (model X.prog X.w) X.A (isTrue e X.env whole) (TP X pins Z Q) X.xe s
@[irreducible] def dU(X:Cx)(es:List Expr):TA:=λZ H Q=>∀(pos:Pos) (pins:zzk) (s:Shared),Inv X pins Z H s->wpAny (model X.prog X.w) X.A (spliced (backTo pos (starEach es X.env))) (AP X pins Z Q) X.xe s
section
theorem aC:PE X e (dW X e):=λpins s Z H Q I h=>by unfold dW at h;exact h pins s I
theorem dZ:PT X e (nU X e):=λpins s Z H Q I h=>by unfold nU at h;exact h pins s I
theorem lO:PW X e (nS X e):=λwh pins s Z H Q I h=>by unfold nS at h;exact h wh pins s I
theorem bI:PA X es (dU X es):=λpos pins s Z H Q I h=>by unfold dU at h;exact h pos pins s I
theorem sem{t:TE}(h:PE X e t)(q:t Z H Q):dW X e Z H Q:=by unfold dW;exact λpins s I=>h pins s Z H Q I q
theorem tR{t:TT}{Q:Bool->Hp->Prop}(h:PT X e t)(q:t Z H Q):nU X e Z H Q:=by unfold nU;exact λpins s I=>h pins s Z H Q I q
theorem w9{t:TT}{Q:Bool->Hp->Prop}(h:PW X e t)(q:t Z H Q):nS X e Z H Q:=by unfold nS;exact λwh pins s I=>h wh pins s Z H Q I q
theorem tS{t:TA}{Q:List V->Hp->Prop}(h:PA X es t)(q:t Z H Q):dU X es Z H Q:=by unfold dU;exact λpos pins s I=>h pos pins s Z H Q I q
end
def e9(ρ:En)(i:Nat):Option (List D):=match ρ[i]? with
 | some (some (.ol (.l ds)))=>some ds
 | some (some (.op (.l ds)))=>some ds
 | _=>none
theorem jx{ds:List D}(h:e9 ρ i=some ds):own ρ i (.l ds):=by
 unfold e9 at h
 split at h
 ·rename_i q;cases h;exact .inl q
 ·rename_i q;cases h;exact .inr q
 ·cases h
def VO(K:Fg)(F:Hp)(Z:L2.St)(ρ:En)(v:V)(d:D):Prop:=Rep K F v d\/∃i c,own ρ i c/\Z[i]? = some (some v)/\d=c.d/\c.isI=false
inductive VOs(K:Fg)(F:Hp)(Z:L2.St)(ρ:En):List V->List D->Prop
 | nil:VOs K F Z ρ [] []
 | cons {v d vs ds}:VO K F Z ρ v d->VOs K F Z ρ vs ds->VOs K F Z ρ (v::vs) (d::ds)
theorem VO.mono{d:D}(s:Same F F')(h:VO K F Z ρ v d):VO K F' Z ρ v d:=h.imp (Rep.mono s) id
def OR(K:Fg)(F H:Hp)(v:V)(d:D):Prop:=Rep K F v d\/∃a c,v=.ref a/\d=c.d/\Held K F H a c/\c.isI=false
inductive ORs(K:Fg)(F H:Hp):List V->List D->Prop
 | nil:ORs K F H [] []
 | cons {v d vs ds}:OR K F H v d->ORs K F H vs ds->ORs K F H (v::vs) (d::ds)
theorem VO.or{G:Gh}{d:D}(S:StOk K G F Z H ρ)(h:VO K F Z ρ v d):OR K F H v d:=by
 rcases h with h|⟨i,c,ho,hv,rfl,hI⟩
 ·exact .inl h
 ·obtain⟨a,e1,oa⟩:=S.ow i _ ho
  rw[hv]at e1
  injection e1 with e1;injection e1 with e1
  exact .inr ⟨a,c,e1,rfl,oa.he,hI⟩
theorem VOs.ors{G:Gh}(S:StOk K G F Z H ρ):∀{vs ds},VOs K F Z ρ vs ds->ORs K F H vs ds
 | _,_,.nil=>.nil
 | _,_,.cons h t=>.cons (h.or S) (t.ors S)
section
variable {ds:List D}
theorem OR.rep{d:D}(s:Same F H)(h:OR K F H v d):Rep K H v d:=by
 rcases h with h|⟨a,c,rfl,rfl,h1,hI⟩
 ·exact h.mono s
 ·obtain⟨o,e,r⟩:=wt hI h1;exact r H s e
theorem OR.list(s:Same F H)(h:OR K F H v (.list ds)):∃a vs,v=.ref a/\SqL K H a vs/\RepL K F vs ds:=by
 rcases h with h|⟨a,c,e,e2,h1,hI⟩
 ·obtain⟨a,vs,e,h1,h2⟩:=h.lst_inv
  exact⟨a,vs,e,s.seq h1,h2⟩
 ·cases c<;>cases e2
  obtain⟨vs,h1,h2⟩:=h1
  exact⟨a,vs,e,.inl (.inl h1),h2⟩
theorem OR.tuple(s:Same F H)(h:OR K F H v (.tuple ds)):∃a vs,v=.ref a/\SqT K H a vs/\RepL K F vs ds:=by
 rcases h with h|⟨a,c,e,e2,h1,hI⟩
 ·obtain⟨a,vs,e,h1,h2⟩:=h.tup_inv
  exact⟨a,vs,e,SqT.of (s _ _ h1),h2⟩
 ·cases c<;>cases e2
theorem OR.tup'(h:OR K F H v (.tuple ds)):Rep K F v (.tuple ds):=by
 rcases h with h|⟨a,c,e,e2,h1,hI⟩
 ·exact h
 ·cases c<;>cases e2
theorem OR.int{i:Int}(h:OR K F H v (.int i)):v=.int i:=by
 rcases h with h|⟨a,c,e,e2,h1,hI⟩
 ·exact h.inv
 ·cases c<;>cases e2
theorem OR.bool{i:Bool}(h:OR K F H v (.bool i)):v=.bl i:=by
 rcases h with h|⟨a,c,e,e2,h1,hI⟩
 ·exact h.inv
 ·cases c<;>cases e2
theorem OR.str{i:Str}(h:OR K F H v (.str i)):v=.str i:=by
 rcases h with h|⟨a,c,e,e2,h1,hI⟩
 ·exact h.inv
 ·cases c<;>cases e2
theorem OR.none(h:OR K F H v .none):v=.non:=by
 rcases h with h|⟨a,c,e,e2,h1,hI⟩
 ·exact h.inv
 ·cases c with
  | i _ _ _=>cases hI
  | _=>cases e2
theorem aQ{d:D}{ds:List D}(h:ORs K F H vs (d::ds)):∃v r,vs=v::r/\OR K F H v d/\ORs K F H r ds:=by
 cases h with|cons a b=>exact⟨_,_,rfl,a,b⟩
theorem bm(h:ORs K F H vs []):vs=[]:=by cases h;rfl
end
def AP(X:Cx)(e:Expr)(p:Pu D):Prop :=
 ∀(G:Gh) (F:Hp) (Z:L2.St) (H:Hp) (ρ:En) (Q:VK),StOk X.K G F Z H ρ->W X G F Z ρ (p ρ) (λd F' H'=>∀v,Rep X.K F' v d->Q v H')->dW X e Z H Q
def AO(X:Cx)(e:Expr)(p:Pu D):Prop :=
 ∀(G:Gh) (F:Hp) (Z:L2.St) (H:Hp) (ρ:En) (Q:VK),StOk X.K G F Z H ρ->W X G F Z ρ (p ρ) (λd F' H'=>∀v,VO X.K F' Z ρ v d->Q v H')->dW X e Z H Q
def AT(X:Cx)(e:Expr)(p:Pu Bool):Prop :=
 ∀(G:Gh) (F:Hp) (Z:L2.St) (H:Hp) (ρ:En) (Q:Bool->Hp->Prop),StOk X.K G F Z H ρ->W X G F Z ρ (p ρ) (λd F' H'=>Q d H')->nU X e Z H Q
def AW(X:Cx)(e:Expr)(p:Pu Bool):Prop :=
 ∀(G:Gh) (F:Hp) (Z:L2.St) (H:Hp) (ρ:En) (Q:Bool->Hp->Prop),StOk X.K G F Z H ρ->W X G F Z ρ (p ρ) (λd F' H'=>Q d H')->nS X e Z H Q
def AB(X:Cx)(e:Expr)(p:Pu Bool):Prop :=
 ∀(G:Gh) (F:Hp) (Z:L2.St) (H:Hp) (ρ:En) (Q:VK),StOk X.K G F Z H ρ->W X G F Z ρ (p ρ) (λd F' H'=>Q (.bl d) H')->dW X e Z H Q
def AA{α:Type}(X:Cx)(es:List Expr)(m:(List D->M α)->En->M α):Prop :=
 ∀(G:Gh) (F:Hp) (Z:L2.St) (H:Hp) (ρ:En) (Q:List V->Hp->Prop) (k:List D->M α) (C:α->Hp->Hp->Prop),StOk X.K G F Z H ρ->W X G F Z ρ (m k ρ) C ->
  (∀ds vs F' H',Same F F'->StOk X.K G F' Z H' ρ->vs.length=es.length->RepL X.K F' vs ds->W X G F' Z ρ (k ds) C->Q vs H')->dU X es Z H Q
def AAo{α:Type}(X:Cx)(es:List Expr)(m:(List D->M α)->En->M α):Prop :=
 ∀(G:Gh) (F:Hp) (Z:L2.St) (H:Hp) (ρ:En) (Q:List V->Hp->Prop) (k:List D->M α) (C:α->Hp->Hp->Prop),StOk X.K G F Z H ρ->W X G F Z ρ (m k ρ) C ->
  (∀ds vs F' H',Same F F'->StOk X.K G F' Z H' ρ->VOs X.K F' Z ρ vs ds->W X G F' Z ρ (k ds) C->Q vs H')->dU X es Z H Q
def Frs(K:Fg)(G:Gh)(F:Hp)(Z:L2.St)(H:Hp)(ρ:En)(v:V)(c:OC):Prop:=∃a,v=.ref a/\OwnAt K G F H a c/\∀(i:Nat) (e:OC),own ρ i e->Z[i]? ≠ some (some (V.ref a))
def AL(X:Cx)(e:Expr)(p:Pu (List D)):Prop :=
 ∀(G:Gh) (F:Hp) (Z:L2.St) (H:Hp) (ρ:En) (Q:VK),StOk X.K G F Z H ρ->W X G F Z ρ (p ρ) (λds F' H'=>∀v,Frs X.K G F' Z H' ρ v (.l ds)->Q v H')->dW X e Z H Q
def E0(i:Nat):Pu D:=λρ=>match ρ[i]? with
 | some (some (.fz d))=>.ret d
 | _=>.bad
def FV(c:OC):M D:=match c with
 | .i _ _ _=>.bad
 | c=>.ret c.d
def DW(i:Nat):Pu D:=λρ=>match ρ[i]? with
 | some (some (.ol c))=>FV c
 | some (some (.op c))=>FV c
 | _=>.bad
def xF(d:D):Pu D:=λ_=>.ret d
def Hx(f:D->D->Option D)(a b:Pu D):Pu D:=λρ=>bd (a ρ) λx=>bd (b ρ) λy=>oM (f x y)
def D1(f:D->D->Option Bool)(a b:Pu D):Pu Bool:=λρ=>bd (a ρ) λx=>bd (b ρ) λy=>oM (f x y)
abbrev Pa(α:Type):=(List D->M α)->En->M α
def Hu{α:Type}:Pa α:=λk _=>k []
def DY{α:Type}(a:Pu D)(r:Pa α):Pa α:=λk ρ=>bd (a ρ) λx=>r (λxs=>k (x::xs)) ρ
def gH{S:Type}(ds:List S):M (List S):=if ds.length<=sizeLine then .ret ds else .bad
def IY(ps:Pa D):Pu D:=λρ=>ps (λds=>.ret (.tuple ds)) ρ
def I9(ps:Pa (List D)):Pu (List D):=λρ=>ps (λds=>.ret ds) ρ
theorem mJ(h:n<=1000):n<=sizeLine:=ir h (by decide)
def DZ(f:List D->Option D)(ps:Pa D):Pu D:=λρ=>ps (λds=>oM (f ds)) ρ
def ji(f:List D->Option (List D))(ps:Pa (List D)):Pu (List D):=λρ=>ps (λds=>oM (f ds)) ρ
def pB(p:Pu Bool):Pu D:=λρ=>bd (p ρ) λb=>.ret (.bool b)
def pZ(p:Pu (List D)):Pu D:=λρ=>bd (p ρ) λds=>.ret (.list ds)
def lq:D->Option Bool
 | .none=>some false
 | .bool b=>some b
 | .int i=>some (i != 0)
 | .str x=>if x.length<=sizeLine then some ((x.length:Int) != 0)else none
 | .list ds=>some (!ds.isEmpty)
 | .tuple ds=>some (!ds.isEmpty)
 | .dict _=>none
def Hs(p:Pu D):Pu Bool:=λρ=>bd (p ρ) λd=>oM (lq d)
def Hy(a b:Pu Bool):Pu Bool:=λρ=>bd (a ρ) λt=>if t then b ρ else .ret false
def pOr(a b:Pu Bool):Pu Bool:=λρ=>bd (a ρ) λt=>if t then .ret true else b ρ
def Ht(a:Pu Bool):Pu Bool:=λρ=>bd (a ρ) λt=>.ret (!t)
def pIf{α:Type}(c:Pu Bool)(a b:Pu α):Pu α:=λρ=>bd (c ρ) λt=>if t then a ρ else b ρ
def OpD(K:Fg)(r:R2)(f:D->D->Option D):Prop :=
 ∀(G:Gh) (F:Hp) (Z:L2.St) (H:Hp) (ρ:En) (x y:V) (dx dy:D) (res:D) (Q:VK),StOk K G F Z H ρ->OR K F H x dx->OR K F H y dy->f dx dy=some res ->
  (∀v F' H',Same F F'->StOk K G F' Z H' ρ->Rep K F' v res->Q v H')->r x y H Q
def OpB(K:Fg)(r:R2)(f:D->D->Option Bool):Prop :=
 ∀(G:Gh) (F:Hp) (Z:L2.St) (H:Hp) (ρ:En) (x y:V) (dx dy:D) (res:Bool) (Q:VK),StOk K G F Z H ρ->OR K F H x dx->OR K F H y dy->f dx dy=some res->Q (.bl res) H->r x y H Q
def eJ(K:Fg)(r:List V->Hp->VK->Prop)(f:List D->Option D):Prop :=
 ∀(G:Gh) (F:Hp) (Z:L2.St) (H:Hp) (ρ:En) (xs:List V) (ds:List D) (res:D) (Q:VK),StOk K G F Z H ρ->ORs K F H xs ds->f ds=some res ->
  (∀v F' H',Same F F'->StOk K G F' Z H' ρ->Rep K F' v res->Q v H')->r xs H Q
def pK(K:Fg)(r:List V->Hp->VK->Prop)(f:List D->Option (List D)):Prop :=
 ∀(G:Gh) (F:Hp) (Z:L2.St) (H:Hp) (ρ:En) (xs:List V) (ds:List D) (res:List D) (Q:VK),StOk K G F Z H ρ->ORs K F H xs ds->f ds=some res ->
  (∀v F' H',Same F F'->StOk K G F' Z H' ρ->Frs K G F' Z H' ρ v (.l res)->Q v H')->r xs H Q
def isStar:Expr->Bool
 | .Starred _ _=>true
 | _=>false
theorem dD{env:Env}:∀{e:Expr} {es:List Expr},isStar e=false->starEach (e::es) env=(false,eval e env)::starEach es env:=by
 intro e es h
 cases e<;>first|rfl|cases h
def Cp(o:Option NameKind):Bool:=match o with
 | some .local=>true
 | some .cell=>true
 | _=>false
theorem lo{sc:Scope}(h:Cp (sc.names.lookup x)=true):L2.Loc sc x:=by
 unfold L2.Loc
 generalize sc.names.lookup x=o at *
 unfold Cp at h
 split at h
 ·exact .inl rfl
 ·exact .inr rfl
 ·cases h
def GI(o:Option NameKind):Bool:=match o with
 | some .free=>true
 | o=>Cp o
theorem vi{sc:Scope}(h:GI (sc.names.lookup x)=true):L2.Vis sc x:=by
 unfold L2.Vis
 generalize sc.names.lookup x=o at *
 unfold GI Cp at h
 split at h
 ·exact .inr (.inr rfl)
 ·split at h
  ·exact .inl rfl
  ·exact .inr (.inl rfl)
  ·cases h
section
variable {a b c:Expr} {rest:List Expr} {p pa pb:Pu D} {ta tb tc:Pu Bool} {ps:Pa D} {pb':Pa Bool} {pl:Pa (List D)} {pα:Pa α} {qs:Pu (List D)}
theorem Gs(hN:X.N[i]? = some x)(hv:Vis X.env.scope x)(hd:(x==("__debug__" : Str))=false:=by decide)(hcd:(x==("__classdict__" : Str))=false:=by decide):AP X (.Name x pos) (E0 i) :=
 λG F Z H ρ Q S w=>sem (e8 hN hv hd hcd)<|by
  unfold E0 at w
  split at w
  ·rename_i d q
   obtain⟨v,e1,r1⟩:=S.fz i d q
   exact⟨v,e1,w F H (Same.refl _) S v r1⟩
  ·exact w.elim
theorem aN(hN:X.N[i]? = some x:=by rfl)(hv:Vis X.env.scope x:=by exact vi rfl)(hd:(x==("__debug__" : Str))=false:=by decide)(hcd:(x==("__classdict__" : Str))=false:=by decide):AO X (.Name x pos) (DW i) :=
 λG F Z H ρ Q S w=>sem (e8 hN hv hd hcd)<|by
  have go:∀c:OC,own ρ i c->W X G F Z ρ (FV c) (λd F' H'=>∀v,VO X.K F' Z ρ v d->Q v H')->GJ i Z H Q:=λc ho w=>by
   obtain⟨a,e1,oa⟩:=S.ow i _ ho
   cases c with
   | i _ _ _=>exact w.elim
   | _=>exact⟨_,e1,w F H (Same.refl _) S _ (.inr ⟨i,_,ho,e1,rfl,rfl⟩)⟩
  unfold DW at w
  split at w
  ·rename_i ds q;exact go ds (.inl q) w
  ·rename_i ds q;exact go ds (.inr q) w
  ·exact w.elim
theorem ao(h:AP X e p):AO X e p:=λG F Z H ρ Q S w=>h G F Z H ρ Q S (w.imp λd F' H' _ _ q v r=>q v (.inl r))
theorem qJ{d:D}(h:PE X e (tC v))(r:∀F,Rep X.K F v d):AP X e (xF d) :=
 λG F Z H ρ Q S w=>sem h (w F H (Same.refl _) S v (r F))
theorem ak{i j}:AP X (.Constant (.int i) j pos) (xF (.int i)):=qJ EV λ_=>.int _
theorem gE{i j}:AP X (.Constant (.bool i) j pos) (xF (.bool i)):=qJ Hq λ_=>.bl _
theorem Gu{i j}:AP X (.Constant (.str i) j pos) (xF (.str i)):=qJ ES λ_=>.str _
theorem nv{j}:AP X (.Constant .none j pos) (xF .none):=qJ EU λ_=>.non
theorem qD{G:Gh}{f:D->D->M α}{C:α->Hp->Hp->Prop}(ha:AO X a pa)(hb:AO X b pb)(S:StOk X.K G F Z H ρ)(w:W X G F Z ρ (bd (pa ρ) λx=>bd (pb ρ) λy=>f x y) C)
  (k:∀x y dx dy F' H',Same F F'->StOk X.K G F' Z H' ρ->OR X.K F' H' x dx->OR X.K F' H' y dy->W X G F' Z ρ (f dx dy) C->r x y H' Q):tOp r (dW X a) (dW X b) Z H Q :=
 ha G F Z H ρ _ S (w.bind.imp λdx F1 H1 s1 S1 w1 x hx=>hb G F1 Z H1 ρ _ S1 (w1.bind.imp λdy F2 H2 s2 S2 w2 y hy=>k x y dx dy F2 H2 (s1.trans s2) S2 ((hx.mono s2).or S2) (hy.or S2) w2))
theorem aW{op:Operator}{f:D->D->Option D}(ho:OpR X (binaryOp op) r)(hf:OpD X.K r f)(ha:AO X a pa)(hb:AO X b pb):AP X (.BinOp a op b pos) (Hx f pa pb) :=
 λG F Z H ρ Q S w=>sem (DS ho aC aC) (qD ha hb S w λx y dx dy F' H' s' S' hx hy w'=>by
  obtain⟨res,e,k⟩:=w'.opt
  exact hf G F' Z H' ρ x y dx dy res Q S' hx hy e λv F2 H2 s2 S2 r2=>k F2 H2 s2 S2 v r2)
theorem aS{f:D->D->Option D}(hr:IxR X r)(hf:OpD X.K r f)(ha:AO X a pa)(hb:AO X b pb)(hs:qO b:=by exact λ_ _=>rfl):AP X (.Subscript a b pos) (Hx f pa pb) :=
 λG F Z H ρ Q S w=>sem (DU hr aC aC hs) (qD ha hb S w λx y dx dy F' H' s' S' hx hy w'=>by
  obtain⟨res,e,k⟩:=w'.opt
  exact hf G F' Z H' ρ x y dx dy res Q S' hx hy e λv F2 H2 s2 S2 r2=>k F2 H2 s2 S2 v r2)
theorem qN{f:D->D->Option Bool}(ho:OpR X (compareOp op) r)(hf:OpB X.K r f)(ha:AO X a pa)(hb:AO X b pb)(hm:behindInMarks op b=false:=by rfl):AB X (.Compare a [op] [b] pos) (D1 f pa pb) :=
 λG F Z H ρ Q S w=>sem (vO ho aC aC hm) (qD ha hb S w λx y dx dy F' H' s' S' hx hy w'=>by
  obtain⟨res,e,k⟩:=w'.opt
  exact hf G F' Z H' ρ x y dx dy res Q S' hx hy e (k F' H' (Same.refl _) S'))
theorem bn{f:D->D->Option Bool}(ho:OpR X (compareOp op) r)(hf:OpB X.K r f)(ha:AO X a pa)(hb:AO X b pb)(hm:behindInMarks op b=false:=by rfl):AT X (.Compare a [op] [b] pos) (D1 f pa pb) :=
 λG F Z H ρ Q S w=>tR (vI ho aC aC hm) (qD (Q:=λx H'=>∃k,x=.bl k/\Q k H') ha hb S w λx y dx dy F' H' s' S' hx hy w'=>by
  obtain⟨res,e,k⟩:=w'.opt
  exact hf G F' Z H' ρ x y dx dy res _ S' hx hy e ⟨res,rfl,k F' H' (Same.refl _) S'⟩)
theorem A6(h:AB X e ta):AP X e (pB ta):=λG F Z H ρ Q S w=>h G F Z H ρ Q S (w.bind.imp λb F' H' s1 S1 w1=>w1 F' H' (Same.refl _) S1 _ (.bl b))
theorem tf(h:AL X e qs):AP X e (pZ qs):=λG F Z H ρ Q S w=>h G F Z H ρ Q S (w.bind.imp λds F' H' s1 S1 w1 v fr=>by
 obtain⟨F2,s2,S2,r2⟩:=S1.settle (v:=v) (ds:=ds) fr
 exact w1 F2 H' s2 S2 v r2)
theorem aE:AA (α:=α) X [] Hu:=λG F Z H ρ Q k C S w kk=>tS gT (kk [] [] F H (Same.refl _) S rfl .nil w)
theorem af(h:AP X e p)(hr:AA X es pα)(hs:starEach (e::es) X.env=(false,eval e X.env)::starEach es X.env:=by exact dD rfl):AA X (e::es) (DY p pα) :=
 λG F Z H ρ Q k C S w kk=>tS (b6 aC bI hs) (h G F Z H ρ _ S (w.bind.imp λd F1 H1 s1 S1 w1 v r1 =>
  hr G F1 Z H1 ρ _ _ C S1 w1 λds vs F2 H2 s2 S2 hl r2 w2=>kk (d::ds) (v::vs) F2 H2 (s1.trans s2) S2 (by simp[hl]) (.cons (r1.mono s2) r2) w2))
theorem aP:AAo (α:=α) X [] Hu:=λG F Z H ρ Q k C S w kk=>tS gT (kk [] [] F H (Same.refl _) S .nil w)
theorem aJ(h:AO X e p)(hr:AAo X es pα)(hs:starEach (e::es) X.env=(false,eval e X.env)::starEach es X.env:=by exact dD rfl):AAo X (e::es) (DY p pα) :=
 λG F Z H ρ Q k C S w kk=>tS (b6 aC bI hs) (h G F Z H ρ _ S (w.bind.imp λd F1 H1 s1 S1 w1 v r1 =>
  hr G F1 Z H1 ρ _ _ C S1 w1 λds vs F2 H2 s2 S2 r2 w2=>kk (d::ds) (v::vs) F2 H2 (s1.trans s2) S2 (.cons (r1.mono s2) r2) w2))
theorem W.fit{G:Gh}{ds:List α}{C:List α->Hp->Hp->Prop}(h:W X G F Z ρ (gH ds) C):ds.length<=sizeLine/\∀F' H',Same F F'->StOk X.K G F' Z H' ρ->C ds F' H':=by
 unfold gH at h
 split at h
 ·exact⟨by assumption,h⟩
 ·exact h.elim
theorem gq{x1}(h:AA X es ps)(hz:es.length<=1000:=by decide +kernel):AP X (.Tuple es x1 pos) (IY ps) :=
 λG F Z H ρ Q S w=>sem (zB bI) (h G F Z H ρ _ _ _ S w λds vs F1 H1 s1 S1 hl r1 w1=>by
  refine⟨by rw[hl];exact mJ hz,λq hq=>?_⟩
  obtain⟨s2,S2,r2⟩:=S1.newTup hq r1
  exact w1 _ _ s2 S2 _ r2)
theorem cO(h:AA X es pl)(hz:es.length<=1000:=by decide +kernel):AL X (.List es pos) (I9 pl) :=
 λG F Z H ρ Q S w=>sem (zD bI) (h G F Z H ρ _ _ _ S w λds vs F1 H1 s1 S1 hl r1 w1=>by
  refine⟨by rw[hl];exact mJ hz,λq hq=>?_⟩
  obtain⟨S2,r2⟩:=S1.newLst hq r1
  exact w1 _ _ (Same.refl _) S2 _ r2)
theorem jM{r:List V->Hp->VK->Prop}{G:Gh}{f:List D->M α}{C:α->Hp->Hp->Prop}(ha:AAo X es pα)(S:StOk X.K G F Z H ρ)(w:W X G F Z ρ (pα f ρ) C)
  (k:∀xs ds F' H',Same F F'->StOk X.K G F' Z H' ρ->ORs X.K F' H' xs ds->W X G F' Z ρ (f ds) C->r xs H' Q):tCB r (dU X es) Z H Q :=
 ha G F Z H ρ _ _ C S w λds xs F1 H1 s1 S1 hx w1=>k xs ds F1 H1 s1 S1 (hx.ors S1) w1
theorem bc{p:Pos}{id:String}{r:List V->Hp->VK->Prop}{f:List D->Option D}(hc:CallR X (.builtin id) r)(hf:eJ X.K r f)(hm:X.mg x=none)(hv:bootBuiltins x=some (.builtin id))(ha:AAo X (e::es) ps)(hg:Gl X x:=by rfl)
  (hn:x ≠ "__name__":=by decide) (hdb:(x==("__debug__" : Str))=false:=by decide) (he:starEach (e::es) X.env=(false,eval e X.env)::starEach es X.env:=by rfl) (hpl:(backTo pos (starEach es X.env)).any (·.1)=false:=by rfl):AP X (.Call (.Name x p) (e::es) [] pos) (DZ f ps) :=
 λG F Z H ρ Q S w=>sem (gS hc hg hm hv bI hn hdb he hpl) (jM ha S w λxs ds F' H' s' S' hx w'=>by
  obtain⟨res,e,k⟩:=w'.opt
  exact hf G F' Z H' ρ xs ds res Q S' hx e λv F2 H2 s2 S2 r2=>k F2 H2 s2 S2 v r2)
theorem tj{p:Pos}{id:String}{r:List V->Hp->VK->Prop}{f:List D->Option (List D)}(hc:CallR X (.builtin id) r)(hf:pK X.K r f)(hm:X.mg x=none)(hv:bootBuiltins x=some (.builtin id))(ha:AAo X (e::es) pl)(hg:Gl X x:=by rfl)
  (hn:x ≠ "__name__":=by decide) (hdb:(x==("__debug__" : Str))=false:=by decide) (he:starEach (e::es) X.env=(false,eval e X.env)::starEach es X.env:=by rfl) (hpl:(backTo pos (starEach es X.env)).any (·.1)=false:=by rfl):AL X (.Call (.Name x p) (e::es) [] pos) (ji f pl) :=
 λG F Z H ρ Q S w=>sem (gS hc hg hm hv bI hn hdb he hpl) (jM ha S w λxs ds F' H' s' S' hx w'=>by
  obtain⟨res,e,k⟩:=w'.opt
  exact hf G F' Z H' ρ xs ds res Q S' hx e λv F2 H2 s2 S2 r2=>k F2 H2 s2 S2 v r2)
theorem dS{p:Pos}{r:List V->Hp->VK->Prop}{f:List D->Option D}(hc:CallR X (.type T) r)(hf:eJ X.K r f)(hm:X.mg x=none)(hv:bootBuiltins x=some (.type T))(ha:AAo X (e::es) ps)(hg:Gl X x:=by rfl)
  (hn:x ≠ "__name__":=by decide) (hdb:(x==("__debug__" : Str))=false:=by decide) (he:starEach (e::es) X.env=(false,eval e X.env)::starEach es X.env:=by rfl) (hpl:(backTo pos (starEach es X.env)).any (·.1)=false:=by rfl):AP X (.Call (.Name x p) (e::es) [] pos) (DZ f ps) :=
 λG F Z H ρ Q S w=>sem (jY hc hg hm hv bI hn hdb he hpl) (jM ha S w λxs ds F' H' s' S' hx w'=>by
  obtain⟨res,e,k⟩:=w'.opt
  exact hf G F' Z H' ρ xs ds res Q S' hx e λv F2 H2 s2 S2 r2=>k F2 H2 s2 S2 v r2)
theorem pH{p:Pos}{r:List V->Hp->VK->Prop}{f:List D->Option (List D)}(hc:CallR X (.type T) r)(hf:pK X.K r f)(hm:X.mg x=none)(hv:bootBuiltins x=some (.type T))(ha:AAo X (e::es) pl)(hg:Gl X x:=by rfl)
  (hn:x ≠ "__name__":=by decide) (hdb:(x==("__debug__" : Str))=false:=by decide) (he:starEach (e::es) X.env=(false,eval e X.env)::starEach es X.env:=by rfl) (hpl:(backTo pos (starEach es X.env)).any (·.1)=false:=by rfl):AL X (.Call (.Name x p) (e::es) [] pos) (ji f pl) :=
 λG F Z H ρ Q S w=>sem (jY hc hg hm hv bI hn hdb he hpl) (jM ha S w λxs ds F' H' s' S' hx w'=>by
  obtain⟨res,e,k⟩:=w'.opt
  exact hf G F' Z H' ρ xs ds res Q S' hx e λv F2 H2 s2 S2 r2=>k F2 H2 s2 S2 v r2)
theorem dG{ds:List D}(h:RepL K F vs ds):(!vs.isEmpty) = !ds.isEmpty:=by cases h<;>rfl
theorem u4(ha:AO X a pa)(he:∀whole,isTrue a X.env whole=(do let v <-whole;standAt a.pos;holding [v] (truthy v))):AT X a (Hs pa) :=
 λG F Z H ρ Q S w=>tR (rq aC he) (ha G F Z H ρ _ S (w.bind.imp λx F1 H1 s1 S1 w1 v hv=>by
  obtain⟨bb,hb,k⟩:=w1.opt
  refine⟨bb,?_,k F1 H1 (Same.refl _) S1⟩
  have o:=hv.or S1
  cases x with
  | none=>rw[o.none];cases hb;exact rfl
  | bool i=>rw[o.bool];cases hb;exact rfl
  | int i=>rw[o.int];cases hb;exact rfl
  | str i =>
   rw[o.str]
   unfold lq at hb
   dsimp only at hb
   split at hb
   ·rename_i hl;cases hb;exact⟨hl,rfl⟩
   ·cases hb
  | list ds=>obtain⟨a,vs,rfl,h1,h2⟩:=o.list S1.fh;cases hb;exact .inl ⟨vs,h1,(dG h2).symm⟩
  | tuple ds=>obtain⟨a,vs,rfl,h1,h2⟩:=o.tuple S1.fh;cases hb;exact .inr (.inl ⟨vs,h1,(dG h2).symm⟩)
  | dict ds=>cases hb))
theorem u5(ha:AB X a ta)(he:∀whole,isTrue a X.env whole=(do let v <-whole;standAt a.pos;holding [v] (truthy v))):AT X a ta :=
 λG F Z H ρ Q S w=>tR (rq aC he) (ha G F Z H ρ _ S (w.imp λx F1 H1 s1 S1 w1=>⟨x,rfl,w1⟩))
theorem qE(ha:AT X a ta):AW X (.BoolOp .And [a] pos) ta:=λG F Z H ρ Q S w=>w9 (vD dZ) (ha G F Z H ρ Q S w)
theorem A0(ha:AT X a ta):AW X (.BoolOp .Or [a] pos) ta:=λG F Z H ρ Q S w=>w9 (EK dZ) (ha G F Z H ρ Q S w)
theorem uZ(ha:AT X a ta)(hb:AW X (.BoolOp .And (b::rest) pos) tb):AW X (.BoolOp .And (a::b::rest) pos) (Hy ta tb) :=
 λG F Z H ρ Q S w=>w9 (zn dZ lO) (ha G F Z H ρ _ S (w.bind.imp λt F1 H1 s1 S1 w1=>by
  cases t with
  | true=>refine sv ?_;exact hb G F1 Z H1 ρ Q S1 w1
  | false=>refine uC ?_;exact w1 F1 H1 (Same.refl _) S1))
theorem A1(ha:AT X a ta)(hb:AW X (.BoolOp .Or (b::rest) pos) tb):AW X (.BoolOp .Or (a::b::rest) pos) (pOr ta tb) :=
 λG F Z H ρ Q S w=>w9 (Hm dZ lO) (ha G F Z H ρ _ S (w.bind.imp λt F1 H1 s1 S1 w1=>by
  cases t with
  | true=>refine sv ?_;exact w1 F1 H1 (Same.refl _) S1
  | false=>refine uC ?_;exact hb G F1 Z H1 ρ Q S1 w1))
theorem sZ(h:AW X e ta):AT X e ta:=λG F Z H ρ Q S w=>tR (λpins s Z H Q I h=>lO _ pins s Z H Q I h) (h G F Z H ρ Q S w)
theorem qF(ha:AT X a ta):AT X (.UnaryOp .Not a pos) (Ht ta) :=
 λG F Z H ρ Q S w=>tR (EL dZ) (ha G F Z H ρ _ S (w.bind.imp λt F1 H1 s1 S1 w1=>w1 F1 H1 (Same.refl _) S1))
theorem Bc{op}(h:AB X a ta):AB X (.BoolOp op [a] pos) ta:=λG F Z H ρ Q S w=>sem (ET aC) (h G F Z H ρ Q S w)
theorem vd(ha:AB X a ta)(hb:AB X (.BoolOp .And (b::rest) pos) tb):AB X (.BoolOp .And (a::b::rest) pos) (Hy ta tb) :=
 λG F Z H ρ Q S w=>sem (EY aC aC) (ha G F Z H ρ _ S (w.bind.imp λt F1 H1 s1 S1 w1=>⟨t,rfl,by
  cases t with
  | true=>refine sv ?_;exact hb G F1 Z H1 ρ Q S1 w1
  | false=>refine uC ?_;exact w1 F1 H1 (Same.refl _) S1⟩))
theorem Iq(hc:AT X c tc)(ha:AP X a pa)(hb:AP X b pb):AP X (.IfExp c a b pos) (pIf tc pa pb) :=
 λG F Z H ρ Q S w=>sem (zE dZ aC aC) (hc G F Z H ρ _ S (w.bind.imp λt F1 H1 s1 S1 w1=>by
  cases t with
  | true=>refine sv ?_;exact ha G F1 Z H1 ρ Q S1 w1
  | false=>refine uC ?_;exact hb G F1 Z H1 ρ Q S1 w1))
end
def vZ(i j:Int):Bool:=(decide (-(2^64)<i)&&decide (i<2^64))||(decide (-(2^64)<j)&&decide (j<2^64))
def bF:D->D->Option D
 | .int i,.int j=>some (.int (i+j))
 | .str a,.str b=>if a.length+b.length<=sizeLine then some (.str (a++b))else none
 | .tuple a,.tuple b=>if a.length+b.length<=sizeLine then some (.tuple (a++b))else none
 | .list a,.list b=>if a.length+b.length<=sizeLine then some (.list (a++b))else none
 | _,_=>none
def md:D->D->Option D
 | .int i,.int j=>some (.int (i - j))
 | _,_=>none
def dc:D->D->Option D
 | .int i,.int j=>if vZ i j then some (.int (i*j))else none
 | _,_=>none
def mn:D->D->Option D
 | .int i,.int j=>if decide (0<j)&&decide (j<1073741824)then some (.int (i / j))else none
 | _,_=>none
def jy:D->D->Option D
 | .int i,.int j=>if 0<j then some (.int (i % j))else none
 | _,_=>none
def vU:D->D->Option D
 | .int i,.int j=>if decide (0<=j)&&decide (j<=1000000)&&decide (i.natAbs<2^64)then some (.int (i^j.toNat))else none
 | _,_=>none
def tZ:D->D->Option Bool
 | .int i,.int j=>some (decide (i<j))
 | _,_=>none
def kH:D->D->Option Bool
 | .int i,.int j=>some (decide (j<i))
 | _,_=>none
def xH:D->D->Option Bool
 | .int i,.int j=>some (decide (j<=i))
 | _,_=>none
def DP(K:Fg):R2:=λx y H Q=>∃a b xs ys,x=.ref a/\y=.ref b/\SqT K H a xs/\SqT K H b ys/\xs.length+ys.length<=sizeLine /\
 (xs=[]->Q (.ref b) H)/\(xs≠[]->ys=[]->Q (.ref a) H)/\(xs≠[]->ys≠[]->∀p,H p=none->Q (.ref p) (upd H p (.tup (xs++ys))))
theorem op_cat0:OpR X (binaryOp .Add) (DP X.K):=by
 intro pins s Z H x y v u Q I rx ry h
 obtain⟨a,b,xs,ys,rfl,rfl,ha,hb,hz,q0,q1,q2⟩:=h
 by_cases hx:xs=[]
 ·cases rx
  cases ry
  obtain⟨its,r1,p1,_⟩:=I.tuple ha
  obtain⟨its2,r2,p2,_⟩:=I.tuple hb
  have hv:its=[]:=r1.nil_iff.mpr hx
  obtain⟨⟨cls,dd,data,sl⟩,ho,hc,n,hd⟩:=id p1
  obtain⟨⟨cls2,dd2,data2,sl2⟩,ho2,hc2,n2,hd2⟩:=id p2
  simp only at hc hd hc2 hd2
  subst hc hd hc2 hd2
  exact concat_meets ⟨_,ho,rfl⟩ ⟨_,ho2,rfl⟩ noFill_tuple_add seq_tuple_add KZ KI (KA _ _)
   (tuple_addW0 a b its.toArray its2.toArray n n2 dd dd2 sl sl2 (by simp[hv])) ⟨ho,ho2,⟨.ref b,H,I,rfl,q0 hx⟩⟩
 ·exact B8 pins s Z H _ _ v u Q I rx ry ⟨a,b,xs,ys,rfl,rfl,ha,hb,hx,hz,q1 hx,q2 hx⟩
section
theorem noS{a:α}{P:Prop}(e:(none:Option α)=some a):P:=nomatch e
theorem okI{C:Int->Int->Prop}{g:Int->Int->V}{f:D->D->Option D}(h:∀dx dy res,f dx dy=some res->∃i j,dx=.int i/\dy=.int j/\C i j/\∀K F,Rep K F (g i j) res):OpD K (rI C g) f:=by
 intro G F Z H ρ x y dx dy res Q S ox oy e k
 obtain⟨i,j,rfl,rfl,hc,hr⟩:=h dx dy res e
 exact⟨i,j,ox.int,oy.int,hc,k _ F H (Same.refl _) S (hr K F)⟩
theorem okB{g:Int->Int->Bool}{f:D->D->Option Bool}(h:∀dx dy res,f dx dy=some res->∃i j,dx=.int i/\dy=.int j/\res=g i j):OpB K (rI0 λi j=>.bl (g i j)) f:=by
 intro G F Z H ρ x y dx dy res Q S ox oy e k
 obtain⟨i,j,rfl,rfl,rfl⟩:=h dx dy res e
 exact⟨i,j,ox.int,oy.int,k⟩
theorem zP:OpD K (rI0 λi j=>.int (i - j)) md:=by
 intro G F Z H ρ x y dx dy res Q S ox oy e k
 cases dx<;>first|exact noS e|(cases dy<;>first|exact noS e|cases e)
 exact⟨_,_,ox.int,oy.int,k _ F H (Same.refl _) S (.int _)⟩
theorem HB:OpB K (rI0 λi j=>.bl (decide (i<j))) tZ:=okB λdx dy res e=>by
 cases dx<;>first|exact noS e|(cases dy<;>first|exact noS e|cases e)
 exact⟨_,_,rfl,rfl,rfl⟩
theorem rO:OpB K (rI0 λi j=>.bl (decide (j<i))) kH:=okB λdx dy res e=>by
 cases dx<;>first|exact noS e|(cases dy<;>first|exact noS e|cases e)
 exact⟨_,_,rfl,rfl,rfl⟩
theorem vW:OpB K (rI0 λi j=>.bl (decide (j<=i))) xH:=okB λdx dy res e=>by
 cases dx<;>first|exact noS e|(cases dy<;>first|exact noS e|cases e)
 exact⟨_,_,rfl,rfl,rfl⟩
theorem pX:OpD K (rI Iy λi j=>.int (i / j)) mn:=okI λdx dy res e=>by
 cases dx<;>first|exact noS e|(cases dy<;>try (exact noS e))
 rename_i i j
 dsimp only[mn]at e
 split at e
 ·rename_i hc
  cases e
  simp only[ax,zzi]at hc
  exact⟨i,j,rfl,rfl,hc,λ_ _=>.int _⟩
 ·cases e
theorem j0:OpD K (rI (λ_ j=>0<j) λi j=>.int (i % j)) jy:=okI λdx dy res e=>by
 cases dx<;>first|exact noS e|(cases dy<;>try (exact noS e))
 rename_i i j
 dsimp only[jy]at e
 split at e
 ·rename_i hc
  cases e
  exact⟨i,j,rfl,rfl,hc,λ_ _=>.int _⟩
 ·cases e
theorem Fb:OpD K (rI Iw λi j=>.int (i^j.toNat)) vU:=okI λdx dy res e=>by
 cases dx<;>first|exact noS e|(cases dy<;>try (exact noS e))
 rename_i i j
 dsimp only[vU]at e
 split at e
 ·rename_i hc
  cases e
  simp only[ax,zzi]at hc
  exact⟨i,j,rfl,rfl,⟨hc.1.1,hc.1.2,hc.2⟩,λ_ _=>.int _⟩
 ·cases e
theorem jv{ds:List D}(r:RepL K F vs ds):vs=[]↔ds=[]:=by cases r<;>simp
def DO(K:Fg):R2:=λx y H Q=>∃l b xs zs,x=.ref l/\y=.ref b/\SqL K H l xs/\SqL K H b zs/\xs.length+zs.length<=sizeLine/\∀p,H p=none->Q (.ref p) (upd H p (.lst (xs++zs)))
theorem B9:OpR X (binaryOp .Add) (DO X.K):=by
 intro pins s Z H x y v u Q I rx ry h
 obtain⟨l,b,xs,zs,rfl,rfl,hH,hB,hz,q⟩:=h
 cases rx
 cases ry
 obtain⟨its,r,pl,_⟩:=I.list hH
 obtain⟨its2,r2,pl2,_⟩:=I.list hB
 obtain⟨⟨cls,dd,data,sl⟩,ho,hc,n,hd⟩:=id pl.isList
 obtain⟨⟨cls2,dd2,data2,sl2⟩,ho2,hc2,n2,hd2⟩:=id pl2.isList
 simp only at hc hd hc2 hd2
 subst hc hd hc2 hd2
 have e:its.toArray++its2.toArray=(its++its2).toArray:=by simp
 refine concat_meets ⟨_,ho,rfl⟩ ⟨_,ho2,rfl⟩ noFill_list_add seq_list_add PySem.F.slot_list_add PySem.F.entry_list_add (PySem.F.args_list_add_2 _ _) (list_addW l b its.toArray its2.toArray n n2 dd dd2 sl sl2 (by rw[be,be,<-r.length,<-r2.length];exact hz)) ⟨ho,ho2,?_⟩
 rw[e]
 exact⟨.ref _,_,I.laid (t':=s.toks) (o:=.lst (xs++zs)) (λb ob q=>zzc _ q) (ai _) ⟨by rw[zzf];exact hz,_,0,r.append r2,zze _ rfl⟩,rfl,q _ (I.hok.fresh (ai _))⟩
def Hb:R2:=λx y H Q=>∃i j,x=.str i/\y=.str j/\i.length+j.length<=sizeLine/\Q (.str (i++j)) H
def DQ(K:Fg):R2:=λx y H Q=>rI0 (λi j=>.int (i+j)) x y H Q\/(Hb x y H Q\/(DP K x y H Q\/DO K x y H Q))
theorem bJ:OpR X (binaryOp .Add) (DQ X.K):=op_add.or (OpR.or tY (op_cat0.or B9))
theorem ci:OpD K (DQ K) bF:=by
 intro G F Z H ρ x y dx dy res Q S ox oy e k
 cases dx<;>first|exact noS e|(cases dy<;>try (exact noS e))
 ·cases e;exact .inl ⟨_,_,ox.int,oy.int,k _ F H (Same.refl _) S (.int _)⟩
 ·dsimp only[bF]at e
  split at e
  ·rename_i hz
   cases e
   exact .inr (.inl ⟨_,_,ox.str,oy.str,hz,k _ F H (Same.refl _) S (.str _)⟩)
  ·cases e
 ·dsimp only[bF]at e
  split at e
  ·rename_i hz
   cases e
   obtain⟨a,vs,rfl,h1,h2⟩:=ox.list S.fh
   obtain⟨b,us,rfl,g1,g2⟩:=oy.list S.fh
   refine .inr (.inr (.inr ⟨a,b,vs,us,rfl,rfl,h1,g1,by rw[h2.length,g2.length];exact hz,λp hp=>?_⟩))
   obtain⟨S2,r2⟩:=S.newLst hp (h2.append g2)
   obtain⟨F2,s3,S3,r3⟩:=S2.settle r2
   exact k _ F2 _ s3 S3 r3
  ·cases e
 ·dsimp only[bF]at e
  split at e
  ·rename_i hz
   cases e
   obtain⟨a,vs,rfl,h1,h2⟩:=ox.tuple S.fh
   obtain⟨b,us,rfl,g1,g2⟩:=oy.tuple S.fh
   refine .inr (.inr (.inl ⟨a,b,vs,us,rfl,rfl,h1,g1,by rw[h2.length,g2.length];exact hz,λz=>?_,λ_ z=>?_,λ_ _ p hp=>?_⟩))
   ·have z':=(jv h2).mp z
    subst z'
    exact k _ F H (Same.refl _) S oy.tup'
   ·have z':=(jv g2).mp z
    subst z'
    exact k _ F H (Same.refl _) S (by rw[ou];exact ox.tup')
   ·obtain⟨s2,S2,r2⟩:=S.newTup hp (h2.append g2)
    exact k _ _ _ s2 S2 r2
  ·cases e
theorem gW:OpD K (rI CMul λi j=>.int (i*j)) dc:=okI λdx dy res e=>by
 cases dx<;>first|exact noS e|(cases dy<;>try (exact noS e))
 rename_i i j
 dsimp only[dc]at e
 split at e
 ·rename_i hc
  cases e
  unfold vZ at hc
  simp only[oC,ax,zzi]at hc
  exact⟨i,j,rfl,rfl,hc,λ_ _=>.int _⟩
 ·cases e
end
def kN(d e:D):Bool:=d.canLay0&&e.canLay0&&decide (d.depth<=1000)
def gV(d e:D):Option Bool:=if kN d e then some (PyData.eqv d e)else none
def fc(d e:D):Option Bool:=if kN d e then some (!PyData.eqv d e)else none
def CJ(d:D)(xs:List D):Bool:=PyData.canLayAll0 xs&&d.canLay0&&decide (d.depth<=1000)
def HS(i j:Str):Bool:=!(Builtin.Str.occurrences j i 0 j.length 1).isEmpty
def iD(d c:D):Option Bool:=match c with
 | .list xs=>if CJ d xs then some (!xs.any λy=>PyData.eqv y d)else none
 | .tuple xs=>if CJ d xs then some (!xs.any λy=>PyData.eqv y d)else none
 | .str j=>match d with
  | .str i=>some (!HS i j)
  | _=>none
 | _=>none
def isNone:D->Bool
 | .none=>true
 | _=>false
def zN(d e:D):Option Bool:=match e with
 | .none=>some (!isNone d)
 | _=>none
def rD2(K:Fg)(f:D->D->Option Bool):R2:=λx y H Q=>∃d e b,Rep K H x d/\Rep K H y e/\f d e=some b/\Q (.bl b) H
theorem eM{f:D->D->Option Bool}:OpB K (rD2 K f) f:=by
 intro G F Z H ρ x y dx dy res Q S ox oy e k
 exact⟨dx,dy,res,ox.rep S.fh,oy.rep S.fh,e,k⟩
theorem Rep.non_iff{d:D}(r:Rep K F v d):(decide (v=.non))=isNone d:=by
 cases r<;>rfl
section
theorem lZ(hu:X.A.units+1100<cLine):OpR X (compareOp .Eq) (rD2 X.K gV):=by
 intro pins s Z H x y v u Q I rx ry ⟨d,e,b,r1,r2,ho,q⟩
 unfold gV at ho
 split at ho
 case isFalse=>cases ho
 rename_i hc
 cases ho
 simp only[kN,ax,zzi]at hc
 obtain⟨as,ra⟩:=(bR I).1 r1 hc.1.1 rx
 obtain⟨bs,rb⟩:=(bR I).1 r2 hc.1.2 ry
 exact SeqAt.compareEq_reads ra rb hc.1.1 hc.1.2 (by have:=Nat.min_le_left d.depth e.depth;lia) ⟨.bl _,H,I,rfl,q⟩
theorem lY(hu:X.A.units+1100<cLine):OpR X (compareOp .NotEq) (rD2 X.K fc):=by
 intro pins s Z H x y v u Q I rx ry ⟨d,e,b,r1,r2,ho,q⟩
 unfold fc at ho
 split at ho
 case isFalse=>cases ho
 rename_i hc
 cases ho
 simp only[kN,ax,zzi]at hc
 obtain⟨as,ra⟩:=(bR I).1 r1 hc.1.1 rx
 obtain⟨bs,rb⟩:=(bR I).1 r2 hc.1.2 ry
 exact SeqAt.compareNe_reads ra rb hc.1.1 hc.1.2 (by have:=Nat.min_le_left d.depth e.depth;lia) ⟨.bl _,H,I,rfl,q⟩
theorem xG(hu:X.A.units+1100<cLine):OpR X (compareOp .NotIn) (rD2 X.K iD):=by
 intro pins s Z H x y v u Q I rx ry ⟨d,e,b,r1,r2,ho,q⟩
 unfold iD at ho
 split at ho
 ·rename_i xs
  split at ho
  case isFalse=>cases ho
  rename_i hc
  cases ho
  simp only[CJ,ax,zzi]at hc
  obtain⟨as,ra⟩:=(bR I).1 r1 hc.1.2 rx
  obtain⟨bs,rb⟩:=(bR I).1 r2 (by simpa[PyData.canLay0]using hc.1.1) ry
  exact SeqAt.notIn_list_reads rb ra hc.1.1 hc.1.2 (by have:=Nat.min_le_right (PyData.depthAll xs) d.depth;lia) ⟨.bl _,H,I,rfl,q⟩
 ·rename_i xs
  split at ho
  case isFalse=>cases ho
  rename_i hc
  cases ho
  simp only[CJ,ax,zzi]at hc
  obtain⟨as,ra⟩:=(bR I).1 r1 hc.1.2 rx
  obtain⟨bs,rb⟩:=(bR I).1 r2 (by simpa[PyData.canLay0]using hc.1.1) ry
  exact SeqAt.notIn_tuple_reads rb ra hc.1.1 hc.1.2 (by have:=Nat.min_le_right (PyData.depthAll xs) d.depth;lia) ⟨.bl _,H,I,rfl,q⟩
 ·split at ho
  ·cases ho
   obtain rfl:=r1.str_inv;obtain rfl:=r2.str_inv
   exact pV pins s Z H _ _ v u Q I rx ry ⟨_,_,rfl,rfl,q⟩
  ·cases ho
 ·cases ho
theorem zK:OpR X (compareOp .IsNot) (rD2 X.K zN):=by
 intro pins s Z H x y v u Q I rx ry ⟨d,e,b,r1,r2,ho,q⟩
 unfold zN at ho
 split at ho
 ·cases ho
  cases r2
  refine B7 pins s Z H x _ v u Q I rx ry ⟨rfl,?_⟩
  rw[Rep.non_iff r1]
  exact q
 ·cases ho
end
def cH:D->D->Option D
 | .list ds,.int i=>atI ds i
 | .tuple ds,.int i=>atI ds i
 | .str z,.int i=>if z.length<=sizeLine then(atI z.cps.toList i).map λc=>.str ⟨#[c]⟩else none
 | _,_=>none
theorem qG{ds:List D}{i:Int}{d:D}(r:RepL K F vs ds)(h:atI ds i=some d):∃v,atI vs i=some v/\Rep K F v d:=by
 unfold atI at h ⊢
 rw[r.length]
 cases q:ixN ds.length i with
 | none=>rw[q]at h;cases h
 | some j =>
  rw[q]at h
  exact r.get (i:=j) h
theorem HC:OpD K (rIx K) cH:=by
 intro G F Z H ρ x y dx dy res Q S ox oy e k
 cases dx<;>first|exact noS e|(cases dy<;>try (exact noS e))
 ·dsimp only[cH]at e
  split at e
  ·rename_i hz
   obtain⟨c,hc,rfl⟩:=Option.map_eq_some_iff.mp e
   exact .inr (.inr ⟨_,_,c,ox.str,oy.int,hz,hc,k _ F H (Same.refl _) S (.str _)⟩)
  ·cases e
 ·obtain⟨a,vs,rfl,h1,h2⟩:=ox.list S.fh
  obtain⟨v,e1,e2⟩:=qG h2 e
  exact .inl ⟨a,vs,_,v,rfl,oy.int,h1,e1,k v F H (Same.refl _) S e2⟩
 ·obtain⟨a,vs,rfl,h1,h2⟩:=ox.tuple S.fh
  obtain⟨v,e1,e2⟩:=qG h2 e
  exact .inr (.inl ⟨a,vs,_,v,rfl,oy.int,h1,e1,k v F H (Same.refl _) S e2⟩)
theorem Vals.one{us:List Value}(h:Vals [v] us):∃u,us=[u]/\RelV v u:=by
 cases h with|cons a b=>cases b;exact⟨_,rfl,a⟩
def dI:List D->Option D
 | [.list ds]=>some (.int ds.length)
 | [.tuple ds]=>some (.int ds.length)
 | [.str z]=>if z.length<=sizeLine then some (.int z.length)else none
 | _=>none
def ez:List D->Option D
 | [.list ds]=>some (.tuple ds)
 | [.tuple ds]=>some (.tuple ds)
 | _=>none
def Au:List D->Option D
 | [.int i,.int j]=>some (.int (if j<i then j else i))
 | _=>none
def EH(K:Fg):List V->Hp->VK->Prop:=λxs H Q=>(∃p ys,xs=[.ref p]/\(SqL K H p ys\/SqT K H p ys)/\Q (.int ys.length) H)\/∃z,xs=[.str z]/\z.length<=sizeLine/\Q (.int z.length) H
theorem bw:CallR X (.builtin "len") (EH X.K):=CallR.or qC qB
theorem df:eJ K (EH K) dI:=by
 intro G F Z H ρ xs ds res Q S o e k
 unfold dI at e
 split at e
 ·rename_i es
  cases e
  obtain⟨v,r,rfl,ho,hr⟩:=aQ o
  obtain rfl:=bm hr
  obtain⟨a,vs,rfl,h1,h2⟩:=ho.list S.fh
  exact .inl ⟨a,vs,rfl,.inl h1,k _ F H (Same.refl _) S (by rw[h2.length];exact .int _)⟩
 ·rename_i es
  cases e
  obtain⟨v,r,rfl,ho,hr⟩:=aQ o
  obtain rfl:=bm hr
  obtain⟨a,vs,rfl,h1,h2⟩:=ho.tuple S.fh
  exact .inl ⟨a,vs,rfl,.inr h1,k _ F H (Same.refl _) S (by rw[h2.length];exact .int _)⟩
 ·split at e
  ·rename_i hz
   cases e
   obtain⟨v,r,rfl,ho,hr⟩:=aQ o
   obtain rfl:=bm hr
   exact .inr ⟨_,by rw[ho.str],hz,k _ F H (Same.refl _) S (.int _)⟩
  ·cases e
 ·cases e
theorem d3:eJ K (λxs H Q=>∃p ys,xs=[.ref p]/\((SqL K H p ys/\∀l,H l=none->Q (.ref l) (upd H l (.tup ys)))\/(SqT K H p ys/\Q (.ref p) H))) ez:=by
 intro G F Z H ρ xs ds res Q S o e k
 unfold ez at e
 split at e
 ·rename_i es
  cases e
  obtain⟨v,r,rfl,ho,hr⟩:=aQ o
  obtain rfl:=bm hr
  obtain⟨a,vs,rfl,h1,h2⟩:=ho.list S.fh
  refine⟨a,vs,rfl,.inl ⟨h1,λl hl=>?_⟩⟩
  obtain⟨s2,S2,r2⟩:=S.newTup hl h2
  exact k _ _ _ s2 S2 r2
 ·rename_i es
  cases e
  obtain⟨v,r,rfl,ho,hr⟩:=aQ o
  obtain rfl:=bm hr
  have ho:=ho.tup'
  cases ho with
  | tup h1 h2=>exact⟨_,_,rfl,.inr ⟨SqT.of (S.fh _ _ h1),k _ F H (Same.refl _) S (show Rep K F _ _ from .tup h1 h2)⟩⟩
 ·cases e
theorem Cd:eJ K (λxs H Q=>∃i j,xs=[.int i,.int j]/\Q (.int (if j<i then j else i)) H) Au:=by
 intro G F Z H ρ xs ds res Q S o e k
 unfold Au at e
 split at e
 ·cases e
  obtain⟨v,r,rfl,ho,hr⟩:=aQ o
  obtain⟨v2,r2,rfl,ho2,hr2⟩:=aQ hr
  obtain rfl:=bm hr2
  exact⟨_,_,by rw[ho.int,ho2.int],k _ F H (Same.refl _) S (show Rep K F _ _ from .int _)⟩
 ·cases e
def lJ(d:D):Bool:=d.showable&&d.canLay0&&decide (d.depth<=1000)&&decide (d.shown.length<=sizeLine)
def iW:List D->Option D
 | [d]=>if lJ d then some (.str d.shown)else none
 | _=>none
def DI(K:Fg):List V->Hp->VK->Prop:=λxs H Q=>∃v d,xs=[v]/\Rep K H v d/\lJ d=true/\Q (.str d.shown) H
theorem pW:eJ K (DI K) iW:=by
 intro G F Z H ρ xs ds res Q S o e k
 unfold iW at e
 split at e
 ·rename_i d
  split at e
  ·rename_i hc
   cases e
   obtain⟨v,r,rfl,ho,hr⟩:=aQ o
   obtain rfl:=bm hr
   exact⟨v,d,rfl,ho.rep S.fh,hc,k _ F H (Same.refl _) S (.str _)⟩
  ·cases e
 ·cases e
theorem j7(hu:X.A.units+1100<cLine)(hg:X.A.guards=some []):CallR X (.builtin "repr") (DI X.K):=by
 intro pins s Z H xs us Q I r h0
 obtain⟨v,d,rfl,rp,hc,q⟩:=h0
 obtain⟨u,rfl,ru⟩:=Vals.one r
 simp only[lJ,ax,zzi]at hc
 obtain⟨as,ra⟩:=(bR I).1 rp hc.1.1.2 ru
 have big:∀a,v=.ref a->wpAny (model X.prog X.w) X.A (call (.builtin "repr") [u]) (EP X pins Z Q) X.xe s:=λa e=>by
  subst e
  cases ru
  exact repr_of_reads' ra hc.1.1.1 (PyData.noDict_hsm (PyData.hasDict_of_canLay d hc.1.1.2)) hg (by lia) (λ_ _ e=>e) (λh' u tk hk=>⟨.str _,H,I.kept hk,⟨_,rfl⟩,q⟩) hc.2
 cases rp with
 | non=>cases ru;exact PySem.P.repr_of_none ⟨.str _,H,I.tok _,⟨_,rfl⟩,q⟩
 | bl b=>cases ru;exact PySem.P.repr_of_bool ⟨.str _,H,I.tok _,⟨_,rfl⟩,q⟩
 | int i=>obtain⟨t,rfl⟩:=ru;exact PySem.P.repr_of_int (by simpa[PyData.showable]using hc.1.1.1) ⟨.str _,H,I.tok _,⟨_,rfl⟩,q⟩
 | str x=>obtain⟨t,rfl⟩:=ru;exact PySem.P.repr_of_str ⟨.str _,H,I.tok _,⟨_,rfl⟩,q⟩ hc.2
 | tup h1 h2=>exact big _ rfl
 | lst h1 h2=>exact big _ rfl
 | dct h1 h2 h3=>exact big _ rfl
 | dck h1 h2 h3=>exact big _ rfl
 | exc _ _ _ _ _=>exact big _ rfl
 | fn _=>exact big _ rfl
def tyD:D->String
 | .none => "NoneType"
 | .bool _ => "bool"
 | .int _ => "int"
 | .str _ => "str"
 | .list _ => "list"
 | .tuple _ => "tuple"
 | .dict es=>if d9 es then "" else "dict"
def isS(T S:String):Bool:=S==T||(S == "bool" && T == "int")
def isT(T:String)(d:D):Bool:=isS T (tyD d)
def intsOf:List D->Option (List Int)
 | []=>some []
 | .int i::r=>match intsOf r with
  | some l=>some (i::l)
  | none=>none
 | _=>none
theorem bV:∀{ds:List D} {ns:List Int},intsOf ds=some ns->ds=ns.map PyData.int
 | [],ns,h=>by cases h;rfl
 | .int i::r,ns,h=>by
  dsimp only[intsOf]at h
  split at h
  ·rename_i l e;cases h;rw[bV e];rfl
  ·cases h
 | .none::_,_,h=>by cases h
 | .bool _::_,_,h=>by cases h
 | .str _::_,_,h=>by cases h
 | .list _::_,_,h=>by cases h
 | .tuple _::_,_,h=>by cases h
 | .dict _::_,_,h=>by cases h
theorem jk(ns:List Int):intsOf (ns.map PyData.int)=some ns:=by
 induction ns with
 | nil=>rfl
 | cons n r ih=>simp[intsOf,ih]
theorem cm{K:Fg}{F:Hp}:∀{vs:List V} {ns:List Int},RepL K F vs (ns.map PyData.int)->vs=ns.map V.int
 | _,[],h=>by cases h;rfl
 | _,n::r,h=>by
  cases h with
  | cons a b=>cases a;rw[cm b];rfl
theorem cJ:∀{ns:List Int} {us:List Value},Vals (ns.map V.int) us->∃ps:List (Int×Tok),us=ps.map (λp=>Value.int p.1 p.2)/\ps.map Prod.fst=ns
 | [],_,h=>by cases h;exact⟨[],rfl,rfl⟩
 | n::r,_,h=>by
  cases h with
  | cons a b =>
   obtain⟨t,rfl⟩:=a
   obtain⟨ps,rfl,e⟩:=cJ b
   exact⟨(n,t)::ps,rfl,by simp[e]⟩
def lx(ns:List Int):Bool:=ns.all (λi=>decide (i.natAbs<=2^40))&&decide (ns.length<=2^20)
def FQ:List D->Option D
 | [.list ds]=>match intsOf ds with
  | some ns=>if lx ns then some (.int ns.sum)else none
  | none=>none
 | _=>none
def qe:List Int->Int
 | []=>0
 | n::r=>r.foldl max n
def FR:List D->Option D
 | [.list ds]=>match intsOf ds with
  | some (n::r)=>some (.int (qe (n::r)))
  | _=>none
 | [.int i,.int j]=>some (.int (if j>i then j else i))
 | _=>none
def kg(K:Fg)(f:List Int->Option Int):List V->Hp->VK->Prop:=λxs H Q=>∃a ns i,xs=[.ref a]/\SqL K H a (ns.map V.int)/\f ns=some i/\Q (.int i) H
def qw(ns:List Int):Option Int:=if lx ns then some ns.sum else none
def yc:List Int->Option Int
 | []=>none
 | ns=>some (qe ns)
theorem E9:eJ K (kg K qw) FQ:=by
 intro G F Z H ρ xs ds res Q S o e k
 unfold FQ at e
 split at e
 case h_2=>cases e
 rename_i es
 split at e
 case h_2=>cases e
 rename_i ns hns
 split at e
 case isFalse=>cases e
 rename_i hc
 cases e
 obtain⟨v,r,rfl,ho,hr⟩:=aQ o
 obtain rfl:=bm hr
 obtain⟨a,vs,rfl,h1,h2⟩:=ho.list S.fh
 rw[bV hns]at h2
 rw[cm h2]at h1
 exact⟨a,ns,_,rfl,h1,by unfold qw;rw[aw hc],k _ F H (Same.refl _) S (show Rep K F _ _ from .int _)⟩
theorem cV{ps:List (Int×Tok)}:numAt ps.toArray i=(ps.map Prod.fst).getD i 0:=by
 unfold numAt
 rw[K8,la,nu]
theorem fD(ns:List Int):∀j,j<=ns.length->preSum (λi=>ns.getD i 0) j=(ns.take j).sum
 | 0,_=>by simp[preSum]
 | j+1,h=>by
  rw[preSum,fD ns j (by lia),List.take_add_one,List.sum_append]
  congr 1
  rw[la]
  rw[ic (by lia)]
  simp
theorem sum_bound(B:Nat):∀(ns:List Int),(∀i∈ns,i.natAbs<=B)->ns.sum.natAbs<=ns.length*B
 | [],_=>by simp
 | n::r,h=>by
  have h1:=h n ce
  have h2:=sum_bound B r λi hi=>h i (zzg _ hi)
  rw[J8,qu,Nat.succ_mul]
  omega
theorem yn(hc:X.calm=true):CallR X (.builtin "sum") (kg X.K qw):=by
 intro pins s Z H xs us Q I r h0
 obtain⟨a,ns,i,rfl,hq,e,q⟩:=h0
 obtain⟨u,rfl,ru⟩:=Vals.one r
 cases ru
 unfold qw at e
 split at e
 case isFalse=>cases e
 rename_i hok
 cases e
 obtain⟨its,rv,pl,hz⟩:=I.list hq
 obtain⟨ps,rfl,rfl⟩:=cJ rv
 have hnum:∀j,numAt ps.toArray j=(ps.map Prod.fst).getD j 0:=λj=>cV
 have hfun:numAt ps.toArray=λj=>(ps.map Prod.fst).getD j 0:=funext hnum
 unfold lx at hok
 simp only[ax,pd,zzi]at hok
 have hl:s.heap.IsList a (intItems ps.toArray):=by
  have:=pl.isList
  unfold intItems
  simpa using this
 have bnd:∀j,j<=ps.length->((ps.map Prod.fst).take j).sum.natAbs<=2^60:=λj hj=>by
  have h1:=sum_bound (2^40) ((ps.map Prod.fst).take j) λi hi=>hok.1 i (List.mem_of_mem_take hi)
  have h2:((ps.map Prod.fst).take j).length<=2^20:=by rw[ng];have:=hok.2;lia
  calc _<=_:=h1
   _<=2^20*2^40:=Kc _ h2
 refine sum_intList (I.ok.hd hc) hl (λj hj=>?_) λh' tk t' hk=>?_
 ·have hj':j<ps.length:=by simpa using hj
  rw[hfun,fD _ _ (by simp;lia)]
  have h1:=bnd (j+1) hj'
  have h2:((ps.map Prod.fst).getD j 0).natAbs<=2^40:=by
   rw[la,ic (by simpa using hj')]
   exact hok.1 _ (io _)
  unfold InLong
  dsimp only
  constructor<;>constructor<;>lia
 ·refine⟨.int _,H,I.kept hk,⟨_,rfl⟩,?_⟩
  rw[hfun,fD _ _ (by simp),u8 (by simp)]
  exact q
theorem Fc:eJ K (λxs H Q=>kg K yc xs H Q\/∃i j,xs=[.int i,.int j]/\Q (.int (if j>i then j else i)) H) FR:=by
 intro G F Z H ρ xs ds res Q S o e k
 unfold FR at e
 split at e
 ·rename_i es
  split at e
  case h_2=>cases e
  rename_i n r' hns
  cases e
  obtain⟨v,r,rfl,ho,hr⟩:=aQ o
  obtain rfl:=bm hr
  obtain⟨a,vs,rfl,h1,h2⟩:=ho.list S.fh
  rw[bV hns]at h2
  rw[cm h2]at h1
  exact .inl ⟨a,_,_,rfl,h1,rfl,k _ F H (Same.refl _) S (show Rep K F _ _ from .int _)⟩
 ·cases e
  obtain⟨v,r,rfl,ho,hr⟩:=aQ o
  obtain⟨v2,r2,rfl,ho2,hr2⟩:=aQ hr
  obtain rfl:=bm hr2
  exact .inr ⟨_,_,by rw[ho.int,ho2.int],k _ F H (Same.refl _) S (show Rep K F _ _ from .int _)⟩
 ·cases e
theorem yf(r:List Int):∀n:Int,n<=r.foldl max n/\(∀i∈r,i<=r.foldl max n)/\(r.foldl max n=n\/r.foldl max n∈r):=by
 induction r with
 | nil=>intro n;exact⟨wT _,λi hi=>(nomatch hi),.inl rfl⟩
 | cons a r ih =>
  intro n
  obtain⟨h1,h2,h3⟩:=ih (max n a)
  rw[List.foldl_cons]
  refine⟨by lia,λi hi=>?_,?_⟩
  ·rcases List.mem_cons.mp hi with rfl|hi
   ·lia
   ·exact h2 i hi
  ·rcases h3 with h3|h3
   ·rw[h3]
    by_cases hna:n<=a
    ·right;rw[show max n a=a by lia];exact ce
    ·left;lia
   ·right;exact zzg _ h3
theorem oK{ns:List Int}(h:ns≠[]):(∀i∈ns,i<=qe ns)/\qe ns∈ns:=by
 cases ns with
 | nil=>exact absurd rfl h
 | cons n r =>
  obtain⟨h1,h2,h3⟩:=yf r n
  refine⟨λi hi=>?_,?_⟩
  ·rcases List.mem_cons.mp hi with rfl|hi
   ·exact h1
   ·exact h2 i hi
  ·rcases h3 with h3|h3
   ·show r.foldl max n∈_;rw[h3];exact ce
   ·exact zzg _ h3
theorem yx(hc:X.calm=true):CallR X (.builtin "max") (kg X.K yc):=by
 intro pins s Z H xs us Q I r h0
 obtain⟨a,ns,i,rfl,hq,e,q⟩:=h0
 obtain⟨u,rfl,ru⟩:=Vals.one r
 cases ru
 obtain⟨its,rv,pl,hz⟩:=I.list hq
 obtain⟨ps,rfl,rfl⟩:=cJ rv
 have hne:ps≠[]:=by rintro rfl;cases e
 have hne':ps.map Prod.fst≠[]:=by simpa using hne
 have ei:i=qe (ps.map Prod.fst):=by
  cases hp:ps.map Prod.fst with
  | nil=>exact absurd hp hne'
  | cons n r=>rw[hp]at e;cases e;rfl
 subst ei
 have hl:s.heap.IsList a (intItems ps.toArray):=by
  have:=pl.isList
  unfold intItems
  simpa using this
 have hpos:0<ps.length:=List.length_pos_iff.mpr hne
 refine max_intList (I.ok.hd hc) hl (by simpa using hpos) λv h' tk hv hk=>?_
 obtain⟨t,rfl⟩:=intItems_at hv
 refine⟨.int _,H,I.kept hk,⟨_,rfl⟩,?_⟩
 have b:=argBest_gt (numAt ps.toArray) (ps.toArray.size - 1)
 generalize argBest (λi j=>decide (numAt ps.toArray i>numAt ps.toArray j)) (ps.toArray.size - 1)=m at b hv
 have hm:m<ps.length:=by
  have h0:=b.1
  simp at h0
  lia
 have hsp:=oK hne'
 have e1:numAt ps.toArray m=qe (ps.map Prod.fst):=by
  refine Int.le_antisymm ?_ ?_
  ·refine hsp.1 _ ?_
   rw[cV,la,ic (by simpa using hm)]
   exact io _
  ·obtain⟨j,hj,ej⟩:=rg hsp.2
   have h0:=b.2 j (by simp at hj ⊢;lia)
   rw[cV,la,ic hj]at h0
   rw[<-ej]
   exact h0
 rw[e1]
 exact q
def HN(S T:String):Option Bool:=if(Value.type S==Value.type T)=true then some true else if PySem.W.kitMeta T=true then(fastBuiltinMro S).map (·.contains (.type T))else none
theorem CB(K:Fg)(S T:String):PySem.W.kitOne K (.type S) (.type T)=HN S T:=rfl
theorem CA:∀S∈["NoneType", "bool", "int", "str", "list", "tuple", "dict"],∀T∈["bool", "int", "str", "list", "tuple", "dict"],HN S T=some (isS T S):=by decide +kernel
theorem Fu(K:Fg)(h:nC T=true)(d:D)(hx:∀es,d=.dict es->d9 es=false):PySem.W.kitOne K (.type (tyD d)) (.type T)=some (isT T d):=by
 simp only[nC,oC,KY]at h
 rw[CB]
 refine CA (tyD d) ?_ T (by rcases h with ((((rfl|rfl)|rfl)|rfl)|rfl)|rfl<;>simp)
 cases d with
 | dict es=>simp[tyD,hx es rfl]
 | _=>simp[tyD]
theorem qm{kvs:List (List Key×V)}{es:List (D×D)}(h:es.map (·.1)=kvs.map (λp=>g7 p.1)):d9 es=false:=by
 cases es with
 | nil=>rfl
 | cons e r =>
  cases kvs with
  | nil=>cases h
  | cons k ks =>
   obtain⟨e1,e2⟩:=e
   simp only[bj,List.cons.injEq]at h
   rw[h.1]
   rfl
theorem qo{kvs:List (Key×V)}{es:List (D×D)}(h:es.map (·.1)=kvs.map (λp=>keyD p.1)):d9 es=false:=by
 cases es with
 | nil=>rfl
 | cons e r =>
  cases kvs with
  | nil=>cases h
  | cons k ks =>
   obtain⟨e1,e2⟩:=e
   obtain⟨k1,k2⟩:=k
   simp only[bj,List.cons.injEq]at h
   rw[h.1]
   cases k1<;>rfl
theorem Bt(h:nC T=true):isS T "" = false:=by
 simp only[nC,oC,KY]at h
 rcases h with ((((rfl|rfl)|rfl)|rfl)|rfl)|rfl<;>rfl
theorem uD(hT:nC T=true){pins:zzk}{d:D}{u:Value}{Q:zzj}{E:zzj}(I:Inv X pins Z H s)(rp:Rep X.K H v d)(nf:isFn d=false)(ru:RelV v u)
  (h:∀tk,Q (.bool (isT T d)) { s with toks:=tk }):wpAny (model X.prog X.w) X.A (call (.builtin "isinstance") [u,.type T]) Q E s:=by
 have ee:=Fu X.K hT d
 cases rp with
 | non =>
  have e:=ee λ_ z=>by cases z
  cases ru;exact y9 PySem.W.kitx_none I.kIn True.intro e (λz=>nomatch z) h
 | bl y =>
  have e:=ee λ_ z=>by cases z
  cases ru;exact y9 PySem.W.kitx_bool I.kIn True.intro e (λz=>nomatch z) h
 | int i =>
  have e:=ee λ_ z=>by cases z
  obtain⟨t,rfl⟩:=ru;exact y9 PySem.W.kitx_int I.kIn True.intro e (λz=>nomatch z) h
 | str y =>
  have e:=ee λ_ z=>by cases z
  obtain⟨t,rfl⟩:=ru;exact y9 PySem.W.kitx_str I.kIn True.intro e (λz=>nomatch z) h
 | lst h1 h2 =>
  have e:=ee λ_ z=>by cases z
  cases ru
  obtain⟨its,_,⟨o,n,e1,e2,_⟩,_⟩:=I.list h1
  exact y9 PySem.W.kitx_list I.kIn ⟨o,e1,e2⟩ e (λz=>nomatch z) h
 | tup h1 h2 =>
  have e:=ee λ_ z=>by cases z
  cases ru
  obtain⟨its,_,⟨o,e1,e2,_⟩,_⟩:=I.tuple (SqT.of h1)
  exact y9 PySem.W.kitx_tuple I.kIn ⟨o,e1,e2⟩ e (λz=>nomatch z) h
 | dct h1 h2 h3 =>
  have e:=ee λ_ z=>by cases z;exact qm h2
  rw[show tyD (.dict _) = "dict" from by simp[tyD,qm h2]]at e
  cases ru
  obtain⟨z,y,xs,kt,o,es,ep,g1,g2,_⟩:=mX I.hok h1
  exact y9 PySem.W.kitx_dict I.kIn ⟨o,g1,g2.1⟩ e (λz=>nomatch z) h
 | dck h1 h2 h3 =>
  have e:=ee λ_ z=>by cases z;exact qo h2
  rw[show tyD (.dict _) = "dict" from by simp[tyD,qo h2]]at e
  cases ru
  obtain⟨z,y,xs,kt,o,es,ep,g1,g2,_⟩:=sK I.hok h1
  exact y9 PySem.W.kitx_dict I.kIn ⟨o,g1,g2.1⟩ e (λz=>nomatch z) h
 | exc h1 q fx h2 h3 =>
  cases ru
  obtain⟨D,fI,xc⟩:=q.xc
  have at_:XAt H _ _ _:=⟨h1,λdx z=>by
   rcases fx with ⟨z',_⟩|⟨dx',z',y⟩
   ·rw[z']at z;cases z
   ·rw[z']at z;cases z;exact⟨_,y⟩⟩
  refine mN I xc q.kc at_ (q.no T hT) ?_
  rw[show isT T (.dict ((.none,.str _)::_))=false from Bt hT]at h
  exact h
 | fn _=>cases nf
section
variable {G:Gh} {ρ':En}
theorem _root_.L3.StOk.weak(S:StOk K G F Z H ρ)(hl:ρ'.length=ρ.length)(h:∀(i:Nat) (av:AV),ρ'[i]? = some (some av)->ρ[i]? = some (some av))(hp:∀(i:Nat) (c:OC),ρ[i]? = some (some (AV.op c))->ρ'[i]? = some (some (AV.op c))):StOk K G F Z H ρ':=by
 have ow':∀j c,own ρ' j c->own ρ j c:=λj c q=>q.imp (h _ _) (h _ _)
 refine⟨S.fh,S.oh,S.fo,S.ln.trans hl.symm,λj d q=>S.fz j d (h _ _ q),λj c q=>S.ow j c (ow' j c q),λj k c e a h1 h2=>S.dj j k c e a (ow' j c h1) (ow' k e h2),λj a q=>?_,λj c q=>S.pq j c (h _ _ q),S.fb⟩
 obtain⟨q1,c,q2⟩:=S.pp j a q
 exact⟨q1,c,hp _ _ q2⟩
theorem fM{k:Nat}{av:AV}(h:(ρ++List.replicate k none)[i]? = some (some av)):ρ[i]? = some (some av):=by
 by_cases hi:i<ρ.length
 ·rw[lf hi]at h;exact h
 ·rw[ye (Nat.not_lt.mp hi),KM]at h
  split at h<;>cases h
theorem _root_.L3.StOk.grow(S:StOk K G F Z H ρ)(k:Nat):StOk K G F (Z++List.replicate k none) H (ρ++List.replicate k none):=by
 have ap:∀{i:Nat} {v:V},Z[i]? = some (some v)->(Z++List.replicate k none)[i]? = some (some v):=λ{i v} e=>by
  rw[lf (List.getElem?_eq_some_iff.mp e).1];exact e
 have apr:∀{i:Nat} {v:AV},ρ[i]? = some (some v)->(ρ++List.replicate k none)[i]? = some (some v):=λ{i v} e=>by
  rw[lf (List.getElem?_eq_some_iff.mp e).1];exact e
 have ow':∀i c,own (ρ++List.replicate k none) i c->own ρ i c:=λi c h=>by
  rcases h with h|h
  ·exact .inl (fM h)
  ·exact .inr (fM h)
 refine⟨S.fh,S.oh,S.fo,by simp[S.ln],λi d h=>?_,λi c h=>?_,λi j c e a h1 h2 e1 e2=>?_,λi a h=>?_,λi c h=>S.pq i c (fM h),S.fb⟩
 ·obtain⟨v,e,r⟩:=S.fz i d (fM h);exact⟨v,ap e,r⟩
 ·obtain⟨a,e,oa⟩:=S.ow i c (ow' i c h);exact⟨a,ap e,oa⟩
 ·have o1:=ow' i c h1
  have o2:=ow' j e h2
  obtain⟨a1,q1,_⟩:=S.ow i c o1
  obtain⟨a2,q2,_⟩:=S.ow j e o2
  rw[ap q1]at e1;rw[ap q2]at e2
  injection e1 with e1;injection e2 with e2
  exact S.dj i j c e a o1 o2 (by rw[q1,e1]) (by rw[q2,e2])
 ·obtain⟨e,c,q⟩:=S.pp i a h;exact⟨ap e,c,apr q⟩
theorem _root_.L3.StOk.shrink(S:StOk K G F Z H ρ)(hn:n<=ρ.length)(hp:∀i a,G.P i=some a->i<n):StOk K G F (Z.take n) H (ρ.take n):=by
 have tk:∀{i:Nat} {v:AV},(ρ.take n)[i]? = some (some v)->i<n/\ρ[i]? = some (some v):=λ{i v} e=>by
  have hi:i<n:=by
   have:=(List.getElem?_eq_some_iff.mp e).1
   rw[ng]at this;lia
  rw[mo hi]at e
  exact⟨hi,e⟩
 have ow':∀i c,own (ρ.take n) i c->i<n/\own ρ i c:=λi c h=>by
  rcases h with h|h
  ·exact⟨(tk h).1,.inl (tk h).2⟩
  ·exact⟨(tk h).1,.inr (tk h).2⟩
 refine⟨S.fh,S.oh,S.fo,by simp[S.ln],λi d h=>?_,λi c h=>?_,λi j c e a h1 h2 e1 e2=>?_,λi a h=>?_,λi c h=>S.pq i c (tk h).2,S.fb⟩
 ·obtain⟨v,e,r⟩:=S.fz i d (tk h).2;exact⟨v,by rw[mo (tk h).1];exact e,r⟩
 ·obtain⟨a,e,oa⟩:=S.ow i c (ow' i c h).2;exact⟨a,by rw[mo (ow' i c h).1];exact e,oa⟩
 ·rw[mo (ow' i c h1).1]at e1
  rw[mo (ow' j e h2).1]at e2
  exact S.dj i j c e a (ow' i c h1).2 (ow' j e h2).2 e1 e2
 ·obtain⟨e,c,q⟩:=S.pp i a h
  exact⟨by rw[mo (hp i a h)];exact e,c,by rw[mo (hp i a h)];exact q⟩
end
theorem lv{l l':List α}(h:∀j,j<n->l'[j]? = l[j]?)(hl:l.length=n):l'.take n=l:=by
 apply JZ
 intro i
 by_cases hi:i<n
 ·rw[mo hi,h i hi]
 ·rw[List.getElem?_eq_none_iff.mpr (by rw[ng];lia),List.getElem?_eq_none_iff.mpr (by lia)]
inductive Kd where
 | dead|f|o|p|t|k
 | i (x:Str) (ns:List Str)|j (x:Str) (ns:List Str)
@[reducible] def SOf:List Kd->Type
 | []=>Unit
 | .dead::r=>SOf r
 | .f::r=>D×SOf r
 | .o::r=>List D×SOf r
 | .p::r=>List D×SOf r
 | .t::r=>List (D×D)×SOf r
 | .k::r=>List (D×D)×SOf r
 | .i _ _::r=>List D×SOf r
 | .j _ _::r=>List D×SOf r
def rd:(sh:List Kd)->En->Option (SOf sh)
 | [],[]=>some ()
 | .dead::r,x::ρ=>match x with
  | some (.op _)=>none
  | _=>rd r ρ
 | .f::r,x::ρ=>match x with
  | some (.fz d)=>match rd r ρ with
   | some s=>some (d,s)
   | none=>none
  | _=>none
 | .o::r,x::ρ=>match x with
  | some (.ol (.l ds))=>match rd r ρ with
   | some s=>some (ds,s)
   | none=>none
  | _=>none
 | .p::r,x::ρ=>match x with
  | some (.op (.l ds))=>match rd r ρ with
   | some s=>some (ds,s)
   | none=>none
  | _=>none
 | .t::r,x::ρ=>match x with
  | some (.ol (.t ds))=>match rd r ρ with
   | some s=>some (ds,s)
   | none=>none
  | _=>none
 | .k::r,x::ρ=>match x with
  | some (.ol (.k ds))=>match rd r ρ with
   | some s=>some (ds,s)
   | none=>none
  | _=>none
 | .i y ns::r,x::ρ=>match x with
  | some (.ol (.i z ms ds))=>if z=y/\ms=ns then(match rd r ρ with
   | some s=>some (ds,s)
   | none=>none)else none
  | _=>none
 | .j y ns::r,x::ρ=>match x with
  | some (.op (.i z ms ds))=>if z=y/\ms=ns then(match rd r ρ with
   | some s=>some (ds,s)
   | none=>none)else none
  | _=>none
 | _,_=>none
def wr:(sh:List Kd)->SOf sh->En
 | [],_=>[]
 | .dead::r,s=>none::wr r s
 | .f::r,s=>some (.fz s.1)::wr r s.2
 | .o::r,s=>some (.ol (.l s.1))::wr r s.2
 | .p::r,s=>some (.op (.l s.1))::wr r s.2
 | .t::r,s=>some (.ol (.t s.1))::wr r s.2
 | .k::r,s=>some (.ol (.k s.1))::wr r s.2
 | .i y ns::r,s=>some (.ol (.i y ns s.1))::wr r s.2
 | .j y ns::r,s=>some (.op (.i y ns s.1))::wr r s.2
def Wk(w ρ:En):Prop:=w.length=ρ.length/\(∀(i:Nat) (av:AV),w[i]? = some (some av)->ρ[i]? = some (some av))/\(∀(i:Nat) (c:OC),ρ[i]? = some (some (AV.op c))->w[i]? = some (some (AV.op c)))
theorem fQ{w:En}{x:Option AV}(h:Wk w ρ):Wk (x::w) (x::ρ):=by
 refine⟨congrArg (· + 1) h.1,λi av q=>?_,λi c q=>?_⟩
 ·cases i with
  | zero=>exact q
  | succ i=>exact h.2.1 i av q
 ·cases i with
  | zero=>exact q
  | succ i=>exact h.2.2 i c q
theorem Br{w:En}{x:Option AV}(hx:∀c,x≠some (AV.op c))(h:Wk w ρ):Wk (none::w) (x::ρ):=by
 refine⟨congrArg (· + 1) h.1,λi av q=>?_,λi c q=>?_⟩
 ·cases i with
  | zero=>cases q
  | succ i=>exact h.2.1 i av q
 ·cases i with
  | zero=>exact absurd (Option.some.inj q) (hx c)
  | succ i=>exact h.2.2 i c q
theorem gQ:∀(sh:List Kd) (ρ:En) (s:SOf sh),rd sh ρ=some s->Wk (wr sh s) ρ
 | [],[],s,h=>⟨rfl,λi av q=>q,λi c q=>q⟩
 | [],_::_,s,h=>by cases h
 | a::r,[],s,h=>by cases a<;>cases h
 | .dead::r,x::ρ,s,h=>by
  dsimp only[rd]at h
  split at h
  ·cases h
  ·rename_i hx
   exact Br hx (gQ r ρ s h)
 | .f::r,x::ρ,s,h=>by
  dsimp only[rd]at h
  split at h
  ·split at h
   ·rename_i s' e
    cases h
    exact fQ (gQ r ρ s' e)
   ·cases h
  ·cases h
 | .o::r,x::ρ,s,h=>by
  dsimp only[rd]at h
  split at h
  ·split at h
   ·rename_i s' e
    cases h
    exact fQ (gQ r ρ s' e)
   ·cases h
  ·cases h
 | .p::r,x::ρ,s,h=>by
  dsimp only[rd]at h
  split at h
  ·split at h
   ·rename_i s' e
    cases h
    exact fQ (gQ r ρ s' e)
   ·cases h
  ·cases h
 | .t::r,x::ρ,s,h=>by
  dsimp only[rd]at h
  split at h
  ·split at h
   ·rename_i s' e
    cases h
    exact fQ (gQ r ρ s' e)
   ·cases h
  ·cases h
 | .k::r,x::ρ,s,h=>by
  dsimp only[rd]at h
  split at h
  ·split at h
   ·rename_i s' e
    cases h
    exact fQ (gQ r ρ s' e)
   ·cases h
  ·cases h
 | .i y ns::r,x::ρ,s,h=>by
  dsimp only[rd]at h
  split at h
  ·split at h
   ·rename_i hc
    split at h
    ·rename_i s' e
     cases h
     obtain⟨rfl,rfl⟩:=hc
     exact fQ (gQ r ρ s' e)
    ·cases h
   ·cases h
  ·cases h
 | .j y ns::r,x::ρ,s,h=>by
  dsimp only[rd]at h
  split at h
  ·split at h
   ·rename_i hc
    split at h
    ·rename_i s' e
     cases h
     obtain⟨rfl,rfl⟩:=hc
     exact fQ (gQ r ρ s' e)
    ·cases h
   ·cases h
  ·cases h
theorem _root_.L3.StOk.rd{G:Gh}{sh:List Kd}{s:SOf sh}(S:StOk K G F Z H ρ)(h:L4.rd sh ρ=some s):StOk K G F Z H (wr sh s):=by
 obtain⟨h1,h2,h3⟩:=gQ sh ρ s h
 exact S.weak h1 h2 h3
def rdk{S:Type}(sh:List Kd)(k:SOf sh->M S)(ρ:En):M S:=match rd sh ρ with
 | some s=>k s
 | none=>.bad
abbrev Ev(S α:Type):=(Ex->En->M S)->(α->En->M S)->En->M S
structure KS(S:Type) where
 nx:En->M S
 rt:D->En->M S
 rl:OC->En->M S
 bk:En->M S
 ct:En->M S
 x:Ex->En->M S
def KOk{S:Type}(OK:M S->Prop):Prop:=¬ OK .bad
def XL{S:Type}(X:Cx)(OK:M S->Prop)(x:Ex->En->M S)(G:Gh):Prop:=∀F ρ e,OK (x e ρ)->XW X G F ρ e
def AE{S:Type}(X:Cx)(e:Expr)(m:Ev S D):Prop :=
 ∀(OK:M S->Prop) (x:Ex->En->M S) (k:D->En->M S) (G:Gh) (F:Hp) (Z:L2.St) (H:Hp) (ρ:En) (Q:VK),KOk OK->XL X OK x G->StOk X.K G F Z H ρ->OK (m x k ρ) ->
  (∀d v F' H' ρ',Same F F'->StOk X.K G F' Z H' ρ'->Rep X.K F' v d->OK (k d ρ')->Q v H')->dW X e Z H Q
def AEt{S:Type}(X:Cx)(e:Expr)(m:Ev S Bool):Prop :=
 ∀(OK:M S->Prop) (x:Ex->En->M S) (k:Bool->En->M S) (G:Gh) (F:Hp) (Z:L2.St) (H:Hp) (ρ:En) (Q:Bool->Hp->Prop),KOk OK->XL X OK x G->StOk X.K G F Z H ρ->OK (m x k ρ) ->
  (∀d F' H' ρ',Same F F'->StOk X.K G F' Z H' ρ'->OK (k d ρ')->Q d H')->nU X e Z H Q
def AEw{S:Type}(X:Cx)(e:Expr)(m:Ev S Bool):Prop :=
 ∀(OK:M S->Prop) (x:Ex->En->M S) (k:Bool->En->M S) (G:Gh) (F:Hp) (Z:L2.St) (H:Hp) (ρ:En) (Q:Bool->Hp->Prop),KOk OK->XL X OK x G->StOk X.K G F Z H ρ->OK (m x k ρ) ->
  (∀d F' H' ρ',Same F F'->StOk X.K G F' Z H' ρ'->OK (k d ρ')->Q d H')->nS X e Z H Q
def AEb{S:Type}(X:Cx)(e:Expr)(m:Ev S Bool):Prop :=
 ∀(OK:M S->Prop) (x:Ex->En->M S) (k:Bool->En->M S) (G:Gh) (F:Hp) (Z:L2.St) (H:Hp) (ρ:En) (Q:VK),KOk OK->XL X OK x G->StOk X.K G F Z H ρ->OK (m x k ρ) ->
  (∀d F' H' ρ',Same F F'->StOk X.K G F' Z H' ρ'->OK (k d ρ')->Q (.bl d) H')->dW X e Z H Q
def AEa{S:Type}(X:Cx)(es:List Expr)(m:Ev S (List D)):Prop :=
 ∀(OK:M S->Prop) (x:Ex->En->M S) (k:List D->En->M S) (G:Gh) (F:Hp) (Z:L2.St) (H:Hp) (ρ:En) (Q:List V->Hp->Prop),KOk OK->XL X OK x G->StOk X.K G F Z H ρ->OK (m x k ρ) ->
  (∀ds vs F' H' ρ',Same F F'->StOk X.K G F' Z H' ρ'->vs.length=es.length->RepL X.K F' vs ds->OK (k ds ρ')->Q vs H')->dU X es Z H Q
def AEl{S:Type}(X:Cx)(e:Expr)(m:Ev S (List D)):Prop :=
 ∀(OK:M S->Prop) (x:Ex->En->M S) (k:List D->En->M S) (G:Gh) (F:Hp) (Z:L2.St) (H:Hp) (ρ:En) (Q:VK),KOk OK->XL X OK x G->StOk X.K G F Z H ρ->OK (m x k ρ) ->
  (∀ds v F' H' ρ',Same F F'->StOk X.K G F' Z H' ρ'->Frs X.K G F' Z H' ρ' v (.l ds)->OK (k ds ρ')->Q v H')->dW X e Z H Q
def ePu{S α:Type}(p:Pu α):Ev S α:=λx k ρ=>(p ρ).on (λe=>x e ρ) (λa=>k a ρ)
section
variable {OK:M S->Prop} {x:Ex->En->M S} {k:α->En->M S} {G:Gh} {p:Pu α} {C:α->Hp->Hp->Prop}
theorem W.of(hO:KOk OK)(hX:XL X OK x G)(h:OK (ePu p x k ρ))(w:∀a F' H',Same F F'->StOk X.K G F' Z H' ρ->OK (k a ρ)->C a F' H'):W X G F Z ρ (p ρ) C:=by
 unfold ePu at h
 cases hp:p ρ with
 | ret a=>rw[hp]at h;exact λF' H' s S'=>w a F' H' s S' h
 | exc e=>rw[hp]at h;exact hX F ρ e h
 | bad=>rw[hp]at h;exact hO h
end
section
variable {a b c:Expr} {rest:List Expr} {p:Pu D} {pt:Pu Bool} {ps:Pu (List D)}
theorem aj(h:AP X e p):AE (S:=S) X e (ePu p):=λOK x k G F Z H ρ Q hO hX St ok kk=>h G F Z H ρ Q St (W.of hO hX ok λd F' H' s S' o v r=>kk d v F' H' ρ s S' r o)
theorem bq(h:AT X e pt):AEt (S:=S) X e (ePu pt):=λOK x k G F Z H ρ Q hO hX St ok kk=>h G F Z H ρ Q St (W.of hO hX ok λd F' H' s S' o=>kk d F' H' ρ s S' o)
theorem cP(h:AL X e ps):AEl (S:=S) X e (ePu ps):=λOK x k G F Z H ρ Q hO hX St ok kk=>h G F Z H ρ Q St (W.of hO hX ok λd F' H' s S' o v r=>kk d v F' H' ρ s S' r o)
def eB(m:Ev S Bool):Ev S D:=λx k ρ=>m x (λb ρ1=>k (.bool b) ρ1) ρ
def eZ(m:Ev S (List D)):Ev S D:=λx k ρ=>m x (λds ρ1=>k (.list ds) ρ1) ρ
def Ij(f:D->D->Option D)(a b:Ev S D):Ev S D:=λx k ρ=>a x (λd ρ1=>b x (λd2 ρ2=>(oM (f d d2)).on (λe=>x e ρ2) (λr=>k r ρ2)) ρ1) ρ
def Ed(f:D->D->Option Bool)(a b:Ev S D):Ev S Bool:=λx k ρ=>a x (λd ρ1=>b x (λd2 ρ2=>(oM (f d d2)).on (λe=>x e ρ2) (λr=>k r ρ2)) ρ1) ρ
def Jn:Ev S (List D):=λ_ k ρ=>k [] ρ
def Ih(m:Ev S D)(ms:Ev S (List D)):Ev S (List D):=λx k ρ=>m x (λd ρ1=>ms x (λds ρ2=>k (d::ds) ρ2) ρ1) ρ
def Jo(ms:Ev S (List D)):Ev S (List D):=λx k ρ=>ms x (λds ρ1=>k ds ρ1) ρ
def Ii(f:List D->Option D)(ms:Ev S (List D)):Ev S D:=λx k ρ=>ms x (λds ρ1=>(oM (f ds)).on (λe=>x e ρ1) (λr=>k r ρ1)) ρ
def Jq(a b:Ev S Bool):Ev S Bool:=λx k ρ=>a x (λt ρ1=>if t then b x k ρ1 else k false ρ1) ρ
theorem cg{OK:M S->Prop}(hO:KOk OK){o:Option α}{x:Ex->M S}{k:α->M S}(h:OK ((oM o).on x k)):∃a,o=some a/\OK (k a):=by
 cases o with
 | none=>exact(hO h).elim
 | some a=>exact⟨a,rfl,h⟩
theorem FM{OK:M S->Prop}(hO:KOk OK){ds:List α}{x:Ex->M S}{k:List α->M S}(h:OK ((gH ds).on x k)):ds.length<=sizeLine/\OK (k ds):=by
 unfold gH at h
 split at h
 ·exact⟨by assumption,h⟩
 ·exact(hO h).elim
variable {ma mb m:Ev S D} {ta tb tc:Ev S Bool} {ms:Ev S (List D)}
theorem Js(h:AEb X e ta):AE X e (eB ta):=λOK x k G F Z H ρ Q hO hX St ok kk=>h OK x _ G F Z H ρ Q hO hX St ok λb F' H' ρ' s S' o=>kk _ _ F' H' ρ' s S' (.bl b) o
theorem Dl(h:AEl X e ms):AE X e (eZ ms):=λOK x k G F Z H ρ Q hO hX St ok kk=>h OK x _ G F Z H ρ Q hO hX St ok λds v F' H' ρ' s S' fr o=>by
 obtain⟨F2,s2,S2,r2⟩:=S'.settle (v:=v) (ds:=ds) fr
 exact kk _ v F2 H' ρ' (s.trans s2) S2 r2 o
theorem kY{OK:M S->Prop}{x:Ex->En->M S}{G:Gh}{f:D->D->En->M S}(ha:AE X a ma)(hb:AE X b mb)(hO:KOk OK)(hX:XL X OK x G)(St:StOk X.K G F Z H ρ)
  (ok:OK (ma x (λd ρ1=>mb x (λd2 ρ2=>f d d2 ρ2) ρ1) ρ)) (k:∀u v dx dy F' H' ρ',Same F F'->StOk X.K G F' Z H' ρ'->Rep X.K F' u dx->Rep X.K F' v dy->OK (f dx dy ρ')->r u v H' Q):tOp r (dW X a) (dW X b) Z H Q :=
 ha OK x _ G F Z H ρ _ hO hX St ok λd v F1 H1 ρ1 s1 S1 r1 o1=>hb OK x _ G F1 Z H1 ρ1 _ hO hX S1 o1 λd2 u F2 H2 ρ2 s2 S2 r2 o2=>k v u d d2 F2 H2 ρ2 (s1.trans s2) S2 (r1.mono s2) r2 o2
theorem qM{op:Operator}{f:D->D->Option D}(ho:OpR X (binaryOp op) r)(hf:OpD X.K r f)(ha:AE X a ma)(hb:AE X b mb):AE X (.BinOp a op b pos) (Ij f ma mb) :=
 λOK x k G F Z H ρ Q hO hX St ok kk=>sem (DS ho aC aC) (kY ha hb hO hX St ok λu v dx dy F' H' ρ' s S' r1 r2 o=>by
  obtain⟨res,e,o'⟩:=cg hO o
  exact hf G F' Z H' ρ' u v dx dy res Q S' (.inl r1) (.inl r2) e λw F2 H2 s2 S2 r3=>kk res w F2 H2 ρ' (s.trans s2) S2 r3 o')
theorem Ee{f:D->D->Option D}(hr:IxR X r)(hf:OpD X.K r f)(ha:AE X a ma)(hb:AE X b mb)(hs:qO b:=by exact λ_ _=>rfl):AE X (.Subscript a b pos) (Ij f ma mb) :=
 λOK x k G F Z H ρ Q hO hX St ok kk=>sem (DU hr aC aC hs) (kY ha hb hO hX St ok λu v dx dy F' H' ρ' s S' r1 r2 o=>by
  obtain⟨res,e,o'⟩:=cg hO o
  exact hf G F' Z H' ρ' u v dx dy res Q S' (.inl r1) (.inl r2) e λw F2 H2 s2 S2 r3=>kk res w F2 H2 ρ' (s.trans s2) S2 r3 o')
theorem Dk{f:D->D->Option Bool}(ho:OpR X (compareOp op) r)(hf:OpB X.K r f)(ha:AE X a ma)(hb:AE X b mb)(hm:behindInMarks op b=false:=by rfl):AEb X (.Compare a [op] [b] pos) (Ed f ma mb) :=
 λOK x k G F Z H ρ Q hO hX St ok kk=>sem (vO ho aC aC hm) (kY ha hb hO hX St ok λu v dx dy F' H' ρ' s S' r1 r2 o=>by
  obtain⟨res,e,o'⟩:=cg hO o
  exact hf G F' Z H' ρ' u v dx dy res Q S' (.inl r1) (.inl r2) e (kk res F' H' ρ' s S' o'))
theorem Di{f:D->D->Option Bool}(ho:OpR X (compareOp op) r)(hf:OpB X.K r f)(ha:AE X a ma)(hb:AE X b mb)(hm:behindInMarks op b=false:=by rfl):AEt X (.Compare a [op] [b] pos) (Ed f ma mb) :=
 λOK x k G F Z H ρ Q hO hX St ok kk=>tR (vI ho aC aC hm) (kY (Q:=λx H'=>∃k,x=.bl k/\Q k H') ha hb hO hX St ok λu v dx dy F' H' ρ' s S' r1 r2 o=>by
  obtain⟨res,e,o'⟩:=cg hO o
  exact hf G F' Z H' ρ' u v dx dy res _ S' (.inl r1) (.inl r2) e ⟨res,rfl,kk res F' H' ρ' s S' o'⟩)
theorem aU:AEa (S:=S) X [] Jn:=λOK x k G F Z H ρ Q hO hX St ok kk=>tS gT (kk [] [] F H ρ (Same.refl _) St rfl .nil ok)
theorem aM(h:AE X e m)(hr:AEa X es ms)(hs:starEach (e::es) X.env=(false,eval e X.env)::starEach es X.env:=by exact dD rfl):AEa X (e::es) (Ih m ms) :=
 λOK x k G F Z H ρ Q hO hX St ok kk=>tS (b6 aC bI hs) (h OK x _ G F Z H ρ _ hO hX St ok λd v F1 H1 ρ1 s1 S1 r1 o1 =>
  hr OK x _ G F1 Z H1 ρ1 _ hO hX S1 o1 λds vs F2 H2 ρ2 s2 S2 hl r2 o2=>kk (d::ds) (v::vs) F2 H2 ρ2 (s1.trans s2) S2 (by simp[hl]) (.cons (r1.mono s2) r2) o2)
theorem Dj(h:AEa X es ms)(hz:es.length<=1000:=by decide +kernel):AEl X (.List es pos) (Jo ms) :=
 λOK x k G F Z H ρ Q hO hX St ok kk=>sem (zD bI) (h OK x _ G F Z H ρ _ hO hX St ok λds vs F1 H1 ρ1 s1 S1 hl r1 o1=>by
  refine⟨by rw[hl];exact mJ hz,λq hq=>?_⟩
  obtain⟨S2,r2⟩:=S1.newLst hq r1
  exact kk _ _ _ _ ρ1 s1 S2 r2 o1)
theorem A8(ha:AEt X a ta):AEw X (.BoolOp .And [a] pos) ta:=λOK x k G F Z H ρ Q hO hX St ok kk=>w9 (vD dZ) (ha OK x k G F Z H ρ Q hO hX St ok kk)
theorem Dh(ha:AEt X a ta)(hb:AEw X (.BoolOp .And (b::rest) pos) tb):AEw X (.BoolOp .And (a::b::rest) pos) (Jq ta tb) :=
 λOK x k G F Z H ρ Q hO hX St ok kk=>w9 (zn dZ lO) (ha OK x _ G F Z H ρ _ hO hX St ok λt F1 H1 ρ1 s1 S1 o1=>by
  cases t with
  | true=>refine sv ?_;exact hb OK x k G F1 Z H1 ρ1 Q hO hX S1 o1 λd F2 H2 ρ2 s2 S2 o2=>kk d F2 H2 ρ2 (s1.trans s2) S2 o2
  | false=>refine uC ?_;exact kk false F1 H1 ρ1 s1 S1 o1)
theorem Gy(h:AEw X e ta):AEt X e ta:=λOK x k G F Z H ρ Q hO hX St ok kk=>tR (λpins s Z H Q I h=>lO _ pins s Z H Q I h) (h OK x k G F Z H ρ Q hO hX St ok kk)
theorem RepL.ors{ds:List D}(h:RepL K F vs ds):ORs K F H vs ds:=by
 induction vs generalizing ds with
 | nil=>cases h;exact .nil
 | cons v vs ih=>cases h with
  | cons a b=>exact .cons (.inl a) (ih b)
theorem pJ{p:Pos}{r:List V->Hp->VK->Prop}{f:List D->Option D}(hc:CallR X (.type T) r)(hf:eJ X.K r f)(hm:X.mg x=none)(hv:bootBuiltins x=some (.type T))(ha:AEa X (e::es) ms)(hg:Gl X x:=by rfl)
  (hn:x ≠ "__name__":=by decide) (hdb:(x==("__debug__" : Str))=false:=by decide) (he:starEach (e::es) X.env=(false,eval e X.env)::starEach es X.env:=by rfl) (hpl:(backTo pos (starEach es X.env)).any (·.1)=false:=by rfl):AE X (.Call (.Name x p) (e::es) [] pos) (Ii f ms) :=
 λOK y k G F Z H ρ Q hO hX St ok kk=>sem (jY hc hg hm hv bI hn hdb he hpl) (ha OK y _ G F Z H ρ _ hO hX St ok λds vs F1 H1 ρ1 s1 S1 _ r1 o1=>by
  obtain⟨res,e,o'⟩:=cg hO o1
  exact hf G F1 Z H1 ρ1 vs ds res Q S1 (RepL.ors r1) e λw F2 H2 s2 S2 r3=>kk res w F2 H2 ρ1 (s1.trans s2) S2 r3 o')
end
structure Walk(K:Fg)(J:It)(ds:List D)(F:Hp):Prop where
 go:∀(i:Nat) (G:Gh) (F2:Hp) (Z:L2.St) (H2:Hp) (ρ:En),Same F F2->StOk K G F2 Z H2 ρ->i<ds.length->J.go i H2
 yld:∀(i:Nat) (G:Gh) (F2:Hp) (Z:L2.St) (H2:Hp) (ρ:En) (x:V) (H3:Hp) (d:D),Same F F2->StOk K G F2 Z H2 ρ->ds[i]? = some d->J.yld i H2 x H3->∃F3,Same F2 F3/\StOk K G F3 Z H3 ρ/\Rep K F3 x d
 stop:∀(G:Gh) (F2:Hp) (Z:L2.St) (H2:Hp) (ρ:En),Same F F2->StOk K G F2 Z H2 ρ->J.stop ds.length H2
theorem wV{a:Addr}{ds:List D}(h:SqL K F a vs)(r:RepL K F vs ds):Walk K (Itl K a) ds F where
 go:=λi G F2 Z H2 ρ s S hi=>by
  have hi':i<vs.length:=by rw[r.length];exact hi
  exact⟨vs,vs[i],S.fh.seq (s.seq h),by simp[hi']⟩
 yld:=λi G F2 Z H2 ρ x H3 d s S hd ⟨e,q⟩=>by
  subst e
  obtain⟨v,e1,e2⟩:=r.get hd
  have:=q vs (S.fh.seq (s.seq h))
  rw[e1]at this
  cases this
  exact⟨F2,Same.refl _,S,e2.mono s⟩
 stop:=λG F2 Z H2 ρ s S=>⟨vs,S.fh.seq (s.seq h),by rw[r.length];exact ai _⟩
theorem yL{a:Addr}{ds:List D}(h:SqT K F a vs)(r:RepL K F vs ds):Walk K (Itt K a) ds F where
 go:=λi G F2 Z H2 ρ s S hi=>by
  have hi':i<vs.length:=by rw[r.length];exact hi
  exact⟨vs,vs[i],bK S.fh (bK s h),by simp[hi']⟩
 yld:=λi G F2 Z H2 ρ x H3 d s S hd ⟨e,q⟩=>by
  subst e
  obtain⟨v,e1,e2⟩:=r.get hd
  have:=q vs (bK S.fh (bK s h))
  rw[e1]at this
  cases this
  exact⟨F2,Same.refl _,S,e2.mono s⟩
 stop:=λG F2 Z H2 ρ s S=>⟨vs,bK S.fh (bK s h),by rw[r.length];exact ai _⟩
def fW(lo:Int)(n:Nat):List D:=(List.range n).map λ(i:Nat)=>PyData.int (lo+(i:Int))
theorem eY(lo:Int)(n:Nat):(fW lo n).length=n:=by simp[fW]
theorem lj(lo:Int)(n:Nat):Walk K (Itr lo n) (fW lo n) F where
 go:=λi G F2 Z H2 ρ s S hi=>by rw[eY]at hi;exact hi
 yld:=λi G F2 Z H2 ρ x H3 d s S hd ⟨e,q⟩=>by
  subst e q
  have e':(fW lo n)[i]? = some d:=hd
  unfold fW at e'
  rw[nu]at e'
  have hi:i<n:=by
   have:=(List.getElem?_eq_some_iff.mp hd).1
   rw[eY]at this;exact this
  rw[Ki hi]at e'
  cases e'
  exact⟨F2,Same.refl _,S,.int _⟩
 stop:=λG F2 Z H2 ρ s S=>by rw[eY];exact ai _
@[irreducible] def gv(X:Cx)(tg iter:Expr):TI:=λZ H R=>∀(pins:zzk) (s:Shared),Inv X pins Z H s->wpAny (model X.prog X.w) X.A (eval iter X.env) (λv s1=>wpAny (model X.prog X.w) X.A (pyIter v) (PIE X pins Z tg R) X.xe s1) X.xe s
theorem lV:PI X tg e (gv X tg e):=λpins s Z H R I h=>by unfold gv at h;exact h pins s I
theorem xu{t:TI}(h:PI X tg e t)(q:t Z H R):gv X tg e Z H R:=by unfold gv;exact λpins s I=>h pins s Z H R I q
def AI(X:Cx)(tg e:Expr)(p:Pu (List D)):Prop :=
 ∀(G:Gh) (F:Hp) (Z:L2.St) (H:Hp) (ρ:En) (R:It->Hp->Prop),StOk X.K G F Z H ρ->W X G F Z ρ (p ρ) (λds F' H'=>∀J,Walk X.K J ds F'->R J H')->gv X tg e Z H R
def AEi{S:Type}(X:Cx)(tg e:Expr)(m:Ev S (List D)):Prop :=
 ∀(OK:M S->Prop) (x:Ex->En->M S) (k:List D->En->M S) (G:Gh) (F:Hp) (Z:L2.St) (H:Hp) (ρ:En) (R:It->Hp->Prop),KOk OK->XL X OK x G->StOk X.K G F Z H ρ->OK (m x k ρ) ->
  (∀ds J F' H' ρ',Same F F'->StOk X.K G F' Z H' ρ'->Walk X.K J ds F'->OK (k ds ρ')->R J H')->gv X tg e Z H R
theorem bH{ps:Pu (List D)}(h:AI X tg e ps):AEi (S:=S) X tg e (ePu ps):=λOK x k G F Z H ρ Q hO hX St ok kk=>h G F Z H ρ Q St (W.of hO hX ok λd F' H' s S' o v r=>kk d v F' H' ρ s S' r o)
def Jh(K:Fg)(tl:TE):TI:=λZ H R=>tl Z H λx H1=>(∃a,x=.ref a/\(∃xs,SqL K H1 a xs)/\R (Itl K a) H1)\/∃a,x=.ref a/\(∃xs,SqT K H1 a xs)/\R (Itt K a) H1
theorem EO{l:Expr}{tl:TE}(hl:PE X l tl):PI X tg l (Jh X.K tl):=by
 intro pins s Z H R I h
 refine thn (hl pins s Z H _ I h) λv s1 ⟨x,H1,I1,r1,q1⟩=>?_
 rcases q1 with ⟨a,e,⟨xs,hq⟩,q⟩|⟨a,e,⟨xs,hq⟩,q⟩
 ·subst e
  cases r1
  obtain⟨its,rv,p,hz⟩:=I1.list hq
  refine wpAny_pyIter_list p.isList ?_
  refine⟨s1.heap.objs.size,[s1.heap.objs.size],_,_,H1,rfl,I1.kept (t':=s1.toks) λb o e=>zzc _ e,wX a _,⟨_,zze _ rfl,rfl,rfl⟩,λb hb=>?_,q⟩
  have e:b=s1.heap.objs.size:=by simpa using hb
  subst e
  exact I1.fpOk (ai _) (I1.hok.fresh (ai _))
 ·subst e
  cases r1
  obtain⟨its,rv,p,hz⟩:=I1.tuple hq
  refine Er (show s1.heap.IsTuple a its.toArray from p) ?_
  refine⟨s1.heap.objs.size,[s1.heap.objs.size],_,_,H1,rfl,I1.kept (t':=s1.toks) λb o e=>zzc _ e,tJ a _,⟨_,zze _ rfl,rfl,rfl⟩,λb hb=>?_,q⟩
  have e:b=s1.heap.objs.size:=by simpa using hb
  subst e
  exact I1.fpOk (ai _) (I1.hok.fresh (ai _))
def cG:D->Option (List D)
 | .list ds=>some ds
 | .tuple ds=>some ds
 | _=>none
def pIt(p:Pu D):Pu (List D):=λρ=>bd (p ρ) λd=>oM (cG d)
def fR(i:Int):Bool:=decide (-(2^62)<=i)&&decide (i<2^62)
theorem cL{i:Int}(h:fR i=true) : -(2^62)<=i/\i<2^62:=by
 unfold fR at h
 simp only[ax,zzi]at h
 exact h
def bA:List D->Option (List D)
 | [.int j]=>if fR j then some (fW 0 j.toNat)else none
 | _=>none
def iJ:List D->Option (List D)
 | [.int i,.int j]=>if fR i&&fR j then some (fW i (j - i).toNat)else none
 | _=>none
def FT{S:Type}(f:List D->Option (List D))(ms:Ev S (List D)):Ev S (List D):=λx k ρ=>ms x (λds ρ1=>(oM (f ds)).on (λe=>x e ρ1) (λr=>k r ρ1)) ρ
section
variable {a b:Expr} {pp:Pu D} {ps:Pa (List D)} {m:Ev S D} {ms:Ev S (List D)}
theorem yY{d:D}{ds:List D}(s:Same F H)(r:Rep X.K F v d)(hd:cG d=some ds)(k:∀J,Walk X.K J ds F->R J H) :
  (∃a,v=.ref a/\(∃xs,SqL X.K H a xs)/\R (Itl X.K a) H)\/∃a,v=.ref a/\(∃xs,SqT X.K H a xs)/\R (Itt X.K a) H:=by
 cases d with
 | list xs =>
  cases hd
  obtain⟨a,vs,rfl,h1,h2⟩:=r.lst_inv
  exact .inl ⟨_,rfl,⟨_,s.seq h1⟩,k _ (wV h1 h2)⟩
 | tuple xs =>
  cases hd
  obtain⟨a,vs,rfl,h1,h2⟩:=r.tup_inv
  exact .inr ⟨_,rfl,⟨_,SqT.of (s _ _ h1)⟩,k _ (yL (SqT.of h1) h2)⟩
 | _=>exact noS hd
theorem dz(h:AP X e pp):AI X tg e (pIt pp):=λG F Z H ρ R S w=>xu (EO aC) (h G F Z H ρ _ S (w.bind.imp λd F1 H1 s1 S1 w1 v r1=>by
 obtain⟨ds,hd,k⟩:=w1.opt
 exact yY S1.fh r1 hd (k F1 H1 (Same.refl _) S1)))
theorem oA{ds out:List D}(r:RepL X.K F vs ds)(h:bA ds=some out)(k:∀J,Walk X.K J out F->R J H):∃j,vs=[.int j] /\ -(2^62)<=j/\j<2^62/\R (Itr 0 j.toNat) H:=by
 unfold bA at h
 split at h
 ·rename_i j
  split at h
  ·rename_i hs
   cases h
   obtain⟨v,rfl,r1⟩:=r.one_inv
   obtain rfl:=r1.int_inv
   exact⟨j,rfl,(cL hs).1,(cL hs).2,k _ (lj 0 j.toNat)⟩
  ·cases h
 ·cases h
theorem xC{ds out:List D}(r:RepL X.K F vs ds)(h:iJ ds=some out)(k:∀J,Walk X.K J out F->R J H) :
  ∃i j,vs=[.int i,.int j]/\(-(2^62)<=i/\i<2^62 /\ -(2^62)<=j/\j<2^62)/\R (Itr i (j - i).toNat) H:=by
 unfold iJ at h
 split at h
 ·rename_i i j
  split at h
  ·rename_i hs
   cases h
   rw[ax]at hs
   obtain⟨v,u,rfl,r1,r3⟩:=r.two_inv
   obtain rfl:=r1.int_inv
   obtain rfl:=r3.int_inv
   exact⟨i,j,rfl,⟨(cL hs.1).1,(cL hs.1).2,(cL hs.2).1,(cL hs.2).2⟩,k _ (lj i (j - i).toNat)⟩
  ·cases h
 ·cases h
theorem cw(hg:Gl X "range")(hm:X.mg "range" = none)(ha:AA X [a] ps)(hs:starEach [a] X.env=[(false,eval a X.env)]):AI X tg (.Call (.Name "range" p) [a] [] pos) (ji bA ps) :=
 λG F Z H ρ R S w=>xu (oD hg hm bI hs) (ha G F Z H ρ _ _ _ S w λds vs F1 H1 s1 S1 _ r1 w1=>by
  obtain⟨out,hd,k⟩:=w1.opt
  exact oA r1 hd (k F1 H1 (Same.refl _) S1))
theorem yE(hg:Gl X "range")(hm:X.mg "range" = none)(ha:AA X [a,b] ps)(hs:starEach [a,b] X.env=[(false,eval a X.env),(false,eval b X.env)])(hs2:starEach [b] X.env=[(false,eval b X.env)]):AI X tg (.Call (.Name "range" p) [a,b] [] pos) (ji iJ ps) :=
 λG F Z H ρ R S w=>xu (xE hg hm bI hs hs2) (ha G F Z H ρ _ _ _ S w λds vs F1 H1 s1 S1 _ r1 w1=>by
  obtain⟨out,hd,k⟩:=w1.opt
  exact xC r1 hd (k F1 H1 (Same.refl _) S1))
theorem va(hg:Gl X "range")(hm:X.mg "range" = none)(ha:AEa X [a] ms)(hs:starEach [a] X.env=[(false,eval a X.env)]):AEi X tg (.Call (.Name "range" p) [a] [] pos) (FT bA ms) :=
 λOK x k G F Z H ρ R hO hX St ok kk=>xu (oD hg hm bI hs) (ha OK x _ G F Z H ρ _ hO hX St ok λds vs F1 H1 ρ1 s1 S1 _ r1 o1=>by
  obtain⟨out,hd,o⟩:=cg hO o1
  exact oA r1 hd λJ wk=>kk out J F1 H1 ρ1 s1 S1 wk o)
end
abbrev Tg(S:Type):=D->(En->M S)->En->M S
def eN(ρ:En)(i:Nat):Bool:=decide (i<ρ.length)&&(match ρ[i]? with
 | some (some (.op _))=>false
 | _=>true)
theorem bY(h:eN ρ i=true):i<ρ.length/\∀c,ρ[i]? ≠ some (some (.op c)):=by
 unfold eN at h
 rw[ax]at h
 refine⟨by simpa using h.1,λc e=>?_⟩
 rw[e]at h
 exact absurd h.2 (by simp)
@[irreducible] def nV(X:Cx)(tg:Expr):TG:=λv Z H Q=>∀(pins:zzk) (s:Shared) (u:Value),Inv X pins Z H s->RelV v u->wpAny (model X.prog X.w) X.A (assign tg X.env u) (λ_ s'=>∃σ' H',Inv X pins σ' H' s'/\Q σ' H') X.xe s
@[irreducible] def lw(X:Cx)(tgs:List Expr):TGs:=λvs Z H Q=>∀(pins:zzk) (s:Shared) (us:List Value),Inv X pins Z H s->Vals vs us->wpAny (model X.prog X.w) X.A (assignInOrder ((assignEach tgs X.env).map (·.2)) us) (λ_ s'=>∃σ' H',Inv X pins σ' H' s'/\Q σ' H') X.xe s
theorem jh:PG X tg (nV X tg):=λpins s Z H v u Q I r h=>by unfold nV at h;exact h pins s u I r
theorem vK{tgs:List Expr}:PGs X tgs (lw X tgs):=λpins s Z H vs us Q I r h=>by unfold lw at h;exact h pins s us I r
theorem GV{t:TG}{Q:L2.St->Hp->Prop}(h:PG X tg t)(q:t v Z H Q):nV X tg v Z H Q:=by unfold nV;exact λpins s u I r=>h pins s Z H v u Q I r q
theorem Dy{tgs:List Expr}{t:TGs}{Q:L2.St->Hp->Prop}(h:PGs X tgs t)(q:t vs Z H Q):lw X tgs vs Z H Q:=by unfold lw;exact λpins s us I r=>h pins s Z H vs us Q I r q
def AG{S:Type}(X:Cx)(n:Nat)(tg:Expr)(st:Tg S):Prop :=
 ∀(OK:M S->Prop) (k:En->M S) (G:Gh) (F:Hp) (Z:L2.St) (H:Hp) (ρ:En) (v:V) (d:D) (Q:L2.St->Hp->Prop),KOk OK->StOk X.K G F Z H ρ->Rep X.K F v d->OK (st d k ρ) ->
  (∀σ' ρ',StOk X.K G F σ' H ρ'->(∀j,j<n->σ'[j]? = Z[j]? /\ ρ'[j]? = ρ[j]?)->σ'.length=Z.length->ρ'.length=ρ.length->OK (k ρ')->Q σ' H)->nV X tg v Z H Q
def AGs{S:Type}(X:Cx)(n:Nat)(tgs:List Expr)(st:List D->(En->M S)->En->M S):Prop :=
 ∀(OK:M S->Prop) (k:En->M S) (G:Gh) (F:Hp) (Z:L2.St) (H:Hp) (ρ:En) (vs:List V) (ds:List D) (Q:L2.St->Hp->Prop),KOk OK->StOk X.K G F Z H ρ->RepL X.K F vs ds->OK (st ds k ρ) ->
  (∀σ' ρ',StOk X.K G F σ' H ρ'->(∀j,j<n->σ'[j]? = Z[j]? /\ ρ'[j]? = ρ[j]?)->σ'.length=Z.length->ρ'.length=ρ.length->OK (k ρ')->Q σ' H)->lw X tgs vs Z H Q
def Ia{S:Type}(i:Nat):Tg S:=λd k ρ=>match eN ρ i with
 | true=>k (ρ.set i (some (.fz d)))
 | false=>.bad
def H9{S:Type}:List D->(En->M S)->En->M S
 | [],k,ρ=>k ρ
 | _,_,_=>.bad
def FI{S:Type}(t:Tg S)(ts:List D->(En->M S)->En->M S):List D->(En->M S)->En->M S
 | d::ds,k,ρ=>t d (λρ1=>ts ds k ρ1) ρ
 | [],_,_=>.bad
def un2{S:Type}(d:D)(k:D->D->M S):M S:=match d with
 | .tuple [a,b]=>k a b
 | _=>.bad
def un4{S:Type}(d:D)(k:D->D->D->D->M S):M S:=match d with
 | .tuple [a,b,c,e]=>k a b c e
 | _=>.bad
def Ea{S:Type}(ts:List D->(En->M S)->En->M S):Tg S:=λd k ρ=>un2 d λa b=>ts [a,b] k ρ
def D9{S:Type}(ts:List D->(En->M S)->En->M S):Tg S:=λd k ρ=>un4 d λa b c e=>ts [a,b,c,e] k ρ
section
theorem aK(hn:n<=i)(hN:X.N.Nodup)(hi:X.N[i]? = some x:=by rfl)(hx:Loc X.env.scope x:=by exact lo rfl)(hf:X.fn x=true\/X.env.scope.names.lookup x=some .local:=by first|exact .inl rfl|exact .inr rfl):AG (S:=S) X n (.Name x pos) (Ia i):=by
 intro OK k G F Z H ρ v d Q hO S r ok kk
 unfold Ia at ok
 split at ok
 ·rename_i ho
  obtain⟨hl,hop⟩:=bY ho
  refine GV (B2 hN hi hx hf) ?_
  exact kk _ _ (S.store hop hl (.inl ⟨d,rfl,r⟩)) (λj hj=>⟨je (by lia),je (by lia)⟩) (by simp) (by simp) ok
 ·exact(hO ok).elim
theorem gu:AGs (S:=S) X n [] H9:=by
 intro OK k G F Z H ρ vs ds Q hO S r ok kk
 cases ds with
 | nil =>
  cases r
  exact Dy B1 ⟨rfl,kk Z ρ S (λ_ _=>⟨rfl,rfl⟩) rfl rfl ok⟩
 | cons d ds=>exact(hO ok).elim
theorem bp{st:Tg S}{sts:List D->(En->M S)->En->M S}(h1:AG X n e st)(h2:AGs X n es sts)
  (hs:(assignEach (e::es) X.env).map (·.2)=assign e X.env::(assignEach es X.env).map (·.2)):AGs X n (e::es) (FI st sts):=by
 intro OK k G F Z H ρ vs ds Q hO S r ok kk
 cases ds with
 | nil=>exact(hO ok).elim
 | cons d ds =>
  cases r with
  | cons rv rr =>
   refine Dy (zy jh vK hs) ⟨_,_,rfl,?_⟩
   refine h1 OK _ G F Z H ρ _ d _ hO S rv ok λσ1 ρ1 S1 kp1 l1 m1 o1=>?_
   exact h2 OK k G F σ1 H ρ1 _ ds _ hO S1 rr o1 λσ2 ρ2 S2 kp2 l2 m2 o2=>kk σ2 ρ2 S2 (λj hj=>⟨(kp2 j hj).1.trans (kp1 j hj).1,(kp2 j hj).2.trans (kp1 j hj).2⟩) (l2.trans l1) (m2.trans m1) o2
theorem wU{l:Nat}{sts:List D->(En->M S)->En->M S}{st:Tg S}(hc:X.calm=true)(h:AGs X n es sts)(hn:(assignEach es X.env).length=l)(hst:(assignEach es X.env).findIdx? (·.1)=none)
  (hw:∀(OK:M S->Prop) d k ρ,KOk OK->OK (st d k ρ)->∃ds,d=.tuple ds/\ds.length=l/\OK (sts ds k ρ)):AG X n (.Tuple es kk pos) st:=by
 intro OK k G F Z H ρ v d Q hO S r ok k2
 obtain⟨ds,rfl,hl,ok⟩:=hw OK d k ρ hO ok
 cases r with
 | tup h1 h2 =>
  refine GV (EQ hc vK hn hst) ⟨_,_,rfl,SqT.of (S.fh _ _ h1),by rw[h2.length];exact hl,?_⟩
  exact h OK k G F Z H ρ _ ds _ hO S h2 ok k2
theorem iM{sts:List D->(En->M S)->En->M S}(hc:X.calm=true)(h:AGs X n es sts)(hn:(assignEach es X.env).length=2)(hst:(assignEach es X.env).findIdx? (·.1)=none):AG X n (.Tuple es kk pos) (Ea sts) :=
 wU hc h hn hst λOK d k ρ hO o=>by
  unfold Ea un2 at o
  split at o
  ·exact⟨_,rfl,rfl,o⟩
  ·exact(hO o).elim
theorem Dg{sts:List D->(En->M S)->En->M S}(hc:X.calm=true)(h:AGs X n es sts)(hn:(assignEach es X.env).length=4)(hst:(assignEach es X.env).findIdx? (·.1)=none):AG X n (.Tuple es kk pos) (D9 sts) :=
 wU hc h hn hst λOK d k ρ hO o=>by
  unfold D9 un4 at o
  split at o
  ·exact⟨_,rfl,rfl,o⟩
  ·exact(hO o).elim
end
abbrev SM(S:Type):=KS S->En->M S
structure EOk{S:Type}(X:Cx)(OK:M S->Prop)(K:KS S)(G:Gh)(F:Hp)(E:Ends):Prop where
 nx:∀F' σ' H' ρ',Same F F'->StOk X.K G F' σ' H' ρ'->OK (K.nx ρ')->E.nx σ' H'
 rt:∀F' σ' H' ρ' d v,Same F F'->StOk X.K G F' σ' H' ρ'->Rep X.K F' v d->OK (K.rt d ρ')->E.rt v H'
 rl:∀F' σ' H' ρ' c v,Same F F'->StOk X.K G F' σ' H' ρ'->Frs X.K G F' σ' H' ρ' v c->OK (K.rl c ρ')->E.rt v H'
 bk:∀F' σ' H' ρ',Same F F'->StOk X.K G F' σ' H' ρ'->OK (K.bk ρ')->E.bk σ' H'
 ct:∀F' σ' H' ρ',Same F F'->StOk X.K G F' σ' H' ρ'->OK (K.ct ρ')->E.ct σ' H'
theorem EOk.up{OK:M S->Prop}{K:KS S}{G:Gh}{E:Ends}(h:EOk X OK K G F E)(s:Same F F'):EOk X OK K G F' E :=
 ⟨λF2 σ' H' ρ' s2=>h.nx F2 σ' H' ρ' (s.trans s2),λF2 σ' H' ρ' d v s2=>h.rt F2 σ' H' ρ' d v (s.trans s2),λF2 σ' H' ρ' d v s2=>h.rl F2 σ' H' ρ' d v (s.trans s2),λF2 σ' H' ρ' s2=>h.bk F2 σ' H' ρ' (s.trans s2),λF2 σ' H' ρ' s2=>h.ct F2 σ' H' ρ' (s.trans s2)⟩
@[irreducible] def jt(X:Cx)(st:Stmt):TS:=λE Z H=>∀(pins:zzk) (s:Shared),Inv X pins Z H s->wpAny (model X.prog X.w) X.A (exec st X.env) (SP X pins E) X.xe s
@[irreducible] def j9(X:Cx)(sts:List Stmt):TS:=λE Z H=>∀(pins:zzk) (s:Shared),Inv X pins Z H s->wpAny (model X.prog X.w) X.A (execs sts X.env) (SP X pins E) X.xe s
section
variable {sts:List Stmt} {E:Ends} {t:TS}
theorem zp:PS X st (jt X st):=λpins s Z H E I h=>by unfold jt at h;exact h pins s I
theorem dF:PSs X sts (j9 X sts):=λpins s Z H E I h=>by unfold j9 at h;exact h pins s I
theorem fw(h:PS X st t)(q:t E Z H):jt X st E Z H:=by unfold jt;exact λpins s I=>h pins s Z H E I q
theorem Es(h:PSs X sts t)(q:t E Z H):j9 X sts E Z H:=by unfold j9;exact λpins s I=>h pins s Z H E I q
end
def AS{S:Type}(X:Cx)(st:Stmt)(m:SM S):Prop :=
 ∀(OK:M S->Prop) (K:KS S) (G:Gh) (F:Hp) (Z:L2.St) (H:Hp) (ρ:En) (E:Ends),KOk OK->XL X OK K.x G->StOk X.K G F Z H ρ->OK (m K ρ)->EOk X OK K G F E->jt X st E Z H
def ASs{S:Type}(X:Cx)(st:List Stmt)(m:SM S):Prop :=
 ∀(OK:M S->Prop) (K:KS S) (G:Gh) (F:Hp) (Z:L2.St) (H:Hp) (ρ:En) (E:Ends),KOk OK->XL X OK K.x G->StOk X.K G F Z H ρ->OK (m K ρ)->EOk X OK K G F E->j9 X st E Z H
section
def GZ:SM S:=λK ρ=>K.nx ρ
def IL(m n:SM S):SM S:=λK ρ=>m { K with nx:=λρ1=>n K ρ1 } ρ
def sIf(c:Ev S Bool)(m n:SM S):SM S:=λK ρ=>c K.x (λb ρ1=>if b then m K ρ1 else n K ρ1) ρ
def sTo(sh:List Kd)(m:SM S):SM S:=λK ρ=>m { K with nx:=λρ1=>rdk sh (λs=>K.nx (wr sh s)) ρ1 } ρ
def GX(i:Nat)(m:Ev S D):SM S:=λK ρ=>m K.x (λd ρ1=>match eN ρ1 i with
 | true=>K.nx (ρ1.set i (some (.fz d)))
 | false=>.bad) ρ
def Dz(i:Nat)(m:Ev S (List D)):SM S:=λK ρ=>m K.x (λds ρ1=>match eN ρ1 i with
 | true=>K.nx (ρ1.set i (some (.ol (.l ds))))
 | false=>.bad) ρ
def IQ(t:Tg S)(m:Ev S D):SM S:=λK ρ=>m K.x (λd ρ1=>t d K.nx ρ1) ρ
def IM(m:Ev S D):SM S:=λK ρ=>m K.x K.rt ρ
def GY(m:Ev S (List D)):SM S:=λK ρ=>m K.x (λds=>K.rl (.l ds)) ρ
def G3(m:Ev S D):SM S:=λK ρ=>m K.x (λ_ ρ1=>K.nx ρ1) ρ
def G1(i:Nat)(m:SM S):SM S:=λK ρ=>match ρ[i]? with
 | some (some (.ol c))=>if c.isI then .bad else m K (ρ.set i (some (.fz c.d)))
 | _=>.bad
def kF(ρ:En)(i:Nat)(ds:List D):En:=match ρ[i]? with
 | some (some (.op _))=>ρ.set i (some (.op (.l ds)))
 | _=>ρ.set i (some (.ol (.l ds)))
def BF(i:Nat)(f:List D->List D->Option (List D))(ms:Ev S (List D)):SM S:=λK ρ=>match e9 ρ i with
 | some _=>ms K.x (λas ρ1=>match e9 ρ1 i with
  | some ds=>(oM (f ds as)).on (λe=>K.x e ρ1) (λds'=>K.nx (kF ρ1 i ds'))
  | none=>.bad) ρ
 | none=>.bad
def cx{T:Type}(step:T->D->(T->M S)->M S):List D->T->(T->M S)->M S
 | [],s,k=>k s
 | d::r,s,k=>step s d (λs'=>cx step r s' k)
@[reducible] def iU(sh:List Kd)(K:KS S)(kn:SOf sh->M S):KS S:={ K with
  nx:=λρ3=>rdk sh kn ρ3
  ct:=λρ3=>rdk sh kn ρ3
  bk:=λρ3=>rdk sh (λs'=>K.nx (wr sh s')) ρ3 }
def EA(sh:List Kd)(it:Ev S (List D))(t:Tg S)(mb:SM S):SM S:=λK ρ=>it K.x (λds ρ1=>rdk sh (λs=>cx (λs d kn=>t d (λρ2=>mb (iU sh K kn) ρ2) (wr sh s)) ds s (λs'=>K.nx (wr sh s'))) ρ1) ρ
def aV{T:Type}(step:T->(T->M S)->M S):Nat->T->M S
 | 0,_=>.bad
 | n+1,s=>step s (λs'=>aV step n s')
def tU(sh:List Kd)(fuel:Nat)(c:Ev S Bool)(mb:SM S):SM S:=λK ρ=>rdk sh (λs=>aV (λs kn=>c K.x (λb ρ2=>if b then mb (iU sh K kn) ρ2 else rdk sh (λs'=>K.nx (wr sh s')) ρ2) (wr sh s)) fuel s) ρ
end
theorem kb(ρ:En)(i:Nat)(ds ds0:List D)(h:e9 ρ i=some ds0):kF ρ i ds=ρ.set i ((ρ[i]?.join).map fun | .op _=>.op (.l ds)|_=>.ol (.l ds)):=by
 unfold e9 at h
 unfold kF
 split at h
 ·rename_i q;rw[q];rfl
 ·rename_i q;rw[q];rfl
 ·cases h
theorem dY{OK:M S->Prop}(hO:KOk OK){sh:List Kd}{k:SOf sh->M S}(h:OK (rdk sh k ρ)):∃s,rd sh ρ=some s/\OK (k s):=by
 unfold rdk at h
 split at h
 ·rename_i s e;exact⟨s,e,h⟩
 ·exact(hO h).elim
section
variable {sts rest:List Stmt} {m n:SM S} {c a b:Expr} {me:Ev S D} {mt:Ev S Bool} {ml:Ev S (List D)} {tpos:Pos}
theorem bt:ASs (S:=S) X [] GZ:=λOK K G F Z H ρ E hO hX St ok eo=>Es vJ (eo.nx F Z H ρ (Same.refl _) St ok)
theorem aa(h1:AS X st m)(h2:ASs X rest n):ASs X (st::rest) (IL m n):=λOK K G F Z H ρ E hO hX St ok eo =>
 Es (rA zp dF) (h1 OK { K with nx:=λρ1=>n K ρ1 } G F Z H ρ _ hO hX St ok ⟨λF' σ' H' ρ' s S' o=>h2 OK K G F' σ' H' ρ' E hO hX S' o (eo.up s),eo.rt,eo.rl,eo.bk,eo.ct⟩)
theorem az(h1:AS X st m):ASs X [st] m:=λOK K G F Z H ρ E hO hX St ok eo=>Es (BS zp) (h1 OK K G F Z H ρ E hO hX St ok eo)
theorem cF{A B:List Stmt}(hc:AEt X c mt)(ha:ASs X A m)(hb:ASs X B n):AS X (.If c A B pos) (sIf mt m n):=λOK K G F Z H ρ E hO hX St ok eo =>
 fw (Ho dZ dF dF) (hc OK K.x _ G F Z H ρ _ hO hX St ok λt F1 H1 ρ1 s1 S1 o1=>by
  cases t with
  | true=>exact ha OK K G F1 Z H1 ρ1 E hO hX S1 o1 (eo.up s1)
  | false=>exact hb OK K G F1 Z H1 ρ1 E hO hX S1 o1 (eo.up s1))
theorem aG{sh:List Kd}(h:AS X st m):AS X st (sTo sh m):=λOK K G F Z H ρ E hO hX St ok eo =>
 h OK { K with nx:=λρ1=>rdk sh (λs=>K.nx (wr sh s)) ρ1 } G F Z H ρ E hO hX St ok ⟨λF' σ' H' ρ' s S' o=>by
  obtain⟨s',e',o'⟩:=dY hO o
  exact eo.nx F' σ' H' _ s (S'.rd e') o',eo.rt,eo.rl,eo.bk,eo.ct⟩
theorem iw(h:AS X st m):AS X st (G1 i m):=λOK K G F Z H ρ E hO hX St ok eo=>by
 unfold G1 at ok
 split at ok
 ·rename_i ds q
  obtain⟨a,ea,_⟩:=St.ow i _ (.inl q)
  split at ok
  ·exact(hO ok).elim
  rename_i hI
  obtain⟨F2,s2,S2,_⟩:=St.settleC (by simpa using hI) q ea
  exact h OK K G F2 Z H _ E hO hX S2 ok (eo.up s2)
 ·exact(hO ok).elim
theorem bh(he:AE X e me):AS X (.Return (some e) pos) (IM me):=λOK K G F Z H ρ E hO hX St ok eo =>
 fw (zq aC) (he OK K.x K.rt G F Z H ρ _ hO hX St ok λd v F1 H1 ρ1 s1 S1 r1 o1=>eo.rt F1 Z H1 ρ1 d v s1 S1 r1 o1)
theorem C8(he:AEl X e ml):AS X (.Return (some e) pos) (GY ml):=λOK K G F Z H ρ E hO hX St ok eo =>
 fw (zq aC) (he OK K.x (λds=>K.rl (.l ds)) G F Z H ρ _ hO hX St ok λd v F1 H1 ρ1 s1 S1 r1 o1=>eo.rl F1 Z H1 ρ1 (.l d) v s1 S1 r1 o1)
theorem aO(hN:X.N.Nodup)(he:AE X e me)(hi:X.N[i]? = some x:=by rfl)(hx:Loc X.env.scope x:=by exact lo rfl)(hs:swapsWith e (some (.Name x pos')) pos.line X.env=pure false:=by rfl)(hf:X.fn x=true\/X.env.scope.names.lookup x=some .local:=by exact .inl rfl) :
  AS X (.Assign [.Name x pos'] e pos) (GX i me):=λOK K G F Z H ρ E hO hX St ok eo =>
 fw (jg hN hi hx aC hs hf) (he OK K.x _ G F Z H ρ _ hO hX St ok λd v F1 H1 ρ1 s1 S1 r1 o1=>by
  split at o1
  ·rename_i ho
   obtain⟨hl,hop⟩:=bY ho
   exact eo.nx F1 _ H1 _ s1 (S1.store hop hl (.inl ⟨d,rfl,r1⟩)) o1
  ·exact(hO o1).elim)
theorem cE(hN:X.N.Nodup)(he:AEl X e ml)(hi:X.N[i]? = some x:=by rfl)(hx:Loc X.env.scope x:=by exact lo rfl)(hs:swapsWith e (some (.Name x pos')) pos.line X.env=pure false:=by rfl)(hf:X.fn x=true\/X.env.scope.names.lookup x=some .local:=by exact .inl rfl) :
  AS X (.Assign [.Name x pos'] e pos) (Dz i ml):=λOK K G F Z H ρ E hO hX St ok eo =>
 fw (jg hN hi hx aC hs hf) (he OK K.x _ G F Z H ρ _ hO hX St ok λd v F1 H1 ρ1 s1 S1 r1 o1=>by
  split at o1
  ·rename_i ho
   obtain⟨hl,hop⟩:=bY ho
   exact eo.nx F1 _ H1 _ s1 (S1.store hop hl (.inr ⟨.l d,rfl,r1⟩)) o1
  ·exact(hO o1).elim)
theorem Gp{t:Tg S}(he:AE X e me)(hg:AG X 0 tg t)(hs:swapsWithSole [tg] e pos.line X.env=pure false)(hw:swappedStores [tg] e X.env=pure none)
  (h1:(assignEach [tg] X.env).map (·.2)=[assign tg X.env]):AS X (.Assign [tg] e pos) (IQ t me):=λOK K G F Z H ρ E hO hX St ok eo =>
 fw (zr aC jh hs hw h1) (he OK K.x _ G F Z H ρ _ hO hX St ok λd v F1 H1 ρ1 s1 S1 r1 o1 =>
  hg OK K.nx G F1 Z H1 ρ1 v d _ hO S1 r1 o1 λσ' ρ' S' _ _ _ o'=>eo.nx F1 σ' H1 ρ' s1 S' o')
theorem Dc(he:AE X e me)(hs:swapsWith e none pos.line X.env=pure false):AS X (.Expr e pos) (G3 me):=λOK K G F Z H ρ E hO hX St ok eo =>
 fw (pT aC hs) (he OK K.x _ G F Z H ρ _ hO hX St ok λd v F1 H1 ρ1 s1 S1 r1 o1=>eo.nx F1 Z H1 ρ1 s1 S1 o1)
end
section
variable {m n mb:SM S} {c a b o:Expr} {me mi:Ev S D} {mt:Ev S Bool} {ml ms:Ev S (List D)} {tpos apos cpos:Pos}
theorem Gk{iter:Expr}{body:List Stmt}{sh:List Kd}{t:Tg S}(hp:PassesOwn (model X.prog X.w) X.A X.env X.xe)(hc:X.calm=true)(hi:AEi X tg iter ml)(hg:AG X 0 tg t)(hb:ASs X body mb)
  (hs:∀x,foldedSetIterable iter X.env x=pure x):AS X (.For tg iter body [] pos) (EA sh ml t mb):=λOK K G F Z H ρ E hO hX St ok eo =>
 fw (EM hp hc lV jh dF hs) (hi OK K.x _ G F Z H ρ _ hO hX St ok λds J F1 H1 ρ1 s1 S1 wk o1=>by
  obtain⟨s0,e0,o0⟩:=dY hO o1
  have S0:=S1.rd e0
  clear o1
  generalize hstep:(λ(s:SOf sh) d (kn:SOf sh->M S)=>t d (λρ2=>mb (iU sh K kn) ρ2) (wr sh s))=step at o0
  refine⟨λi m σ' H'=>∃F' s,m=ds.length - i/\i<=ds.length/\Same F1 F'/\StOk X.K G F' σ' H' (wr sh s)/\OK (cx step (ds.drop i) s (λs'=>K.nx (wr sh s'))),⟨ds.length,F1,s0,rfl,bi _,Same.refl _,S0,o0⟩,?_⟩
  rintro i m σ' H' ⟨F',s,rfl,hi,s2,S2,go⟩
  by_cases hlt:i<ds.length
  ·have ed:ds.drop i=ds[i]::ds.drop (i+1):=su hlt
   rw[ed]at go
   dsimp only[cx]at go
   rw[<-hstep]at go
   have again:∀F5 σ5 H5 ρ5,Same F' F5->StOk X.K G F5 σ5 H5 ρ5->OK (rdk sh (λs'=>cx step (ds.drop (i+1)) s' λs'=>K.nx (wr sh s')) ρ5) ->
     ∃m',m'<ds.length - i/\∃F' s,m'=ds.length - (i+1)/\i+1<=ds.length/\Same F1 F'/\StOk X.K G F' σ5 H5 (wr sh s)/\OK (cx step (ds.drop (i+1)) s (λs'=>K.nx (wr sh s'))):=λF5 σ5 H5 ρ5 s5 S5 o5=>by
    obtain⟨s',e',o'⟩:=dY hO o5
    exact⟨ds.length - (i+1),by omega,F5,s',rfl,hlt,s2.trans s5,S5.rd e',o'⟩
   refine .inr ⟨wk.go i G F' σ' H' _ s2 S2 hlt,λσ4 H4=>∃m',m'<ds.length - i/\∃F' s,m'=ds.length - (i+1)/\i+1<=ds.length/\Same F1 F'/\StOk X.K G F' σ4 H4 (wr sh s)/\OK (cx step (ds.drop (i+1)) s (λs'=>K.nx (wr sh s'))),λσ4 H4 h4=>h4,λx H2 y=>?_⟩
   obtain⟨F3,s3,S3,r3⟩:=wk.yld i G F' σ' H' _ x H2 ds[i] s2 S2 (by simp[hlt]) y
   refine hg OK _ G F3 σ' H2 (wr sh s) x ds[i] _ hO S3 r3 go λσ3 ρ3 S4 _ _ _ o4=>?_
   rw[hstep]at o4
   refine hb OK (iU sh K λs'=>cx step (ds.drop (i+1)) s' λs'=>K.nx (wr sh s')) G F3 σ3 H2 ρ3 _ hO hX S4 o4 ⟨λF5 σ5 H5 ρ5 s5 S5 o5=>?_,λF5 σ5 H5 ρ5 d v s5=>eo.rt F5 σ5 H5 ρ5 d v ((s1.trans (s2.trans s3)).trans s5),λF5 σ5 H5 ρ5 d v s5=>eo.rl F5 σ5 H5 ρ5 d v ((s1.trans (s2.trans s3)).trans s5),λF5 σ5 H5 ρ5 s5 S5 o5=>?_,λF5 σ5 H5 ρ5 s5 S5 o5=>?_⟩
   ·exact again F5 σ5 H5 ρ5 (s3.trans s5) S5 o5
   ·obtain⟨s',e',o'⟩:=dY hO o5
    exact eo.nx F5 σ5 H5 _ ((s1.trans (s2.trans s3)).trans s5) (S5.rd e') o'
   ·exact again F5 σ5 H5 ρ5 (s3.trans s5) S5 o5
  ·have ei:i=ds.length:=by omega
   subst ei
   rw[KN]at go
   exact .inl ⟨wk.stop G F' σ' H' _ s2 S2,eo.nx F' σ' H' _ (s1.trans s2) S2 go⟩)
theorem A3{body:List Stmt}{sh:List Kd}{fuel:Nat}(hp:PassesOwn (model X.prog X.w) X.A X.env X.xe)(hc:AEt X c mt)(hb:ASs X body mb):AS X (.While c body [] pos) (tU sh fuel mt mb):=λOK K G F Z H ρ E hO hX St ok eo =>
 fw (zo hp dZ dF) (by
  obtain⟨s0,e0,o0⟩:=dY hO ok
  have S0:=St.rd e0
  clear ok
  generalize hstep:(λ(s:SOf sh) (kn:SOf sh->M S)=>mt K.x (λb ρ2=>if b then mb (iU sh K kn) ρ2 else rdk sh (λs'=>K.nx (wr sh s')) ρ2) (wr sh s))=step at o0
  refine⟨λm σ' H'=>∃F' s,Same F F'/\StOk X.K G F' σ' H' (wr sh s)/\OK (aV step m s),⟨fuel,F,s0,Same.refl _,S0,o0⟩,?_⟩
  rintro m σ' H' ⟨F',s,s2,S2,go⟩
  cases m with
  | zero=>exact(hO go).elim
  | succ m =>
   dsimp only[aV]at go
   rw[<-hstep]at go
   refine hc OK K.x _ G F' σ' H' (wr sh s) _ hO hX S2 go λt F1 H1 ρ1 s1 S1 o1=>?_
   cases t with
   | false =>
    obtain⟨s',e',o'⟩:=dY hO (show OK (rdk sh (λs'=>K.nx (wr sh s')) ρ1)from o1)
    exact eo.nx F1 σ' H1 _ (s2.trans s1) (S1.rd e') o'
   | true =>
    have o1':OK (mb (iU sh K λs'=>aV (λ(s:SOf sh) (kn:SOf sh->M S)=>mt K.x (λb ρ2=>if b then mb (iU sh K kn) ρ2 else rdk sh (λs'=>K.nx (wr sh s')) ρ2) (wr sh s)) m s') ρ1):=o1
    rw[hstep]at o1'
    have again:∀F5 σ5 H5 ρ5,Same F1 F5->StOk X.K G F5 σ5 H5 ρ5->OK (rdk sh (λs'=>aV step m s') ρ5)->∃m',m'<m+1/\∃F' s,Same F F'/\StOk X.K G F' σ5 H5 (wr sh s)/\OK (aV step m' s):=λF5 σ5 H5 ρ5 s5 S5 o5=>by
     obtain⟨s',e',o'⟩:=dY hO o5
     exact⟨m,J5 _,F5,s',(s2.trans s1).trans s5,S5.rd e',o'⟩
    refine sv ⟨λσ4 H4=>∃m',m'<m+1/\∃F' s,Same F F'/\StOk X.K G F' σ4 H4 (wr sh s)/\OK (aV step m' s),λσ4 H4 h4=>h4,?_⟩
    refine hb OK (iU sh K λs'=>aV step m s') G F1 σ' H1 ρ1 _ hO hX S1 o1' ⟨λF5 σ5 H5 ρ5 s5 S5 o5=>again F5 σ5 H5 ρ5 s5 S5 o5,λF5 σ5 H5 ρ5 d v s5=>eo.rt F5 σ5 H5 ρ5 d v ((s2.trans s1).trans s5),λF5 σ5 H5 ρ5 d v s5=>eo.rl F5 σ5 H5 ρ5 d v ((s2.trans s1).trans s5),λF5 σ5 H5 ρ5 s5 S5 o5=>?_,λF5 σ5 H5 ρ5 s5 S5 o5=>again F5 σ5 H5 ρ5 s5 S5 o5⟩
    obtain⟨s',e',o'⟩:=dY hO o5
    exact eo.nx F5 σ5 H5 _ ((s2.trans s1).trans s5) (S5.rd e') o')
theorem cy{G:Gh}{ds:List D}(St:StOk K G F Z H ρ)(h:e9 ρ i=some ds):∃a vs,Z[i]? = some (some (.ref a))/\H a=some (.lst vs)/\RepL K F vs ds:=by
 obtain⟨a,ea,oa⟩:=St.ow i _ (jx h)
 obtain⟨vs,h1,h2⟩:=oa.he
 exact⟨a,vs,ea,h1,h2⟩
theorem jw{G:Gh}{a:Addr}{ds ds':List D}{vs':List V}(St:StOk K G F Z H ρ)(h:e9 ρ i=some ds)(ha:Z[i]? = some (some (.ref a)))(r:RepL K F vs' ds') :
  StOk K G F Z (upd H a (.lst vs')) (kF ρ i ds'):=by
 rw[kb ρ i ds' ds h]
 exact St.change (jx h) ha (c':=.l ds') ⟨_,aB,r⟩
def nL(ds as:List D):Option (List D):=match as with
 | [d]=>if ds.length<sizeLine then some (ds++[d])else none
 | _=>none
theorem jq(hN:X.N[i]? = some x)(hv:Vis X.env.scope x)(he:AEa X [e] ms)
  (hbase:attributeBase (.Name x pos') "append" X.env (eval (.Name x pos') X.env)=eval (.Name x pos') X.env)
  (hfew:((backTo cpos (starEach [e] X.env)).all (λx=>!x.1)&&(backToKw cpos (keywordEach [] X.env)).all (λx=>x.1.isSome)
   && decide ([e].length+([]:List Keyword).length+(if([]:List Keyword).isEmpty then 0 else 1)<30))=true)
  (hline:(apos.endLine==cpos.line)=true) (hs:starEach [e] X.env=(false,eval e X.env)::starEach [] X.env) (hplain:(backTo cpos (starEach [] X.env)).any (·.1)=false)
  (hsw:swapsWith (.Call (.Attribute (.Name x pos') "append" apos) [e] [] cpos) none pos.line X.env=pure false) (hd:(x==("__debug__" : Str))=false:=by decide) (hcd:(x==("__classdict__" : Str))=false:=by decide) :
  AS X (.Expr (.Call (.Attribute (.Name x pos') "append" apos) [e] [] cpos) pos) (BF i nL ms):=λOK K G F Z H ρ E hO hX St ok eo =>
 fw (pT (DV KG PySem.F.slot_list_append PySem.F.type_list_append xQ (e8 hN hv hd hcd) bI hbase hfew hline hs hplain) hsw) (by
  unfold BF at ok
  split at ok
  case h_2=>exact(hO ok).elim
  ·rename_i ds0 h0
   obtain⟨a,vs0,ea,hh,_⟩:=cy St h0
   refine⟨_,ea,.inl ⟨rfl,vs0,.inl (.inl hh)⟩,he OK K.x _ G F Z H ρ _ hO hX St ok λas ws F1 H1 ρ1 s1 S1 _ r1 o1=>?_⟩
   split at o1
   ·rename_i ds hds
    obtain⟨ds',hf,o2⟩:=cg hO o1
    obtain⟨a',vs,ea',hh',rv⟩:=cy S1 hds
    rw[ea]at ea'
    injection ea' with ea';injection ea' with ea';injection ea' with ea'
    subst ea'
    unfold nL at hf
    split at hf
    ·split at hf
     ·rename_i hz
      cases hf
      cases r1 with
      | cons ra rb =>
       cases rb
       refine⟨a,vs,_,rfl,rfl,hh',by rw[rv.length];exact hz,?_⟩
       exact eo.nx F1 Z _ _ s1 (jw S1 hds ea (rv.append (.cons ra .nil))) o2
     ·cases hf
    ·cases hf
   ·exact(hO o1).elim)
end
theorem map_some_get{l:List α}{x:α}:(l.map some)[i]? = some (some x)↔l[i]? = some x:=by
 rw[nu]
 cases l[i]? <;> simp
open Classical in
noncomputable def aT(G:Gh)(Z:L2.St)(ρ:En)(H:Hp)(ex:Option Addr):Hp:=λb=>if(∃(i:Nat) (c:OC),own ρ i c/\Z[i]? = some (some (V.ref b)))/\some b≠ex then H b else G.O b
def setC(ρ:En)(j:Nat)(c:OC):En:=ρ.set j ((ρ[j]?.join).map fun | .op _=>.op c|_=>.ol c)
section
variable {G:Gh} {ds:List D}
theorem bT(S:StOk K G F Z H ρ){b:Addr}{o:HO}(h:G.O b=some o):aT G Z ρ H ex b=some o:=by
 unfold aT
 rw[am]
 ·exact h
 ·rintro⟨⟨i,c,ho,e⟩,_⟩
  obtain⟨a,e',oa⟩:=S.ow i c ho
  rw[e]at e'
  injection e' with e';injection e' with e';injection e' with e'
  subst e'
  rw[oa.no]at h;cases h
theorem eQ{b:Addr}(ho:own ρ i c)(e:Z[i]? = some (some (V.ref b)))(hx:some b≠ex):aT G Z ρ H ex b=H b:=by
 unfold aT
 rw[aw ⟨⟨i,c,ho,e⟩,hx⟩]
theorem pg(S:StOk K G F Z H ρ):Same (aT G Z ρ H ex) H:=λb o h=>by
 unfold aT at h
 split at h
 ·exact h
 ·exact S.oh b o h
theorem _root_.L3.Held.notup{a:Addr}{o:HO}(h:Held K F H a c)(e:H a=some o):yG o:=by
 cases c with
 | l ds=>obtain⟨vs,h1,_⟩:=h;rw[h1]at e;cases e;exact True.intro
 | t es=>obtain⟨vs,h1,_⟩:=h;rw[h1]at e;cases e;exact True.intro
 | k es=>obtain⟨vs,h1,_⟩:=h;rw[h1]at e;cases e;exact True.intro
 | i x ns ds=>obtain⟨C,dx,fs,h1,_⟩:=h;rw[h1]at e;cases e;exact True.intro
theorem pj(S:StOk K G F Z H ρ):∀b o,aT G Z ρ H ex b=some o->F b=none/\yG o:=λb o h=>by
 unfold aT at h
 split at h
 ·rename_i hc
  obtain⟨⟨i,c,ho,e⟩,_⟩:=hc
  obtain⟨a,e',oa⟩:=S.ow i c ho
  rw[e]at e'
  injection e' with e';injection e' with e';injection e' with e'
  subst e'
  exact⟨oa.nf,oa.he.notup h⟩
 ·exact S.fo b o h
theorem jo{av:AV}(h:((ds.map AV.fz).map some)[i]? = some (some av)):∃d,av=.fz d/\ds[i]? = some d:=by
 rw[map_some_get,nu]at h
 cases q:ds[i]? with
 | none=>rw[q]at h;cases h
 | some d=>rw[q]at h;cases h;exact⟨d,rfl,rfl⟩
theorem fX(h:own ((ds.map AV.fz).map some) i c):False:=by
 rcases h with h|h<;>(obtain⟨d,z,_⟩:=jo h;cases z)
theorem cq(S:StOk K G F Z H ρ)(r:RepL K F vs ds):StOk K ⟨λ_=>none,aT G Z ρ H none,F⟩ F (vs.map some) H ((ds.map AV.fz).map some):=by
 refine⟨S.fh,pg S,pj S,by simp[r.length],λi d h=>?_,λi c h=>(fX h).elim,λi j c e a h=>(fX h).elim,λi a h=>(nomatch h),λi c h=>?_,Same.refl _⟩
 ·obtain⟨d',z,e⟩:=jo h
  cases z
  obtain⟨v,e1,e2⟩:=r.get e
  exact⟨v,map_some_get.mpr e1,e2⟩
 ·obtain⟨d',z,e⟩:=jo h;cases z
theorem gf{avs':List AV}(S:StOk K G F Z H ρ)(s1:Same F F')(S1:StOk K ⟨λ_=>none,aT G Z ρ H none,F⟩ F' (vs.map some) H' (avs'.map some)) :
  StOk K G F' Z H' ρ/\∀v c,Frs K ⟨λ_=>none,aT G Z ρ H none,F⟩ F' (vs.map some) H' (avs'.map some) v c->Frs K G F' Z H' ρ v c:=by
 have oo:∀b,aT G Z ρ H none b=none->G.O b=none:=λb h=>by
  cases q:G.O b with
  | none=>rfl
  | some o=>rw[bT S q]at h;cases h
 refine⟨⟨S1.fh,λb o h=>S1.oh b o (bT S h),λb o h=>S1.fo b o (bT S h),S.ln,λi d h=>?_,λi c h=>?_,S.dj,S.pp,S.pq,S.fb.trans s1⟩,λv cc h=>?_⟩
 ·obtain⟨v,e,r⟩:=S.fz i d h;exact⟨v,e,r.mono s1⟩
 ·obtain⟨a,e,oa⟩:=S.ow i c h
  obtain⟨o,ho⟩:=oa.he.some
  have q:aT G Z ρ H none a=some o:=by rw[eQ h e (by simp)];exact ho
  exact⟨a,e,(S1.fo a o q).1,oa.no,(oa.he.mono s1).at (by rw[S1.oh a o q,ho])⟩
 ·obtain⟨a,rfl,oa,_⟩:=h
  refine⟨a,rfl,⟨oa.nf,oo a oa.no,oa.he⟩,λi e ho q=>?_⟩
  obtain⟨a',e',oa'⟩:=S.ow i e ho
  rw[q]at e'
  injection e' with e';injection e' with e';injection e' with e'
  subst e'
  obtain⟨o,hh⟩:=oa'.he.some
  have:=oa.no
  rw[show(⟨λ_=>none,aT G Z ρ H none,F⟩:Gh).O a=aT G Z ρ H none a from rfl,eQ ho q (by simp),hh]at this
  cases this
def P1(a:Addr):Nat->Option Addr
 | 0=>some a
 | _=>none
theorem yr{a:Addr}(S:StOk K G F Z H ρ)(hj:own ρ j c)(ha:Z[j]? = some (some (V.ref a)))(r:RepL K F vs ds) :
  StOk K ⟨P1 a,aT G Z ρ H (some a),F⟩ F ((V.ref a::vs).map some) H ((AV.op c::ds.map AV.fz).map some):=by
 obtain⟨a',e',oa⟩:=S.ow j c hj
 rw[ha]at e'
 injection e' with e';injection e' with e';injection e' with e'
 subst e'
 have at0:∀i d,own ((AV.op c::ds.map AV.fz).map some) i d->i=0/\d=c:=λi d h=>by
  cases i with
  | zero=>rcases h with h|h<;>(simp at h);exact⟨rfl,h.symm⟩
  | succ i=>exact(fX (ds:=ds) (i:=i) (c:=d) (by unfold own at h ⊢;simpa using h)).elim
 refine⟨S.fh,pg S,pj S,by simp[r.length],λi d h=>?_,λi d h=>?_,λi k d e b h1 h2 _ _=>?_,λi b h=>?_,λi d h=>?_,Same.refl _⟩
 ·cases i with
  | zero=>simp at h
  | succ i =>
   obtain⟨d',z,e⟩:=jo (ds:=ds) (i:=i) (av:=.fz d) (by simpa using h)
   cases z
   obtain⟨v,e1,e2⟩:=r.get e
   exact⟨v,by simpa using e1,e2⟩
 ·obtain⟨rfl,rfl⟩:=at0 i d h
  refine⟨a,rfl,oa.nf,?_,oa.he⟩
  show aT G Z ρ H (some a) a=none
  unfold aT
  rw[am (by simp)]
  exact oa.no
 ·rw[(at0 i d h1).1,(at0 k e h2).1]
 ·cases i with
  | zero=>cases h;exact⟨rfl,c,rfl⟩
  | succ i=>cases h
 ·cases i with
  | zero=>exact⟨a,rfl⟩
  | succ i =>
   obtain⟨d',z,e⟩:=jo (ds:=ds) (i:=i) (av:=.op d) (by simpa using h)
   cases z
theorem uQ{c':OC}{a:Addr}{l:List AV}(S:StOk K G F Z H ρ)(hj:own ρ j c)(ha:Z[j]? = some (some (V.ref a)))(s1:Same F F')
  (S1:StOk K ⟨P1 a,aT G Z ρ H (some a),F⟩ F' ((V.ref a::vs).map some) H' ((AV.op c'::l).map some)) :
  StOk K G F' Z H' (setC ρ j c')/\∀v cc,Frs K ⟨P1 a,aT G Z ρ H (some a),F⟩ F' ((V.ref a::vs).map some) H' ((AV.op c'::l).map some) v cc->Frs K G F' Z H' (setC ρ j c') v cc:=by
 have oo:∀b,aT G Z ρ H (some a) b=none->G.O b=none:=λb h=>by
  cases q:G.O b with
  | none=>rfl
  | some o=>rw[bT S q]at h;cases h
 obtain⟨a',e',oa⟩:=S.ow j c hj
 rw[ha]at e'
 injection e' with e';injection e' with e';injection e' with e'
 subst e'
 have hl:j<ρ.length:=by rcases hj with h|h<;>exact(List.getElem?_eq_some_iff.mp h).1
 generalize hav:((ρ[j]?.join).map λ(x:AV)=>match x with | .op _=>AV.op c'|_=>AV.ol c')=av
 have hset:setC ρ j c'=ρ.set j av:=by rw[<-hav];rfl
 rw[hset]
 have ne:∀i,i≠j->(ρ.set j av)[i]? = ρ[i]?:=λi hi=>je (Ne.symm hi)
 have atj:(ρ.set j av)[j]? = some av:=nc hl
 have kind:(ρ[j]? = some (some (.ol c))/\av=some (.ol c'))\/(ρ[j]? = some (some (.op c))/\av=some (.op c')):=by
  rcases hj with h|h
  ·exact .inl ⟨h,by rw[<-hav,h];rfl⟩
  ·exact .inr ⟨h,by rw[<-hav,h];rfl⟩
 have owni:∀i e,own (ρ.set j av) i e->(i=j/\e=c')\/(i≠j/\own ρ i e):=λi e h=>by
  by_cases hi:i=j
  ·subst hi
   unfold own at h
   rw[atj]at h
   rcases kind with ⟨_,k⟩|⟨_,k⟩<;>rw[k]at h<;>rcases h with h|h<;>cases h<;>exact .inl ⟨rfl,rfl⟩
  ·unfold own at h ⊢
   rw[ne i hi]at h
   exact .inr ⟨hi,h⟩
 have nea:∀i e b,i≠j->own ρ i e->Z[i]? = some (some (V.ref b))->b≠a:=λi e b hi ho q z=>by
  subst z
  exact hi (S.dj i j e c b ho hj q ha)
 have own1:OwnAt K ⟨P1 a,aT G Z ρ H (some a),F⟩ F' H' a c':=by
  obtain⟨b,e1,ob⟩:=S1.ow 0 c' (.inr rfl)
  have:V.ref a=V.ref b:=by simpa using e1
  injection this with this
  subst this
  exact ob
 refine⟨⟨S1.fh,λb o h=>S1.oh b o (bT S h),λb o h=>S1.fo b o (bT S h),by simpa using S.ln,λi d h=>?_,λi e h=>?_,λi k d e b h1 h2=>?_,λi b h=>?_,λi d h=>?_,S.fb.trans s1⟩,λv cc h=>?_⟩
 ·by_cases hi:i=j
  ·subst hi
   rw[atj]at h
   rcases kind with ⟨_,k⟩|⟨_,k⟩<;>rw[k]at h<;>cases h
  ·rw[ne i hi]at h
   obtain⟨v,e,r⟩:=S.fz i d h;exact⟨v,e,r.mono s1⟩
 ·rcases owni i e h with ⟨rfl,rfl⟩|⟨hi,ho⟩
  ·exact⟨a,ha,own1.nf,oa.no,own1.he⟩
  ·obtain⟨b,eb,ob⟩:=S.ow i e ho
   obtain⟨o,hh⟩:=ob.he.some
   have q:aT G Z ρ H (some a) b=some o:=by rw[eQ ho eb (λz=>nea i e b hi ho eb (Option.some.inj z))];exact hh
   exact⟨b,eb,(S1.fo b o q).1,ob.no,(ob.he.mono s1).at (by rw[S1.oh b o q,hh])⟩
 ·have f:∀i e,own (ρ.set j av) i e->∃d,own ρ i d:=λi e h=>by
   rcases owni i e h with ⟨rfl,_⟩|⟨_,ho⟩
   ·exact⟨c,hj⟩
   ·exact⟨e,ho⟩
  exact S.dj i k _ _ b (f i d h1).choose_spec (f k e h2).choose_spec
 ·obtain⟨q1,e,q2⟩:=S.pp i b h
  refine⟨q1,?_⟩
  by_cases hi:i=j
  ·subst hi
   rcases kind with ⟨k1,k⟩|⟨k1,k⟩
   ·rw[k1]at q2;cases q2
   ·exact⟨c',by rw[atj,k]⟩
  ·exact⟨e,by rw[ne i hi];exact q2⟩
 ·by_cases hi:i=j
  ·subst hi
   rcases kind with ⟨k1,k⟩|⟨k1,k⟩
   ·rw[atj,k]at h;cases h
   ·exact S.pq i c k1
  ·rw[ne i hi]at h;exact S.pq i d h
 ·obtain⟨b,rfl,ob,nn⟩:=h
  refine⟨b,rfl,⟨ob.nf,oo b ob.no,ob.he⟩,λi e ho q=>?_⟩
  rcases owni i e ho with ⟨rfl,_⟩|⟨hi,ho'⟩
  ·rw[ha]at q
   injection q with q;injection q with q;injection q with q
   subst q
   exact nn 0 c' (.inr rfl) rfl
  ·obtain⟨b',eb,ob'⟩:=S.ow i e ho'
   rw[q]at eb
   injection eb with eb;injection eb with eb;injection eb with eb
   subst eb
   obtain⟨o,hh⟩:=ob'.he.some
   have:=ob.no
   rw[show(⟨P1 a,aT G Z ρ H (some a),F⟩:Gh).O b=aT G Z ρ H (some a) b from rfl,eQ ho' q (λz=>nea i e b hi ho' q (Option.some.inj z)),hh]at this
   cases this
end
abbrev fzs(ds:List D):En:=(ds.map AV.fz).map some
def KD:KS D:=⟨λ_=>.ret .none,λd _=>.ret d,λ_ _=>.bad,λ_=>.bad,λ_=>.bad,λe _=>.exc e⟩
def asL{S:Type}(c:OC)(k:List D->M S):M S:=match c with
 | .l ds=>k ds
 | _=>.bad
def KL:KS (List D):=⟨λ_=>.bad,λ_ _=>.bad,λc _=>asL c .ret,λ_=>.bad,λ_=>.bad,λe _=>.exc e⟩
def at0{S:Type}(ρ:En)(k:List D->M S):M S:=match (ρ[0]? : Option (Option AV))with
 | some (some (AV.op (OC.l f)))=>k f
 | _=>.bad
def K1:KS (D×List D):=⟨λρ=>at0 ρ λf=>.ret (.none,f),λd ρ=>at0 ρ λf=>.ret (d,f),λ_ _=>.bad,λ_=>.bad,λ_=>.bad,λe _=>.exc e⟩
def kS(K:Fg)(G:Gh)(E:XK){α:Type}(m:M α)(C:α->Prop):Prop:=match m with
 | .ret a=>C a
 | .exc x=>∀F' H' Cl dd,GOk G F' H'->XR K F' Cl dd x->E (.ref Cl) dd H'
 | .bad=>False
def spD(K:Fg)(n:Nat)(mf:List D->M D):Sp:=λvs H Q E=>∃G F ds,vs.length=n/\StOk K G F (vs.map some) H (fzs ds)/\kS K G E (mf ds) λd=>∀v F' H',Same F F'->StOk K G F' (vs.map some) H' (fzs ds)->Rep K F' v d->Q v H'
def spL(K:Fg)(n:Nat)(mf:List D->M (List D)):Sp:=λvs H Q E=>∃G F ds,vs.length=n/\StOk K G F (vs.map some) H (fzs ds)/\kS K G E (mf ds) λd=>∀v F' H',Same F F'->StOk K G F' (vs.map some) H' (fzs ds)->Frs K G F' (vs.map some) H' (fzs ds) v (.l d)->Q v H'
def sp1(K:Fg)(n:Nat)(mf:List D->List D->M (D×List D)):Sp:=λvs H Q E=>∃G F f ds,vs.length=n/\StOk K G F (vs.map some) H (some (.op (.l f))::fzs ds)/\kS K G E (mf f ds) λr =>
 ∀v F' H',Same F F'->StOk K G F' (vs.map some) H' (some (.op (.l r.2))::fzs ds)->Rep K F' v r.1->Q v H'
section
variable {G:Gh} {ds:List D}
theorem nr(S:StOk K G F (vs.map some) H (fzs ds))(s1:Same F F')(S1:StOk K G F' Z H' ρ):StOk K G F' (vs.map some) H' (fzs ds):=by
 refine⟨S1.fh,S1.oh,S1.fo,S.ln,λi d q=>?_,λi c q=>(fX q).elim,λi j c e a q=>(fX q).elim,S.pp,S.pq,S1.fb⟩
 obtain⟨v,e,r⟩:=S.fz i d q
 exact⟨v,e,r.mono s1⟩
theorem C5(S1:StOk K G F' Z H' ρ)(h:Frs K G F' Z H' ρ v c):Frs K G F' (vs.map some) H' (fzs ds) v c:=by
 obtain⟨a,rfl,oa,_⟩:=h
 exact⟨a,rfl,oa,λi e q=>(fX q).elim⟩
theorem own1{f:List D}(h:own (some (.op (.l f))::fzs ds) i c):i=0/\c=.l f:=by
 cases i with
 | zero=>rcases h with h|h<;>simp at h;exact⟨rfl,h.symm⟩
 | succ i=>exact(fX (ds:=ds) (i:=i) (c:=c) (by unfold own at h ⊢;simpa using h)).elim
theorem AZ{f f':List D}(S:StOk K G F (vs.map some) H (some (.op (.l f))::fzs ds))(s1:Same F F')(S1:StOk K G F' Z H' ρ)(h0:ρ[0]? = some (some (.op (.l f')))) :
  StOk K G F' (vs.map some) H' (some (.op (.l f'))::fzs ds)/\∀v c,Frs K G F' Z H' ρ v c->Frs K G F' (vs.map some) H' (some (.op (.l f'))::fzs ds) v c:=by
 obtain⟨a,ha⟩:=S1.pq 0 _ h0
 obtain⟨e1,_⟩:=S1.pp 0 a ha
 obtain⟨e2,_⟩:=S.pp 0 a ha
 obtain⟨b,eb,ob⟩:=S1.ow 0 _ (.inr h0)
 rw[e1]at eb
 injection eb with eb;injection eb with eb;injection eb with eb
 subst eb
 have only:∀i b,G.P i=some b->i=0:=λi b h=>by
  obtain⟨_,c,q⟩:=S.pp i b h
  exact(own1 (.inr q)).1
 refine⟨⟨S1.fh,S1.oh,S1.fo,S.ln,λi d q=>?_,λi c q=>?_,λi j c e b q1 q2 _ _=>?_,λi b q=>?_,λi c q=>?_,S1.fb⟩,λv c h=>?_⟩
 ·cases i with
  | zero=>simp at q
  | succ i =>
   obtain⟨v,e,r⟩:=S.fz (i+1) d (by simpa using q)
   exact⟨v,e,r.mono s1⟩
 ·obtain⟨rfl,rfl⟩:=own1 q
  exact⟨a,e2,ob⟩
 ·rw[(own1 q1).1,(own1 q2).1]
 ·have:=only i b q
  subst this
  exact⟨(S.pp 0 b q).1,_,rfl⟩
 ·obtain⟨rfl,_⟩:=own1 (.inr q)
  exact⟨a,ha⟩
 ·obtain⟨b,rfl,ob2,nn⟩:=h
  refine⟨b,rfl,ob2,λi e q z=>?_⟩
  obtain⟨rfl,rfl⟩:=own1 q
  rw[e2]at z
  injection z with z;injection z with z;injection z with z
  subst z
  exact nn 0 _ (.inr h0) e1
end
section
variable {P:Program} {w:World} {mg:zzl} {base:Heap} {qual:Str} {fd:FuncData} {N ps:List Str} {k:Nat}
theorem lA{ds:List D}{G:Gh}(hl:vs.length=ps.length)(S0:StOk K G F (vs.map some) H (fzs ds)):StOk K G F (L2.start N vs) H (fzs ds++List.replicate (N.length - ps.length) none):=by
 have e0:L2.start N vs=vs.map some++List.replicate (N.length - ps.length) none:=by unfold L2.start;rw[hl]
 rw[e0]
 exact S0.grow _
theorem CN{sp:Sp}(Fn:Fun K x qual st f fd)(S:FnScope N ps (au st))(len:∀vs H Q E,sp vs H Q E->vs.length=ps.length)
  (hbody:∀(cdv:Value) (A:Around) (outer:List Env) (s:Shared) (H:Hp) (vs:List V) (Q:VK) (E:XK),Room k (A.deeper (envOfC qual (au st) s.heap.objs.size f cdv))->sp vs H Q E ->
   ∃t,PSs (jL (CX1 P w) P w K mg base N qual (au st) f cdv A outer s H E) (aZ st) t/\t { nx:=λ_ H'=>Q .non H',rt:=Q } (start N vs) H):FnOk P w K mg base (CX1 P w) (k+1) f fd ps sp:=by
 obtain⟨oc,od,kV,doc,pm,an,cdv,ct,osl,rfl,lk,hcd⟩:=Fn.ex
 exact Eb lk hcd S len λA outer s H vs Q E hr hsp=>hbody cdv A outer s H vs Q E hr hsp
theorem wI{C:α->Prop}{N:List Str}{qual:Str}{scope:Scope}{cdv:Value}{outer:List Env}{G:Gh}{e:Ex}(h:kS K G E (M.exc e:M α) C):XW (jL (CX1 P w) P w K mg base N qual scope f cdv A outer s H E) G F ρ e :=
 λF' H' s' a Cl dd pins Z g _ I xs _ xr=>Cw I xs (h F' H' Cl dd g xr)
theorem cA{mb:SM D}{mf:List D->M D}(Fn:Fun K x qual st f fd)(Sc:FnScope N ps (au st))
  (hb:∀(cdv:Value) (A:Around) (outer:List Env) (s:Shared) (H:Hp) (E:XK),Room k (A.deeper (envOfC qual (au st) s.heap.objs.size f cdv)) ->
   ASs (jL (CX1 P w) P w K mg base N qual (au st) f cdv A outer s H E) (aZ st) mb)
  (hm:∀ds,ds.length=ps.length->mf ds=mb KD (fzs ds++List.replicate (N.length - ps.length) none)):FnOk P w K mg base (CX1 P w) (k+1) f fd ps (spD K ps.length mf):=by
 refine CN Fn Sc (λvs H Q E h=>?_) (λcdv A outer s H vs Q E hr h=>?_)
 ·obtain⟨_,_,_,h1,_⟩:=h;exact h1
 ·obtain⟨G,F0,ds,h1,S0,e⟩:=h
  have hl:ds.length=ps.length:=by have:=S0.ln;simp at this;lia
  rw[hm ds hl]at e
  refine⟨_,dF,hb cdv A outer s H E hr (λm=>kS K G E m _) KD G F0 _ H _ _ (λz=>z) (λF ρ e z=>wI z) (lA h1 S0) e ?_⟩
  exact⟨λF' σ' H' ρ' s S' o=>(by exact o .non F' H' s (nr S0 s S') .non),λF' σ' H' ρ' d' v s S' r o=>(by exact o v F' H' s (nr S0 s S') r),λF' σ' H' ρ' d' v s S' r o=>(o:False).elim,λF' σ' H' ρ' s S' o=>(o:False).elim,λF' σ' H' ρ' s S' o=>(o:False).elim⟩
theorem Gr{k:List D->M S}{G:Gh}{C:S->Prop}(h:kS K G E (asL c k) C):∃ds,c=.l ds/\kS K G E (k ds) C:=by
 cases c with
 | l ds=>exact⟨ds,rfl,h⟩
 | _=>exact(h:False).elim
theorem FJ{mb:SM (List D)}{mf:List D->M (List D)}(Fn:Fun K x qual st f fd)(Sc:FnScope N ps (au st))
  (hb:∀(cdv:Value) (A:Around) (outer:List Env) (s:Shared) (H:Hp) (E:XK),Room k (A.deeper (envOfC qual (au st) s.heap.objs.size f cdv)) ->
   ASs (jL (CX1 P w) P w K mg base N qual (au st) f cdv A outer s H E) (aZ st) mb)
  (hm:∀ds,ds.length=ps.length->mf ds=mb KL (fzs ds++List.replicate (N.length - ps.length) none)):FnOk P w K mg base (CX1 P w) (k+1) f fd ps (spL K ps.length mf):=by
 refine CN Fn Sc (λvs H Q E h=>?_) (λcdv A outer s H vs Q E hr h=>?_)
 ·obtain⟨_,_,_,h1,_⟩:=h;exact h1
 ·obtain⟨G,F0,ds,h1,S0,e⟩:=h
  have hl:ds.length=ps.length:=by have:=S0.ln;simp at this;lia
  rw[hm ds hl]at e
  refine⟨_,dF,hb cdv A outer s H E hr (λm=>kS K G E m _) KL G F0 _ H _ _ (λz=>z) (λF ρ e z=>wI z) (lA h1 S0) e ?_⟩
  exact⟨λF' σ' H' ρ' s S' o=>(o:False).elim,λF' σ' H' ρ' d' v s S' r o=>(o:False).elim,λF' σ' H' ρ' d' v s S' r o=>(by obtain⟨ds',rfl,o⟩:=Gr o;exact o v F' H' s (nr S0 s S') (C5 S' r)),λF' σ' H' ρ' s S' o=>(o:False).elim,λF' σ' H' ρ' s S' o=>(o:False).elim⟩
theorem A2{k:List D->M S}{G:Gh}{C:S->Prop}(h:kS K G E (at0 ρ k) C):∃f,ρ[0]? = some (some (AV.op (OC.l f)))/\kS K G E (k f) C:=by
 unfold at0 at h
 split at h
 ·rename_i f q;exact⟨f,q,h⟩
 ·exact h.elim
theorem Bz{ds g:List D}{G:Gh}(hl:vs.length=ps.length)(S0:StOk K G F (vs.map some) H (some (.op (.l g))::fzs ds)):StOk K G F (L2.start N vs) H (some (.op (.l g))::fzs ds++List.replicate (N.length - ps.length) none):=by
 have e0:L2.start N vs=vs.map some++List.replicate (N.length - ps.length) none:=by unfold L2.start;rw[hl]
 rw[e0]
 exact S0.grow _
theorem qx{mb:SM (D×List D)}{mf:List D->List D->M (D×List D)}(Fn:Fun K x qual st f fd)(Sc:FnScope N ps (au st))
  (hb:∀(cdv:Value) (A:Around) (outer:List Env) (s:Shared) (H:Hp) (E:XK),Room k (A.deeper (envOfC qual (au st) s.heap.objs.size f cdv)) ->
   ASs (jL (CX1 P w) P w K mg base N qual (au st) f cdv A outer s H E) (aZ st) mb)
  (hm:∀g ds,ds.length+1=ps.length->mf g ds=mb K1 (some (.op (.l g))::fzs ds++List.replicate (N.length - ps.length) none)):FnOk P w K mg base (CX1 P w) (k+1) f fd ps (sp1 K ps.length mf):=by
 refine CN Fn Sc (λvs H Q E h=>?_) (λcdv A outer s H vs Q E hr h=>?_)
 ·obtain⟨_,_,_,_,h1,_⟩:=h;exact h1
 ·obtain⟨G,F0,g,ds,h1,S0,e⟩:=h
  have hl:ds.length+1=ps.length:=by have:=S0.ln;simp at this;lia
  rw[hm g ds hl]at e
  refine⟨_,dF,hb cdv A outer s H E hr (λm=>kS K G E m _) K1 G F0 _ H _ _ (λz=>z) (λF ρ e z=>wI z) (Bz h1 S0) e ?_⟩
  refine⟨λF' σ' H' ρ' s S' o=>?_,λF' σ' H' ρ' d' v s S' rv o=>?_,λF' σ' H' ρ' d' v s S' r o=>(o:False).elim,λF' σ' H' ρ' s S' o=>(o:False).elim,λF' σ' H' ρ' s S' o=>(o:False).elim⟩
  ·obtain⟨f',q,e'⟩:=A2 o
   exact e' .non F' H' s (AZ S0 s S' q).1 .non
  ·obtain⟨f',q,e'⟩:=A2 o
   exact e' v F' H' s (AZ S0 s S' q).1 rv
end
structure CF(P:Program)(w:World)(K:Fg)(mg:zzl)(base:Heap)(x:Str)(k:Nat)(sp:Sp):Prop where
 ex:∃(f:Addr) (fd:FuncData) (ps:List Str),FnOk P w K mg base (CX1 P w) k f fd ps sp/\mg x=some (.ref f)/\PySem.W.keepIn K (.ref f)=true/\L2.Binds K fd ps []
def Jc(mf:List D->M D)(ps:Pa D):Pu D:=λρ=>ps (λds=>mf ds) ρ
def Jb(mf:List D->M (List D))(ps:Pa (List D)):Pu (List D):=λρ=>ps (λds=>mf ds) ρ
section
def Jp(mf:List D->List D->M (D×List D))(i:Nat)(ms:Ev S (List D)):Ev S D:=λx k ρ=>ms x (λds ρ1=>match e9 ρ1 i with
 | some f=>(mf f ds).on (λe=>x e ρ1) (λr=>k r.1 (kF ρ1 i r.2))
 | none=>.bad) ρ
end
def EX(X:Cx)(G:Gh)(Z:L2.St):XK:=λc dd H'=>∃x ρ F1 F' C,c=.ref C/\XW X G F1 ρ x/\GOk G F' H'/\FzOk X.K F' Z ρ/\XR X.K F' C dd x
theorem XS.older{h:Heap}{lo lo':Nat}{e:Addr}(xs:XS H h lo e C dd)(hl:lo'<=lo):XS H h lo' e C dd:=by
 obtain⟨oe,vs,q,c,d,z,z1,k⟩:=xs.obj
 refine⟨ir hl xs.yg,xs.trk,oe,vs,q,c,d,z,z1,k.imp id ?_⟩
 rintro⟨T,oT,ts,k,ne,l,r⟩
 exact⟨T,oT,ts,k,ne,ir hl l,r⟩
def jR(X:Cx)(Z:L2.St)(E:XK):Prop:=∀(pins:zzk) (H:Hp) (s:Shared) (e:Value) (s':Shared),Inv X pins Z H s->CX1 X.prog X.w X.stack H s E e s'->X.xe e s'
theorem rB{G:Gh}:jR X Z (EX X G Z):=λpins H s e s' I h=>by
 obtain⟨a,C,dd,H',rfl,ho,hb,un,hk,xs,x,ρ,F1,F',C',ec,xw,g,fz,xr⟩:=h
 cases ec
 refine xw F' H' s' a C dd pins Z g fz (I.call' ho un hk hb λb z=>absurd z (by simp)) (xs.older I.sz) (λp hp z=>?_) xr
 exact absurd (du (ay (I.pin p hp).1) (xs.tb z).2.1) (pr _)
theorem EX.of{G:Gh}{x:Ex}{p:Nat->Option Addr}(S:StOk X.K G F Z H ρ)(xw:XW X G F ρ x)(g:GOk ⟨p,aT G Z ρ H ex,F⟩ F' H')(xr:XR X.K F' C dd x):EX X G Z (.ref C) dd H' :=
 ⟨x,ρ,F,F',C,rfl,xw,⟨g.fh,λb o h=>g.oh b o (bT S h),λb o h=>g.fo b o (bT S h),S.fb.trans g.fb⟩,S.fzok g.fb,xr⟩
section
variable {k:Nat} {fd:FuncData} {ps:List Str} {sp:Sp}
theorem zb{pins:zzk}{us:List Value}(F:FnOk X.prog X.w X.K X.mg X.base (CX1 X.prog X.w) k f fd ps sp)(hr:Room k X.A)(hb:L2.Binds X.K fd ps [])(hx:jR X Z E)
  (I:Inv X pins Z H s) (r:Vals vs us) (h:sp vs H Q E):wpAny (model X.prog X.w) X.A (call (.ref f) us) (EP X pins Z Q) X.xe s:=by
 have hl:(us++[]).length=ps.length:=by rw[ou,<-r.length];exact F.len _ _ _ _ h
 have bb:=hb s us I.kIn hl
 rw[ou]at bb
 refine wpAny_call (KU (F.run X.A X.stack s H ⟨us,[]⟩ us vs Q E hr I.env0 bb r h) λr s' hq=>?_)
 cases r with
 | error e=>exact hx pins H s e s' I hq
 | ok fl =>
  cases fl with
  | ret u=>exact I.after hq
  | next=>exact False.elim hq
  | brk=>exact False.elim hq
  | cont=>exact False.elim hq
theorem lD(F:FnOk X.prog X.w X.K X.mg X.base (CX1 X.prog X.w) k f fd ps sp)(hr:Room k X.A)(hg:Gl X x)(hm:X.mg x=some (.ref f))(hk:PySem.W.keepIn X.K (.ref f)=true)(hb:L2.Binds X.K fd ps [])(hx:jR X Z E)
  (hdb:(x==("__debug__" : Str))=false) (he:starEach (e::es) X.env=(false,eval e X.env)::starEach es X.env) (hpl:(backTo pos (starEach es X.env)).any (·.1)=false)
  (h:dU X (e::es) Z H λvs H1=>sp vs H1 Q E):dW X (.Call (.Name x p) (e::es) [] pos) Z H Q:=by
 unfold dW
 intro pins s I
 unfold dU at h
 refine re (jG I hg hm ?_ hdb)
 refine PySem.W.callWith_K (h₀:=X.base) I.ok.mod.kin hk (thn (h pos pins s I) λus s1 ⟨vs,H1,I1,r,q⟩=>⟨I1.kIn,?_⟩) he hpl
 exact zb F hr hb hx I1 r q
end
section
variable {k:Nat} {mf:List D->M D} {ml:List D->M (List D)} {m1:List D->List D->M (D×List D)} {m1L:List D->List D->M (List D×List D)} {pn:Pos} {ps:Pa D} {pl:Pa (List D)} {ms:Ev S (List D)}
theorem eV(C:CF X.prog X.w X.K X.mg X.base x k (spD X.K n mf))(hr:Room k X.A)(ha:AA X (e::es) ps)(hg:Gl X x:=by rfl)(hn:(e::es).length=n:=by rfl)
  (hdb:(x==("__debug__" : Str))=false:=by decide) (he:starEach (e::es) X.env=(false,eval e X.env)::starEach es X.env:=by rfl) (hpl:(backTo pos (starEach es X.env)).any (·.1)=false:=by rfl):AP X (.Call (.Name x p) (e::es) [] pos) (Jc mf ps):=by
 obtain⟨f,fd,pl,Fn,h1,h2,h3⟩:=C.ex
 intro G F Z H ρ Q St w
 refine lD Fn hr hg h1 h2 h3 (rB (G:=G)) hdb he hpl ?_
 refine ha G F Z H ρ _ _ _ St w λds vs F1 H1 s1 S1 hl r1 w1=>?_
 show spD X.K n mf vs H1 Q (EX X G Z)
 cases hd:mf ds with
 | bad=>rw[hd]at w1;exact w1.elim
 | exc e =>
  rw[hd]at w1
  exact⟨_,F1,ds,hl.trans hn,cq S1 r1,by rw[hd];exact λF' H' Cl dd g xr=>EX.of S1 w1 g xr⟩
 | ret d =>
  rw[hd]at w1
  refine⟨_,F1,ds,hl.trans hn,cq S1 r1,?_⟩
  rw[hd]
  intro v F2 H2 s2 S2 r2
  obtain⟨S3,t3⟩:=gf (avs':=ds.map AV.fz) S1 s2 S2
  exact w1 F2 H2 s2 S3 v r2
theorem Ir(C:CF X.prog X.w X.K X.mg X.base x k (spL X.K n ml))(hr:Room k X.A)(ha:AA X (e::es) pl)(hg:Gl X x:=by rfl)(hn:(e::es).length=n:=by rfl)
  (hdb:(x==("__debug__" : Str))=false:=by decide) (he:starEach (e::es) X.env=(false,eval e X.env)::starEach es X.env:=by rfl) (hpl:(backTo pos (starEach es X.env)).any (·.1)=false:=by rfl):AL X (.Call (.Name x p) (e::es) [] pos) (Jb ml pl):=by
 obtain⟨f,fd,pz,Fn,h1,h2,h3⟩:=C.ex
 intro G F Z H ρ Q St w
 refine lD Fn hr hg h1 h2 h3 (rB (G:=G)) hdb he hpl ?_
 refine ha G F Z H ρ _ _ _ St w λds vs F1 H1 s1 S1 hl r1 w1=>?_
 show spL X.K n ml vs H1 Q (EX X G Z)
 cases hd:ml ds with
 | bad=>rw[hd]at w1;exact w1.elim
 | exc e =>
  rw[hd]at w1
  exact⟨_,F1,ds,hl.trans hn,cq S1 r1,by rw[hd];exact λF' H' Cl dd g xr=>EX.of S1 w1 g xr⟩
 | ret d =>
  rw[hd]at w1
  refine⟨_,F1,ds,hl.trans hn,cq S1 r1,?_⟩
  rw[hd]
  intro v F2 H2 s2 S2 r2
  obtain⟨S3,t3⟩:=gf (avs':=ds.map AV.fz) S1 s2 S2
  exact w1 F2 H2 s2 S3 v (t3 v _ r2)
theorem w5{f g:List D}(h:e9 ρ i=some g):kF ρ i f=setC ρ i (.l f):=kb ρ i f g h
theorem uW{OK:M S->Prop}{z:Ex->En->M S}{kk:List D->En->M S}{G:Gh}{Q:List V->Hp->Prop}(hN:X.N[i]? = some y)(hv:Vis X.env.scope y)(hd:(y==("__debug__" : Str))=false)(hcd:(y==("__classdict__" : Str))=false)
  (ha:AEa X es ms) (he:starEach (.Name y pn::es) X.env=(false,eval (.Name y pn) X.env)::starEach es X.env) (hO:KOk OK) (hX:XL X OK z G) (St:StOk X.K G F Z H ρ) (ok:OK (ms z (λds ρ1=>match e9 ρ1 i with|some f=>kk (.list f::ds) ρ1|none=>.bad) ρ))
  (h0:(e9 ρ i).isSome=true)
  (k2:∀a f ds vs F' H' ρ',Same F F'->StOk X.K G F' Z H' ρ'->e9 ρ' i=some f->Z[i]? = some (some (V.ref a))->vs.length=es.length->RepL X.K F' vs ds->OK (kk (.list f::ds) ρ')->Q (.ref a::vs) H'):dU X (.Name y pn::es) Z H Q:=by
 obtain⟨f0,hf0⟩:=Option.isSome_iff_exists.mp h0
 obtain⟨a,_,ea,_,_⟩:=cy St hf0
 refine tS (b6 (e8 hN hv hd hcd) bI he) ⟨_,ea,?_⟩
 refine ha OK z _ G F Z H ρ _ hO hX St ok λds vs F1 H1 ρ1 s1 S1 hl r1 o1=>?_
 split at o1
 ·rename_i f hf
  exact k2 a f ds vs F1 H1 ρ1 s1 S1 hf ea hl r1 o1
 ·exact(hO o1).elim
def ck{S α:Type}(i:Nat)(m:Ev S α):Ev S α:=λx k ρ=>match (e9 ρ i).isSome with
 | true=>m x k ρ
 | false=>.bad
theorem nh{G:Gh}{ds f:List D}{a:Addr}(S:StOk K G F Z H ρ)(hj:e9 ρ j=some f)(ha:Z[j]? = some (some (V.ref a)))(r:RepL K F vs ds) :
  StOk K ⟨P1 a,aT G Z ρ H (some a),F⟩ F ((V.ref a::vs).map some) H (some (.op (.l f))::fzs ds):=yr S (jx hj) ha r
theorem cj(C:CF X.prog X.w X.K X.mg X.base x k (sp1 X.K n m1))(hr:Room k X.A)(ha:AEa X es ms)(hg:Gl X x:=by rfl)(hN:X.N[i]? = some y:=by rfl)(hv:Vis X.env.scope y:=by exact vi rfl)(hn:es.length+1=n:=by rfl)
  (hdb:(x==("__debug__" : Str))=false:=by decide) (he:starEach (.Name y pn::es) X.env=(false,eval (.Name y pn) X.env)::starEach es X.env:=by rfl) (hpl:(backTo pos (starEach es X.env)).any (·.1)=false:=by rfl)
  (hd:(y==("__debug__" : Str))=false:=by decide) (hcd:(y==("__classdict__" : Str))=false:=by decide):AE X (.Call (.Name x p) (.Name y pn::es) [] pos) (ck i (Jp m1 i ms)):=by
 obtain⟨f,fd,pl,Fn,h1,h2,h3⟩:=C.ex
 intro OK z kk G F Z H ρ Q hO hX St ok k2
 unfold ck at ok
 split at ok
 case h_2=>exact(hO ok).elim
 rename_i h0
 refine lD Fn hr hg h1 h2 h3 (rB (G:=G)) hdb he hpl ?_
 refine uW (OK:=OK) (z:=z) (kk:=λl ρ1=>match l with | .list f::ds=>(m1 f ds).on (λe=>z e ρ1) (λr=>kk r.1 (kF ρ1 i r.2))|_=>.bad) hN hv hd hcd ha he hO hX St ok h0 λa f ds vs F1 H1 ρ1 s1 S1 hf ea hl r1 o1=>?_
 have o1':OK ((m1 f ds).on (λe=>z e ρ1) (λr=>kk r.1 (kF ρ1 i r.2))):=o1
 show sp1 X.K n m1 (V.ref a::vs) H1 Q (EX X G Z)
 cases hd:m1 f ds with
 | bad=>rw[hd]at o1';exact(hO o1').elim
 | exc e =>
  rw[hd]at o1'
  exact⟨_,F1,f,ds,by simp[hl];exact hn,nh S1 hf ea r1,by rw[hd];exact λF' H' Cl dd g xr=>EX.of S1 (hX F1 ρ1 e o1') g xr⟩
 | ret r =>
  rw[hd]at o1'
  refine⟨_,F1,f,ds,by simp[hl];exact hn,nh S1 hf ea r1,?_⟩
  rw[hd]
  intro v F2 H2 s2 S2 r2
  obtain⟨S3,t3⟩:=uQ (c':=.l r.2) (l:=ds.map AV.fz) S1 (jx hf) ea s2 S2
  rw[<-w5 hf]at S3
  exact k2 r.1 v F2 H2 _ (s1.trans s2) S3 r2 o1'
end
theorem _root_.L2.Room.m{k:Nat}(r:Room k A)(h:j<=k:=by decide):Room j A:=r.mono h
theorem aq{k:Nat}(r:Room k A):A.units+1100<cLine:=by have:=r.un;lia
def noX{S:Type}(m:M S):M S:=match m with
 | .ret s=>.ret s
 | _=>.bad
theorem eO(s:S):noX (M.ret s)=.ret s:=rfl
def bM(step:D->M (Option D)):List D->M (List D)
 | []=>.ret []
 | d::r=>bd (noX (step d)) λo=>bd (bM step r) λxs=>.ret (o.toList++xs)
theorem sT{step:D->M (Option D)}:∀{ds:List D} {e:Ex},bM step ds≠.exc e
 | [],e,h=>by cases h
 | d::r,e,h=>by
  unfold bM at h
  cases hs:step d with
  | ret o =>
   rw[hs,eO,gn]at h
   cases hr:bM step r with
   | ret xs=>rw[hr]at h;cases h
   | exc e'=>exact sT hr
   | bad=>rw[hr]at h;cases h
  | exc e'=>rw[hs]at h;cases h
  | bad=>rw[hs]at h;cases h
def rE(k:Nat)(it:Pu (List D))(t:Tg (Option D))(pt:Pu Bool)(pe:Pu D):Pu (List D):=λρ=>bd (it ρ) λds =>
 bd (bM (λd=>t d (λρ1=>bd (pt ρ1) λb=>if b then bd (pe ρ1) λv=>.ret (some v)else .ret none) (ρ++List.replicate k none)) ds) gH
def cC{T:Type}(step:T->D->M (Option D×T)):List D->T->M (List D×T)
 | [],s=>.ret ([],s)
 | d::r,s=>bd (noX (step s d)) λp=>bd (cC step r p.2) λq=>.ret (p.1.toList++q.1,q.2)
theorem sQ{T:Type}{step:T->D->M (Option D×T)}:∀{ds:List D} {s:T} {e:Ex},cC step ds s≠.exc e
 | [],s,e,h=>by cases h
 | d::r,s,e,h=>by
  unfold cC at h
  cases hs:step s d with
  | ret o =>
   rw[hs,eO,gn]at h
   cases hr:cC step r o.2 with
   | ret xs=>rw[hr]at h;cases h
   | exc e'=>exact sQ hr
   | bad=>rw[hr]at h;cases h
  | exc e'=>rw[hs]at h;cases h
  | bad=>rw[hs]at h;cases h
def Ec{S:Type}(sh:List Kd)(k:Nat)(it:Ev S (List D))(t:Tg (Option D×SOf sh))(et:Ev (Option D×SOf sh) Bool)(ee:Ev (Option D×SOf sh) D):Ev S (List D):=λx kk ρ=>it x (λds ρ1=>rdk sh (λs =>
 (cC (λs d=>t d (λρ2=>et (λe _=>.exc e) (λb ρ3=>if b then ee (λe _=>.exc e) (λv ρ4=>rdk sh (λs'=>.ret (some v,s')) (ρ4.take sh.length)) ρ3 else rdk sh (λs'=>.ret (none,s')) (ρ3.take sh.length)) ρ2) (wr sh s++List.replicate k none)) ds s).on
  (λe=>x e ρ1) (λq=>(gH q.1).on (λe=>x e ρ1) (λout=>kk out (wr sh q.2)))) ρ1) ρ
def Hr:Pu Bool:=λ_=>.ret true
def ATs(X:Cx)(ifs:List Expr)(p:Pu Bool):Prop :=
 ∀(G:Gh) (F:Hp) (Z:L2.St) (H:Hp) (ρ:En) (Q:Bool->Hp->Prop),StOk X.K G F Z H ρ->W X G F Z ρ (p ρ) (λd F' H'=>Q d H')->∀(pins:zzk) (s:Shared),Inv X pins Z H s ->
  wpAny (model X.prog X.w) X.A (forIn ifs true λc r=>if r=true then do let ok <-isTrue c X.env (eval c X.env);pure (ForInStep.yield ok)else pure (ForInStep.yield r)) (TP X pins Z Q) X.xe s
theorem gp:ATs X [] Hr:=λG F Z H ρ Q S w pins s I=>BR pins s Z H Q I (w F H (Same.refl _) S)
theorem C6{c:Expr}{p:Pu Bool}(h:AT X c p):ATs X [c] p:=λG F Z H ρ Q S w pins s I=>BQ dZ pins s Z H Q I (h G F Z H ρ Q S w)
def GE{S:Type}(X:Cx)(ifs:List Expr)(m:Ev S Bool):Prop :=
 ∀(OK:M S->Prop) (x:Ex->En->M S) (k:Bool->En->M S) (G:Gh) (F:Hp) (Z:L2.St) (H:Hp) (ρ:En) (Q:Bool->Hp->Prop),KOk OK->XL X OK x G->StOk X.K G F Z H ρ->OK (m x k ρ) ->
  (∀d F' H' ρ',Same F F'->StOk X.K G F' Z H' ρ'->OK (k d ρ')->Q d H')->∀(pins:zzk) (s:Shared),Inv X pins Z H s ->
  wpAny (model X.prog X.w) X.A (forIn ifs true λc r=>if r=true then do let ok <-isTrue c X.env (eval c X.env);pure (ForInStep.yield ok)else pure (ForInStep.yield r)) (TP X pins Z Q) X.xe s
theorem qL{ifs:List Expr}{p:Pu Bool}(h:ATs X ifs p):GE (S:=S) X ifs (ePu p):=λOK x k G F Z H ρ Q hO hX St ok kk=>h G F Z H ρ Q St (W.of hO hX ok λd F' H' s S' o=>kk d F' H' ρ s S' o)
theorem W.rets{G:Gh}{m:M α}{a:α}{C:α->Hp->Hp->Prop}(e:m=.ret a)(h:∀F' H',Same F F'->StOk X.K G F' Z H' ρ->C a F' H'):W X G F Z ρ m C:=by subst e;exact h
theorem yI:∀(sh:List Kd) (s:SOf sh),(wr sh s).length=sh.length:=by
 intro sh
 induction sh with
 | nil=>intro s;rfl
 | cons a r ih=>intro s;cases a<;>simp[wr,ih]
inductive CIv{τ:Type}(K:Fg)(G:Gh)(Z:L2.St)(k:Nat)(ds:List D)(F1:Hp)(en:τ->En)(go:Nat->τ->List D->Prop)(out:List D):Nat->Nat->List V->L2.St->Hp->Prop
 | mk {i:Nat} {vs:List V} {σ':L2.St} {H':Hp} (F':Hp) (acc rest:List D) (s:τ) (hi:i<=ds.length) (s2:Same F1 F') (S2:StOk K G F' σ' H' (en s)) (kp:∀j,j<Z.length->σ'[j]? = Z[j]?) (hl:σ'.length=Z.length+k) (rp:RepL K F' vs acc) (g:go i s rest) (eo:out=acc++rest):CIv K G Z k ds F1 en go out i (ds.length - i) vs σ' H'
theorem CIv.on{τ:Type}{G:Gh}{k:Nat}{ds:List D}{F1:Hp}{en:τ->En}{go:Nat->τ->List D->Prop}{out:List D}{σ':L2.St}(F':Hp)(acc rest:List D)(s:τ)(hi:i<ds.length)(s2:Same F1 F')(S2:StOk K G F' σ' H' (en s))(kp:∀j,j<Z.length->σ'[j]? = Z[j]?)(hl:σ'.length=Z.length+k)(rp:RepL K F' vs acc)(g:go (i+1) s rest)(eo:out=acc++rest):∃m',m'<ds.length - i/\CIv K G Z k ds F1 en go out (i+1) m' vs σ' H' :=
 ⟨ds.length - (i+1),by lia,⟨F',acc,rest,s,hi,s2,S2,kp,hl,rp,g,eo⟩⟩
theorem uN{step:D->M (Option D)}{d:D}{r rest:List D}(h:bM step (d::r)=.ret rest):∃o rest',step d=.ret o/\bM step r=.ret rest'/\rest=o.toList++rest':=by
 unfold bM at h
 cases hs:step d with
 | bad=>rw[hs]at h;cases h
 | exc e=>rw[hs]at h;cases h
 | ret o =>
  rw[hs,eO,gn]at h
  cases hr:bM step r with
  | bad=>rw[hr]at h;cases h
  | exc e=>rw[hr]at h;cases h
  | ret rest'=>rw[hr,gn]at h;cases h;exact⟨o,rest',rfl,rfl,rfl⟩
theorem uM{T:Type}{step:T->D->M (Option D×T)}{d:D}{r rest:List D}{s sf:T}(h:cC step (d::r) s=.ret (rest,sf)):∃o sn rest',step s d=.ret (o,sn)/\cC step r sn=.ret (rest',sf)/\rest=o.toList++rest':=by
 unfold cC at h
 cases hs:step s d with
 | bad=>rw[hs]at h;cases h
 | exc e=>rw[hs]at h;cases h
 | ret o =>
  obtain⟨o,sn⟩:=o
  rw[hs,eO,gn]at h
  cases hr:cC step r sn with
  | bad=>rw[hr]at h;cases h
  | exc e=>rw[hr]at h;cases h
  | ret q'=>obtain⟨rest',sf'⟩:=q';rw[hr,gn]at h;cases h;exact⟨o,sn,rest',rfl,hr,rfl⟩
theorem pG{A B:Type}{m:M A}{f:A->M B}{b:B}(h:bd m f=.ret b):∃a,m=.ret a/\f a=.ret b:=by
 cases m with
 | bad=>cases h
 | exc e=>cases h
 | ret a=>exact⟨a,rfl,h⟩
section
def nX(X:Cx)(N':List Str)(scope:Scope)(tg:Expr):TG:=λv Z H Q=>∀cl s H0 fp C,nV (aR X N' scope cl s H0 fp C) tg v Z H Q
def nW(X:Cx)(N':List Str)(scope:Scope)(ifs:List Expr):TT:=λZ H Q=>∀cl s0 H0 fp C,∀(pins:zzk) (s:Shared),Inv (aR X N' scope cl s0 H0 fp C) pins Z H s ->
  wpAny (model X.prog X.w) (aR X N' scope cl s0 H0 fp C).A (forIn ifs true λc r=>if r=true then do let ok <-isTrue c (aR X N' scope cl s0 H0 fp C).env (eval c (aR X N' scope cl s0 H0 fp C).env);pure (ForInStep.yield ok)else pure (ForInStep.yield r)) (TP (aR X N' scope cl s0 H0 fp C) pins Z Q) (aR X N' scope cl s0 H0 fp C).xe s
def nY(X:Cx)(N':List Str)(scope:Scope)(e:Expr):TE:=λZ H Q=>∀cl s H0 fp C,dW (aR X N' scope cl s H0 fp C) e Z H Q
variable {elt iter:Expr} {ifs:List Expr} {scope:Scope} {N':List Str} {k:Nat}
theorem qz{it:Pu (List D)}{t:Tg (Option D)}{pt:Pu Bool}{pe:Pu D}{G:Gh}(hi:AI X tg iter it)
  (hg:∀cl s H fp C,AG (aR X N' scope cl s H fp C) X.N.length tg t) (ht:∀cl s H fp C,ATs (aR X N' scope cl s H fp C) ifs pt) (he:∀cl s H fp C,AP (aR X N' scope cl s H fp C) elt pe)
  (hσ:Z.length=X.N.length) (St:StOk X.K G F Z H ρ) (w:W X G F Z ρ (rE k it t pt pe ρ) λds F' H'=>∀v,Frs X.K G F' Z H' ρ v (.l ds)->Q v H') :
  vy (gv X tg iter) k (nX X N' scope tg) (nW X N' scope ifs) (nY X N' scope elt) Z H Q:=by
 refine hi G F Z H ρ _ St (w.bind.imp λds F1 H1 s1 S1 w1 J wk=>?_)
 have hP:∀i a,G.P i=some a->i<Z.length:=λi a h=>(List.getElem?_eq_some_iff.mp (S1.pp i a h).1).1
 have hln:Z.length=ρ.length:=S1.ln
 have wc:=w1.bind
 revert wc
 generalize hstep:(λd=>t d (λρ1=>bd (pt ρ1) λb=>if b then bd (pe ρ1) λv=>.ret (some v)else .ret none) (ρ++List.replicate k none))=step
 intro wc
 cases hcc:bM step ds with
 | bad=>rw[hcc]at wc;exact wc.elim
 | exc e=>exact(sT hcc).elim
 | ret out =>
  rw[hcc]at wc
  have wf:∀F' H',Same F1 F'->StOk X.K G F' Z H' ρ->W X G F' Z ρ (gH out) λds F' H'=>∀v,Frs X.K G F' Z H' ρ v (.l ds)->Q v H':=wc
  have hfit:out.length<=sizeLine:=(wf F1 H1 (Same.refl _) S1).fit.1
  have fin:∀F' H',Same F1 F'->StOk X.K G F' Z H' ρ->∀v,Frs X.K G F' Z H' ρ v (.l out)->Q v H':=λF' H' s' S'=>(wf F' H' s' S').fit.2 F' H' (Same.refl _) S'
  have grown:∀{F' H' σ' ρ'},StOk X.K G F' σ' H' ρ'->(∀j,j<Z.length->σ'[j]? = Z[j]? /\ ρ'[j]? = ρ[j]?)->σ'.length=Z.length+k->StOk X.K G F' σ' H' (ρ++List.replicate k none):=λ{F' H' σ' ρ'} S' kp hl=>by
   refine S'.weak (by have:=S'.ln;simp;lia) (λi av q=>?_) (λi c q=>?_)
   ·have q':=fM q
    have hi:i<Z.length:=by rw[hln];exact(List.getElem?_eq_some_iff.mp q').1
    rw[(kp i hi).2];exact q'
   ·obtain⟨a,ha⟩:=S'.pq i c q
    have hi:=hP i a ha
    rw[lf (by lia),<-(kp i hi).2]
    exact q
  refine⟨CIv X.K G Z k ds F1 (λ_:Unit=>ρ++List.replicate k none) (λi _ rest=>bM step (ds.drop i)=.ret rest) out,
   ⟨_,⟨F1,[],out,(),bi _,Same.refl _,S1.grow k,λj hj=>by rw[lf hj],by simp,.nil,hcc,rfl⟩⟩,?_⟩
  rintro i m vs σ' H' ⟨F',acc,rest,_,hi,s2,S2,kp,hlen,rp,go,eo⟩
  refine⟨by rw[rp.length];rw[eo,zzf]at hfit;lia,?_⟩
  by_cases hlt:i<ds.length
  ·refine .inr ⟨wk.go i G F' σ' H' _ s2 S2 hlt,λx H2 y cl s0 H0 fp C=>?_⟩
   obtain⟨F3,s3,S3,r3⟩:=wk.yld i G F' σ' H' _ x H2 ds[i] s2 S2 (ic hlt) y
   rw[su hlt]at go
   obtain⟨o,rest',hst,hr,er⟩:=uN go
   subst er
   clear go
   rw[<-hstep]at hst
   refine hg cl s0 H0 fp C (λm=>m=.ret o) _ G F3 σ' H2 _ x ds[i] _ (λz=>nomatch z) S3 r3 hst λσ3 ρ3 S4 kp3 hl3 ml3 o4=>?_
   have kp':∀j,j<Z.length->σ3[j]? = Z[j]? /\ ρ3[j]? = ρ[j]?:=λj hj=>⟨((kp3 j (by lia)).1).trans (kp j hj),by rw[(kp3 j (by lia)).2,lf (by lia)]⟩
   obtain⟨b,hpt,o4⟩:=pG o4
   intro cl s0 H0 fp C
   refine ht cl s0 H0 fp C G F3 σ3 H2 ρ3 _ S4 (W.rets hpt λF5 H5 s5 S5=>?_)
   cases b with
   | true =>
    refine sv ?_
    obtain⟨v,hpe,o5⟩:=pG (m:=pe ρ3) o4
    cases o5
    intro cl s0 H0 fp C
    refine he cl s0 H0 fp C G F5 σ3 H5 ρ3 _ S5 (W.rets hpe λF6 H6 s6 S6 u ru=>?_)
    exact CIv.on F6 (acc++[v]) rest' () hlt (((s2.trans s3).trans s5).trans s6) (grown S6 kp' (by lia)) (λj hj=>(kp' j hj).1) (by lia) ((rp.mono ((s3.trans s5).trans s6)).append (.cons ru .nil)) hr (by rw[eo];simp)
   | false =>
    refine uC ?_
    have o4':(M.ret none:M (Option D))=M.ret o:=o4
    cases o4'
    exact CIv.on F5 acc rest' () hlt ((s2.trans s3).trans s5) (grown S5 kp' (by lia)) (λj hj=>(kp' j hj).1) (by lia) (rp.mono (s3.trans s5)) hr (by rw[eo];simp)
  ·have ei:i=ds.length:=by lia
   subst ei
   rw[KN]at go
   cases go
   rw[ou]at eo
   subst eo
   refine .inl ⟨wk.stop G F' σ' H' _ s2 S2,λp hp=>?_⟩
   have Ssh:=S2.shrink (n:=Z.length) (by simp;lia) hP
   have e1:σ'.take Z.length=Z:=lv kp rfl
   have e2:(ρ++List.replicate k none).take Z.length=ρ:=by rw[hln,List.take_left]
   rw[e1,e2]at Ssh
   obtain⟨S5,r5⟩:=Ssh.newLst hp rp
   exact fin F' _ s2 S5 _ r5
theorem wR{it:Pu (List D)}{t:Tg (Option D)}{pt:Pu Bool}{pe:Pu D}(hc:X.calm=true)(Sc:CompOk X N' k scope)(hi:AI X tg iter it)
  (hg:∀cl s H fp C,AG (aR X N' scope cl s H fp C) X.N.length tg t) (ht:∀cl s H fp C,ATs (aR X N' scope cl s H fp C) ifs pt) (he:∀cl s H fp C,AP (aR X N' scope cl s H fp C) elt pe)
  (hs:∀x,foldedSetIterable iter X.env x=pure x:=by exact λ_=>rfl):AL X (.ListComp elt [⟨tg,iter,ifs,0⟩] scope pos) (rE k it t pt pe):=by
 intro G F Z H ρ Q St w;unfold dW;intro pins s I
 refine vN (wi:=gv X tg iter) (g:=nX X N' scope tg) (tc:=nW X N' scope ifs) (te:=nY X N' scope elt) hc Sc (λx hx hf=>I.ok.has x.1 (Sc.free x hx hf)) lV
  (λcl s H fp C pins s' Z H v u Q I r h=>jh pins s' Z H v u Q I r (h cl _ _ fp C)) (λcl s H fp C pins s' Z H Q I h=>h cl _ _ fp C pins s' I) (λcl s H fp C pins s' Z H Q I h=>aC pins s' Z H Q I (h cl _ _ fp C)) hs pins s Z H Q I (qz hi hg ht he I.len St w)
theorem AH{sh:List Kd}{it:Ev S (List D)}{t:Tg (Option D×SOf sh)}{et:Ev (Option D×SOf sh) Bool}{ee:Ev (Option D×SOf sh) D}{OK:M S->Prop}{x:Ex->En->M S}{kk:List D->En->M S}{G:Gh}(hi:AEi X tg iter it)
  (hg:∀cl s H fp C,AG (aR X N' scope cl s H fp C) X.N.length tg t) (ht:∀cl s H fp C,GE (aR X N' scope cl s H fp C) ifs et) (he:∀cl s H fp C,AE (aR X N' scope cl s H fp C) elt ee)
  (hσ:Z.length=X.N.length) (hO:KOk OK) (hX:XL X OK x G) (St:StOk X.K G F Z H ρ) (ok:OK (Ec sh k it t et ee x kk ρ)) (k2:∀ds v F' H' ρ',Same F F'->StOk X.K G F' Z H' ρ'->Frs X.K G F' Z H' ρ' v (.l ds)->OK (kk ds ρ')->Q v H') :
  vy (gv X tg iter) k (nX X N' scope tg) (nW X N' scope ifs) (nY X N' scope elt) Z H Q:=by
 refine hi OK x _ G F Z H ρ _ hO hX St ok λds J F1 H1 ρ1 s1 S1 wk o1=>?_
 obtain⟨s0,e0,o0⟩:=dY hO o1
 clear o1
 have S0:=S1.rd e0
 have hshl:sh.length=Z.length:=(yI sh s0).symm.trans S0.ln.symm
 have hlen0:∀s:SOf sh,(wr sh s).length=Z.length:=λs=>(yI sh s).trans hshl
 have hP:∀i a,G.P i=some a->i<Z.length:=λi a h=>(List.getElem?_eq_some_iff.mp (S1.pp i a h).1).1
 revert o0
 generalize hstep:(λ(s:SOf sh) d=>t d (λρ2=>et (λe _=>.exc e) (λb ρ3=>if b then ee (λe _=>.exc e) (λv ρ4=>rdk sh (λs'=>.ret (some v,s')) (ρ4.take sh.length)) ρ3 else rdk sh (λs'=>.ret (none,s')) (ρ3.take sh.length)) ρ2) (wr sh s++List.replicate k none))=step
 intro o0
 cases hcc:cC step ds s0 with
 | bad=>rw[hcc]at o0;exact(hO o0).elim
 | exc e=>exact(sQ hcc).elim
 | ret q =>
  obtain⟨out,sf⟩:=q
  rw[hcc,E7]at o0
  obtain⟨hfit,o0⟩:=FM hO o0
  have again:∀{F' H' σ' ρ'} {s':SOf sh},StOk X.K G F' σ' H' ρ'->(∀j,j<Z.length->σ'[j]? = Z[j]?)->σ'.length=Z.length+k->rd sh (ρ'.take sh.length)=some s'->StOk X.K G F' σ' H' (wr sh s'++List.replicate k none):=λ{F' H' σ' ρ' s'} S' kp hl e'=>by
   obtain⟨h1,h2,h3⟩:=gQ sh _ s' e'
   have hρ':ρ'.length=Z.length+k:=by rw[<-S'.ln];exact hl
   refine S'.weak (by simp[hlen0];lia) (λi av q=>?_) (λi c q=>?_)
   ·have q':=fM q
    have:=h2 i av q'
    have hi:i<sh.length:=by
     have:=(List.getElem?_eq_some_iff.mp this).1
     rw[ng]at this;lia
    rw[mo hi]at this
    exact this
   ·obtain⟨a,ha⟩:=S'.pq i c q
    have hi:=hP i a ha
    rw[lf (by rw[hlen0];exact hi)]
    exact h3 i c (by rw[mo (by lia)];exact q)
  refine⟨CIv X.K G Z k ds F1 (λs=>wr sh s++List.replicate k none) (λi s rest=>cC step (ds.drop i) s=.ret (rest,sf)) out,
   ⟨_,⟨F1,[],out,s0,bi _,Same.refl _,S0.grow k,λj hj=>by rw[lf hj],by simp,.nil,hcc,rfl⟩⟩,?_⟩
  rintro i m vs σ' H' ⟨F',acc,rest,sc,hi,s2,S2,kp,hlen,rp,go,eo⟩
  refine⟨by rw[rp.length];rw[eo,zzf]at hfit;lia,?_⟩
  by_cases hlt:i<ds.length
  ·refine .inr ⟨wk.go i G F' σ' H' _ s2 S2 hlt,λx H2 y cl sx H0 fp C=>?_⟩
   obtain⟨F3,s3,S3,r3⟩:=wk.yld i G F' σ' H' _ x H2 ds[i] s2 S2 (ic hlt) y
   rw[su hlt]at go
   obtain⟨o,sn,rest',hst,hr,er⟩:=uM go
   subst er
   clear go
   rw[<-hstep]at hst
   refine hg cl sx H0 fp C (λm=>m=.ret (o,sn)) _ G F3 σ' H2 _ x ds[i] _ (λz=>nomatch z) S3 r3 hst λσ3 ρ3 S4 kp3 hl3 ml3 o4=>?_
   have kp':∀j,j<Z.length->σ3[j]? = Z[j]?:=λj hj=>((kp3 j (by lia)).1).trans (kp j hj)
   intro cl sx H0 fp C
   refine ht cl sx H0 fp C (λm=>m=.ret (o,sn)) (λe _=>.exc e) _ G F3 σ3 H2 ρ3 _ (λz=>nomatch z) (λF ρ e z=>nomatch z) S4 o4 λb F5 H5 ρ5 s5 S5 o5=>?_
   cases b with
   | true =>
    refine sv ?_
    intro cl sx H0 fp C
    refine he cl sx H0 fp C (λm=>m=.ret (o,sn)) (λe _=>.exc e) _ G F5 σ3 H5 ρ5 _ (λz=>nomatch z) (λF ρ e z=>nomatch z) S5 o5 λv u F6 H6 ρ6 s6 S6 ru o6=>?_
    obtain⟨s',e',o'⟩:=dY (OK:=λm=>m=.ret (o,sn)) (λz=>nomatch z) o6
    cases o'
    exact CIv.on F6 (acc++[v]) rest' sn hlt (((s2.trans s3).trans s5).trans s6) (again S6 kp' (by lia) e') kp' (by lia) ((rp.mono ((s3.trans s5).trans s6)).append (.cons ru .nil)) hr (by rw[eo];simp)
   | false =>
    refine uC ?_
    obtain⟨s',e',o'⟩:=dY (OK:=λm=>m=.ret (o,sn)) (λz=>nomatch z) o5
    cases o'
    exact CIv.on F5 acc rest' sn hlt ((s2.trans s3).trans s5) (again S5 kp' (by lia) e') kp' (by lia) (rp.mono (s3.trans s5)) hr (by rw[eo];simp)
  ·have ei:i=ds.length:=by lia
   subst ei
   rw[KN]at go
   cases go
   rw[ou]at eo
   subst eo
   refine .inl ⟨wk.stop G F' σ' H' _ s2 S2,λp hp=>?_⟩
   have Ssh:=S2.shrink (n:=Z.length) (by simp[hlen0]) hP
   have e1:σ'.take Z.length=Z:=lv kp rfl
   have e2:(wr sh sf++List.replicate k none).take Z.length=wr sh sf:=by rw[<-hlen0 sf,List.take_left]
   rw[e1,e2]at Ssh
   obtain⟨S5,r5⟩:=Ssh.newLst hp rp
   exact k2 _ _ F' _ _ (s1.trans s2) S5 r5 o0
theorem nz{sh:List Kd}{it:Ev S (List D)}{t:Tg (Option D×SOf sh)}{et:Ev (Option D×SOf sh) Bool}{ee:Ev (Option D×SOf sh) D}(hc:X.calm=true)(Sc:CompOk X N' k scope)(hi:AEi X tg iter it)
  (hg:∀cl s H fp C,AG (aR X N' scope cl s H fp C) X.N.length tg t) (ht:∀cl s H fp C,GE (aR X N' scope cl s H fp C) ifs et) (he:∀cl s H fp C,AE (aR X N' scope cl s H fp C) elt ee)
  (hs:∀x,foldedSetIterable iter X.env x=pure x:=by exact λ_=>rfl):AEl X (.ListComp elt [⟨tg,iter,ifs,0⟩] scope pos) (Ec sh k it t et ee):=by
 intro OK x kk G F Z H ρ Q hO hX St ok k2;unfold dW;intro pins s I
 refine vN (wi:=gv X tg iter) (g:=nX X N' scope tg) (tc:=nW X N' scope ifs) (te:=nY X N' scope elt) hc Sc (λx hx hf=>I.ok.has x.1 (Sc.free x hx hf)) lV
  (λcl s H fp C pins s' Z H v u Q I r h=>jh pins s' Z H v u Q I r (h cl _ _ fp C)) (λcl s H fp C pins s' Z H Q I h=>h cl _ _ fp C pins s' I) (λcl s H fp C pins s' Z H Q I h=>aC pins s' Z H Q I (h cl _ _ fp C)) hs pins s Z H Q I (AH hi hg ht he I.len hO hX St ok k2)
theorem kD{spos:Pos}{it:Pu (List D)}{t:Tg (Option D)}{pt:Pu Bool}{pe:Pu D}
  (hN:X.N.Nodup) (hy:X.N[i]? = some y) (hly:Loc X.env.scope y) (hfn:X.fn y=true\/X.env.scope.names.lookup y=some .local) (hc:X.calm=true) (Sc:CompOk X N' k scope) (hi:AI X tg iter it)
  (hg:∀cl s H fp C,AG (aR X N' scope cl s H fp C) X.N.length tg t) (ht:∀cl s H fp C,ATs (aR X N' scope cl s H fp C) ifs pt) (he:∀cl s H fp C,AP (aR X N' scope cl s H fp C) elt pe)
  (hsw:swapsWith (.ListComp elt [⟨tg,iter,ifs,0⟩] scope pos) (some (.Name y pos')) spos.line X.env=pure true) (hs:∀x,foldedSetIterable iter X.env x=pure x) :
  AS (S:=S) X (.Assign [.Name y pos'] (.ListComp elt [⟨tg,iter,ifs,0⟩] scope pos) spos) (Dz i (ePu (rE k it t pt pe))):=by
 intro OK K G F Z H ρ E hO hX St ok eo;unfold jt;intro pins s I
 refine lR (wi:=gv X tg iter) (g:=nX X N' scope tg) (tc:=nW X N' scope ifs) (te:=nY X N' scope elt) hN hy hly hfn hc Sc (λx hx hf=>I.ok.has x.1 (Sc.free x hx hf)) lV
  (λcl s H fp C pins s' Z H v u Q I r h=>jh pins s' Z H v u Q I r (h cl _ _ fp C)) (λcl s H fp C pins s' Z H Q I h=>h cl _ _ fp C pins s' I) (λcl s H fp C pins s' Z H Q I h=>aC pins s' Z H Q I (h cl _ _ fp C)) hsw hs pins s Z H E I ?_
 refine qz hi hg ht he I.len St ?_
 refine W.of hO hX ok λd F' H' s S' o v r=>?_
 have o':OK (match eN ρ i with|true=>K.nx (ρ.set i (some (.ol (.l d))))|false=>.bad):=o
 split at o'
 ·rename_i ho
  obtain⟨hl,hop⟩:=bY ho
  exact eo.nx F' _ H' _ s (S'.store hop hl (.inr ⟨.l d,rfl,r⟩)) o'
 ·exact(hO o').elim
theorem u7{spos:Pos}{it:Pu (List D)}{t:Tg (Option D)}{pt:Pu Bool}{pe:Pu D}
  (hN:X.N.Nodup) (hy:X.N[i]? = some y) (hly:Loc X.env.scope y) (hfn:X.fn y=true\/X.env.scope.names.lookup y=some .local) (hc:X.calm=true) (Sc:CompOk X N' k scope) (hi:AI X tg iter it)
  (hg:∀cl s H fp C,AG (aR X N' scope cl s H fp C) X.N.length tg t) (ht:∀cl s H fp C,ATs (aR X N' scope cl s H fp C) ifs pt) (he:∀cl s H fp C,AP (aR X N' scope cl s H fp C) elt pe)
  (hsw:swapsWith (.ListComp elt [⟨tg,iter,ifs,0⟩] scope pos) (some (.Name y pos')) spos.line X.env=pure true) (hs:∀x,foldedSetIterable iter X.env x=pure x) :
  AS (S:=S) X (.Assign [.Name y pos'] (.ListComp elt [⟨tg,iter,ifs,0⟩] scope pos) spos) (GX i (ePu (pZ (rE k it t pt pe)))):=by
 intro OK K G F Z H ρ E hO hX St ok eo;unfold jt;intro pins s I
 refine lR (wi:=gv X tg iter) (g:=nX X N' scope tg) (tc:=nW X N' scope ifs) (te:=nY X N' scope elt) hN hy hly hfn hc Sc (λx hx hf=>I.ok.has x.1 (Sc.free x hx hf)) lV
  (λcl s H fp C pins s' Z H v u Q I r h=>jh pins s' Z H v u Q I r (h cl _ _ fp C)) (λcl s H fp C pins s' Z H Q I h=>h cl _ _ fp C pins s' I) (λcl s H fp C pins s' Z H Q I h=>aC pins s' Z H Q I (h cl _ _ fp C)) hsw hs pins s Z H E I ?_
 refine qz hi hg ht he I.len St ?_
 have w:W X G F Z ρ (pZ (rE k it t pt pe) ρ) (λd F' H'=>∀v,Rep X.K F' v d->sC i v Z H' E.nx):=W.of hO hX ok λd F' H' s S' o v r=>by
  have o':OK (match eN ρ i with|true=>K.nx (ρ.set i (some (.fz d)))|false=>.bad):=o
  split at o'
  ·rename_i ho
   obtain⟨hl,hop⟩:=bY ho
   exact eo.nx F' _ H' _ s (S'.store hop hl (.inl ⟨d,rfl,r⟩)) o'
  ·exact(hO o').elim
 refine w.bind.imp λds F' H' s1 S1 w1 v fr=>?_
 obtain⟨F2,s2,S2,r2⟩:=S1.settle (v:=v) (ds:=ds) fr
 exact w1 F2 H' s2 S2 v r2
end
end L4
namespace HT
open PySem PySem.Spec PyProof.Rows
section
variable {prog:Program}{w:World}{A:Around}{E:zzj}{s:Shared}
theorem getItem_tuple_all{t sl:Addr}{items:Array Value}{vl vu:Value}{lo hi:Option Int}{Q:zzj}(ht:IsTup s.heap t items)(hs:s.heap.IsSliceOf sl vl vu .none)(pl:IsPart vl lo)(pu:IsPart vu hi)
  (hw:sIx items.size 0 lo=0/\sIx items.size items.size hi=items.size) (h:Q (.ref t) s):wpAny (model prog w) A (getItem (.ref t) (.ref sl)) Q E s:=by
 obtain⟨os,hos,hcs,hds⟩:=id hs
 have hTs:s.TypeIs (.ref sl) "slice":=⟨os,hos,hcs⟩
 unfold getItem
 try with_reducible refine sk ?_
 first|refine zza (zzb ?_)|skip
 refine zza (wpAny_sequenceKey ht.typeIs (by decide) ?_)
 refine zza (se (name:=Str.ofString "__getitem__") ht.typeIs Ch
  (wd Ch ht.typeIs entry_tuple_getitem ?_ (args_tuple_getitem _ _)))
 show wpAny _ _ (Builtin.Tuple.tupleItemsOf (.ref t) >>= _) _ _ s
 refine zza (tupleItemsOf_ ht ?_)
 refine zza (JM hTs ?_)
 rw[aw (by decide)]
 refine zza (fq hs pl pu ?_)
 have hyes:((((sIx items.size 0 lo:Nat):Int)==0&&(1:Int)==1&&(sIx items.size items.size hi - sIx items.size 0 lo)==items.size)=true):=by
  rw[hw.1,hw.2]
  simp
 show wpAny _ _ (if(((sIx items.size 0 lo:Nat):Int)==0&&(1:Int)==1&&(sIx items.size items.size hi - sIx items.size 0 lo)==items.size)=true then _ else _) _ _ s
 rw[aw hyes]
 obtain⟨o,ho,hc,n,hd⟩:=id ht
 have hex:∀{Q':Bool->Shared->Prop},Q' true s->wpAny (model prog w) A.in1 (Builtin.Tuple.tupleIsExact (.ref t)) Q' E s:=λ{Q'} q=>by
  unfold Builtin.Tuple.tupleIsExact
  refine zza (JM ht.typeIs (zzb ?_))
  exact q
 first
  | exact zza (hex (zza (JJ (zzb ⟨_,rfl,zzb h⟩))))
  | exact zza (zza (hex (zza (JJ (zzb (zzb ⟨_,rfl,zzb h⟩))))))
end
end HT
namespace L4
open PySem PySem.Spec PyProof.Rows L2 L3
variable {X:Cx}{K:Fg}{e:Expr}{pos:Pos}{x:Str}
def cutD(ds:List D)(lo hi:Option Int):List D:=(ds.drop (HT.sIx ds.length 0 lo)).take (HT.sIx ds.length ds.length hi - HT.sIx ds.length 0 lo)
theorem wL{F:Hp}{vs:List V}{ds:List D}(r:RepL K F vs ds)(lo hi:Option Int):RepL K F (sO vs lo hi) (cutD ds lo hi):=by
 unfold sO cutD
 rw[r.length]
 exact(r.drop _).take _
def IT(K:Fg):V->Option Int->Option Int->Hp->VK->Prop:=λx lo hi H Q=>∃a xs,x=.ref a/\SqT K H a xs/\(HT.sIx xs.length 0 lo=0/\HT.sIx xs.length xs.length hi=xs.length)/\Q x H
theorem sl_tupA:SlR X (IT X.K):=by
 intro pins s Z H x v vl vu lo hi sl Q I rx hs pl pu h
 obtain⟨a,xs,rfl,hx,hw,q⟩:=h
 cases rx
 obtain⟨its,r,ht,hz⟩:=I.tuple hx
 have hlen:its.toArray.size=xs.length:=by rw[be];exact r.length.symm
 refine⟨"tuple",_,PyProof.Rows.slot_tuple_getitem.lookup,ht.typeIs,?_⟩
 exact HT.getItem_tuple_all ht hs pl pu (by rw[hlen];exact hw) ⟨.ref a,H,I,rfl,q⟩
def IZ:Pu (Option Int):=λ_=>.ret none
def asI(d:D):M (Option Int):=match d with
 | .int i=>.ret (some i)
 | _=>.bad
def Ja(p:Pu D):Pu (Option Int):=λρ=>bd (p ρ) asI
def iO(d:D)(lo hi:Option Int):Option D:=match d with
 | .tuple ds=>some (.tuple (cutD ds lo hi))
 | .list ds=>some (.list (cutD ds lo hi))
 | _=>none
def E2(p:Pu D)(l h:Pu (Option Int)):Pu D:=λρ=>bd (p ρ) λd=>bd (l ρ) λlo=>bd (h ρ) λhi=>oM (iO d lo hi)
def APo(X:Cx)(e:Option Expr)(p:Pu (Option Int)):Prop :=
 ∀(G:Gh) (F:Hp) (Z:L2.St) (H:Hp) (ρ:En) (Q:Option Int->Hp->Prop),StOk X.K G F Z H ρ->W X G F Z ρ (p ρ) (λd F' H'=>Q d H')->∀(pins:zzk) (s:Shared),Inv X pins Z H s ->
  wpAny (model X.prog X.w) X.A (evalPart e X.env) (λu s'=>∃o H',Inv X pins Z H' s'/\IsPart u o/\Q o H') X.xe s
def GL(X:Cx)(e:Option Expr):TO:=λZ H Q=>∀(pins:zzk) (s:Shared),Inv X pins Z H s->wpAny (model X.prog X.w) X.A (evalPart e X.env) (λu s'=>∃o H',Inv X pins Z H' s'/\IsPart u o/\Q o H') X.xe s
theorem zu{e:Option Expr}:PO X e (GL X e):=λpins s Z H Q I h=>h pins s I
section
variable {lo hi:Option Expr} {p:Pu D} {pl ph:Pu (Option Int)} {p2:Pos}
theorem fO:APo X none IZ:=λG F Z H ρ Q S w pins s I=>BZ pins s Z H Q I (w F H (Same.refl _) S)
theorem fN(h:AP X e p):APo X (some e) (Ja p):=λG F Z H ρ Q S w pins s I=>BY aC pins s Z H Q I (h G F Z H ρ _ S (w.bind.imp λd F1 H1 s1 S1 w1 v r=>by
 cases r with
 | int i=>exact⟨i,rfl,w1 F1 H1 (Same.refl _) S1⟩
 | bl b=>exact w1.elim
 | non=>exact w1.elim
 | str i=>exact w1.elim
 | tup _ _=>exact w1.elim
 | lst _ _=>exact w1.elim
 | dct _ _ _=>exact w1.elim
 | dck _ _ _=>exact w1.elim
 | exc _ _ _ _ _=>exact w1.elim
 | fn _=>exact w1.elim))
theorem fP(he:AO X e p)(hl:APo X lo pl)(hh:APo X hi ph):AP X (.Subscript e (.Slice lo hi none p2) pos) (E2 p pl ph) :=
 λG F Z H ρ Q S w=>sem (zC (sl_tup.or (sl_tupA.or BC)) aC zu zu) (he G F Z H ρ _ S (w.bind.imp λd F1 H1 s1 S1 w1 x hx =>
  hl G F1 Z H1 ρ _ S1 (w1.bind.imp λlo F2 H2 s2 S2 w2=>hh G F2 Z H2 ρ _ S2 (w2.bind.imp λhi F3 H3 s3 S3 w3=>by
   obtain⟨res,hr,k⟩:=w3.opt
   have ox:=(hx.mono (s2.trans s3)).or S3
   cases d<;>try (cases hr)
   ·obtain⟨a,vs,rfl,h1,h2⟩:=ox.list S3.fh
    refine .inr (.inr ⟨a,vs,rfl,h1,λq hq=>?_⟩)
    obtain⟨S4,r4⟩:=S3.newLst hq (wL h2 lo hi)
    obtain⟨F5,s5,S5,r5⟩:=S4.settle r4
    exact k F5 _ s5 S5 _ r5
   ·rename_i ds
    obtain⟨a,vs,rfl,h1,h2⟩:=ox.tuple S3.fh
    by_cases hw:HT.sIx vs.length 0 lo=0/\HT.sIx vs.length vs.length hi=vs.length
    ·refine .inr (.inl ⟨a,vs,rfl,h1,hw,k F3 H3 (Same.refl _) S3 _ ?_⟩)
     have:cutD ds lo hi=ds:=by
      unfold cutD
      rw[<-h2.length,hw.1,hw.2]
      simp[h2.length]
     rw[this]
     exact ox.tup'
    ·refine .inl ⟨a,vs,rfl,h1,hw,λq hq=>?_⟩
     obtain⟨s4,S4,r4⟩:=S3.newTup hq (wL h2 lo hi)
     exact k _ _ s4 S4 _ r4))))
end
def db(d e:D):Option Bool:=match d,e with
 | .bool a,.bool b=>some (a != b)
 | _,.none=>some (!isNone d)
 | _,_=>none
section
theorem lX:OpR X (compareOp .IsNot) (rD2 X.K db):=by
 intro pins s Z H x y v u Q I rx ry ⟨d,e,b,r1,r2,ho,q⟩
 unfold db at ho
 split at ho
 ·cases ho
  obtain rfl:=r1.bool_inv
  obtain rfl:=r2.bool_inv
  cases rx
  cases ry
  exact PyProof.Rows.isnot_bool ⟨.bl _,H,I,rfl,q⟩
 ·exact zK pins s Z H x y v u Q I rx ry ⟨d,.none,b,r1,r2,by rw[<-ho];rfl,q⟩
 ·cases ho
end
def sA(T:String)(d:D):Option Bool:=if isFn d then none else some (isT T d)
def pIs(T:String)(p:Pu D):Pu Bool:=λρ=>bd (p ρ) λd=>oM (sA T d)
def IW(K:Fg)(T:String):List V->Hp->VK->Prop:=λxs H Q=>∃v d,xs=[v,.ty T]/\Rep K H v d/\isFn d=false/\Q (.bl (isT T d)) H
theorem C3{T:String}(hT:nC T=true):CallR X (.builtin "isinstance") (IW X.K T):=by
 intro pins s Z H xs us Q I r h
 obtain⟨v,d,rfl,rp,nf,q⟩:=h
 obtain⟨u,w,rfl,ru,rw'⟩:=vals2 r
 cases rw'
 exact uD hT I rp nf ru λtk=>⟨.bl _,H,I.tok tk,rfl,q⟩
section
variable {p:Pu D} {p1 p2:Pos} {T:String}
theorem Bd(hT:nC T=true)(hg:Gl X "isinstance")(hm:X.mg "isinstance" = none)(hgT:Gl X x)(hmT:X.mg x=none)(hv:bootBuiltins x=some (.type T))(ha:AO X e p)(hs:starEach [e,.Name x p2] X.env=(false,eval e X.env)::starEach [.Name x p2] X.env)(hs2:starEach [.Name x p2] X.env=(false,eval (.Name x p2) X.env)::starEach [] X.env)
  (hpl:(backTo pos (starEach [.Name x p2] X.env)).any (·.1)=false) (hn:x ≠ "__name__":=by decide) (hd:(x==("__debug__" : Str))=false:=by decide):AB X (.Call (.Name "isinstance" p1) [e,.Name x p2] [] pos) (pIs T p) :=
 λG F Z H ρ Q S w=>sem (gS (C3 hT) hg hm (by decide +kernel) (b6 aC (b6 (vP hgT hmT hv (v:=.ty T) rfl hn hd) gT hs2) hs) (by decide) (by decide) hs hpl) (ha G F Z H ρ _ S (w.bind.imp λd F1 H1 s1 S1 w1 v hv=>by
  obtain⟨b,hb,k⟩:=w1.opt
  unfold sA at hb
  split at hb
  ·cases hb
  ·rename_i nf
   cases hb
   exact⟨v,d,rfl,(hv.or S1).rep S1.fh,by simpa using nf,k F1 H1 (Same.refl _) S1⟩))
end
def wH:List D->Option (List D)
 | [.list ds]=>some ds
 | [.tuple ds]=>some ds
 | _=>none
def Hf(K:Fg):List V->Hp->VK->Prop:=λxs H Q=>∃p ys,xs=[.ref p]/\(SqL K H p ys\/SqT K H p ys)/\∀l,H l=none->Q (.ref l) (upd H l (.lst ys))
theorem Cg:pK K (Hf K) wH:=by
 intro G F Z H ρ xs ds res Q S o e k
 unfold wH at e
 split at e
 ·cases e
  obtain⟨v,r,rfl,ho,hr⟩:=aQ o
  obtain rfl:=bm hr
  obtain⟨a,vs,rfl,h1,h2⟩:=ho.list S.fh
  refine⟨a,vs,rfl,.inl h1,λl hl=>?_⟩
  obtain⟨S2,r2⟩:=S.newLst hl h2
  exact k _ F _ (Same.refl _) S2 r2
 ·cases e
  obtain⟨v,r,rfl,ho,hr⟩:=aQ o
  obtain rfl:=bm hr
  obtain⟨a,vs,rfl,h1,h2⟩:=ho.tuple S.fh
  refine⟨a,vs,rfl,.inr h1,λl hl=>?_⟩
  obtain⟨S2,r2⟩:=S.newLst hl h2
  exact k _ F _ (Same.refl _) S2 r2
 ·cases e
def CQ:List D->Option D
 | [.int i]=>some (.int i)
 | [.bool b]=>some (.int (if b then 1 else 0))
 | _=>none
theorem Fe:eJ K (λxs H Q=>(∃i,xs=[.int i]/\Q (.int i) H)\/∃k,xs=[.bl k]/\Q (.int (if k then 1 else 0)) H) CQ:=by
 intro G F Z H ρ xs ds res Q S o e k
 unfold CQ at e
 split at e
 ·cases e
  obtain⟨v,r,rfl,ho,hr⟩:=aQ o
  obtain rfl:=bm hr
  exact .inl ⟨_,by rw[ho.int],k _ F H (Same.refl _) S (.int _)⟩
 ·cases e
  obtain⟨v,r,rfl,ho,hr⟩:=aQ o
  obtain rfl:=bm hr
  exact .inr ⟨_,by rw[ho.bool],k _ F H (Same.refl _) S (.int _)⟩
 ·cases e
section
variable {S:Type}
def putD(ds:List D)(j d:D):Option (List D):=match j with
 | .int k=>(ixN ds.length k).map λq=>ds.set q d
 | _=>none
def IN(i:Nat)(mi me:Ev S D):SM S:=λK ρ=>me K.x (λd ρ1=>match e9 ρ1 i with
 | some _=>mi K.x (λj ρ2=>match e9 ρ2 i with
  | some ds=>(oM (putD ds j d)).on (λe=>K.x e ρ2) (λds'=>K.nx (kF ρ2 i ds'))
  | none=>.bad) ρ1
 | none=>.bad) ρ
def G5(i:Nat)(f:D->D->Option D)(me:Ev S D):SM S:=λK ρ=>match ρ[i]? with
 | some (some (.fz x))=>me K.x (λd ρ1=>(oM (f x d)).on (λe=>K.x e ρ1) (λr=>match eN ρ1 i with
  | true=>K.nx (ρ1.set i (some (.fz r)))
  | false=>.bad)) ρ
 | _=>.bad
def DD(i:Nat)(f:D->D->Option D)(mj me:Ev S D):SM S:=λK ρ=>match e9 ρ i with
 | some _=>mj K.x (λj ρ1=>match e9 ρ1 i with
  | some ds=>(oM (cH (.list ds) j)).on (λe=>K.x e ρ1) (λx=>me K.x (λd ρ2=>(oM (f x d)).on (λe=>K.x e ρ2) (λr=>match e9 ρ2 i with
   | some ds2=>(oM (putD ds2 j r)).on (λe=>K.x e ρ2) (λds'=>K.nx (kF ρ2 i ds'))
   | none=>.bad)) ρ1)
  | none=>.bad) ρ
 | none=>.bad
def ipD(f:D->D->Option D)(K:Fg)(t:TIp):Prop:=∀(x y:V) (dx dy r:D) (F H:Hp) (Q:VK),Rep K F x dx->Rep K F y dy->f dx dy=some r->(∀v,Rep K F v r->Q v H)->t x y H Q
def mq:D->D->Option D
 | .int i,.int j=>some (.int (i+j))
 | _,_=>none
theorem wm:ipD mq K (ipI λi j=>i+j):=λx y dx dy r F H Q r1 r2 e k=>by
 cases dx<;>first|exact noS e|(cases dy<;>first|exact noS e|cases e)
 obtain rfl:=r1.int_inv;obtain rfl:=r2.int_inv
 exact⟨_,_,rfl,rfl,k _ (.int _)⟩
theorem CI:ipD md K (ipI λi j=>i - j):=λx y dx dy r F H Q r1 r2 e k=>by
 cases dx<;>first|exact noS e|(cases dy<;>first|exact noS e|cases e)
 obtain rfl:=r1.int_inv;obtain rfl:=r2.int_inv
 exact⟨_,_,rfl,rfl,k _ (.int _)⟩
variable {a b:Expr} {mi me:Ev S D} {pos' tpos apos cpos:Pos} {ml:Ev S (List D)}
theorem j8{i:Nat}(hN:X.N[i]? = some x)(hv:Vis X.env.scope x)(hi:AE X b mi)(he:AE X e me)(ha:∀v,assign (.Subscript (.Name x pos') b tpos) X.env v=(do
   let ov <-holding [v] (eval (.Name x pos') X.env)
   let iv <-holding [v,ov] (eval b X.env)
   standAt tpos
   holding [v,ov,iv] (setItem ov iv v)
   release [v,ov,iv] []))
  (hs:swapsWithSole [.Subscript (.Name x pos') b tpos] e pos.line X.env=pure false) (hw:swappedStores [.Subscript (.Name x pos') b tpos] e X.env=pure none)
  (h1:(assignEach [.Subscript (.Name x pos') b tpos] X.env).map (·.2)=[assign (.Subscript (.Name x pos') b tpos) X.env])
  (hd:(x==("__debug__" : Str))=false:=by decide) (hcd:(x==("__classdict__" : Str))=false:=by decide):AS X (.Assign [.Subscript (.Name x pos') b tpos] e pos) (IN i mi me):=λOK K G F Z H ρ E hO hX St ok eo =>
 fw (zr aC (ER (e8 hN hv hd hcd) aC set_list ha) hs hw h1) (he OK K.x _ G F Z H ρ _ hO hX St ok λd v F1 H1 ρ1 s1 S1 r1 o1=>by
  split at o1
  case h_2=>exact(hO o1).elim
  rename_i ds0 hd0
  obtain⟨a,vs0,ea,_,_⟩:=cy S1 hd0
  refine⟨_,ea,hi OK K.x _ G F1 Z H1 ρ1 _ hO hX S1 o1 λj u F2 H2 ρ2 s2 S2 r2 o2=>?_⟩
  split at o2
  case h_2=>exact(hO o2).elim
  rename_i ds hds
  obtain⟨ds',hp,o3⟩:=cg hO o2
  obtain⟨a',vs,ea',hh,rv⟩:=cy S2 hds
  rw[ea]at ea'
  injection ea' with ea';injection ea' with ea';injection ea' with ea'
  subst ea'
  unfold putD at hp
  split at hp
  ·rename_i k
   obtain⟨q,hq,rfl⟩:=Option.map_eq_some_iff.mp hp
   obtain rfl:=r2.int_inv
   refine⟨a,vs,k,q,rfl,rfl,hh,by rw[rv.length];exact hq,?_⟩
   exact eo.nx F2 Z _ _ (s1.trans s2) (jw S2 hds ea (RepL.set (r1.mono s2) q rv)) o3
  ·cases hp)
theorem Gn{i:Nat}{op:Operator}{t:TIp}{f:D->D->Option D}(hN:X.N.Nodup)(hi:X.N[i]? = some x)(hx:Loc X.env.scope x)(ho:PIp X op t)(hf:ipD f X.K t)(he:AE X e me)(hfn:X.fn x=true\/X.env.scope.names.lookup x=some .local) :
  AS X (.AugAssign (.Name x pos') op e pos) (G5 i f me):=λOK K G F Z H ρ E hO hX St ok eo =>
 fw (EN hN hi hx aC ho hfn) (by
  unfold G5 at ok
  split at ok
  case h_2=>exact(hO ok).elim
  rename_i dx hdx
  obtain⟨v,ev,rv⟩:=St.fz i dx hdx
  refine⟨v,ev,he OK K.x _ G F Z H ρ _ hO hX St ok λd u F1 H1 ρ1 s1 S1 r1 o1=>?_⟩
  obtain⟨r,er,o2⟩:=cg hO o1
  refine hf v u dx d r F1 H1 _ (rv.mono s1) r1 er λz rz=>?_
  split at o2
  ·rename_i hok
   obtain⟨hl,hop⟩:=bY hok
   exact eo.nx F1 _ H1 _ s1 (S1.store hop hl (.inl ⟨r,rfl,rz⟩)) o2
  ·exact(hO o2).elim)
def Jl:V->V->Hp->VK->Prop:=λx y H Q=>∃p xs i v,x=.ref p/\y=.int i/\H p=some (.lst xs)/\atI xs i=some v/\Q v H
end
def kindB(k:NameKind):Option NameKind->Bool
 | some k'=>k==k'
 | none=>false
def wM(N N':List Str)(k:Nat)(scope sc:Scope):Bool :=
 (scope.kind==.function)&&(N'.length==N.length+k)&&scope.names.all (λy=>y.2 != .cell)&&scope.names.all (λy=>y.2 != .local||kindB .local (scope.names.lookup y.1))
  && ((List.range N.length).all λi=>match N'[i]? with
   | some x=>!(kindB .free (scope.names.lookup x)||kindB .local (scope.names.lookup x)||kindB .cell (scope.names.lookup x))||(N[i]? == some x&&kindB .free (scope.names.lookup x))
   | none=>true)
  && scope.names.all (λy=>y.2 != .free||kindB .cell (sc.names.lookup y.1)||kindB .free (sc.names.lookup y.1))
theorem jH{k:NameKind}{o:Option NameKind}(h:kindB k o=true):o=some k:=by
 cases o with
 | none=>cases h
 | some k'=>simp[kindB]at h;rw[h]
theorem Ac{k:NameKind}{o:Option NameKind}(h:o=some k):kindB k o=true:=by subst h;simp[kindB]
theorem cp{N N':List Str}{k:Nat}{scope sc:Scope}(h:wM N N' k scope sc=true)(hN:X.N=N)(hs:X.env.scope=sc):CompOk X N' k scope:=by
 subst hN hs
 simp only[wM,ax,pd,KY,oC,bne_iff_ne,ne_eq]at h
 obtain⟨⟨⟨⟨⟨h1,h2⟩,h3⟩,h4⟩,h5⟩,h6⟩:=h
 refine⟨h1,h2,λy hy=>h3 y hy,λy hy hl=>?_,λi x hi hx _ hk=>?_,λy hy hf=>?_⟩
 ·rcases h4 y hy with z|z
  ·exact absurd hl z
  ·exact jH z
 ·have:=h5 i (List.mem_range.mpr hi)
  rw[hx]at this
  simp only[oC,Kv,ax,KY]at this
  rcases this with z|⟨z1,z2⟩
  ·exfalso
   rcases hk with hk|hk|hk<;>simp[Ac hk]at z
  ·exact⟨z1,jH z2⟩
 ·rcases h6 y hy with (z|z)|z
  ·exact absurd hf z
  ·exact .inl (jH z)
  ·exact .inr (jH z)
theorem xS{H:Hp}{a:Addr}{ns:List Int}{mf:List D->M D}(hS:SqL K H a (ns.map V.int))(h:mf [.list (ns.map PyData.int)]=.ret (.bool true)):spD K 1 mf [.ref a] H (λv _=>v=.bl true) λ_ _ _=>False:=by
 refine⟨⟨λ_=>none,λ_=>none,H⟩,H,[.list (ns.map PyData.int)],rfl,⟨Same.refl _,λb o z=>(nomatch z),λb o z=>(nomatch z),rfl,λi d z=>?_,λi c z=>(fX (ds:=[.list (ns.map PyData.int)]) z).elim,λi j c e a z=>(fX (ds:=[.list (ns.map PyData.int)]) z).elim,λi a z=>(nomatch z),λi c z=>?_,Same.refl _⟩,?_⟩
 ·obtain⟨d',e,q⟩:=jo (ds:=[.list (ns.map PyData.int)]) z
  cases e
  cases i with
  | zero=>simp at q;subst q;exact⟨_,rfl,.lst hS (RepL.ints ns)⟩
  | succ i=>simp at q
 ·obtain⟨d',e,q⟩:=jo (ds:=[.list (ns.map PyData.int)]) z
  cases e
 ·rw[h]
  intro v F' H' s S' r
  cases r
  rfl
end L4
namespace HT
end HT
namespace L4
open PySem PySem.Spec PyProof.Rows L2 L3
variable {S:Type}
section
variable {X:Cx} {a:Expr} {pa:Pu D} {pos:Pos} {ta:TE}
theorem B3(ha:PE X a ta):PE X (.UnaryOp .Not a pos) (λZ H Q=>ta Z H λx H'=>∃k,GA X.K x H' k/\Q (.bl (!k)) H'):=by
 intro pins s Z H Q I h
 refine UnaryOp_ (thn (ha pins s Z H _ I h) λv s1 ⟨x,H1,I1,r1,q1⟩=>?_)
 obtain⟨k,q1,q2⟩:=q1
 exact not_of (thn (yO pins s1 Z H1 x v (λc H'=>Q (.bl (!c)) H') I1 r1 ⟨k,q1,q2⟩) λc s2 ⟨H2,I2,q⟩=>⟨.bl (!c),H2,I2,rfl,q⟩)
theorem Dn(ha:AO X a pa):AB X (.UnaryOp .Not a pos) (Ht (Hs pa)) :=
 λG F Z H ρ Q S w=>sem (B3 aC) (ha G F Z H ρ _ S (w.bind.bind.imp λx F1 H1 s1 S1 w1 v hv=>by
  obtain⟨bb,hb,k⟩:=w1.opt
  refine⟨bb,?_,k F1 H1 (Same.refl _) S1 F1 H1 (Same.refl _) S1⟩
  have o:=hv.or S1
  cases x with
  | none=>rw[o.none];cases hb;exact rfl
  | bool i=>rw[o.bool];cases hb;exact rfl
  | int i=>rw[o.int];cases hb;exact rfl
  | str i =>
   rw[o.str]
   unfold lq at hb
   dsimp only at hb
   split at hb
   ·rename_i hl;cases hb;exact⟨hl,rfl⟩
   ·cases hb
  | list ds=>obtain⟨a,vs,rfl,h1,h2⟩:=o.list S1.fh;cases hb;exact .inl ⟨vs,h1,(dG h2).symm⟩
  | tuple ds=>obtain⟨a,vs,rfl,h1,h2⟩:=o.tuple S1.fh;cases hb;exact .inr (.inl ⟨vs,h1,(dG h2).symm⟩)
  | dict ds=>cases hb))
end
noncomputable def dg{S T:Type}:(T->D->(T->M S)->M S)->List D->T->(T->M S)->M S:=Classical.choose (⟨@cx S T,rfl⟩:∃f,f = @cx S T)
theorem eP{T:Type} : @dg S T = @cx S T:=Classical.choose_spec (⟨@cx S T,rfl⟩:∃f,f = @cx S T)
noncomputable def i7{S T:Type}:(T->(T->M S)->M S)->Nat->T->M S:=Classical.choose (⟨@aV S T,rfl⟩:∃f,f = @aV S T)
theorem dO{T:Type} : @i7 S T = @aV S T:=Classical.choose_spec (⟨@aV S T,rfl⟩:∃f,f = @aV S T)
section
noncomputable def za(sh:List Kd)(it:Ev S (List D))(t:Tg S)(mb:SM S):SM S:=λK ρ=>it K.x (λds ρ1=>rdk sh (λs=>dg (λs d kn=>t d (λρ2=>mb (iU sh K kn) ρ2) (wr sh s)) ds s (λs'=>K.nx (wr sh s'))) ρ1) ρ
noncomputable def pQ(sh:List Kd)(fuel:Nat)(c:Ev S Bool)(mb:SM S):SM S:=λK ρ=>rdk sh (λs=>i7 (λs kn=>c K.x (λb ρ2=>if b then mb (iU sh K kn) ρ2 else rdk sh (λs'=>K.nx (wr sh s')) ρ2) (wr sh s)) fuel s) ρ
theorem y8(sh:List Kd)(it:Ev S (List D))(t:Tg S)(mb:SM S):za sh it t mb=EA sh it t mb:=by
 unfold za EA
 rw[eP]
theorem tT(sh:List Kd)(fuel:Nat)(c:Ev S Bool)(mb:SM S):pQ sh fuel c mb=tU sh fuel c mb:=by
 unfold pQ tU
 rw[dO]
variable {X:Cx} {mb:SM S} {c:Expr} {mt:Ev S Bool} {ml:Ev S (List D)} {pos:Pos}
theorem bv{tg iter:Expr}{body:List Stmt}{sh:List Kd}{t:Tg S}(hp:PassesOwn (model X.prog X.w) X.A X.env X.xe)(hc:X.calm=true)(hi:AEi X tg iter ml)(hg:AG X 0 tg t)(hb:ASs X body mb)
  (hs:∀x,foldedSetIterable iter X.env x=pure x:=by exact λ_=>rfl):AS X (.For tg iter body [] pos) (za sh ml t mb):=by
 rw[y8]
 exact Gk hp hc hi hg hb hs
theorem fL{body:List Stmt}{sh:List Kd}{fuel:Nat}(hp:PassesOwn (model X.prog X.w) X.A X.env X.xe)(hc:AEt X c mt)(hb:ASs X body mb):AS X (.While c body [] pos) (pQ sh fuel mt mb):=by
 rw[tT]
 exact A3 hp hc hb
end
end L4
namespace HT
open PySem PySem.Spec PyProof.Rows
section
variable {prog:Program}{w:World}{A:Around}{E:zzj}{s:Shared}{xs:Array (Int×Tok)}{l:Addr}
theorem max_intTup{Q:zzj}(hh:A.handled=none)(hl:s.heap.IsTuple l (intItems xs))(hne:0<xs.size)
  (h:∀v h' tk,(intItems xs)[argBest (λi j=>decide (numAt xs i>numAt xs j)) (xs.size - 1)]? = some v->(∀b o,s.heap.get? b=some o->h'.get? b=some o)->Q v { s with heap:=h',toks:=tk }) :
  wpAny (model prog w) A (call (.builtin "max") [.ref l]) Q E s:=by
 have hlt:l<s.heap.objs.size:=by obtain⟨_,e,_⟩:=hl;exact ay e
 refine call_max_walk (Er hl ?_)
 refine⟨_,_,_,_,_,_,_,rfl,Walks.tuple (A:=A.in1) hh _ l (eE hlt) (intItems xs),⟨⟨_,zze _ rfl,rfl,rfl⟩,?_⟩,λb hb=>?_,by simpa[intItems]using hne,CmpOf.ints_gt (numAt xs) (λ_ _=>intItems_at),λv h' tk hP hk=>?_⟩
 ·obtain⟨o,e,r⟩:=hl
  exact⟨o,zzc _ e,r⟩
 ·show b<(s.heap.push _).objs.size
  rw[JK]
  rcases List.mem_cons.mp hb with rfl|hb
  ·exact J5 _
  ·rcases List.mem_cons.mp hb with rfl|hb
   ·exact sd hlt
   ·cases hb
 ·refine h v h' tk (by simpa[intItems]using hP) λb o e=>hk b o (λhm=>?_) (zzc _ e)
  rcases List.mem_cons.mp hm with e1|hm
  ·exact absurd (e1▸ay e) (pr _)
  ·cases hm
end
end HT
namespace L4
open PySem PySem.Spec PyProof.Rows L2 L3
def Av:List D->Option D
 | [.tuple ds]=>match intsOf ds with
  | some (n::r)=>some (.int (qe (n::r)))
  | _=>none
 | _=>none
def lN(K:Fg)(f:List Int->Option Int):List V->Hp->VK->Prop:=λxs H Q=>∃a ns i,xs=[.ref a]/\SqT K H a (ns.map V.int)/\f ns=some i/\Q (.int i) H
theorem Ce{K:Fg}:eJ K (lN K yc) Av:=by
 intro G F Z H ρ xs ds res Q S o e k
 unfold Av at e
 split at e
 ·split at e
  ·rename_i hns
   cases e
   obtain⟨v,r,rfl,ho,hr⟩:=aQ o
   obtain rfl:=bm hr
   obtain⟨a,vs,rfl,h1,h2⟩:=ho.tuple S.fh
   rw[bV hns]at h2
   rw[cm h2]at h1
   exact⟨a,_,_,rfl,h1,rfl,k _ F H (Same.refl _) S (show Rep K F _ _ from .int _)⟩
  ·cases e
 ·cases e
theorem yw{X:Cx}(hc:X.calm=true):CallR X (.builtin "max") (lN X.K yc):=by
 intro pins s Z H xs us Q I r h0
 obtain⟨a,ns,i,rfl,hq,e,q⟩:=h0
 obtain⟨u,rfl,ru⟩:=Vals.one r
 cases ru
 obtain⟨its,rv,pl,hz⟩:=I.tuple hq
 obtain⟨ps,rfl,rfl⟩:=cJ rv
 have hne:ps≠[]:=by rintro rfl;cases e
 have hne':ps.map Prod.fst≠[]:=by simpa using hne
 have ei:i=qe (ps.map Prod.fst):=by
  cases hp:ps.map Prod.fst with
  | nil=>exact absurd hp hne'
  | cons n r=>rw[hp]at e;cases e;rfl
 subst ei
 have hl:s.heap.IsTuple a (intItems ps.toArray):=by
  have:s.heap.IsTuple a _:=pl
  unfold intItems
  simpa using this
 have hpos:0<ps.length:=List.length_pos_iff.mpr hne
 refine HT.max_intTup (I.ok.hd hc) hl (by simpa using hpos) λv h' tk hv hk=>?_
 obtain⟨t,rfl⟩:=intItems_at hv
 refine⟨.int _,H,I.kept hk,⟨_,rfl⟩,?_⟩
 have b:=argBest_gt (numAt ps.toArray) (ps.toArray.size - 1)
 generalize argBest (λi j=>decide (numAt ps.toArray i>numAt ps.toArray j)) (ps.toArray.size - 1)=m at b hv
 have hm:m<ps.length:=by
  have h0:=b.1
  simp at h0
  lia
 have hsp:=oK hne'
 have e1:numAt ps.toArray m=qe (ps.map Prod.fst):=by
  refine Int.le_antisymm ?_ ?_
  ·refine hsp.1 _ ?_
   rw[cV,la,ic (by simpa using hm)]
   exact io _
  ·obtain⟨j,hj,ej⟩:=rg hsp.2
   have h0:=b.2 j (by simp at hj ⊢;lia)
   rw[cV,la,ic hj]at h0
   rw[<-ej]
   exact h0
 rw[e1]
 exact q
end L4
namespace PySem
end PySem
namespace L4
open PySem PySem.Spec PyProof.Rows L2 L3
variable {X:Cx}{H F:Hp}{K:Fg}{Z:L2.St}{y:V}{e:Expr}{i:Nat}{pins:zzk}{s:Shared}{pos apos cpos:Pos}{x:Str}
theorem zJ{ch:List Addr}{x:V}{x' y':Value}{t:Nat}{h2:Heap}(I:Inv X pins Z H s)(hf:∀c∈ch,jS X pins H c)(ru:RelV x x')(ru2:RelV y y')
  (keep2:∀c o,c∉ch->s.heap.get? c=some o->h2.get? c=some o) (tup2:h2.get? s.heap.objs.size=some { cls:=.type "tuple",data:=.seq #[x',y'] }) :
  Inv X pins Z (upd H s.heap.objs.size (.tup [x,y])) { s with heap:=h2,toks:=t }:=by
 have fr:=I.fresh
 have nit:∀c o,H c=some o->c∉ch:=λc o e m=>by rw[(hf c m).1]at e;cases e
 have hok:HOk X.prog X.w (upd H s.heap.objs.size (.tup [x,y])) h2:=λc ob e=>by
  by_cases hb:c=s.heap.objs.size
  ·subst hb
   rw[aB]at e
   cases e
   exact⟨by show 2<=sizeLine;decide,[x',y'],.cons ru (.cons ru2 .nil),⟨_,tup2,rfl,_,rfl⟩,⟨_,tup2,rfl⟩⟩
  ·rw[aA hb]at e
   refine(I.hok c ob e).stay (λc' v' hc' e'=>?_) (λc' e'=>by rw[aA (aL e' fr)];exact e') λc' ys e'=>by rw[aA (aL e' fr)];exact e'
   rcases hc' with z'|z'
   ·rw[z']at e' ⊢;exact keep2 c v' (nit c ob e) e'
   ·exact keep2 c' v' (nit c' _ z') e'
 refine I.step (g':=s.gens) (d':=s.drawn) (t':=t) (h':=h2) (ch:=ch) (λc hc=>?_) (λc o _ _ hch e _=>keep2 c o hch e) (λc o _ _ hch e _=>⟨o.slots,keep2 c o hch e⟩)
  (λc o _ e n=>by rw[aA (eE (ay e))];exact n) (λc o hch e=>⟨o,keep2 c o hch e⟩)
  (λc ys e=>by rw[aA (aL e fr)];exact e) (λc o u' e=>by rw[aA (aL e fr)];exact e) (λc ps e=>⟨#[],by rw[aA (aL e fr),e];simp⟩) (λm hm=>?_) hok I.bare
 ·obtain⟨f0,f1,f2,f3,f4,f5⟩:=hf c hc
  exact⟨f3,f1,f4,f5⟩
 ·obtain⟨o,es,ep,ho',r⟩:=hm
  exact⟨o,es,ep,keep2 _ o (λm=>(hf _ m).2.1 rfl) ho',r⟩
def Co(ds es:List D):Option (List D):=if decide (ds.length+es.length<=sizeLine)then some (ds++es)else none
section
variable {S:Type} {c:Expr} {ml:Ev S (List D)} {pos':Pos} {m:SM S}
theorem Da(hN:X.N[i]? = some x)(hv:Vis X.env.scope x)(he:AEl X e ml)
  (hbase:attributeBase (.Name x pos') "extend" X.env (eval (.Name x pos') X.env)=eval (.Name x pos') X.env)
  (hfew:((backTo cpos (starEach [e] X.env)).all (λx=>!x.1)&&(backToKw cpos (keywordEach [] X.env)).all (λx=>x.1.isSome)
   && decide ([e].length+([]:List Keyword).length+(if([]:List Keyword).isEmpty then 0 else 1)<30))=true)
  (hline:(apos.endLine==cpos.line)=true) (hs:starEach [e] X.env=(false,eval e X.env)::starEach [] X.env) (hplain:(backTo cpos (starEach [] X.env)).any (·.1)=false)
  (hsw:swapsWith (.Call (.Attribute (.Name x pos') "extend" apos) [e] [] cpos) none pos.line X.env=pure false) (hd:(x==("__debug__" : Str))=false:=by decide) (hcd:(x==("__classdict__" : Str))=false:=by decide) :
  AS X (.Expr (.Call (.Attribute (.Name x pos') "extend" apos) [e] [] cpos) pos) (BF i Co ml):=λOK K G F Z H ρ E hO hX St ok eo =>
 fw (pT (DV KG PySem.F.slot_list_extend PySem.F.type_list_extend xP (e8 hN hv hd hcd) (b6 aC gT hs) hbase hfew hline hs hplain) hsw) (by
  unfold BF at ok
  split at ok
  case h_2=>exact(hO ok).elim
  ·rename_i ds0 h0
   obtain⟨a,vs0,ea,hh,_⟩:=cy St h0
   refine⟨_,ea,.inl ⟨rfl,vs0,.inl (.inl hh)⟩,he OK K.x _ G F Z H ρ _ hO hX St ok λes v F1 H1 ρ1 s1 S1 fr o1=>?_⟩
   split at o1
   ·rename_i ds hds
    obtain⟨ds',hf,o2⟩:=cg hO o1
    obtain⟨a',vs,ea',hh',rv⟩:=cy S1 hds
    rw[ea]at ea'
    injection ea' with ea';injection ea' with ea';injection ea' with ea'
    subst ea'
    obtain⟨b,rfl,ob,_⟩:=fr
    obtain⟨ws,g1,g2⟩:=ob.he
    unfold Co at hf
    split at hf
    ·rename_i hz
     cases hf
     refine⟨a,b,vs,ws,rfl,rfl,hh',g1,by rw[rv.length,g2.length];simpa using hz,?_⟩
     exact eo.nx F1 Z _ _ s1 (jw S1 hds ea (rv.append g2)) o2
    ·cases hf
   ·exact(hO o1).elim)
end
def cM:D->Bool
 | .int _=>true
 | .str _=>true
 | _=>false
def bX:D->Bool
 | .tuple ds=>ds.all cM
 | _=>false
def sg:D->D->Bool
 | .int i,.int j=>decide (i=j)
 | .str i,.str j=>decide (i=j)
 | _,_=>false
def mL:List D->List D->Bool
 | [],[]=>true
 | a::r,b::t=>sg a b&&mL r t
 | _,_=>false
def eK:D->D->Bool
 | .tuple a,.tuple b=>mL a b
 | a,b=>sg a b
def keyOk(es:List (D×D))(k:D):Bool:=(bX k&&es.all λp=>bX p.1)||(cM k&&es.all λp=>cM p.1)
theorem qk{es:List (D×D)}{k:D}(h:keyOk es k=true):d9 es=false:=by
 unfold d9
 split
 ·simp[keyOk,bX,cM]at h
 ·simp[keyOk,bX,cM]at h
 ·rfl
def gb(es:List (D×D))(k:D):Option D:=(es.find? λp=>eK p.1 k).map (·.2)
def rm(es:List (D×D))(k d:D):List (D×D):=if es.any (λp=>eK p.1 k)then es.map (λp=>if eK p.1 k then(p.1,d)else p)else es++[(k,d)]
theorem rZ(a b:Key):sg (keyD a) (keyD b)=decide (a=b):=by
 cases a<;>cases b<;>simp[sg,keyD]
theorem rY:∀(a b:List Key),mL (a.map keyD) (b.map keyD)=decide (a=b)
 | [],[]=>by simp[mL]
 | [],_::_=>by simp[mL]
 | _::_,[]=>by simp[mL]
 | x::xs,y::ys=>by
  simp only[bj,mL,rZ,rY xs ys]
  by_cases h:x=y<;>by_cases g:xs=ys<;>simp[h,g]
theorem qj(a b:List Key):eK (g7 a) (g7 b)=decide (a=b):=rY a b
theorem uA(a b:Key):eK (keyD a) (keyD b)=decide (a=b):=by
 have h:eK (keyD a) (keyD b)=sg (keyD a) (keyD b):=by cases a<;>cases b<;>rfl
 rw[h];exact rZ a b
theorem fF{d:D}(h:cM d=true):∃k,d=keyD k:=by
 cases d<;>first|exact⟨.inl _,rfl⟩|exact⟨.inr _,rfl⟩|cases h
theorem mP:∀{ds:List D},ds.all cM=true->∃k:List Key,ds=k.map keyD
 | [],_=>⟨[],rfl⟩
 | d::ds,h=>by
  rw[List.all_cons,ax]at h
  obtain⟨k,rfl⟩:=fF h.1
  obtain⟨ks,rfl⟩:=mP h.2
  exact⟨k::ks,rfl⟩
theorem dR{d:D}(h:bX d=true):∃k,d=g7 k:=by
 cases d<;>first|cases h|skip
 obtain⟨k,rfl⟩:=mP h
 exact⟨k,rfl⟩
theorem Ah(k:Key):cM (keyD k)=true:=by cases k<;>rfl
theorem Ae(k:List Key):bX (g7 k)=true:=by
 unfold g7 bX
 simp[Ah]
theorem Af(k:Key):bX (keyD k)=false:=by cases k<;>rfl
theorem Ag(k:List Key):cM (g7 k)=false:=rfl
section
variable {v:V}
theorem gP{k:Key}(r:Rep K F v (keyD k)):v=kV k:=by
 cases k with
 | inl i=>cases (show Rep K F v (.int i)from r);rfl
 | inr i=>cases (show Rep K F v (.str i)from r);rfl
theorem oj:∀{vs:List V} {k:List Key},RepL K F vs (k.map keyD)->vs=k.map kV
 | _,[],r=>by rw[K2]at r;cases r;rfl
 | _,k::ks,r=>by
  rw[bj]at r
  cases r with
  | cons a b=>rw[gP a,oj b];rfl
theorem fy{k:List Key}(r:Rep K F v (g7 k)):∃b,v=.ref b/\F b=some (.tup (k.map kV)):=by
 unfold g7 at r
 cases r with
 | tup h1 h2=>rw[oj h2]at h1;exact⟨_,rfl,h1⟩
def DT(K:Fg)(F H:Hp)(a:Addr)(es:List (D×D)):Prop:=∃kvs,H a=some (.dT kvs)/\es.map (·.1)=kvs.map (λp=>g7 p.1)/\RepL K F (kvs.map (·.2)) (es.map (·.2))
def DK(K:Fg)(F H:Hp)(a:Addr)(es:List (D×D)):Prop:=∃kvs,H a=some (.dK kvs)/\es.map (·.1)=kvs.map (λp=>keyD p.1)/\RepL K F (kvs.map (·.2)) (es.map (·.2))
theorem OR.dict{es:List (D×D)}(s:Same F H)(h:OR K F H v (.dict es))(hx:d9 es=false):∃a,v=.ref a/\(DT K F H a es\/DK K F H a es):=by
 rcases h with h|⟨a,c,e,e2,h1,hI⟩
 ·cases h with
  | dct h1 h2 h3=>exact⟨_,rfl,.inl ⟨_,s _ _ h1,h2,h3⟩⟩
  | dck h1 h2 h3=>exact⟨_,rfl,.inr ⟨_,s _ _ h1,h2,h3⟩⟩
  | exc _ _ _ _ _=>cases hx
  | fn _=>cases hx
 ·cases c<;>cases e2
  ·exact⟨a,e,.inl h1⟩
  ·exact⟨a,e,.inr h1⟩
theorem qt{κ:Type}[DecidableEq κ]{kd:κ->D}(inj:∀a b,eK (kd a) (kd b)=decide (a=b))(k:κ):∀{kvs:List (κ×V)} {es:List (D×D)},es.map (·.1)=kvs.map (λp=>kd p.1)->RepL K F (kvs.map (·.2)) (es.map (·.2)) ->
  (∃d v,gb es (kd k)=some d/\i8 kvs k=some v/\Rep K F v d)\/(gb es (kd k)=none/\i8 kvs k=none)
 | [],[],_,_=>.inr ⟨rfl,rfl⟩
 | [],_::_,e,_=>by simp at e
 | _::_,[],e,_=>by simp at e
 | p::kvs,q::es,e,r=>by
  simp only[bj,List.cons.injEq]at e
  cases r with
  | cons r1 r2 =>
   unfold gb i8
   rw[ss,ss,e.1,inj]
   by_cases h:p.1=k
   ·simp only[h,decide_true]
    exact .inl ⟨_,_,rfl,rfl,r1⟩
   ·simp only[h,KR]
    exact qt inj k e.2 r2
theorem kW{κ:Type}[DecidableEq κ]{kd:κ->D}(inj:∀a b,eK (kd a) (kd b)=decide (a=b))(k:κ){d:D}(rv:Rep K F v d):∀{kvs:List (κ×V)} {es:List (D×D)},es.map (·.1)=kvs.map (λp=>kd p.1)->RepL K F (kvs.map (·.2)) (es.map (·.2)) ->
  (rm es (kd k) d).map (·.1)=(putK kvs k v).map (λp=>kd p.1)/\RepL K F ((putK kvs k v).map (·.2)) ((rm es (kd k) d).map (·.2)):=by
 intro kvs es e r
 have any:∀{kvs:List (κ×V)} {es:List (D×D)},es.map (·.1)=kvs.map (λp=>kd p.1)->(es.any λp=>eK p.1 (kd k))=kvs.any λp=>decide (p.1=k):=by
  intro kvs
  induction kvs with
  | nil=>intro es e;cases es with
   | nil=>rfl
   | cons _ _=>simp at e
  | cons p kvs ih=>intro es e;cases es with
   | nil=>simp at e
   | cons q es =>
    simp only[bj,List.cons.injEq]at e
    rw[KE,KE,ih e.2,e.1,inj]
 have mp:∀{kvs:List (κ×V)} {es:List (D×D)},es.map (·.1)=kvs.map (λp=>kd p.1)->RepL K F (kvs.map (·.2)) (es.map (·.2)) ->
   (es.map λp=>if eK p.1 (kd k)then(p.1,d)else p).map (·.1)=(kvs.map λp=>if p.1=k then(p.1,v)else p).map (λp=>kd p.1) /\
   RepL K F ((kvs.map λp=>if p.1=k then(p.1,v)else p).map (·.2)) ((es.map λp=>if eK p.1 (kd k)then(p.1,d)else p).map (·.2)):=by
  intro kvs
  induction kvs with
  | nil=>intro es e r;cases es with
   | nil=>exact⟨rfl,.nil⟩
   | cons _ _=>simp at e
  | cons p kvs ih=>intro es e r;cases es with
   | nil=>simp at e
   | cons q es =>
    simp only[bj,List.cons.injEq]at e
    cases r with
    | cons r1 r2 =>
     obtain⟨i1,i2⟩:=ih e.2 r2
     simp only[bj,e.1,inj]
     by_cases h:p.1=k
     ·simp only[h,decide_true,At,List.cons.injEq]
      exact⟨⟨trivial,i1⟩,.cons rv i2⟩
     ·simp only[h,KR,JU,List.cons.injEq]
      exact⟨⟨by simpa using e.1,i1⟩,.cons r1 i2⟩
 unfold rm putK
 rw[any e]
 by_cases h:(kvs.any λp=>decide (p.1=k))=true
 ·rw[aw h,aw h];exact mp e r
 ·rw[am h,am h]
  refine⟨by simp[e],?_⟩
  rw[ls,ls]
  exact r.append (.cons rv .nil)
end
def qT(H:Hp)(a:Addr):Prop:=H a=some (.dT [])\/H a=some (.dK [])
theorem mW{a:Addr}(I:Inv X pins Z H s)(h:qT H a) :
  s.heap.DictOfH (tupleKind (aX X.prog X.w)) a []/\s.heap.DictOf (aX X.prog X.w) a []/\(a==sysModules)=false:=by
 rcases h with h|h
 ·obtain⟨z,y,xs,kt,o,es,ep,h1,h2,h3,h4,h5,h6⟩:=mX I.hok h
  cases kt
  have e0:es = #[]:=by
   have:es.toList=[]:=h4
   exact Array.toList_inj.mp this
  subst e0
  exact⟨⟨o,_,ep,h1,h2,h3,rfl,(λx hx=>by simp at hx),JX⟩,⟨o,_,ep,h1,h2,h3,λe he=>by simp at he,.nil,JX⟩,y⟩
 ·obtain⟨z,y,vs,kv,o,es,ep,h1,h2,h3,h4,h5,h6⟩:=sK I.hok h
  cases kv
  have e0:es = #[]:=by
   have:es.toList=[]:=by
    generalize es.toList=l at h5
    cases h5
    rfl
   exact Array.toList_inj.mp this
  subst e0
  exact⟨⟨o,_,ep,h1,h2,h3,rfl,(λx hx=>by simp at hx),JX⟩,⟨o,_,ep,h1,h2,h3,λe he=>by simp at he,.nil,JX⟩,y⟩
theorem DT.empty{a:Addr}(h:DT K F H a []):qT H a:=by
 obtain⟨kvs,h1,h2,_⟩:=h
 cases kvs with
 | nil=>exact .inl h1
 | cons _ _=>simp at h2
theorem DK.empty{a:Addr}(h:DK K F H a []):qT H a:=by
 obtain⟨kvs,h1,h2,_⟩:=h
 cases kvs with
 | nil=>exact .inr h1
 | cons _ _=>simp at h2
def GD(H:Hp)(y:V):Prop:=(∃k,y=kV k)\/∃(b:Addr) (ks:List Key),y=.ref b/\H b=some (.tup (ks.map kV))
def yH(H:Hp)(a:Addr)(y:V)(o:Option V):Prop:=DGet H a y o\/(qT H a/\GD H y/\o=none)
theorem u6{a:Addr}{es:List (D×D)}{k:D}(s:Same F H)(h:DT K F H a es\/DK K F H a es)(r:Rep K F y k)(hk:keyOk es k=true) :
  (∃d v,gb es k=some d/\yH H a y (some v)/\Rep K F v d)\/(gb es k=none/\yH H a y none):=by
 unfold keyOk at hk
 rw[oC,ax,ax]at hk
 have kT:bX k=true->GD H y:=λh=>by
  obtain⟨ks,rfl⟩:=dR h
  obtain⟨b,rfl,hb⟩:=fy r
  exact .inr ⟨b,ks,rfl,s _ _ hb⟩
 have kK:cM k=true->GD H y:=λh=>by
  obtain⟨ks,rfl⟩:=fF h
  exact .inl ⟨ks,gP r⟩
 cases es with
 | nil =>
  refine .inr ⟨rfl,.inr ⟨?_,?_,rfl⟩⟩
  ·rcases h with h|h
   ·exact h.empty
   ·exact h.empty
  ·rcases hk with hk|hk
   ·exact kT hk.1
   ·exact kK hk.1
 | cons p es =>
  rcases h with ⟨kvs,h1,h2,h3⟩|⟨kvs,h1,h2,h3⟩
  ·rcases hk with ⟨hk,_⟩|⟨_,hk⟩
   ·obtain⟨ks,rfl⟩:=dR hk
    obtain⟨b,rfl,hb⟩:=fy r
    rcases qt qj ks h2 h3 with ⟨d,v,e1,e2,e3⟩|⟨e1,e2⟩
    ·exact .inl ⟨d,v,e1,.inl (e2▸DGet.t h1 (s _ _ hb)),e3⟩
    ·exact .inr ⟨e1,.inl (e2▸DGet.t h1 (s _ _ hb))⟩
   ·exfalso
    cases kvs with
    | nil=>simp at h2
    | cons q kvs =>
     simp only[bj,List.cons.injEq]at h2
     rw[List.all_cons,h2.1,Ag,Kp]at hk
     cases hk
  ·rcases hk with ⟨_,hk⟩|⟨hk,_⟩
   ·exfalso
    cases kvs with
    | nil=>simp at h2
    | cons q kvs =>
     simp only[bj,List.cons.injEq]at h2
     rw[List.all_cons,h2.1,Af,Kp]at hk
     cases hk
   ·obtain⟨ks,rfl⟩:=fF hk
    obtain rfl:=gP r
    rcases qt uA ks h2 h3 with ⟨d,v,e1,e2,e3⟩|⟨e1,e2⟩
    ·exact .inl ⟨d,v,e1,.inl (e2▸DGet.k h1),e3⟩
    ·exact .inr ⟨e1,.inl (e2▸DGet.k h1)⟩
section
variable {a:Addr} {d:V} {u r:Value} {o:Option V} {A:Around} {E:zzj}
theorem Do{Q:zzj}(hu:A.units+1<cLine)(I:Inv X pins Z H s)(g:yH H a y o)(ry:RelV y u)(h:∀s',Inv X pins Z H s'->Q (.bool (!o.isSome)) s') :
  wpAny (model X.prog X.w) A (compareOp .NotIn u (.ref a)) Q E s:=by
 rcases g with g|⟨e,k,rfl⟩
 ·exact CW hu I g ry h
 ·obtain⟨h1,h2,hd⟩:=mW I e
  rcases k with ⟨k,rfl⟩|⟨b,ks,rfl,hb⟩
  ·exact wpAny_notIn_of (ky ry) hd h2.mapOf (h _ (I.tok _))
  ·cases (show u=Value.ref b from ry)
   exact wpAny_notIn_heap (Go hu) (fZ I.hok hb) hd h1 (h _ (I.tok _))
theorem Gz{Q:zzj}(hu:A.units+1<cLine)(I:Inv X pins Z H s)(g:yH H a y o)(ry:RelV y u)(h:∀w' s',Inv X pins Z H s'->RelV (o.getD .non) w'->Q w' s') :
  wpAny (model X.prog X.w) A (call (.builtin "dict.get") [.ref a,u]) Q E s:=by
 rcases g with g|⟨e,k,rfl⟩
 ·exact FW hu I g ry h
 ·obtain⟨h1,h2,hd⟩:=mW I e
  rcases k with ⟨k,rfl⟩|⟨b,ks,rfl,hb⟩
  ·exact KW JH h2.typeIs JV (JS _ _) (meets_dict_get (aX X.prog X.w) a (ky ry) hd) ⟨_,h2.mapOf,h _ _ (I.tok _) rfl⟩
  ·cases (show u=Value.ref b from ry)
   exact KW JH h1.typeIs JV (JS _ _) (meetsH_dict_get (tupleKind (aX X.prog X.w)) a b hd) ⟨Go hu,ks,[],fZ I.hok hb,h1,h _ _ (I.tok _) rfl⟩
theorem DT.isD{es:List (D×D)}(h:DT K F H a es\/DK K F H a es):IsD H a:=by
 rcases h with ⟨kvs,h1,_⟩|⟨kvs,h1,_⟩
 ·exact .inr ⟨_,.inl h1⟩
 ·exact .inl ⟨_,.inl h1⟩
end
def sN:D->D->Option D
 | .dict es,k=>if keyOk es k then some ((gb es k).getD .none)else none
 | _,_=>none
def bx(d c:D):Option Bool:=match c with
 | .dict es=>if keyOk es d then some (!(gb es d).isSome)else none
 | _=>iD d c
def aD(x y:D):Option D:=match x with
 | .dict es=>if keyOk es y then gb es y else none
 | _=>cH x y
def sI:List D->Option D
 | [.dict es]=>if d9 es then none else some (.int es.length)
 | l=>dI l
def E3(po pe:Pu D):Pu D:=λρ=>bd (po ρ) λd=>bd (noX (pe ρ)) λk=>oM (sN d k)
theorem W.nx{G:Gh}{ρ:En}{α:Type}{m:M α}{C:α->Hp->Hp->Prop}(h:W X G F Z ρ (noX m) C):W X G F Z ρ m C:=by
 cases m with
 | ret a=>exact h
 | exc x=>exact h.elim
 | bad=>exact h.elim
def El(td ty:TE):TE:=λZ H Q=>td Z H λx H1=>∃a,x=.ref a/\IsD H1 a/\ty Z H1 λy H2=>∃o,yH H2 a y o/\Q (o.getD .non) H2
section
variable {o f:Expr} {td ty tx:TE}
theorem zH(hu:X.A.units+1<cLine)(ho:PE X o td)(he:PE X e ty)(m:M1 X o "get" apos e cpos):PE X (.Call (.Attribute o "get" apos) [e] [] cpos) (El td ty):=by
 intro pins s Z H Q I h
 refine wpAny_Call_method m.base m.few m.line PySem.F.plainAttrs_dict JH PySem.F.type_dict_get (thn (ho pins s Z H _ I h) λu s1 ⟨x,H1,I1,rx,a,ex,d,q1⟩=>?_)
 subst ex
 obtain rfl:u=Value.ref a:=rx
 obtain⟨t1,t2,_⟩:=FF I1 d
 refine⟨t1,t2,?_⟩
 rw[m.trees]
 refine K3 rfl (Calls.evalArgs_plain (Ko (thn (he pins s1 Z H1 _ I1 q1) λiv s2 ⟨y,H2,I2,ry,ov,g,q2⟩=>Ku ?_)))
 exact Gz hu I2 g ry λw' s3 I3 rw'=>⟨_,H2,I3,rw',q2⟩
end
section
variable {o f:Expr} {po pe pf:Pu D}
theorem A5(hu:X.A.units+1100<cLine)(ho:AO X o po)(he:AP X e pe)(m:M1 X o "get" apos e cpos):AP X (.Call (.Attribute o "get" apos) [e] [] cpos) (E3 po pe) :=
 λG F Z H ρ Q S w=>sem (zH (by lia) aC aC m) (ho G F Z H ρ _ S (w.bind.imp λd F1 H1 s1 S1 w1 v hv=>by
  have hd:∃es,d=.dict es/\d9 es=false:=by
   cases hk:pe ρ with
   | ret k =>
    rw[hk]at w1;simp only[eO,gn]at w1
    obtain⟨res,e,_⟩:=w1.opt
    cases d with
    | dict es =>
     dsimp only[sN]at e
     split at e
     ·rename_i hk;exact⟨es,rfl,qk hk⟩
     ·cases e
    | _=>cases e
   | exc x=>rw[hk]at w1;exact w1.elim
   | bad=>rw[hk]at w1;exact w1.elim
  obtain⟨es,rfl,hnx⟩:=hd
  obtain⟨a,rfl,hh⟩:=(hv.or S1).dict S1.fh hnx
  refine⟨a,rfl,DT.isD hh,he G F1 Z H1 ρ _ S1 (w1.bind.nx.imp λk F2 H2 s2 S2 w2 y hy=>?_)⟩
  obtain⟨res,e,kk⟩:=w2.opt
  dsimp only[sN]at e
  split at e
  case isFalse=>cases e
  rename_i hk
  cases e
  obtain⟨a',ea,hh3⟩:=((hv.mono s2).or S2).dict S2.fh hnx
  cases ea
  rcases u6 S2.fh hh3 hy hk with ⟨d,v,e1,g,r⟩|⟨e1,g⟩
  ·refine⟨some v,g,?_⟩
   rw[e1]at kk
   exact kk F2 H2 (Same.refl _) S2 v r
  ·refine⟨none,g,?_⟩
   rw[e1]at kk
   exact kk F2 H2 (Same.refl _) S2 .non .non))
end
def IX(neg:Bool):R2:=λx y H Q=>∃a o,y=.ref a/\yH H a x o/\Q (.bl (if neg then !o.isSome else o.isSome)) H
def vC(K:Fg):R2:=λx y H Q=>rD2 K iD x y H Q\/IX true x y H Q
def Hk:R2:=λx y H Q=>∃a v,x=.ref a/\DGet H a y (some v)/\Q v H
def Hj(K:Fg):R2:=λx y H Q=>rIx K x y H Q\/Hk x y H Q
section
theorem bS(hu:X.A.units+1100<cLine):OpR X (compareOp .NotIn) (vC X.K):=OpR.or (xG hu) (by
 intro pins s Z H x y v u Q I rx ry ⟨a,o,e,g,q⟩
 subst e
 obtain rfl:u=Value.ref a:=ry
 exact Do (by lia) I g rx λs' I'=>⟨.bl _,H,I',rfl,q⟩)
theorem CG(hu:X.A.units+1100<cLine):IxR X Hk:=by
 intro value slice pins s Z H x y v u Q I rx ry ⟨a,w,e,g,q⟩ hs
 subst e
 obtain rfl:v=Value.ref a:=rx
 have hT:s.TypeIs (.ref a) "dict":=sM I g
 unfold subscriptTail
 refine zza ?_
 rw[getitemInPython_of_ne hT.not_modules]
 refine zza (wpAny_specialOf hT PySem.F.slot_dict_getitem.lookup ?_)
 have h₂:wpAny (model X.prog X.w) X.A (getItem (.ref a) u) (EP X pins Z Q) X.xe s:=yj (by lia) I g ry λw' s3 I3 rw'=>⟨w,H,I3,rw',q⟩
 have fin:wpAny (model X.prog X.w) X.A (subscripted slice false (.ref a) u) (λr s₃=>wpAny (model X.prog X.w) X.A (letTemporaryGo value (.ref a) r >>= λ_=>pure r) (EP X pins Z Q) X.xe s₃) X.xe s:=by
  rw[hs]
  exact wpAny_operating (r0 h₂ (λr s₃ h₃=>zza (wpAny_letTemporaryGo (zzb h₃))) λ_ _ x=>x)
 first
  | exact zzb (zza fin)
  | exact zza (zzb (zza fin))
  | exact zza fin
theorem aI(hu:X.A.units+1100<cLine):IxR X (Hj X.K):=IxR.or FA (CG hu)
theorem oN{es:List (D×D)}{k:D}(h:OR K F H y k)(hk:keyOk es k=true):Rep K F y k:=by
 rcases h with h|⟨a,c,e,e2,h1,hI⟩
 ·exact h
 ·exfalso
  subst e2
  unfold keyOk at hk
  cases c<;>simp[OC.d,bX,cM]at hk
theorem cn:OpB K (vC K) bx:=by
 intro G F Z H ρ x y dx dy res Q S ox oy e k
 unfold bx at e
 split at e
 ·rename_i es
  split at e
  case isFalse=>cases e
  rename_i hk
  cases e
  obtain⟨a,rfl,hh⟩:=oy.dict S.fh (qk hk)
  rcases u6 S.fh hh (oN ox hk) hk with ⟨d,v,e1,g,r⟩|⟨e1,g⟩
  ·exact .inr ⟨a,_,rfl,g,by rw[e1]at k;exact k⟩
  ·exact .inr ⟨a,_,rfl,g,by rw[e1]at k;exact k⟩
 ·exact .inl (eM G F Z H ρ x y dx dy res Q S ox oy e k)
theorem aH:OpD K (Hj K) aD:=by
 intro G F Z H ρ x y dx dy res Q S ox oy e k
 unfold aD at e
 split at e
 ·rename_i es
  split at e
  case isFalse=>cases e
  rename_i hk
  obtain⟨a,rfl,hh⟩:=ox.dict S.fh (qk hk)
  rcases u6 S.fh hh (oN oy hk) hk with ⟨d,v,e1,g,r⟩|⟨e1,g⟩
  ·rw[e1]at e
   cases e
   rcases g with g|⟨_,_,z⟩
   ·exact .inr ⟨a,v,rfl,g,k v F H (Same.refl _) S r⟩
   ·cases z
  ·rw[e1]at e;cases e
 ·exact .inl (HC G F Z H ρ x y dx dy res Q S ox oy e k)
end
def B5(ρ:En)(i:Nat):Option (Bool×List (D×D)):=match ρ[i]? with
 | some (some (.ol (.t es)))=>some (true,es)
 | some (some (.ol (.k es)))=>some (false,es)
 | _=>none
def ocD(t:Bool)(es:List (D×D)):OC:=if t then .t es else .k es
theorem rG{ρ:En}{t:Bool}{es:List (D×D)}(h:B5 ρ i=some (t,es)):ρ[i]? = some (some (.ol (ocD t es))):=by
 unfold B5 at h
 split at h
 ·rename_i q;cases h;exact q
 ·rename_i q;cases h;exact q
 ·cases h
def keyOf(t:Bool)(k:D):Bool:=if t then bX k else cM k
def gI(t:Bool)(es:List (D×D))(k d:D):Option (List (D×D)):=if keyOf t k&&decide (es.length<sizeLine)then some (rm es k d)else none
section
variable {S:Type}
def DC(t:Bool)(i:Nat):SM S:=λK ρ=>match eN ρ i with
 | true=>K.nx (ρ.set i (some (.ol (ocD t []))))
 | false=>.bad
def EB(i:Nat)(mi me:Ev S D):SM S:=λK ρ=>me K.x (λd ρ1=>match B5 ρ1 i with
 | some _=>mi K.x (λj ρ2=>match B5 ρ2 i with
  | some (t,es)=>(oM (gI t es j d)).on (λe=>K.x e ρ2) (λes'=>K.nx (ρ2.set i (some (.ol (ocD t es')))))
  | none=>.bad) ρ1
 | none=>.bad) ρ
variable {b:Expr} {mi me:Ev S D} {pos' tpos:Pos}
theorem qH(t:Bool)(hN:X.N.Nodup)(hi:X.N[i]? = some x)(hx:Loc X.env.scope x)(hs:swapsWith (.Dict [] [] tpos) (some (.Name x pos')) pos.line X.env=pure false)(hf:X.fn x=true\/X.env.scope.names.lookup x=some .local) :
  AS (S:=S) X (.Assign [.Name x pos'] (.Dict [] [] tpos) pos) (DC t i):=λOK K G F Z H ρ E hO hX St ok eo=>by
 unfold DC at ok
 split at ok
 case h_2=>exact(hO ok).elim
 rename_i ho
 obtain⟨hl,hop⟩:=bY ho
 cases t with
 | true=>exact fw (jg hN hi hx zF hs hf) λp hp=>eo.nx F _ _ _ (Same.refl _) ((St.lay (o:=.dT []) hp).store hop hl (.inr ⟨.t [],rfl,p,rfl,⟨St.fh.free hp,St.oh.free hp,[],aB,rfl,.nil⟩,St.fresh_ne hp⟩)) ok
 | false=>exact fw (jg hN hi hx zG hs hf) λp hp=>eo.nx F _ _ _ (Same.refl _) ((St.lay (o:=.dK []) hp).store hop hl (.inr ⟨.k [],rfl,p,rfl,⟨St.fh.free hp,St.oh.free hp,[],aB,rfl,.nil⟩,St.fresh_ne hp⟩)) ok
theorem iL(hu:X.A.units+1100<cLine)(hN:X.N[i]? = some x)(hv:Vis X.env.scope x)(hi:AE X b mi)(he:AE X e me)
  (hs:swapsWith e (some (.Subscript (.Name x pos') b tpos)) pos.line X.env=pure false)
  (hd:(x==("__debug__" : Str))=false:=by decide) (hcd:(x==("__classdict__" : Str))=false:=by decide):AS X (.Assign [.Subscript (.Name x pos') b tpos] e pos) (EB i mi me):=λOK K G F Z H ρ E hO hX St ok eo =>
 fw (BV (by lia) (e8 hN hv hd hcd) aC aC hs) (he OK K.x _ G F Z H ρ _ hO hX St ok λd v F1 H1 ρ1 s1 S1 r1 o1=>by
  split at o1
  case h_2=>exact(hO o1).elim
  rename_i te0 hd0
  obtain⟨t0,es0⟩:=te0
  obtain⟨a,ea,_⟩:=S1.ow i _ (.inl (rG hd0))
  refine⟨_,ea,hi OK K.x _ G F1 Z H1 ρ1 _ hO hX S1 o1 λj u F2 H2 ρ2 s2 S2 r2 o2=>?_⟩
  split at o2
  case h_2=>exact(hO o2).elim
  rename_i t es hds
  obtain⟨es',hp,o3⟩:=cg hO o2
  have hown:=rG hds
  obtain⟨a',ea',oa⟩:=S2.ow i _ (.inl hown)
  rw[ea]at ea'
  injection ea' with ea';injection ea' with ea';injection ea' with ea'
  subst ea'
  unfold gI at hp
  split at hp
  case isFalse=>cases hp
  rename_i hc
  cases hp
  rw[ax,zzi]at hc
  cases t with
  | true =>
   obtain⟨ks,rfl⟩:=dR hc.1
   obtain⟨b,rfl,hb⟩:=fy r2
   obtain⟨kvs,h1,h2,h3⟩:=(show Held X.K F2 H2 a (.t es)from oa.he)
   obtain⟨p1,p2⟩:=kW qj ks (r1.mono s2) h2 h3
   have hlen:kvs.length=es.length:=by have:=congrArg List.length h2;simpa using this.symm
   refine⟨a,_,rfl,DPut.t h1 (S2.fh _ _ hb) (by lia),eo.nx F2 Z _ _ (s1.trans s2) ?_ o3⟩
   have:=S2.change (.inl hown) ea (c':=.t (rm es (g7 ks) d)) (o:=.dT (putK kvs ks v)) ⟨_,aB,p1,p2⟩
   rw[hown]at this
   exact this
  | false =>
   obtain⟨ks,rfl⟩:=fF hc.1
   obtain rfl:=gP r2
   obtain⟨kvs,h1,h2,h3⟩:=(show Held X.K F2 H2 a (.k es)from oa.he)
   obtain⟨p1,p2⟩:=kW uA ks (r1.mono s2) h2 h3
   have hlen:kvs.length=es.length:=by have:=congrArg List.length h2;simpa using this.symm
   refine⟨a,_,rfl,DPut.k h1 (by lia),eo.nx F2 Z _ _ (s1.trans s2) ?_ o3⟩
   have:=S2.change (.inl hown) ea (c':=.k (rm es (keyD ks) d)) (o:=.dK (putK kvs ks v)) ⟨_,aB,p1,p2⟩
   rw[hown]at this
   exact this)
end
end L4
namespace HT
open PySem PyProof.Rows
end HT
namespace L4
open PySem PySem.Spec PyProof.Rows L2 L3
def ki(x y:D):Option Bool:=match x,y with
 | .tuple a,.tuple b=>match intsOf a,intsOf b with
  | some m,some n=>some (HT.lexLt m n)
  | _,_=>none
 | x,y=>tZ x y
def He(K:Fg):R2:=λx y H Q=>rI0 (λi j=>.bl (decide (i<j))) x y H Q\/Hd K x y H Q
theorem zM{X:Cx}(hu:X.A.units+1100<cLine):OpR X (compareOp .Lt) (He X.K):=OpR.or Hz (E5 (by lia))
theorem zQ{K:Fg}:OpB K (He K) ki:=by
 intro G F Z H ρ x y dx dy res Q S ox oy e k
 unfold ki at e
 split at e
 ·rename_i a b
  split at e
  ·rename_i m n hm hn
   cases e
   obtain⟨p,vs,rfl,h1,h2⟩:=ox.tuple S.fh
   obtain⟨q,us,rfl,g1,g2⟩:=oy.tuple S.fh
   rw[bV hm]at h2
   rw[bV hn]at g2
   rw[cm h2]at h1
   rw[cm g2]at g1
   exact .inr ⟨p,q,m,n,rfl,rfl,h1,g1,k⟩
  ·cases e
 ·exact .inl (HB G F Z H ρ x y dx dy res Q S ox oy e k)
end L4
namespace PySem
open Sem (wp)
open AutoSeq1 (wpAny_loadPart')
variable {prog:Program}{w:World}{A:Around}{Q:zzj}
section
variable {E:zzj} {s:Shared}
theorem kI{it t:Addr}{i:Nat}{items}{x:Value}(hit:s.heap.IsTupleIter it t i)
  (ht:s.heap.IsTuple t items) (hx:items[i]? = some x)
  (hQ:∀h',h'.IsTupleIter it t (i+1)->Heap.SameBut it s.heap h'->Q x { s with heap:=h' }) :
  wpAny (model prog w) A (Builtin.SmallTypes.nextOf (.ref it)) Q E s:=by
 obtain⟨o,ho,hc,hd⟩:=id hit
 obtain⟨ol,hol,_,nl,hdl⟩:=ht
 unfold Builtin.SmallTypes.nextOf
 refine zza (se (name:=Str.ofString "__next__") hit.typeIs JL
  (wd JL hit.typeIs F.entry_tuple_iterator_next ?_ (F.args_tuple_iterator_next_1 _)))
 show wpAny _ _ (field (.ref it) 0 >>= _) _ _ s
 refine zza (tu ho hd (x:=.ref t) rfl ?_)
 show wpAny _ _ (if(Value.ref t==Value.none)=true then _ else _) _ _ s
 rw[am (show ¬ ((Value.ref t==Value.none)=true)from ul)]
 show wpAny _ _ (field (.ref it) 1 >>= _) _ _ s
 refine zza (tu ho hd (x:=.int i 0) rfl ?_)
 show wpAny _ _ (seqItems? (.ref t) >>= _) _ _ s
 refine zza (wpAny_seqItems hol hdl ?_)
 simp only[J0,hx]
 refine zza (Cr ho hd (by simp) (zzb ⟨x,rfl,zzb (hQ _ ?_ (Heap.SameBut.update ..))⟩))
 exact⟨_,ue _ ho (yi (oR hd _)),(Ks ..).trans hc,by
  rw[oR hd];simp[rawInt]⟩
theorem gX{it t:Addr}{i:Nat}{items}(hh:A.handled=none)
  (hit:s.heap.IsTupleIter it t i) (ht:s.heap.IsTuple t items) (hx:items[i]? = none)
  (hE:∀h' e,Heap.ExtBut it s.heap h'->(∃o,h'.get? e=some o/\o.cls=.type "StopIteration")->E (.ref e) { s with heap:=h' }) :
  wpAny (model prog w) A (Builtin.SmallTypes.nextOf (.ref it)) Q E s:=by
 obtain⟨o,ho,hc,hd⟩:=id hit
 obtain⟨ol,hol,_,nl,hdl⟩:=ht
 unfold Builtin.SmallTypes.nextOf
 refine zza (se (name:=Str.ofString "__next__") hit.typeIs JL
  (wd JL hit.typeIs F.entry_tuple_iterator_next ?_ (F.args_tuple_iterator_next_1 _)))
 show wpAny _ _ (field (.ref it) 0 >>= _) _ _ s
 refine zza (tu ho hd (x:=.ref t) rfl ?_)
 show wpAny _ _ (if(Value.ref t==Value.none)=true then _ else _) _ _ s
 rw[am (show ¬ ((Value.ref t==Value.none)=true)from ul)]
 show wpAny _ _ (field (.ref it) 1 >>= _) _ _ s
 refine zza (tu ho hd (x:=.int i 0) rfl ?_)
 show wpAny _ _ (seqItems? (.ref t) >>= _) _ _ s
 refine zza (wpAny_seqItems hol hdl ?_)
 simp only[J0,hx]
 refine zza (JJ (zza (Cr ho hd (by simp) ?_)))
 first
  | (show wpAny _ _ (newExc (.type "StopIteration") [] >>= _) _ _ _
     refine zza ?_
     simp only[newExc,newTuple]
     refine zza (pi ?_ (by size_fits))
     refine zza (m:=firstArgMember _ _) (wpAny_of_eq (a:=Value.none) (by first|rfl|(simp only[firstArgMember];rfl)) ?_)
     refine pi ?_ (by size_fits)
     simp only[raiseNew]
     refine zza (wpAny_handled ?_)
     first|rw[show A.in1.handled=none from hh]|rw[hh]
     refine zza (zzb (wpAny_throw ?_))
     exact hE _ _ (((Heap.SameBut.update ..).extBut.push _).push _) ⟨_,zze _ rfl,rfl⟩)
  | (refine zza (wpAny_letGo ?_)
     show wpAny _ _ (newExc (.type "StopIteration") [] >>= _) _ _ _
     refine zza ?_
     simp only[newExc,newTuple]
     refine zza (pi ?_ (by size_fits))
     refine zza (m:=firstArgMember _ _) (wpAny_of_eq (a:=Value.none) (by first|rfl|(simp only[firstArgMember];rfl)) ?_)
     refine pi ?_ (by size_fits)
     simp only[raiseNew]
     refine zza (wpAny_handled ?_)
     first|rw[show A.in1.handled=none from hh]|rw[hh]
     refine zza (zzb (wpAny_throw ?_))
     exact hE _ _ (((Heap.SameBut.update ..).extBut.push _).push _) ⟨_,zze _ rfl,rfl⟩)
end
theorem oZ(hh:A.handled=none)(it l:Addr)(hne:l≠it)(items:Array Value) :
  Draws prog w A it [it,l] items.size (λi v=>items[i]? = some v) (λi h=>h.IsTupleIter it l i/\h.IsTuple l items) where
 live:=λ_ _ st=>let ⟨o,ho,_⟩:=st.1;⟨o,ho⟩
 frame:=λ_ _ _ st hk=>⟨st.1.at λo e=>hk it (by simp) o e,by obtain⟨o,e,r⟩:=st.2;exact⟨o,hk l (by simp) o e,r⟩⟩
 item:=λi s Q E hi st hQ=>by
  refine kI st.1 st.2 (x:=items[i]) (by simp[hi]) λh' hit' hs'=>?_
  exact hQ _ h' s.toks (by simp[hi]) ⟨hit',st.2.extBut hs'.extBut hne⟩ hs'
 done:=λs Q E st hE=>gX hh st.1 st.2 (by simp) hE
set_option maxHeartbeats 1000000 in
theorem kJ(l:Addr)(items:Array Value)(n:Nat)(dct:Option Addr)(sl:Array (Option Value)) :
  Meets (Builtin.«enumerate.__new__» ⟨[.type "enumerate",.ref l],[]⟩) (λ_ R s=>s.heap.get? l=some { cls:=.type "tuple",dict:=dct,data:=.seq items n,slots:=sl } /\
   R (.ok (.ret (.ref (s.heap.push { cls:=.type "tuple_iterator",data:=.fields #[.ref l,.int 0 0] }).objs.size)))
    { s with heap:=(s.heap.push { cls:=.type "tuple_iterator",data:=.fields #[.ref l,.int 0 0] }).push { cls:=.type "enumerate",data:=.fields #[.none,.bool false,.ref s.heap.objs.size,rawInt 0,.none,.none] } }) :=
 .of_wp λprog w A R s h=>by
  obtain⟨hp,g,d,tk,os⟩:=s;obtain⟨hl,h⟩:=h
  have hsub:=sub_enumerate
  have hL:Heap.IsTuple (Shared.heap ⟨hp,g,d,tk,os⟩) l items:=⟨_,hl,rfl,n,rfl⟩
  wp_walk using wpAny_loadPart' hl
  refine wpAny_stack_any λst=>zzb ?_
  split
  ·rename_i c _ _ _ _ _
   cases (c==Value.type "enumerate")
   ·wp_walk using wpAny_loadPart' hl,Er hL
    exact⟨_,rfl,h⟩
   ·wp_walk using wpAny_loadPart' hl,Er hL
    exact⟨_,rfl,h⟩
  ·wp_walk using wpAny_loadPart' hl,Er hL
   exact⟨_,rfl,h⟩
section
variable {E:zzj} {s:Shared}
theorem kO{l:Addr}{items:Array Value}(hL:s.heap.IsTuple l items)
  (h:∀h',IsEnum h' (s.heap.objs.size+1) s.heap.objs.size 0 .none->h'.IsTupleIter s.heap.objs.size l 0->h'.objs.size=s.heap.objs.size+2 ->
   (∀b o,s.heap.get? b=some o->h'.get? b=some o)->Q (.ref (s.heap.objs.size+1)) { s with heap:=h' }) :
  wpAny (model prog w) A (call (.type "enumerate") [.ref l]) Q E s:=by
 obtain⟨⟨c,dct,dt,sl⟩,hl,hc,n,hd⟩:=hL
 replace hc:c=.type "tuple":=hc
 replace hd:dt=.seq items n:=hd
 subst hc hd
 refine callType_new F.called_enumerate (by decide) (F.typeCall_enumerate_1 _) (F.newCall_enumerate_1 _) (λobj=>F.args_object_init_2 obj _) F.entry_enumerate_new
  (kJ l items n dct sl) ⟨hl,?_⟩
 have hz:(s.heap.push { cls:=.type "tuple_iterator",data:=.fields #[.ref l,.int 0 0] }).objs.size=s.heap.objs.size+1:=JK ..
 show _/\_
 rw[hz]
 have he:IsEnum ((s.heap.push { cls:=.type "tuple_iterator",data:=.fields #[.ref l,.int 0 0] }).push
   { cls:=.type "enumerate",data:=.fields #[.none,.bool false,.ref s.heap.objs.size,rawInt 0,.none,.none] }) (s.heap.objs.size+1) s.heap.objs.size 0 .none:=by
  have:=zze (s.heap.push { cls:=.type "tuple_iterator",data:=.fields #[.ref l,.int 0 0] })
   (o:={ cls:=.type "enumerate",data:=.fields #[.none,.bool false,.ref s.heap.objs.size,rawInt 0,.none,.none] }) rfl
  rw[hz]at this;exact this
 refine⟨⟨_,he,rfl⟩,h _ he ⟨_,zzc _ (zze _ rfl),rfl,rfl⟩ (by rw[JK,hz]) λb o x=>zzc _ (zzc _ x)⟩
end
end PySem
namespace L3
open PySem PySem.Spec PyProof.Rows L2 L4
def Ite(K:Fg)(a:Addr):It :=
 ⟨λi H=>∃xs x,SqT K H a xs/\xs[i]? = some x,λi H y H'=>∃p x,(∀xs,SqT K H a xs->xs[i]? = some x)/\H p=none/\y=.ref p/\H'=upd H p (.tup [.int i,x]),λi H=>∃xs,SqT K H a xs/\xs.length<=i⟩
theorem sJ{X:Cx}{pins:zzk}{Z:L2.St}{H:Hp}{s:Shared}{e it:Addr}{i:Nat}{x:V}{x':Value}{tk:Nat}{h2:Heap}(I:Inv X pins Z H s)(fe:jS X pins H e)(ft:jS X pins H it)(ru:RelV x x')
  (keep2:∀b o,b≠e->b≠it->s.heap.get? b=some o->h2.get? b=some o) (tup2:h2.get? s.heap.objs.size=some { cls:=.type "tuple",data:=.seq #[.int i tk,x'] }) :
  Inv X pins Z (upd H s.heap.objs.size (.tup [.int i,x])) { s with heap:=h2,toks:=tk+1 }:=by
 refine zJ (ch:=[e,it]) I (λc hc=>?_) (⟨tk,rfl⟩:RelV (.int i) (.int i tk)) ru (λb o hch q=>keep2 b o (λz=>hch (by rw[z];exact ce)) (λz=>hch (by rw[z];exact zzg _ ce)) q) tup2
 rcases List.mem_cons.mp hc with rfl|hb
 ·exact fe
 ·rw[List.mem_singleton.mp hb];exact ft
theorem wY{P:Program}{w:World}{K:Fg}{elts:List Expr}{x1:Nat}{pos:Pos}(a it e:Addr)(hai:a≠it)(hei:e≠it)(hea:e≠a) :
  Turn P w K (.Tuple elts x1 pos) (Ite K a) [e,it] e (λi h=>(∃old,IsEnum h e it i old)/\h.IsTupleIter it a i) where
 mem:=by simp
 obj:=λi h st b hb=>by
  obtain⟨⟨old,he⟩,o,e1,c,d⟩:=st
  rcases List.mem_cons.mp hb with rfl|hb
  ·exact⟨_,he,λv z=>nomatch z⟩
  ·rw[List.mem_singleton.mp hb]
   exact⟨o,e1,λv z=>by rw[d]at z;cases z⟩
 keep:=λi h h' st k=>by
  obtain⟨⟨old,he⟩,ht⟩:=st
  exact⟨⟨old,k e (by simp) _ he⟩,ht.at λo e=>k it (by simp) o e⟩
 item:=by
  intro X hP hw hK hc i pins s Z H E I hf st hg
  subst hP hw hK
  obtain⟨xs,x,hq,hx⟩:=hg
  obtain⟨its,rv,p,hz⟩:=I.tuple hq
  obtain⟨u,hu,ru⟩:=rv.get hx
  obtain⟨⟨old,he⟩,ht⟩:=st
  have D:=oZ (prog:=X.prog) (w:=X.w) (A:=X.A.in1) (I.ok.hd hc) it a hai its.toArray
  have hi:i<its.toArray.size:=by simpa using(List.getElem?_eq_some_iff.mp hu).1
  have fe:=hf e (by simp)
  have ft:=hf it (by simp)
  refine wpAny_pyNext_enum_itemD D he ⟨ht,show s.heap.IsTuple a its.toArray from p⟩ hi hei (by simp[hei,hea]) λx' h' tk hP ho hs' hT hsz hk=>?_
  have ex:x'=u:=by
   have:its.toArray[i]? = some x':=hP
   rw[K8,hu]at this
   exact(Option.some.inj this).symm
  subst ex
  refine⟨_,rfl,wpAny_letOwnedTupleGo_enum ho λh2 he2 sb2=>?_⟩
  have hpe:s.heap.objs.size≠e:=xz (ay he)
  have hpi:s.heap.objs.size≠it:=by obtain⟨o,e1,_⟩:=ht;exact xz (ay e1)
  have keep2:∀b o,b≠e->b≠it->s.heap.get? b=some o->h2.get? b=some o:=λb o h1 h2' q=>(sb2.2 b h1).trans (hk b o h1 h2' q)
  have tup2:h2.get? s.heap.objs.size=some { cls:=.type "tuple",data:=.seq #[.int i tk,x'] }:=(sb2.2 _ hpe).trans hT
  have I1:Inv X pins Z (upd H s.heap.objs.size (.tup [.int i,x])) { s with heap:=h2,toks:=tk+1 }:=sJ I fe ft ru keep2 tup2
  refine⟨.ref s.heap.objs.size,_,I1,rfl,⟨_,x,λys hy=>by rw[I.tuple_inj hy hq];exact hx,I.fresh,rfl,rfl⟩,⟨⟨_,by simpa using he2⟩,?_⟩,λb hb=>?_⟩
  ·obtain⟨o,e1,r⟩:=hs'.1
   exact⟨o,(sb2.2 it (Ne.symm hei)).trans e1,r⟩
  ·rcases List.mem_cons.mp hb with rfl|hb
   ·rw[aA (Ne.symm hpe)];exact fe.1
   ·rw[List.mem_singleton.mp hb,aA (Ne.symm hpi)];exact ft.1
 done:=by
  intro X hP hw hK hc i pins s Z H E I hf st hg
  subst hP hw hK
  obtain⟨xs,hq,hx⟩:=hg
  obtain⟨its,rv,p,hz⟩:=I.tuple hq
  obtain⟨⟨old,he⟩,ht⟩:=st
  obtain⟨g0,g1,g2,g3,g4,g5⟩:=hf it (by simp)
  have hl:=rv.length
  have D:=oZ (prog:=X.prog) (w:=X.w) (A:=X.A.in1) (I.ok.hd hc) it a hai its.toArray
  have hT:s.TypeIs (.ref e) "enumerate":=⟨_,he,rfl⟩
  unfold pyNext
  refine zza (Ky (se (name:=Str.ofString "__next__") hT J4
   (wd J4 hT F.entry_enumerate_next ?_ (F.args_enumerate_next_1 _))))
  show wpAny _ _ (field (.ref e) 2 >>= _) _ _ _
  refine zza (tu he rfl (x:=.ref it) rfl ?_)
  refine zza (gX (I.ok.hd hc) ht (show s.heap.IsTuple a its.toArray from p) (by simp;lia) λh' x he' hx'=>?_)
  obtain⟨o,ho,hcl⟩:=hx'
  refine zza (KF (T := "StopIteration") (b:=true) ⟨o,ho,hcl⟩ isSubtype_stop ?_)
  exact zzb ⟨rfl,I.turned (t':=s.toks) (λb o hb e=>he' b o hb e) g0 g1 g3 g4 g5⟩
 self:=λ_ _ _ _ _ st h=>by
  obtain⟨⟨old,he⟩,ht⟩:=st
  exact Kr he h
def eC(ds:List D):List D:=ds.zipIdx.map λp=>PyData.tuple [.int (p.2:Int),p.1]
theorem dJ(ds:List D):(eC ds).length=ds.length:=by simp[eC]
theorem wW{K:Fg}{F:Hp}{a:Addr}{vs:List V}{ds:List D}(h:SqT K F a vs)(r:RepL K F vs ds):Walk K (Ite K a) (eC ds) F where
 go:=λi G F2 Z H2 ρ s S hi=>by
  have hi':i<vs.length:=by rw[r.length];rw[dJ]at hi;exact hi
  exact⟨vs,vs[i],bK S.fh (bK s h),by simp[hi']⟩
 yld:=λi G F2 Z H2 ρ x H3 d s S hd ⟨p,y,hy,hp,hx,hH⟩=>by
  subst hx hH
  unfold eC at hd
  rw[nu,List.getElem?_zipIdx]at hd
  cases q:ds[i]? with
  | none=>rw[q]at hd;cases hd
  | some d' =>
   rw[q]at hd
   simp at hd
   subst hd
   obtain⟨v,e1,e2⟩:=r.get q
   have:=hy vs (bK S.fh (bK s h))
   rw[e1]at this
   cases this
   obtain⟨s2,S2,r2⟩:=S.newTup hp (RepL.cons (Rep.int (i:Int)) (RepL.cons (e2.mono s) RepL.nil))
   exact⟨_,s2,S2,r2⟩
 stop:=λG F2 Z H2 ρ s S=>⟨vs,bK S.fh (bK s h),by rw[r.length,dJ];exact ai _⟩
def HW(K:Fg)(tl:TA):TI:=λZ H R=>tl Z H λxs H1=>∃a,xs=[.ref a]/\(∃ys,SqT K H1 a ys)/\R (Ite K a) H1
theorem B0{X:Cx}{e:Expr}{tl:TA}{elts:List Expr}{x1:Nat}{tp p pos:Pos}(hg:Gl X "enumerate")(hm:X.mg "enumerate" = none)(ha:PA X [e] tl)(hs:starEach [e] X.env=[(false,eval e X.env)]) :
  PI X (.Tuple elts x1 tp) (.Call (.Name "enumerate" p) [e] [] pos) (HW X.K tl):=by
 intro pins s Z H R I h
 refine re (fg I hg hm (show bootBuiltins "enumerate" = some (.type "enumerate") by decide +kernel) ?_ (by decide) (by decide))
 refine pI (thn (ha pos pins s Z H _ I h) λus s1 ⟨vs,H1,I1,r1,q1⟩=>?_) hs rfl
 obtain⟨a,rfl,⟨ys,hq⟩,q⟩:=q1
 obtain⟨u,rfl,ru⟩:=L2.Vals.one r1
 cases ru
 obtain⟨its,rv,pt,hz⟩:=I1.tuple hq
 have alt:a<s1.heap.objs.size:=by obtain⟨o,e1,_⟩:=pt;exact ay e1
 refine kO (show s1.heap.IsTuple a its.toArray from pt) λh' he ht hsz hk=>?_
 refine Kr (s:={ s1 with heap:=h' }) he ?_
 refine⟨s1.heap.objs.size+1,[s1.heap.objs.size+1,s1.heap.objs.size],_,_,H1,rfl,I1.kept (t':=s1.toks) hk,wY a s1.heap.objs.size (s1.heap.objs.size+1) (eE alt) (Nat.succ_ne_self _) (xz (sd alt)),⟨⟨_,he⟩,ht⟩,λb hb=>?_,q⟩
 rcases List.mem_cons.mp hb with rfl|hb
 ·exact I1.fpOk (Ke _) (I1.hok.fresh (Ke _))
 ·rw[List.mem_singleton.mp hb]
  exact I1.fpOk (ai _) (I1.hok.fresh (ai _))
end L3
namespace L4
open PySem PySem.Spec PyProof.Rows L2 L3
variable {X:Cx}{F H:Hp}
def iX:List D->Option (List D)
 | [.tuple ds]=>some (eC ds)
 | _=>none
section
variable {tg e:Expr} {p pos tp:Pos} {elts:List Expr} {x1:Nat}
theorem CU{vs:List V}{ds out:List D}{R:It->Hp->Prop}(s:Same F H)(r:RepL X.K F vs ds)(h:iX ds=some out)(k:∀J,Walk X.K J out F->R J H) :
  ∃a,vs=[.ref a]/\(∃ys,SqT X.K H a ys)/\R (Ite X.K a) H:=by
 unfold iX at h
 split at h
 ·cases h
  obtain⟨v,rfl,r1⟩:=r.one_inv
  obtain⟨a,vs,rfl,a1,a2⟩:=r1.tup_inv
  exact⟨_,rfl,⟨_,SqT.of (s _ _ a1)⟩,k _ (wW (SqT.of a1) a2)⟩
 ·cases h
theorem qK{ps:Pa (List D)}(hg:Gl X "enumerate")(hm:X.mg "enumerate" = none)(ha:AA X [e] ps)(hs:starEach [e] X.env=[(false,eval e X.env)]):AI X (.Tuple elts x1 tp) (.Call (.Name "enumerate" p) [e] [] pos) (ji iX ps) :=
 λG F Z H ρ R S w=>xu (B0 hg hm bI hs) (ha G F Z H ρ _ _ _ S w λds vs F1 H1 s1 S1 _ r1 w1=>by
  obtain⟨out,hd,k⟩:=w1.opt
  exact CU S1.fh r1 hd (k F1 H1 (Same.refl _) S1))
end
def Gh.add(G:Gh)(p:Addr)(o:HO):Gh:={ G with O:=upd G.O p o }
theorem _root_.L3.StOk.hold{K:Fg}{G:Gh}{Z:L2.St}{ρ:En}(S:StOk K G F Z H ρ){p:Addr}{o:HO}(hp:H p=some o)(fp:F p=none)(ne:∀(i:Nat) (e:OC),own ρ i e->Z[i]? ≠ some (some (V.ref p)))(nt:yG o:=by exact True.intro):StOk K (Gh.add G p o) F Z H ρ:=by
 refine⟨S.fh,λb u e=>?_,λb u e=>?_,S.ln,S.fz,λi c h=>?_,S.dj,S.pp,S.pq,S.fb⟩
 ·by_cases hb:b=p
  ·subst hb
   rw[show(Gh.add G b o).O b=some o from aB]at e
   cases e;exact hp
  ·rw[show(Gh.add G p o).O b=G.O b from aA hb]at e
   exact S.oh b u e
 ·by_cases hb:b=p
  ·subst hb
   rw[show(Gh.add G b o).O b=some o from aB]at e
   cases e
   exact⟨fp,nt⟩
  ·rw[show(Gh.add G p o).O b=G.O b from aA hb]at e
   exact S.fo b u e
 ·obtain⟨a,e,oa⟩:=S.ow i c h
  refine⟨a,e,oa.nf,?_,oa.he⟩
  have:a≠p:=λz=>ne i c h (by rw[e,z])
  exact(show(Gh.add G p o).O a=G.O a from aA this).trans oa.no
theorem _root_.L3.StOk.unhold{K:Fg}{G:Gh}{Z:L2.St}{ρ:En}{p:Addr}{o:HO}(hn:G.O p=none)(S:StOk K (Gh.add G p o) F Z H ρ) :
  StOk K G F Z H ρ/\H p=some o/\F p=none/\∀(i:Nat) (e:OC),own ρ i e->Z[i]? ≠ some (some (V.ref p)):=by
 have at_p:(Gh.add G p o).O p=some o:=aB
 have u5:∀b,b≠p->(Gh.add G p o).O b=G.O b:=λb hb=>aA hb
 have nb:∀b u,G.O b=some u->b≠p:=λb u e z=>by rw[z,hn]at e;cases e
 refine⟨⟨S.fh,λb u e=>S.oh b u ((u5 b (nb b u e)).trans e),λb u e=>S.fo b u ((u5 b (nb b u e)).trans e),S.ln,S.fz,λi c h=>?_,S.dj,S.pp,S.pq,S.fb⟩,S.oh p o at_p,(S.fo p o at_p).1,λi c h e=>?_⟩
 ·obtain⟨a,e,oa⟩:=S.ow i c h
  have:a≠p:=λz=>by have:=oa.no;rw[z,at_p]at this;cases this
  exact⟨a,e,oa.nf,(u5 a this).symm.trans oa.no,oa.he⟩
 ·obtain⟨a,e',oa⟩:=S.ow i c h
  rw[e]at e'
  injection e' with e';injection e' with e';injection e' with e'
  have:=oa.no
  rw[<-e',at_p]at this
  cases this
theorem Ao:Iu X Jl:=by
 intro pins s Z H x y v u Q I rx ry h
 obtain⟨p,xs,i,z,rfl,rfl,hq,he,q⟩:=h
 cases rx
 obtain⟨t,rfl⟩:=ry
 obtain⟨its,r,pl,hz⟩:=I.list (SqL.of hq)
 obtain⟨j,h1,h2,h3,h4,h5⟩:=lc he
 obtain⟨w,ew,rw'⟩:=r.get h2
 have hl:=r.length
 have hn:=gZ
 have fin:EP X pins Z Q w s:=⟨z,H,I,rw',q⟩
 by_cases h0:0<=i
 ·have hj:i.toNat=j:=by
   rw[seqIndex_of h0 h5]at h1
   exact Option.some.inj h1
  exact wpAny_getItem_list pl.isList h0 (by lia) (by rw[hj];simpa using ew) fin
 ·have hj:(i+(its.toArray.size:Int)).toNat=j:=by
   rw[seqIndex_neg (by lia) h4]at h1
   rw[be,<-hl]
   exact Option.some.inj h1
  exact wpAny_getItem_list_neg pl.isList (by lia) (by rw[be]<;>lia) (by lia) (by rw[hj];simpa using ew) fin
section
variable {S:Type} {b e:Expr} {mj me:Ev S D} {pos pos' tpos:Pos}
theorem wQ{i:Nat}{x:Str}{op:Operator}{t:TIp}{f:D->D->Option D}(hN:X.N[i]? = some x)(hv:Vis X.env.scope x)(ho:PIp X op t)(hf:ipD f X.K t)(hj:AE X b mj)(he:AE X e me)
  (ha:∀ov iv new,augStore b ov iv new=(do holding [new,ov,iv] (setItem ov iv new);release [new,ov,iv] [];pure .next))
  (hd:(x==("__debug__" : Str))=false:=by decide) (hcd:(x==("__classdict__" : Str))=false:=by decide):AS X (.AugAssign (.Subscript (.Name x pos') b tpos) op e pos) (DD i f mj me):=λOK K G F Z H ρ E hO hX St ok eo =>
 fw (BW (e8 hN hv hd hcd) aC Ao aC ho set_list ha) (by
  unfold DD at ok
  split at ok
  case h_2=>exact(hO ok).elim
  rename_i ds0 hd0
  obtain⟨a,vs0,ea,_,_⟩:=cy St hd0
  refine⟨_,ea,hj OK K.x _ G F Z H ρ _ hO hX St ok λj u F1 H1 ρ1 s1 S1 r1 o1=>?_⟩
  split at o1
  case h_2=>exact(hO o1).elim
  rename_i ds hds
  obtain⟨a',vs,ea',hh,rv⟩:=cy S1 hds
  rw[ea]at ea'
  injection ea' with ea';injection ea' with ea';injection ea' with ea'
  subst ea'
  obtain⟨dx,hx,o2⟩:=cg hO o1
  have hint:∃k,j=.int k:=by
   cases j<;>first|exact⟨_,rfl⟩|cases hx
  obtain⟨k,rfl⟩:=hint
  cases r1
  obtain⟨v,ev,rvv⟩:=qG rv (show atI ds k=some dx from hx)
  refine⟨a,vs,k,v,rfl,rfl,hh,ev,?_⟩
  refine he OK K.x _ G F1 Z H1 ρ1 _ hO hX S1 o2 λd w F2 H2 ρ2 s2 S2 r2 o3=>?_
  obtain⟨r,er,o4⟩:=cg hO o3
  refine hf v w dx d r F2 H2 _ (rvv.mono s2) r2 er λz rz=>?_
  split at o4
  case h_2=>exact(hO o4).elim
  rename_i ds2 hds2
  obtain⟨a2,vs2,ea2,hh2,rv2⟩:=cy S2 hds2
  rw[ea]at ea2
  injection ea2 with ea2;injection ea2 with ea2;injection ea2 with ea2
  subst ea2
  obtain⟨ds',hp,o5⟩:=cg hO o4
  unfold putD at hp
  obtain⟨q,hq,rfl⟩:=Option.map_eq_some_iff.mp hp
  refine⟨a,vs2,k,q,rfl,rfl,hh2,by rw[rv2.length];exact hq,?_⟩
  exact eo.nx F2 Z _ _ (s1.trans s2) (jw S2 hds2 ea (RepL.set rz q rv2)) o5)
end
end L4
namespace HT
open PySem PySem.Spec PyProof.Rows
section
variable {prog:Program}{w:World}{A:Around}{E:zzj}{s:Shared}{xs:Array (Int×Tok)}{l:Addr}
theorem sum_intTup{Q:zzj}(hh:A.handled=none)(hl:s.heap.IsTuple l (intItems xs))(hfit:∀j,j<xs.size->InLong (numAt xs j)/\InLong (preSum (numAt xs) (j+1)))
  (h:∀h' tk t',(∀b o,s.heap.get? b=some o->h'.get? b=some o)->Q (.int (preSum (numAt xs) xs.size) t') { s with heap:=h',toks:=tk }) :
  wpAny (model prog w) A (call (.builtin "sum") [.ref l]) Q E s:=by
 have hlt:l<s.heap.objs.size:=by obtain⟨_,e,_⟩:=hl;exact ay e
 refine call_sum_walk (Er hl ?_)
 refine⟨_,_,_,_,_,_,numAt xs,rfl,Walks.tuple (A:=A.in1) hh _ l (eE hlt) (intItems xs),⟨⟨_,zze _ rfl,rfl,rfl⟩,?_⟩,λb hb=>?_,(λ_ _=>intItems_at),(λj hj=>hfit j (by simpa[intItems]using hj)),λh' tk t' hk=>?_⟩
 ·obtain⟨o,e,r⟩:=hl
  exact⟨o,zzc _ e,r⟩
 ·show b<(s.heap.push _).objs.size
  rw[JK]
  rcases List.mem_cons.mp hb with rfl|hb
  ·exact J5 _
  ·rcases List.mem_cons.mp hb with rfl|hb
   ·exact sd hlt
   ·cases hb
 ·have:=h h' tk t' λb o e=>hk b o (λhm=>by
   rcases List.mem_cons.mp hm with e1|hm
   ·exact absurd (e1▸ay e) (pr _)
   ·cases hm) (zzc _ e)
  simpa[intItems]using this
end
end HT
namespace L4
open PySem PySem.Spec PyProof.Rows L2 L3
variable {X:Cx}
def sH:List D->Option D
 | [.tuple ds]=>match intsOf ds with
  | some ns=>if lx ns then some (.int ns.sum)else none
  | none=>none
 | l=>FQ l
def wG:List D->Option D
 | [.tuple ds]=>Av [.tuple ds]
 | l=>FR l
theorem ym(hc:X.calm=true):CallR X (.builtin "sum") (lN X.K qw):=by
 intro pins s Z H xs us Q I r h0
 obtain⟨a,ns,i,rfl,hq,e,q⟩:=h0
 obtain⟨u,rfl,ru⟩:=L2.Vals.one r
 cases ru
 unfold qw at e
 split at e
 case isFalse=>cases e
 rename_i hok
 cases e
 obtain⟨its,rv,pl,hz⟩:=I.tuple hq
 obtain⟨ps,rfl,rfl⟩:=cJ rv
 have hnum:∀j,numAt ps.toArray j=(ps.map Prod.fst).getD j 0:=λj=>cV
 have hfun:numAt ps.toArray=λj=>(ps.map Prod.fst).getD j 0:=funext hnum
 unfold lx at hok
 simp only[ax,pd,zzi]at hok
 have hl:s.heap.IsTuple a (intItems ps.toArray):=by
  have:s.heap.IsTuple a _:=pl
  unfold intItems
  simpa using this
 have bnd:∀j,j<=ps.length->((ps.map Prod.fst).take j).sum.natAbs<=2^60:=λj hj=>by
  have h1:=sum_bound (2^40) ((ps.map Prod.fst).take j) λi hi=>hok.1 i (List.mem_of_mem_take hi)
  have h2:((ps.map Prod.fst).take j).length<=2^20:=by rw[ng];have:=hok.2;lia
  calc _<=_:=h1
   _<=2^20*2^40:=Kc _ h2
 refine HT.sum_intTup (I.ok.hd hc) hl (λj hj=>?_) λh' tk t' hk=>?_
 ·have hj':j<ps.length:=by simpa using hj
  rw[hfun,fD _ _ (by simp;lia)]
  have h1:=bnd (j+1) hj'
  have h2:((ps.map Prod.fst).getD j 0).natAbs<=2^40:=by
   rw[la,ic (by simpa using hj')]
   exact hok.1 _ (io _)
  unfold InLong
  dsimp only
  constructor<;>constructor<;>lia
 ·refine⟨.int _,H,I.kept hk,⟨_,rfl⟩,?_⟩
  rw[hfun,fD _ _ (by simp),u8 (by simp)]
  exact q
def DH(K:Fg):List V->Hp->VK->Prop:=λxs H Q=>lN K qw xs H Q\/kg K qw xs H Q
theorem yo(hc:X.calm=true):CallR X (.builtin "sum") (DH X.K):=CallR.or (ym hc) (yn hc)
def DL(K:Fg):List V->Hp->VK->Prop:=λxs H Q=>lN K yc xs H Q\/(kg K yc xs H Q\/∃i j,xs=[.int i,.int j]/\Q (.int (if j>i then j else i)) H)
theorem yy(hc:X.calm=true):CallR X (.builtin "max") (DL X.K):=CallR.or (yw hc) ((yx hc).or (yz hc))
theorem Ca{K:Fg}:eJ K (DH K) sH:=by
 intro G F Z H ρ xs ds res Q S o e k
 unfold sH at e
 split at e
 ·rename_i es
  split at e
  case h_2=>cases e
  rename_i ns hns
  split at e
  case isFalse=>cases e
  rename_i hc
  cases e
  obtain⟨v,r,rfl,ho,hr⟩:=aQ o
  obtain rfl:=bm hr
  obtain⟨a,vs,rfl,h1,h2⟩:=ho.tuple S.fh
  rw[bV hns]at h2
  rw[cm h2]at h1
  exact .inl ⟨a,ns,_,rfl,h1,by unfold qw;rw[aw hc],k _ F H (Same.refl _) S (show Rep K F _ _ from .int _)⟩
 ·exact .inr (E9 G F Z H ρ xs ds res Q S o e k)
theorem Cf{K:Fg}:eJ K (DL K) wG:=by
 intro G F Z H ρ xs ds res Q S o e k
 unfold wG at e
 split at e
 ·exact .inl (Ce G F Z H ρ xs _ res Q S o e k)
 ·exact .inr (Fc G F Z H ρ xs ds res Q S o e k)
end L4
namespace L4
open PySem PySem.Spec PyProof.Rows L2 L3 PySem.W
section
variable {prog:Program}{w:World}{A:Around}{E:zzj}{K:Frag}{C D fI:Addr}{h:Heap}{g:Array GenState}{d:Drawn}{t:Nat}{os:OsState}{rest:List Value}
abbrev t4(h:Heap)(C:Addr)(rest:List Value):Heap:=(h.push { cls:=.type "tuple",data:=.seq rest.toArray }).push { cls:=.ref C,data:=.fields #[.ref h.objs.size,.none,.none,.none,.bool false,.none] }
theorem oF{b:Addr}{o:Obj}(q:h.get? b=some o):(t4 h C rest).get? b=some o:=zzc _ (zzc _ q)
theorem vY:(t4 h C rest).get? (h.objs.size+1)=some { cls:=.ref C,data:=.fields #[.ref h.objs.size,.none,.none,.none,.bool false,.none] }:=by
 have z:=zze (h.push { cls:=.type "tuple",data:=.seq rest.toArray }) (o:={ cls:=.ref C,data:=.fields #[.ref h.objs.size,.none,.none,.none,.bool false,.none] }) rfl
 rwa [JK]at z
theorem qf(X:K.In h)(c:XC K C D fI){Q:Fin->Shared->Prop}(hz:rest.length<=sizeLine)
  (hq:wpAny (model prog w) A (call (.ref fI) (.ref (h.objs.size+1)::rest)) (λr s'=>r=.none/\Q (.done (.ret (.ref (h.objs.size+1)))) s') E ⟨t4 h C rest,g,d,t,os⟩) :
  wpAny (model prog w) A (Builtin.«type.__call__» ⟨.ref C::rest,[]⟩) Q E ⟨h,g,d,t,os⟩:=by
 obtain⟨nm,q,N,bs,sn,sub,ab,col,dd,k0,k1,k2,k3,k5,lk⟩:=c.obj
 have hC:=X _ _ lk
 have T:OwnTail h bmV (.ref D::bmV):=tail_of_in X c.tl
 have B:=F.excBase_ValueError
 repeat (first|with_reducible refine JT hC ?_|with_reducible refine wpAny_madeBy_exc hC ?_|wp_step)
 refine codeAny_call_builtin_code (Kn _ B.quiet) (wpAny_check_new_subT B T hC (codeAny_exc_new_subT B T hC ?_ hz))
 show wpAny _ _ _ _ _ _
 have X1:K.In (t4 h C rest):=X.keeps λb o z=>oF z
 have LI:=looks_findIn (M:=model prog w) X1 c.ini
 have LB:=bind_fn (M:=model prog w) X1 (.ref (h.objs.size+1)) c.fn
 have hC1:=oF (rest:=rest) (C:=C) hC
 have yes:(Value.ref C::.ref D::bmV).contains (.ref C)=true:=by simp
 unfold isInstance
 repeat (first|with_reducible refine JT vY ?_|(with_reducible refine wpAny_isSubtype_exc hC1 ?_;rw[yes])|wp_step)
 show wpAny _ _ (typeLookup (.ref C) _) _ _ _
 refine LI.at ?_
 refine sk (zza (LB.at ?_))
 refine zza (r0 hq (λr s' z=>?_) λ_ _ z=>z)
 obtain⟨rfl,z⟩:=z
 wp_walk
 exact z
theorem call_exc(X:K.In h)(c:XC K C D fI){Q:zzj}(hz:rest.length<=sizeLine)
  (hq:wpAny (model prog w) (A.under (.builtin "type.__call__" ⟨.ref C::rest,[]⟩)) (call (.ref fI) (.ref (h.objs.size+1)::rest)) (λr s'=>r=.none/\Q (.ref (h.objs.size+1)) s') E ⟨t4 h C rest,g,d,t,os⟩) :
  wpAny (model prog w) A (call (.ref C) rest) Q E ⟨h,g,d,t,os⟩:=by
 obtain⟨nm,q,N,bs,sn,sub,ab,col,dd,k0,k1,k2,k3,k5,lk⟩:=c.obj
 have hC:=X _ _ lk
 have f1:=tc_lookup
 have f2:=tc_bind (.ref C)
 have ty:(⟨h,g,d,t,os⟩:Shared).TypeIs (.ref C) "type":=⟨_,hC,rfl⟩
 refine wpAny_call (codeAny_of_tree ?_)
 show wpAny _ _ (callAny (.ref C) _) _ _ _
 repeat (any_goals (first|assumption|with_reducible refine JT hC ?_|wp_step))
 refine⟨rfl,codeAny_call_builtin_at (Kn _ (by decide +kernel)) entry_typeCall (wpAny_check_type_call_sub hC (qf X c hz ?_))⟩
 exact hq
end
end L4
namespace L4
open PySem PySem.Spec PyProof.Rows L2 L3
variable {C e:Addr}{H F:Hp}{s:Shared}{K:Fg}{E:zzj}{X:Cx}{pos:Pos}{A:Around}{Z:L2.St}{w:World}{dd:Option Addr}{pins:zzk}{x n:Str}{Q:Unit->Shared->Prop}
def XN(e C:Addr)(dd:Option Addr):Heap->Prop:=λh=>∃oe vs,h.get? e=some oe/\oe.cls=.ref C/\oe.dict=dd/\oe.data=.fields vs/\1<vs.size/\vs[1]? = some .none
section
variable {P:Program} {h h':Heap} {dx:Addr} {fs:List (Str×V)}
theorem XN.ok{H':Hp}(x:XN e C dd h):ObjOk P w H' h e (.ext (XN e C dd)):=by
 obtain⟨oe,vs,q,r⟩:=x
 exact⟨⟨oe,vs,q,r⟩,⟨oe,q⟩,λh1 h2 ⟨o,vs,z,r⟩ k=>⟨o,vs,k o z,r⟩⟩
end
def spI(C:Addr)(fl:List Str):Sp:=λvs H Q _=>∃e args,vs=.ref e::args/\args.length=fl.length/\H e=some (.ext (XN e C none)) /\
 ((fl=[]/\Q .non H)\/(fl≠[]/\∀dx,H dx=none->dx≠e->Q .non (upd (upd H dx (.ext (XD dx (fl.zip args)))) e (.ext (XN e C (some dx))))))
section
variable {P:Program} {mg:zzl} {base:Heap} {qual:Str} {st:Stmt} {f:Addr} {fd:FuncData} {k:Nat} {D:Addr} {f1 f2 q1 q2 self:Str} {a1 a2 a3 a4 b1 b2 b3 b4:Pos}
theorem HR(Fn:Fun K "__init__" qual st f fd)(Sc:FnScope [self] [self] (au st))(hb:aZ st=[.Pass a1]):FnOk P w K mg base (CX1 P w) (k+1) f fd [self] (spI C []):=by
 refine CN Fn Sc (λvs H Q E h=>?_) (λcdv A outer s H vs Q E hr h=>?_)
 ·obtain⟨e,args,rfl,hl,_⟩:=h;simp at hl ⊢;exact hl
 ·obtain⟨e,args,rfl,hl,he,h⟩:=h
  rcases h with ⟨_,h⟩|⟨h,_⟩
  ·rw[hb]
   exact⟨_,rA BU vJ,h⟩
  ·exact absurd rfl h
end
section
variable {M:Model} {env:Env} {D fI:Addr}
theorem rj{x:Sem Value}{Q:Flow->Shared->Prop}(c:XC K C D fI)(hh:A.handled=none)
  (h:wpAny M A x (λv s1=>∃e oe vs,v=.ref e/\K.In s1.heap/\s1.heap.get? e=some oe/\oe.cls=.ref C/\oe.data=.fields vs/\vs[1]? = some .none/\E (.ref e) s1) E s) :
  wpAny M A (raiseStmt env (some x) none) Q E s:=by
 obtain⟨nm,q,N,bs,sn,sub,ab,col,dd,k0,k1,k2,k3,k5,lk⟩:=c.obj
 have isB:(Value.ref C::.ref D::bmV).contains (.type "BaseException")=true:=by rfl
 unfold raiseStmt
 refine zza (r0 h (λv s1 z=>?_) λ_ _ z=>z)
 obtain⟨e,oe,vs,rfl,X,he,hc,hd,h1,hE⟩:=z
 obtain⟨hp,g,d,t,os⟩:=s1
 have hC:=X _ _ lk
 repeat (first|(with_reducible refine JT he ?_;rw[hc])|with_reducible refine JT hC ?_|(with_reducible refine wpAny_isSubtype_exc hC ?_;rw[isB])|with_reducible refine tu he hd h1 ?_|wp_step)
 exact wpAny_raiseNew_none hh hE
end
def MadeX(H H':Hp)(e C:Addr)(fl:List Str)(vs:List V)(dd:Option Addr):Prop :=
 (fl=[]/\dd=none/\H'=upd H e (.ext (XN e C none)))\/(fl≠[]/\∃dx,dd=some dx/\H dx=none/\dx≠e/\H'=upd (upd (upd H e (.ext (XN e C none))) dx (.ext (XD dx (fl.zip vs)))) e (.ext (XN e C (some dx))))
section
variable {D fI:Addr} {fd:FuncData} {ps fl:List Str} {k:Nat} {us:List Value} {vs:List V} {Q:zzj}
theorem Aj(I:Inv X pins Z H s):Inv X pins Z (upd H (s.heap.objs.size+1) (.ext (XN (s.heap.objs.size+1) C none))) { s with heap:=t4 s.heap C us }:=by
 have I1:=I.kept (h':=s.heap.push { cls:=.type "tuple",data:=.seq us.toArray }) (t':=s.toks) λb u q=>zzc _ q
 refine I1.laid (a:=s.heap.objs.size+1) (t':=s.toks) (h':=t4 s.heap C us) (λb u q=>zzc _ q) (Nat.le_of_eq (JK _ _)) ?_
 exact XN.ok ⟨_,_,vY,rfl,rfl,rfl,(show 1<6 from by decide),rfl⟩
theorem xy(c:XC X.K C D fI)(Fn:FnOk X.prog X.w X.K X.mg X.base (CX1 X.prog X.w) k fI fd ps (spI C fl))(hr:Room (k+1) X.A)(hb:L2.Binds X.K fd ps [])(I:Inv X pins Z H s)(r:Vals vs us)(hl:vs.length=fl.length)(hz:us.length<=sizeLine)
  (h:∀e dd H' s',s.heap.objs.size<=e->Inv X pins Z H' s'->MadeX H H' e C fl vs dd->H' e=some (.ext (XN e C dd))->Q (.ref e) s'):wpAny (model X.prog X.w) X.A (call (.ref C) us) Q E s:=by
 have I2:=Aj (C:=C) (us:=us) I
 have hn:H (s.heap.objs.size+1)=none:=I.hok.fresh (Ke _)
 obtain⟨hp,g,d,t,os⟩:=s
 have sp:∀E',spI C fl (V.ref (hp.objs.size+1)::vs) (upd H (hp.objs.size+1) (.ext (XN (hp.objs.size+1) C none))) (λv H'=>v=.non/\∃dd,MadeX H H' (hp.objs.size+1) C fl vs dd/\H' (hp.objs.size+1)=some (.ext (XN (hp.objs.size+1) C dd))) E':=by
  intro E'
  refine⟨_,vs,rfl,hl,aB,?_⟩
  by_cases z:fl=[]
  ·exact .inl ⟨z,rfl,none,.inl ⟨z,rfl,rfl⟩,aB⟩
  ·exact .inr ⟨z,λdx q ne=>⟨rfl,some dx,.inr ⟨z,dx,rfl,by rw[aA ne]at q;exact q,ne,rfl⟩,aB⟩⟩
 have r2:Vals (V.ref (hp.objs.size+1)::vs) (Value.ref (hp.objs.size+1)::us):=.cons rfl r
 have hl2:((Value.ref (hp.objs.size+1)::us)++[]).length=ps.length:=by
  have e:=r2.length
  rw[Fn.len _ _ _ _ (sp λ_ _ _=>False)]at e
  rw[ou]
  exact e.symm
 refine call_exc I.kIn c hz (wpAny_call (KU (Fn.run _ X.stack _ _ ⟨Value.ref (hp.objs.size+1)::us,[]⟩ (Value.ref (hp.objs.size+1)::us) _ _ (λ_ _ _=>False) (hr.make C us []) (I2.env0.make C us []) (by
  have:=hb _ (Value.ref (hp.objs.size+1)::us) I2.kIn hl2
  rw[ou]at this
  exact this) r2 (sp _)) λr s' q=>?_))
 cases r with
 | error e=>obtain⟨_,_,_,_,_,_,_,_,_,_,z⟩:=q;exact z.elim
 | ok fl' =>
  cases fl' with
  | ret u =>
   obtain⟨v,H',I3,rv,ev,dd,mk,he⟩:=I2.after q
   subst ev
   exact⟨rv,h _ dd H' s' (Ke _) I3 mk he⟩
  | next=>exact False.elim q
  | brk=>exact False.elim q
  | cont=>exact False.elim q
end
structure CCl(P:Program)(w:World)(K:Fg)(mg:zzl)(base:Heap)(x:Str)(k:Nat)(fl:List Str):Prop where
 ex:∃C D fI fd ps,XC K C D fI/\FnOk P w K mg base (CX1 P w) k fI fd ps (spI C fl)/\L2.Binds K fd ps []/\mg x=some (.ref C)/\XQ K C x/\PySem.W.keepIn K (.ref C)=true/\(∀f∈fl,nB K C f)/\PySem.W.exmOne K (.ref C) (.ref C)=some true
def BE{S:Type}(x:Str):SM S:=λK ρ=>K.x ⟨x,[]⟩ ρ
theorem Bp:∀{fl:List Str} {vs:List V} {ds:List D},RepL K F vs ds->fl.length=vs.length->Paired (λ(p:Str×V) (q:Str×D)=>p.1=q.1/\Rep K F p.2 q.2) (fl.zip vs) (fl.zip ds)
:=by
 intro fl vs ds r h
 induction vs generalizing fl ds with
 | nil=>cases r;rw[List.zip_nil_right,List.zip_nil_right];exact .nil
 | cons v vs ih=>cases r with
  | cons a b=>cases fl with
   | nil=>cases h
   | cons f fl=>exact .cons ⟨rfl,a⟩ (ih b (Nat.succ.inj h))
section
variable {H':Hp} {fl:List Str} {vs:List V} {ds:List D} {G:Gh} {ρ:En}
theorem zk(I:Inv X pins Z H' s)(hs:X.s₀.heap.objs.size<=e)(hn:H e=none)(mk:MadeX H H' e C fl vs dd)(he:H' e=some (.ext (XN e C dd)))(St:StOk X.K G F Z H ρ)(r:RepL X.K F vs ds)(hl:fl.length=vs.length)
  (hc:XQ X.K C x) (xw:XW X G F ρ ⟨x,fl.zip ds⟩):X.xe (.ref e) s:=by
 obtain⟨⟨oe,ws,q1,q2,q3,q4,q5,q6⟩,_⟩:=I.hok e _ he
 have I2:Inv X pins Z (upd H' e (.ext (XO e C dd))) s:=by
  have:=I.write (x:=e) (e:=e) (o:=.ext (XO e C dd)) (h':=s.heap) (t':=s.toks) (by rw[he];exact True.intro) (.inl rfl) (λb u _ z=>z) ⟨_,q1⟩ (XO.ok ⟨oe,q1,q2,q3,by unfold PySem.W.notCls;rw[q4]⟩)
  exact this
 have low:∀b u,b≠e->H b=some u->upd H' e (.ext (XO e C dd)) b=some u:=λb u ne z=>by
  rw[aA ne]
  rcases mk with ⟨_,_,rfl⟩|⟨_,dx,_,hd,_,rfl⟩
  ·rw[aA ne];exact z
  ·rw[aA ne,aA (λy=>by subst y;rw[hd]at z;cases z),aA ne];exact z
 have ne:∀b u,H b=some u->b≠e:=λb u z y=>by subst y;rw[hn]at z;cases z
 have xs:XS (upd H' e (.ext (XO e C dd))) s.heap X.s₀.heap.objs.size e C dd:=⟨hs,aB,oe,ws,q1,q2,q3,q4,q5,.inl q6⟩
 have nt:∀b,¬ iP s.heap e b:=λb ⟨oe',vs',z1,z2,z3⟩=>by
  rw[q1]at z1;cases z1
  rw[q4]at z2;cases z2
  rw[q6]at z3;cases z3
 have fh0:Same F (upd H' e (.ext (XO e C dd))):=λb u z=>low b u (ne b u (St.fh b u z)) (St.fh b u z)
 have oh0:Same G.O (upd H' e (.ext (XO e C dd))):=λb u z=>low b u (ne b u (St.oh b u z)) (St.oh b u z)
 rcases mk with ⟨z,rfl,_⟩|⟨z,dx,rfl,hd,nx,rfl⟩
 ·subst z
  refine xw F _ s e C none pins Z ⟨fh0,oh0,St.fo,St.fb⟩ (St.fzok (Same.refl _)) I2 xs (λp _=>nt p.1) ⟨hc,[],.inl ⟨rfl,rfl⟩,.nil⟩
 ·have fd:F dx=none:=St.fh.free hd
  have od:G.O dx=none:=St.oh.free hd
  have sm:Same F (upd F dx (.ext (XD dx (fl.zip vs)))):=bL fd
  refine xw (upd F dx (.ext (XD dx (fl.zip vs)))) _ s e C (some dx) pins Z ⟨λb u z=>?_,oh0,λb u z=>?_,St.fb.trans sm⟩ (St.fzok sm) I2 xs (λp _=>nt p.1) ⟨hc,_,.inr ⟨dx,rfl,aB⟩,Bp (r.mono sm) hl⟩
  ·by_cases y:b=dx
   ·subst y
    rw[aB]at z
    cases z
    rw[aA nx,aA nx,aB]
   ·rw[aA y]at z
    exact fh0 b u z
  ·rw[aA (aL z od)]
   exact St.fo b u z
end
section
variable {S:Type} {k:Nat} {fl:List Str} {p cpos:Pos} {e:Expr} {es:List Expr} {ms:Ev S (List D)}
theorem yD(C:CCl X.prog X.w X.K X.mg X.base x k [])(hr:Room (k+1) X.A)(hg:Gl X x)(hdb:(x==("__debug__" : Str))=false) :
  AS (S:=S) X (.Raise (some (.Call (.Name x p) [] [] cpos)) none pos) (BE x):=by
 obtain⟨Cl,D,fI,fd,ps,c,Fn,hb,hm,hc,kp,_⟩:=C.ex
 intro OK K G F Z H ρ E hO hX St ok eo
 unfold jt
 intro pins s I
 rw[arm_exec_Raise]
 refine zza (J6 (rj c hr.hd ?_))
 refine zza (r0 (re (jG I hg hm (PySem.W.callWith_K0 I.kIn kp (Q:=λv s1=>∃e oe vs,v=.ref e/\X.K.In s1.heap/\s1.heap.get? e=some oe/\oe.cls=.ref Cl/\oe.data=.fields vs/\vs[1]? = some .none/\X.xe (.ref e) s1) ?_) hdb)) (λv s3 z=>zza (J6 (zzb z))) λ_ _ z=>z)
 refine xy (vs:=[]) (us:=[]) c Fn hr hb I .nil rfl (bi _) λa dd H2 s2 hs I2 mk hh=>?_
 obtain⟨⟨oe,ws,q1,q2,q3,q4,q5,q6⟩,_⟩:=I2.hok a _ hh
 exact⟨a,oe,ws,rfl,I2.kIn,q1,q2,q4,q6,zk (fl:=[]) (ds:=[]) I2 (ir I.sz hs) (I.hok.fresh hs) mk hh St .nil rfl hc (hX F ρ _ ok)⟩
end
section
variable {prog:Program} {env:Env}
theorem yb{t:Expr}{b0:Stmt}{suite:List Stmt}{rest:List ExceptHandler}{Q:Flow->Shared->Prop}
  (h:wpAny (model prog w) (A.mark (some (.ref e))) (eval t env) (λc s1=>K.In s1.heap/\PySem.W.exmOne K (.ref C) c=some true/\(∃oe,s1.heap.get? e=some oe/\oe.cls=.ref C) /\
   wpAny (model prog w) (A.mark (some (.ref e))) (setFlight (.ref e) none) (λ_ s2=>wpAny (model prog w) (A.mark (some (.ref e))) (storeName env n (.ref e)) (λ_ s3 =>
    wpAny (model prog w) (A.mark (some (.ref e))) (execs (b0::suite) env) (λf s4=>wpAny (model prog w) A (do bindName env n .none;unbindBehindTheSuite env n pos) (λ_ s5=>Q f s5) E s4) (λ_ _=>False) s3) (λ_ _=>False) s2) (λ_ _=>False) s1) (λ_ _=>False) s) :
  wpAny (model prog w) A (handleBy (.ref e) env (.ExceptHandler (some t) (some n) (b0::suite) pos::rest)) Q E s:=by
 refine wpAny_handleBy_cons (codeAny_handlers_test (r0 h (λc s1 z=>?_) λ_ _ z=>z.elim)) (λz=>nomatch z)
 obtain⟨X,hx,⟨oe,he,hc⟩,k⟩:=z
 have LT:PySem.W.Looks (model prog w) s1.heap (typeOf (.ref e)) (.ref C):=hc▸(PySem.W.Looks.ld he).andThen .now
 obtain⟨hp,g,d,tk,os⟩:=s1
 refine(PySem.W.exm_one (M:=model prog w) X LT hx).at ?_
 refine codeAny_handlers_suite_as (r0 k (λ_ s2 k2=>r0 k2 (λ_ s3 k3=>r0 k3 (λf s4 k4=>k4) λ_ _ z=>z.elim) λ_ _ z=>z.elim) λ_ _ z=>z.elim)
theorem name_goes{m:zzl}(hl:env.kindOf n=some .local)(hn:s.heap.Ns env.locals m)(hk:env.scope.kind=.function)
  (k:∀h' v t',h'.Ns env.locals (λy=>if y=n then v else m y)->Heap.SameBut env.locals s.heap h'->Q () { s with heap:=h',toks:=t' }):wpAny (model prog w) A (do bindName env n .none;unbindBehindTheSuite env n pos) Q E s:=by
 have hc:(env.scope.kind==.class||(env.scope.kind==.module&&env.locals != env.globals))=false:=by rw[hk];rfl
 refine zza (wpAny_bindName (wpAny_storeName_local hl hn (λh1 n1 b1=>?_) hc))
 simp only[unbindBehindTheSuite,unbindName]
 refine wpAny_onRaise (zza (wpAny_point (zza ?_)))
 unfold deleteName
 simp only[hl,hc]
 rw[am (by decide)]
 refine zza (wpAny_nsDel_keeps n1 λh2 v n2 b2=>?_)
 simp only[At,Option.isSome_some,Bool.not_true,JR,JU]
 refine zzb (wpAny_point (k h2 v _ ?_ (b1.trans b2)))
 refine(show(λy=>if y=n then v else if y=n then some Value.none else m y)=(λy=>if y=n then v else m y)from ?_)▸n2
 funext y
 by_cases q:y=n
 ·rw[aw q,aw q]
 ·rw[am q,am q,am q]
end
section
variable {j:Nat}
theorem CK(I:Inv X pins Z H s)(hN:X.N.Nodup)(hj:X.N[j]? = some n)(hl:X.env.kindOf n=some .local)
  (k:∀s',Inv X pins (Z.set j none) H s'->Q () s'):wpAny (model X.prog X.w) A (do bindName X.env n .none;unbindBehindTheSuite X.env n pos) Q E s:=by
 obtain⟨m,hn,hv⟩:=id I.loc
 refine name_goes hl hn I.ok.kind λh' v t' n1 b1=>k _ ?_
 have neL:∀b o,X.s₀.heap.get? b=some o->b≠X.env.locals:=λb o q=>eE (du (ay q) I.ok.above)
 refine⟨I.ok,I.os,I.bare,⟨λb o q z hb hx=>?_,λb o q z hb hx=>?_,I.base.free,λb o q hx=>?_,I.base.tups,I.base.frzs,I.base.tbls⟩,⟨_,n1,λi x u q1 q2 q3=>?_⟩,λx c q=>?_,I.free,I.freeC,λp hp=>?_,λb o q=>?_,by simpa using I.len⟩
 ·exact(b1.2 b (neL b o q)).trans (I.base.keep b o q z hb hx)
 ·obtain⟨sl,r⟩:=I.base.slot b o q z hb hx
  exact⟨sl,(b1.2 b (neL b o q)).trans r⟩
 ·obtain⟨o',r⟩:=I.base.there b o q hx
  exact⟨o',(b1.2 b (neL b o q)).trans r⟩
 ·have ne:i≠j:=λz=>by
   subst z
   have hi:i<Z.length:=by rw[I.len];exact(List.getElem?_eq_some_iff.mp q1).1
   rw[nc hi]at q2
   cases q2
  rw[je (Ne.symm ne)]at q2
  obtain⟨w',r,l⟩:=hv i x u q1 q2 q3
  refine⟨w',r,?_⟩
  rcases l with ⟨l1,l2⟩|⟨l1,c,l2,l3⟩
  ·refine .inl ⟨l1,?_⟩
   have nx:x≠n:=λz=>by subst z;exact ne (mz hN q1 hj)
   show(if x=n then v else m x)=_
   rw[am nx];exact l2
  ·refine .inr ⟨l1,c,l2,?_⟩
   obtain⟨oc,g1,g2⟩:=l3
   exact⟨oc,(b1.2 c (I.cne x c l2)).trans g1,g2⟩
 ·obtain⟨v',oc,g1,g2⟩:=I.cell x c q
  exact⟨v',oc,(b1.2 c (I.cne x c q)).trans g1,g2⟩
 ·obtain⟨g1,g2,g3,g4⟩:=I.pin p hp
  exact⟨(b1.2 p.1 g3).trans g1,g2,g3,g4⟩
 ·refine(I.hok b o q).stay (λc u hc r=>(b1.2 c ?_).trans r) (λ_ r=>r) λ_ _ r=>r
  rintro rfl
  rcases hc with z|z
  ·rw[<-z,I.free]at q;cases q
  ·rw[I.free]at z;cases z
abbrev cau(X:Cx)(e:Addr):Cx:={ X with A:=X.A.mark (some (.ref e)),calm:=false,xe:=λ_ _=>False }
theorem pc(I:Inv X pins Z H s):Inv (cau X e) pins Z H s :=
 ⟨⟨I.ok.mod,I.ok.kind,I.ok.glob,I.ok.blt,I.ok.above,I.ok.inj,I.ok.has,I.ok.cab,(λz=>nomatch z),I.ok.frames,I.ok.stk,I.ok.exf,I.ok.bs,I.ok.bsz,I.ok.noex,I.ok.exfs,I.ok.funs,I.ok.frf⟩,I.os,I.bare,I.base,I.loc,I.cell,I.free,I.freeC,I.pin,I.hok,I.len⟩
theorem uP(h:X.calm=true->X.A.handled=none)(I:Inv (cau X e) pins Z H s):Inv X pins Z H s :=
 ⟨⟨I.ok.mod,I.ok.kind,I.ok.glob,I.ok.blt,I.ok.above,I.ok.inj,I.ok.has,I.ok.cab,h,I.ok.frames,I.ok.stk,I.ok.exf,I.ok.bs,I.ok.bsz,I.ok.noex,I.ok.exfs,I.ok.funs,I.ok.frf⟩,I.os,I.bare,I.base,I.loc,I.cell,I.free,I.freeC,I.pin,I.hok,I.len⟩
end
section
variable {M:Model} {lo:Nat}
theorem flight_again(fs:List Addr)(xs:XS H s.heap lo e C dd)(k:∀h',Mv fs s.heap h' e->XS H h' lo e C dd->Q () { s with heap:=h' }):wpAny M A (setFlight (.ref e) none) Q E s:=by
 obtain⟨oe,vs,he,hc,hdd,hd,hz,tb⟩:=xs.obj
 simp only[setFlight]
 rcases tb with tb|⟨T,oT,ts,tb,hTe,hTl,hTn,hT,hTd,t3⟩
 ·refine zza (tu he hd tb ?_)
  rw[am (by decide)]
  exact zzb (k s.heap ⟨λ_ _ q _ _ _=>q,λb o q _ _=>⟨o.slots,q⟩,λb o q=>⟨o,q⟩⟩ xs)
 ·refine zza (tu he hd tb ?_)
  rw[aw (by simp)]
  have z3:3<ts.size:=(Array.getElem?_eq_some_iff.mp t3).1
  have isT:iP s.heap e T:=⟨oe,vs,he,hd,tb⟩
  have off:∀b,b≠T->(s.heap.update T (Obj.mapFields (·.setIfInBounds 3 ((none:Option Addr).elim Value.none λf=>rawInt f)))).get? b=s.heap.get? b:=λb hb=>wa _ _ (Ne.symm hb)
  have T0:(s.heap.update T (Obj.mapFields (·.setIfInBounds 3 ((none:Option Addr).elim Value.none λf=>rawInt f)))).get? T=some (oT.mapFields (·.setIfInBounds 3 ((none:Option Addr).elim Value.none λf=>rawInt f))):=ue _ hT (yi (oR hTd _))
  have nt:∀b,¬ iP s.heap e b->b≠T:=λb z q=>z (q▸isT)
  refine Cr hT hTd z3 (k _ ⟨λb o q _ _ z=>(off b (nt b z)).trans q,λb o q _ z=>⟨o.slots,(off b (nt b z)).trans q⟩,λb o q=>?_⟩ ⟨xs.yg,xs.trk,oe,vs,(off e (Ne.symm hTe)).trans he,hc,hdd,hd,hz,.inr ⟨T,_,_,tb,hTe,hTl,hTn,T0,oR hTd _,by simp[z3]⟩⟩)
  by_cases z:b=T
  ·subst z;exact⟨_,T0⟩
  ·exact⟨o,(off b z).trans q⟩
end
theorem _root_.L3.StOk.setdead{G:Gh}{ρ:En}(S:StOk K G F Z H ρ){j:Nat}(hj:∀av,ρ[j]? ≠ some (some av))(u:Option V):StOk K G F (Z.set j u) H ρ:=by
 have ne:∀i av,ρ[i]? = some (some av)->i≠j:=λi av q z=>by subst z;exact hj av q
 have at_:∀i av,ρ[i]? = some (some av)->(Z.set j u)[i]? = Z[i]?:=λi av q=>je (Ne.symm (ne i av q))
 have ao:∀i c,own ρ i c->(Z.set j u)[i]? = Z[i]?:=λi c q=>by rcases q with q|q<;>exact at_ i _ q
 refine⟨S.fh,S.oh,S.fo,by simpa using S.ln,λi d q=>by rw[at_ i _ q];exact S.fz i d q,λi c q=>by rw[ao i c q];exact S.ow i c q,λi k c e a q1 q2 z1 z2=>?_,λi a q=>?_,S.pq,S.fb⟩
 ·rw[ao i c q1]at z1
  rw[ao k e q2]at z2
  exact S.dj i k c e a q1 q2 z1 z2
 ·obtain⟨z1,c,z2⟩:=S.pp i a q
  exact⟨by rw[at_ i _ z2];exact z1,c,z2⟩
theorem av(i:Nat)(hN:X.N[i]? = some x:=by rfl)(hv:Vis X.env.scope x:=by exact vi rfl)
  (hd:(x==("__debug__" : Str))=false:=by decide) (hcd:(x==("__classdict__" : Str))=false:=by decide):AP X (.Name x pos) (E0 i):=Gs hN hv hd hcd
end L4
namespace L3
open PySem PySem.Spec PyProof.Rows L2 L4
variable {K:Fg}
theorem fm{F F':Hp}{a:Addr}{vs:List V}(s:Same F F')(h:SqL K F a vs):SqL K F' a vs:=s.seq h
def Dr(K:Fg)(a:Addr):It :=
 ⟨λi H=>∃xs x,SqL K H a xs/\xs[i]? = some x,λi H y H'=>∃p x,(∀xs,SqL K H a xs->xs[i]? = some x)/\H p=none/\y=.ref p/\H'=upd H p (.tup [.int i,x]),λi H=>∃xs,SqL K H a xs/\xs.length<=i⟩
theorem tL{P:Program}{w:World}{elts:List Expr}{x1:Nat}{pos:Pos}(a it e:Addr)(hai:a≠it)(hei:e≠it)(hea:e≠a) :
  Turn P w K (.Tuple elts x1 pos) (Dr K a) [e,it] e (λi h=>(∃old,IsEnum h e it i old)/\h.IsListIter it a i) where
 mem:=by simp
 obj:=λi h st b hb=>by
  obtain⟨⟨old,he⟩,o,e1,c,d⟩:=st
  rcases List.mem_cons.mp hb with rfl|hb
  ·exact⟨_,he,λv z=>nomatch z⟩
  ·rw[List.mem_singleton.mp hb]
   exact⟨o,e1,λv z=>by rw[d]at z;cases z⟩
 keep:=λi h h' st k=>by
  obtain⟨⟨old,he⟩,ht⟩:=st
  exact⟨⟨old,k e (by simp) _ he⟩,ht.at λo e=>k it (by simp) o e⟩
 item:=by
  intro X hP hw hK hc i pins s Z H E I hf st hg
  subst hP hw hK
  obtain⟨xs,x,hq,hx⟩:=hg
  obtain⟨its,rv,p,hz⟩:=I.list hq
  obtain⟨u,hu,ru⟩:=rv.get hx
  obtain⟨⟨old,he⟩,ht⟩:=st
  have D:=Draws.list (prog:=X.prog) (w:=X.w) (A:=X.A.in1) (I.ok.hd hc) it a hai its.toArray
  have hi:i<its.toArray.size:=by simpa using(List.getElem?_eq_some_iff.mp hu).1
  have fe:=hf e (by simp)
  have ft:=hf it (by simp)
  refine wpAny_pyNext_enum_itemD D he ⟨ht,p.isList⟩ hi hei (by simp[hei,hea]) λx' h' tk hP ho hs' hT hsz hk=>?_
  have ex:x'=u:=by
   have:its.toArray[i]? = some x':=hP
   rw[K8,hu]at this
   exact(Option.some.inj this).symm
  subst ex
  refine⟨_,rfl,wpAny_letOwnedTupleGo_enum ho λh2 he2 sb2=>?_⟩
  have hpe:s.heap.objs.size≠e:=xz (ay he)
  have hpi:s.heap.objs.size≠it:=by obtain⟨o,e1,_⟩:=ht;exact xz (ay e1)
  have keep2:∀b o,b≠e->b≠it->s.heap.get? b=some o->h2.get? b=some o:=λb o h1 h2' q=>(sb2.2 b h1).trans (hk b o h1 h2' q)
  have tup2:h2.get? s.heap.objs.size=some { cls:=.type "tuple",data:=.seq #[.int i tk,x'] }:=(sb2.2 _ hpe).trans hT
  have I1:Inv X pins Z (upd H s.heap.objs.size (.tup [.int i,x])) { s with heap:=h2,toks:=tk+1 }:=sJ I fe ft ru keep2 tup2
  refine⟨.ref s.heap.objs.size,_,I1,rfl,⟨_,x,λys hy=>by rw[I.list_inj hy hq];exact hx,I.fresh,rfl,rfl⟩,⟨⟨_,by simpa using he2⟩,?_⟩,λb hb=>?_⟩
  ·obtain⟨o,e1,r⟩:=hs'.1
   exact⟨o,(sb2.2 it (Ne.symm hei)).trans e1,r⟩
  ·rcases List.mem_cons.mp hb with rfl|hb
   ·rw[aA (Ne.symm hpe)];exact fe.1
   ·rw[List.mem_singleton.mp hb,aA (Ne.symm hpi)];exact ft.1
 done:=by
  intro X hP hw hK hc i pins s Z H E I hf st hg
  subst hP hw hK
  obtain⟨xs,hq,hx⟩:=hg
  obtain⟨its,rv,p,hz⟩:=I.list hq
  obtain⟨⟨old,he⟩,ht⟩:=st
  obtain⟨g0,g1,g2,g3,g4,g5⟩:=hf it (by simp)
  have hl:=rv.length
  have D:=Draws.list (prog:=X.prog) (w:=X.w) (A:=X.A.in1) (I.ok.hd hc) it a hai its.toArray
  have hT:s.TypeIs (.ref e) "enumerate":=⟨_,he,rfl⟩
  unfold pyNext
  refine zza (Ky (se (name:=Str.ofString "__next__") hT J4
   (wd J4 hT F.entry_enumerate_next ?_ (F.args_enumerate_next_1 _))))
  show wpAny _ _ (field (.ref e) 2 >>= _) _ _ _
  refine zza (tu he rfl (x:=.ref it) rfl ?_)
  refine zza (wpAny_nextOf_list_end (I.ok.hd hc) ht p.isList (by simp;lia) λh' x he' hx'=>?_)
  obtain⟨o,ho,hcl⟩:=hx'
  refine zza (KF (T := "StopIteration") (b:=true) ⟨o,ho,hcl⟩ isSubtype_stop ?_)
  exact zzb ⟨rfl,I.turned (t':=s.toks) (λb o hb e=>he' b o hb e) g0 g1 g3 g4 g5⟩
 self:=λ_ _ _ _ _ st h=>by
  obtain⟨⟨old,he⟩,ht⟩:=st
  exact Kr he h
theorem tH{F:Hp}{a:Addr}{vs:List V}{ds:List D}(h:SqL K F a vs)(r:RepL K F vs ds):Walk K (Dr K a) (eC ds) F where
 go:=λi G F2 Z H2 ρ s S hi=>by
  have hi':i<vs.length:=by rw[r.length];rw[dJ]at hi;exact hi
  exact⟨vs,vs[i],fm S.fh (fm s h),by simp[hi']⟩
 yld:=λi G F2 Z H2 ρ x H3 d s S hd ⟨p,y,hy,hp,hx,hH⟩=>by
  subst hx hH
  unfold eC at hd
  rw[nu,List.getElem?_zipIdx]at hd
  cases q:ds[i]? with
  | none=>rw[q]at hd;cases hd
  | some d' =>
   rw[q]at hd
   simp at hd
   subst hd
   obtain⟨v,e1,e2⟩:=r.get q
   have:=hy vs (fm S.fh (fm s h))
   rw[e1]at this
   cases this
   obtain⟨s2,S2,r2⟩:=S.newTup hp (RepL.cons (Rep.int (i:Int)) (RepL.cons (e2.mono s) RepL.nil))
   exact⟨_,s2,S2,r2⟩
 stop:=λG F2 Z H2 ρ s S=>⟨vs,fm S.fh (fm s h),by rw[r.length,dJ];exact ai _⟩
def FH(K:Fg)(tl:TA):TI:=λZ H R=>tl Z H λxs H1=>∃a,xs=[.ref a]/\(∃ys,SqL K H1 a ys)/\R (Dr K a) H1
theorem zx{X:Cx}{e:Expr}{tl:TA}{elts:List Expr}{x1:Nat}{tp p pos:Pos}(hg:Gl X "enumerate")(hm:X.mg "enumerate" = none)(ha:PA X [e] tl)(hs:starEach [e] X.env=[(false,eval e X.env)]) :
  PI X (.Tuple elts x1 tp) (.Call (.Name "enumerate" p) [e] [] pos) (FH X.K tl):=by
 intro pins s Z H R I h
 refine re (fg I hg hm (show bootBuiltins "enumerate" = some (.type "enumerate") by decide +kernel) ?_ (by decide) (by decide))
 refine pI (thn (ha pos pins s Z H _ I h) λus s1 ⟨vs,H1,I1,r1,q1⟩=>?_) hs rfl
 obtain⟨a,rfl,⟨ys,hq⟩,q⟩:=q1
 obtain⟨u,rfl,ru⟩:=L2.Vals.one r1
 cases ru
 obtain⟨its,rv,pt,hz⟩:=I1.list hq
 have alt:a<s1.heap.objs.size:=by obtain⟨o,e1,_⟩:=pt.isList;exact ay e1
 refine call_enumerate_list pt.isList λh' he ht hsz hk=>?_
 refine Kr (s:={ s1 with heap:=h' }) he ?_
 refine⟨s1.heap.objs.size+1,[s1.heap.objs.size+1,s1.heap.objs.size],_,_,H1,rfl,I1.kept (t':=s1.toks) hk,tL a s1.heap.objs.size (s1.heap.objs.size+1) (eE alt) (Nat.succ_ne_self _) (xz (sd alt)),⟨⟨_,he⟩,ht⟩,λb hb=>?_,q⟩
 rcases List.mem_cons.mp hb with rfl|hb
 ·exact I1.fpOk (Ke _) (I1.hok.fresh (Ke _))
 ·rw[List.mem_singleton.mp hb]
  exact I1.fpOk (ai _) (I1.hok.fresh (ai _))
end L3
namespace L4
open PySem PySem.Spec PyProof.Rows L2 L3
def mS:List D->Option (List D)
 | [.list ds]=>some (eC ds)
 | _=>none
section
variable {X:Cx}{tg e:Expr}{p pos tp:Pos}{elts:List Expr}{x1:Nat}
theorem AC{F H:Hp}{vs:List V}{ds out:List D}{R:It->Hp->Prop}(s:Same F H)(r:RepL X.K F vs ds)(h:mS ds=some out)(k:∀J,Walk X.K J out F->R J H) :
  ∃a,vs=[.ref a]/\(∃ys,SqL X.K H a ys)/\R (Dr X.K a) H:=by
 unfold mS at h
 split at h
 ·cases h
  obtain⟨v,rfl,r1⟩:=r.one_inv
  obtain⟨a,vs,rfl,a1,a2⟩:=r1.lst_inv
  exact⟨_,rfl,⟨_,s.seq a1⟩,k _ (tH a1 a2)⟩
 ·cases h
theorem A7{ps:Pa (List D)}(hg:Gl X "enumerate")(hm:X.mg "enumerate" = none)(ha:AA X [e] ps)(hs:starEach [e] X.env=[(false,eval e X.env)]):AI X (.Tuple elts x1 tp) (.Call (.Name "enumerate" p) [e] [] pos) (ji mS ps) :=
 λG F Z H ρ R S w=>xu (zx hg hm bI hs) (ha G F Z H ρ _ _ _ S w λds vs F1 H1 s1 S1 _ r1 w1=>by
  obtain⟨out,hd,k⟩:=w1.opt
  exact AC S1.fh r1 hd (k F1 H1 (Same.refl _) S1))
end
end L4
namespace TS
open PySem PyProof.Rows
variable {i j n g p q z hi:Nat}{st:SortSt}{out xs a₀ ys X:Array Keyed}{T O B S:List Keyed}{rk:Value->Int}{prog:Program}{w:World}{A:Around}{E:zzj}{s:Shared}{κ:SortKind}{Q:Option Nat->SortSt->Prop}{vs:List Value}{x:Keyed}{o:Obj}
def kr(rk:Value->Int)(xs:Array Keyed)(i:Nat):Int:=(xs[i]?.map λp=>rk p.1).getD 0
def Asc(rk:Value->Int)(xs:Array Keyed)(lo hi:Nat):Prop:=∀i j:Nat,lo<=i->i<=j->j<hi->kr rk xs i<=kr rk xs j
def Dsc(rk:Value->Int)(xs:Array Keyed)(lo hi:Nat):Prop:=∀i j:Nat,lo<=i->i<=j->j<hi->kr rk xs j<=kr rk xs i
def cI(prog:Program)(w:World)(A:Around)(s:Shared)(κ:SortKind)(rk:Value->Int)(a₀:Array Keyed):Prop :=
 ∀x y,x∈a₀.toList->y∈a₀.toList->∀(E:zzj) (Q:Bool->Shared->Prop),Q (decide (rk x.1<rk y.1)) s->wpAny (model prog w) A (keyLt' κ x.1 y.1) Q E s
abbrev Runs:=Array (Nat×Nat×Nat)
structure SB(κ:SortKind)(a₀:Array Keyed)(lo:Nat)(old:Array Keyed)(P:Runs)(st:SortSt):Prop where
 pm:(arrOf st).Perm a₀
 kd:kindOf st=κ
 fl:failedOf st=none
 kp:∀i,i<lo->(arrOf st)[i]? = old[i]?
 pe:pendingOf st=P
section
variable {old:Array Keyed} {lo:Nat} {P:Runs}
theorem SB.sz(h:SB κ a₀ lo old P st):(arrOf st).size=a₀.size:=h.pm.size_eq
theorem SB.to(h:SB κ a₀ lo old P st)(hp:xs.Perm (arrOf st))(hk:∀i,i<lo->xs[i]? = (arrOf st)[i]?):SB κ a₀ lo old P (setArr st xs) :=
 ⟨hp.trans h.pm,h.kd,h.fl,λi hi=>(hk i hi).trans (h.kp i hi),h.pe⟩
theorem SB.mem(h:SB κ a₀ lo old P st){p:Keyed}(e:(arrOf st)[i]? = some p):p∈a₀.toList :=
 (Array.perm_iff_toList_perm.mp h.pm).mem_iff.mp (by
  obtain⟨hl,e⟩:=Array.getElem?_eq_some_iff.mp e
  rw[<-e];simp)
theorem bG{p:Keyed}(e:xs[i]? = some p):kr rk xs i=rk p.1:=by unfold kr;rw[e];rfl
theorem g6(e:xs[i]? = ys[j]?):kr rk xs i=kr rk ys j:=by unfold kr;rw[e]
theorem bP{p:Keyed}{Q:Keyed->SortSt->Prop}(e:xs[i]? = some p)(q:Q p st):wpS (model prog w) A E s (elem' xs i) Q st:=by
 rw[elem'_eq,e];exact di q
theorem rW{y:Keyed}{Q:Option Bool->SortSt->Prop}(hC:cI prog w A s κ rk a₀)(hk:kindOf st=κ)(hx:x∈a₀.toList)(hy:y∈a₀.toList)(q:Q (some (decide (rk x.1<rk y.1))) st) :
  wpS (model prog w) A E s (lt' x y) Q st:=by
 rw[lt'_eq]
 refine ba (Kq ?_)
 rw[hk]
 refine ba (wpS_lift (Ky (hC x y hx hy _ _ ⟨rfl,?_⟩)))
 exact di q
theorem sY{Q:Option Bool->SortSt->Prop}(hC:cI prog w A s κ rk a₀)(h:SB κ a₀ lo old P st)(hi:i<a₀.size)(hj:j<a₀.size)(q:Q (some (decide (kr rk (arrOf st) i<kr rk (arrOf st) j))) st) :
  wpS (model prog w) A E s (ltAt' i j) Q st:=by
 have e1:(arrOf st)[i]? = some ((arrOf st)[i]'(by rw[h.sz];exact hi)):=ac _
 have e2:(arrOf st)[j]? = some ((arrOf st)[j]'(by rw[h.sz];exact hj)):=ac _
 rw[ltAt'_eq]
 refine ba (Kq ?_)
 refine ba (bP e1 (ba (bP e2 ?_)))
 refine rW hC h.kd (h.mem e1) (h.mem e2) ?_
 rw[bG e1,bG e2]at q
 exact q
theorem pR{Q:Unit->SortSt->Prop}(q:Q () (setArr st (mirror (arrOf st) i j ((j - i) / 2)))):wpS (model prog w) A E s (reverseSlice' i j) Q st:=by
 rw[reverseSlice'_eq]
 exact KO q
theorem uz(hj:j<=xs.size)(k:Nat):kr rk (mirror xs i j ((j - i) / 2)) k=if i<=k/\k<j then kr rk xs (i+j - 1 - k)else kr rk xs k:=by
 have e:=getElem?_mirror_all (i:=i) hj k
 split
 ·rename_i c;rw[aw c]at e;exact g6 e
 ·rename_i c;rw[am c]at e;exact g6 e
theorem jB{lo:Nat}(hj:j<=xs.size)(hl:lo<=i):∀k,k<lo->(mirror xs i j ((j - i) / 2))[k]? = xs[k]?:=λk hk=>by
 rw[getElem?_mirror_all hj k,am (by lia)]
theorem mB(hj:j<=xs.size)(e:∀k,i<=k->k<j->kr rk xs k=kr rk xs (j - 1))(k:Nat):kr rk (mirror xs i j ((j - i) / 2)) k=kr rk xs k:=by
 rw[uz hj]
 split
 ·rename_i c;rw[e k c.1 c.2,e _ (by lia) (by lia)]
 ·rfl
abbrev Asl:=Option (Option Nat)×Nat
abbrev Dsl:=Option (Option Nat)×Nat×Nat
def upW(lo a z:Nat):StateT SortSt Sem Asl:=forIn [a:z] ((none,a):Asl) λ_ c=>do
 match <-ltAt' (lo+c.snd) (lo+c.snd - 1)with
 | some b=>if b=true then pure (ForInStep.done (none,c.snd))else pure (ForInStep.yield (none,c.snd+1))
 | _=>pure (ForInStep.done (some none,c.snd))
def AF(lo n z:Nat):StateT SortSt Sem (Option Nat):=do
 reverseSlice' lo (lo+n)
 let c <-upW lo n z
 match c.fst with
 | some r=>pure r
 | none=>pure (some c.snd)
def dnW(lo n z:Nat):StateT SortSt Sem Dsl:=forIn [n:z] ((none,n,0):Dsl) λ_ c=>do
 match <-ltAt' (lo+c.snd.fst) (lo+c.snd.fst - 1)with
 | some b =>
  if b=true then
   if c.snd.snd>0 then do
    reverseSlice' (lo+c.snd.fst - (c.snd.snd+1)) (lo+c.snd.fst)
    pure (ForInStep.yield (none,c.snd.fst+1,0))
   else pure (ForInStep.yield (none,c.snd.fst+1,0))
  else do
   match <-ltAt' (lo+c.snd.fst - 1) (lo+c.snd.fst)with
   | some g=>if g=true then pure (ForInStep.done (none,c.snd.fst,c.snd.snd))else pure (ForInStep.yield (none,c.snd.fst+1,c.snd.snd+1))
   | _=>pure (ForInStep.done (some none,c.snd.fst,c.snd.snd))
 | _=>pure (ForInStep.done (some none,c.snd.fst,c.snd.snd))
def sG(lo n z:Nat):StateT SortSt Sem (Option Nat):=do
 liftM (rule "list.sort.descending-run")
 let c <-dnW lo (n+1) z
 match c.fst with
 | some r=>pure r
 | none =>
  if c.snd.snd>0 then do
   reverseSlice' (lo+c.snd.fst - (c.snd.snd+1)) (lo+c.snd.fst)
   AF lo c.snd.fst z
  else AF lo c.snd.fst z
theorem ED(lo z:Nat):countRun' lo z=(do
  let c <-upW lo 1 z
  match c.fst with
  | some r=>pure r
  | none =>
   if(c.snd==z)=true then pure (some c.snd)
   else if c.snd>1 then do
    match <-ltAt' lo (lo+c.snd - 1)with
    | some b=>if b=true then pure (some c.snd)else do
      reverseSlice' lo (lo+c.snd)
      sG lo c.snd z
    | _=>pure none
   else sG lo c.snd z):=by
 rw[countRun'_eq]
 unfold sG AF dnW upW
 dsimp only
 have tl:∀(x:StateT SortSt Sem Asl),(x >>= λc3=>match c3.fst with|some r=>pure r|none=>pure (some c3.snd):StateT SortSt Sem (Option Nat))=(x >>= λc3=>match c3.fst with|none=>pure (some c3.snd)|some r=>pure r):=λx=>by
  congr 1;funext c3;rcases c3 with ⟨_|r3,n3⟩<;>rfl
 congr 1
 funext c
 rcases c with ⟨_|r,n⟩
 ·dsimp only
  split
  ·rfl
  ·split
   ·congr 1
    funext x
    cases x with
    | none=>rfl
    | some b =>
     dsimp only
     split
     ·rfl
     ·congr 1;funext _;congr 1;funext _;congr 1;funext c2
      rcases c2 with ⟨_|r2,n2,q2⟩
      ·dsimp only
       split
       ·congr 1;funext _;congr 1;funext _;congr 1;funext c3;rcases c3 with ⟨_|r3,n3⟩<;>rfl
       ·congr 1;funext _;congr 1;funext c3;rcases c3 with ⟨_|r3,n3⟩<;>rfl
      ·rfl
   ·congr 1;funext _;congr 1;funext c2
    rcases c2 with ⟨_|r2,n2,q2⟩
    ·dsimp only
     split
     ·congr 1;funext _;congr 1;funext _;congr 1;funext c3;rcases c3 with ⟨_|r3,n3⟩<;>rfl
     ·congr 1;funext _;congr 1;funext c3;rcases c3 with ⟨_|r3,n3⟩<;>rfl
    ·rfl
 ·rfl
end
section
variable {old:Array Keyed} {lo:Nat} {P:Runs}
theorem Asc.snoc{lo m:Nat}(h:Asc rk xs lo (lo+m))(h1:1<=m)(q:¬ kr rk xs (lo+m)<kr rk xs (lo+m - 1)):Asc rk xs lo (lo+(m+1)):=λi j hi hij hj=>by
 by_cases c:j<lo+m
 ·exact h i j hi hij c
 ·by_cases c2:i=j
  ·subst c2;exact wT _
  ·have e:j=lo+m:=by lia
   subst e
   have:=h i (lo+m - 1) hi (by lia) (by lia)
   lia
theorem Ds{a:Nat}{Q:Asl->SortSt->Prop}(hC:cI prog w A s κ rk a₀)(hz:lo+z<=a₀.size)(h1:1<=a)(ha:a<=z)(h:SB κ a₀ lo old P st)(ho:Asc rk (arrOf st) lo (lo+a))
  (q:∀n,a<=n->n<=z->Asc rk (arrOf st) lo (lo+n)->(n=z\/kr rk (arrOf st) (lo+n)<kr rk (arrOf st) (lo+n - 1))->Q (none,n) st):wpS (model prog w) A E s (upW lo a z) Q st:=by
 refine r6 (I:=λx c st'=>st'=st/\c=(none,x)/\Asc rk (arrOf st) lo (lo+x)) (λx c st' hx hxz I=>?_) (λc st' I=>?_) ⟨rfl,rfl,ho⟩
 ·obtain⟨rfl,rfl,o⟩:=I
  refine ba (sY hC h (by dsimp only;lia) (by dsimp only;lia) ?_)
  dsimp only
  by_cases c:kr rk (arrOf st') (lo+x)<kr rk (arrOf st') (lo+x - 1)
  ·rw[eT c]
   exact di (q x hx (by lia) o (.inr c))
  ·rw[cr c]
   exact di ⟨rfl,rfl,o.snoc (by lia) c⟩
 ·obtain⟨rfl,rfl,o⟩:=I
  have e:max a z=z:=by lia
  rw[e]at o ⊢
  exact q z ha (ai _) o (.inl rfl)
def Run(κ:SortKind)(rk:Value->Int)(a₀ old:Array Keyed)(lo z:Nat)(P:Runs)(m:Nat)(st:SortSt):Prop:=SB κ a₀ lo old P st/\1<=m/\m<=z/\Asc rk (arrOf st) lo (lo+m)
theorem AD(hC:cI prog w A s κ rk a₀)(hz:lo+z<=a₀.size)(h1:1<=n)(hn:n<=z)(h:SB κ a₀ lo old P st)(ho:Dsc rk (arrOf st) lo (lo+n))
  (q:∀m st',Run κ rk a₀ old lo z P m st'->Q (some m) st'):wpS (model prog w) A E s (AF lo n z) Q st:=by
 have hl:lo+n<=(arrOf st).size:=by rw[h.sz];lia
 have h':=h.to (mirror_perm (arrOf st) lo (lo+n) ((lo+n - lo) / 2)) (jB hl (ai _))
 unfold AF
 refine ba (pR (ba (Ds hC hz h1 hn h' (λi j hi hij hj=>?_) λm m1 m2 o _=>di (q m _ ⟨h',by lia,m2,o⟩))))
 show kr rk (mirror (arrOf st) lo (lo+n) _) i<=kr rk (mirror (arrOf st) lo (lo+n) _) j
 rw[uz hl,uz hl,aw ⟨hi,by lia⟩,aw ⟨by lia,hj⟩]
 exact ho _ _ (by lia) (by lia) (by lia)
theorem Dsc.snoc{lo m:Nat}(h:Dsc rk xs lo (lo+m))(h1:1<=m)(e:∀k,kr rk ys k=kr rk xs k)(q:kr rk xs (lo+m)<=kr rk xs (lo+m - 1)):Dsc rk ys lo (lo+(m+1)):=λi j hi hij hj=>by
 rw[e,e]
 by_cases c:j<lo+m
 ·exact h i j hi hij c
 ·by_cases c2:i=j
  ·subst c2;exact wT _
  ·have e:j=lo+m:=by lia
   subst e
   have:=h i (lo+m - 1) hi (by lia) (by lia)
   lia
def Flat(rk:Value->Int)(xs:Array Keyed)(lo m q:Nat):Prop:=q+1<=m/\∀k,lo+m - (q+1)<=k->k<lo+m->kr rk xs k=kr rk xs (lo+m - 1)
theorem Ik{Q:Dsl->SortSt->Prop}(hC:cI prog w A s κ rk a₀)(hz:lo+z<=a₀.size)(h1:1<=n)(hn:n<=z)(h:SB κ a₀ lo old P st)(ho:Dsc rk (arrOf st) lo (lo+n))
  (q:∀m r st',SB κ a₀ lo old P st'->n<=m->m<=z->Dsc rk (arrOf st') lo (lo+m)->Flat rk (arrOf st') lo m r->Q (none,m,r) st'):wpS (model prog w) A E s (dnW lo n z) Q st:=by
 refine r6 (I:=λx c st'=>∃r,c=(none,x,r)/\SB κ a₀ lo old P st'/\Dsc rk (arrOf st') lo (lo+x)/\Flat rk (arrOf st') lo x r) (λx c st' hx hxz I=>?_) (λc st' I=>?_) ⟨0,rfl,h,ho,by lia,λk k1 k2=>by congr 1;lia⟩
 ·obtain⟨r,rfl,h',o,fl⟩:=I
  have hl:lo+x<=(arrOf st').size:=by rw[h'.sz];lia
  refine ba (sY hC h' (by dsimp only;lia) (by dsimp only;lia) ?_)
  dsimp only
  by_cases c:kr rk (arrOf st') (lo+x)<kr rk (arrOf st') (lo+x - 1)
  ·rw[eT c]
   rw[aw rfl]
   split
   ·rename_i hr
    have hr':0<r:=hr
    have hfl:∀k,lo+x - (r+1)<=k->k<lo+x->kr rk (arrOf st') k=kr rk (arrOf st') (lo+x - 1):=fl.2
    have kp:=mB (rk:=rk) hl hfl
    have fl1:=fl.1
    refine ba (pR (di ⟨0,rfl,h'.to (mirror_perm _ _ _ _) (jB hl (by lia)),o.snoc (by lia) kp (by lia),by lia,λk k1 k2=>by congr 1;lia⟩))
   ·exact di ⟨0,rfl,h',o.snoc (by lia) (λ_=>rfl) (by lia),by lia,λk k1 k2=>by congr 1;lia⟩
  ·rw[cr c]
   rw[am (by decide)]
   refine ba (sY hC h' (by lia) (by lia) ?_)
   by_cases c2:kr rk (arrOf st') (lo+x - 1)<kr rk (arrOf st') (lo+x)
   ·rw[eT c2]
    exact di (q x r st' h' hx (by lia) o fl)
   ·rw[cr c2]
    refine di ⟨r+1,rfl,h',o.snoc (by lia) (λ_=>rfl) (by lia),by have:=fl.1;lia,λk k1 k2=>?_⟩
    have e:kr rk (arrOf st') (lo+x)=kr rk (arrOf st') (lo+x - 1):=by lia
    rw[show lo+(x+1) - 1=lo+x by lia,e]
    by_cases c3:k=lo+x
    ·rw[c3];exact e
    ·exact fl.2 k (by lia) (by lia)
 ·obtain⟨r,rfl,h',o,fl⟩:=I
  have e:max n z=z:=by lia
  rw[e]at o fl ⊢
  exact q z r st' h' hn (ai _) o fl
theorem wB(hC:cI prog w A s κ rk a₀)(hz:lo+z<=a₀.size)(hn:n+1<=z)(h:SB κ a₀ lo old P st)(ho:Dsc rk (arrOf st) lo (lo+(n+1)))
  (q:∀m st',Run κ rk a₀ old lo z P m st'->Q (some m) st'):wpS (model prog w) A E s (sG lo n z) Q st:=by
 unfold sG
 refine ba (wpS_lift (JJ ⟨rfl,ba (Ik hC hz (by lia) hn h ho λm r st' h' m1 m2 o fl=>?_)⟩))
 dsimp only
 have hl:lo+m<=(arrOf st').size:=by rw[h'.sz];lia
 have fl1:=fl.1
 split
 ·have kp:=mB (rk:=rk) hl fl.2
  refine ba (pR (AD hC hz (by lia) m2 (h'.to (mirror_perm _ _ _ _) (jB hl (by lia))) (λi j hi hij hj=>?_) q))
  show kr rk (mirror (arrOf st') _ _ _) j<=kr rk (mirror (arrOf st') _ _ _) i
  rw[kp,kp]
  exact o i j hi hij hj
 ·exact AD hC hz (by lia) m2 h' o q
theorem EC(hC:cI prog w A s κ rk a₀)(hz:lo+z<=a₀.size)(h1:1<=z)(h:SB κ a₀ lo old P st)
  (q:∀m st',Run κ rk a₀ old lo z P m st'->Q (some m) st'):wpS (model prog w) A E s (countRun' lo z) Q st:=by
 rw[ED]
 refine ba (Ds hC hz (ai 1) h1 h (λi j hi hij hj=>by rw[show i=j by lia];exact wT _) λn n1 n2 o e=>?_)
 dsimp only
 by_cases c:n=z
 ·rw[aw (by simpa using c)]
  exact di (q n st ⟨h,n1,n2,o⟩)
 ·rw[am (by simpa using c)]
  have lt:=e.resolve_left c
  split
  ·refine ba (sY hC h (by lia) (by lia) ?_)
   by_cases c2:kr rk (arrOf st) lo<kr rk (arrOf st) (lo+n - 1)
   ·rw[eT c2]
    exact di (q n st ⟨h,n1,n2,o⟩)
   ·rw[cr c2]
    dsimp only
    rw[am (by decide)]
    have hl:lo+n<=(arrOf st).size:=by rw[h.sz];lia
    have fl:∀k,lo<=k->k<lo+n->kr rk (arrOf st) k=kr rk (arrOf st) (lo+n - 1):=λk k1 k2=>by
     have a1:=o lo k (ai _) k1 k2
     have a2:=o k (lo+n - 1) k1 (by lia) (by lia)
     lia
    have kp:=mB (rk:=rk) hl fl
    have dd:Dsc rk (arrOf st) lo (lo+n):=λi j hi hij hj=>by rw[fl i hi (by lia),fl j (by lia) hj];exact wT _
    exact ba (pR (wB hC hz (by lia) (h.to (mirror_perm _ _ _ _) (jB hl (ai _))) (dd.snoc n1 kp (by lia)) q))
  ·have e1:n=1:=by lia
   subst e1
   have dd:Dsc rk (arrOf st) lo (lo+1):=λi j hi hij hj=>by rw[show i=j by lia];exact wT _
   exact wB hC hz (by lia) h (dd.snoc (ai _) (λ_=>rfl) (by lia)) q
theorem Aa{src d:Nat}(hs:src<xs.size)(hd:d<=src)(k:Nat):kr rk (bubble xs src d) k=if k=src - d then kr rk xs src else if src - d<k/\k<=src then kr rk xs (k - 1)else kr rk xs k:=by
 have e:=getElem?_bubble hs d hd k
 split
 ·rename_i c;rw[aw c]at e;exact g6 e
 ·rename_i c
  rw[am c]at e
  split
  ·rename_i c2;rw[aw c2]at e;exact g6 e
  ·rename_i c2;rw[am c2]at e;exact g6 e
theorem Gf{ok:Nat}{Q:Bool->SortSt->Prop}(hC:cI prog w A s κ rk a₀)(hn:lo+n<=a₀.size)(hk:ok<=n)(h:SB κ a₀ lo old P st)(ho:Asc rk (arrOf st) lo (lo+ok))
  (q:∀st',SB κ a₀ lo old P st'->Asc rk (arrOf st') lo (lo+n)->Q true st'):wpS (model prog w) A E s (binarySort' lo n ok) Q st:=by
 rw[binarySort'_eq]
 refine ba (JI (r6 (I:=λk c st'=>c=(none,())/\SB κ a₀ lo old P st'/\Asc rk (arrOf st') lo (lo+min k n))
  (Q:=λc st'=>c=(none,())/\SB κ a₀ lo old P st'/\Asc rk (arrOf st') lo (lo+n)) (λk c st' hk1 hkn I=>?_) (λc st' I=>?_) ⟨rfl,h,λi j hi hij hj=>?_⟩) λc st' I=>?_)
 ·obtain⟨rfl,h',o⟩:=I
  rw[show min k n=k by lia]at o
  have hsz:lo+k<(arrOf st').size:=by rw[h'.sz];lia
  refine ba (JI (r6 (I:=λx c st2=>st2=st'/\∃l r,c=(none,l,r)/\l<=r/\r<=k/\r - l<=k - x /\
    (∀i,i<l->kr rk (arrOf st') (lo+i)<=kr rk (arrOf st') (lo+k))/\(∀i,r<=i->i<k->kr rk (arrOf st') (lo+k)<kr rk (arrOf st') (lo+i)))
   (Q:=λc st2=>st2=st'/\∃l r,c=(none,l,r)/\l<=k/\(∀i,i<l->kr rk (arrOf st') (lo+i)<=kr rk (arrOf st') (lo+k))/\(∀i,l<=i->i<k->kr rk (arrOf st') (lo+k)<kr rk (arrOf st') (lo+i)))
   (λx c st2 _ hx J=>?_) (λc st2 J=>?_) ⟨rfl,0,k,rfl,by lia,by lia,by lia,λi hi=>by lia,λi i1 i2=>by lia⟩) λc st2 J=>?_)
  ·obtain⟨rfl,l,r,rfl,lr,rk',sz,b1,b2⟩:=J
   dsimp only
   by_cases c:l>=r
   ·rw[aw c]
    exact di ⟨rfl,l,r,rfl,by lia,b1,λi i1 i2=>b2 i (by lia) i2⟩
   ·rw[am c]
    refine ba (sY hC h' (by lia) (by lia) ?_)
    by_cases c2:kr rk (arrOf st2) (lo+k)<kr rk (arrOf st2) (lo+(l+r) / 2)
    ·rw[eT c2]
     refine di ⟨rfl,l,(l+r) / 2,rfl,by lia,by lia,by lia,b1,λi i1 i2=>?_⟩
     have:=o (lo+(l+r) / 2) (lo+i) (by lia) (by lia) (by lia)
     lia
    ·rw[cr c2]
     refine di ⟨rfl,(l+r) / 2+1,r,rfl,by lia,by lia,by lia,λi i1=>?_,b2⟩
     have:=o (lo+i) (lo+(l+r) / 2) (by lia) (by lia) (by lia)
     lia
  ·obtain⟨rfl,l,r,rfl,lr,rk',sz,b1,b2⟩:=J
   exact⟨rfl,l,r,rfl,by lia,b1,λi i1 i2=>b2 i (by lia) i2⟩
  ·obtain⟨rfl,l,r,rfl,lk,b1,b2⟩:=J
   show wpS _ _ _ _ (moveDown' (lo+k) (lo+l) >>= λ_=>pure (ForInStep.yield (none,()))) _ _
   rw[moveDown'_eq]
   have ed:lo+k - (lo+k - (lo+l))=lo+l:=by lia
   refine ba (KO (di ⟨rfl,h'.to (bubble_perm _ _ _) (λi hi=>?_),λi j hi hij hj=>?_⟩))
   ·rw[getElem?_bubble hsz _ (by lia),am (by lia),am (by lia)]
   ·rw[show min (k+1) n=k+1 by lia]at hj
    show kr rk (bubble (arrOf st2) (lo+k) (lo+k - (lo+l))) i<=kr rk (bubble (arrOf st2) (lo+k) (lo+k - (lo+l))) j
    rw[Aa hsz (by lia),Aa hsz (by lia),ed]
    have t1:∀i,lo<=i->i<lo+l->kr rk (arrOf st2) i<=kr rk (arrOf st2) (lo+k):=λi i1 i2=>by
     have:=b1 (i - lo) (by lia)
     rwa [show lo+(i - lo)=i by lia]at this
    have t2:∀i,lo+l<=i->i<lo+k->kr rk (arrOf st2) (lo+k)<kr rk (arrOf st2) i:=λi i1 i2=>by
     have:=b2 (i - lo) (by lia) (by lia)
     rwa [show lo+(i - lo)=i by lia]at this
    split
    ·split
     ·exact wT _
     ·split
      ·exact Int.le_of_lt (t2 _ (by lia) (by lia))
      ·lia
    ·split
     ·split
      ·lia
      ·split
       ·exact o _ _ (by lia) (by lia) (by lia)
       ·lia
     ·split
      ·exact t1 _ hi (by lia)
      ·split
       ·exact o _ _ (by lia) (by lia) (by lia)
       ·exact o _ _ (by lia) (by lia) (by lia)
 ·obtain⟨rfl,h',o⟩:=I
  rw[show min (max (max ok 1) n) n=n by lia]at o
  exact⟨rfl,h',o⟩
 ·by_cases c:ok=0
  ·rw[show i=j by lia];exact wT _
  ·exact ho i j hi hij (by lia)
 ·obtain⟨rfl,h',o⟩:=I
  exact di (q st' h' o)
end
abbrev SM':=StateT SortSt Sem
def gal(bey:Nat->SM' (Option Bool))(n at0:Nat):SM' (Option Nat):=do
 let mut u:=0
 let mut o:=1
 let mut l:=0
 let mut h:=0
 let some b0 <-bey at0|return none
 if b0 then
  let z:=n - at0
  for _ in [0:n] do
   if o>=z then break
   let some b <-bey (at0+o)|return none
   if !b then break
   u:=o
   o:=2*o+1
  l:=at0+u+1
  h:=at0+min o z
 else
  let z:=at0+1
  for _ in [0:n] do
   if o>=z then break
   let some b <-bey (at0 - o)|return none
   if b then break
   u:=o
   o:=2*o+1
  l:=at0+1 - min o z
  h:=at0 - u
 for _ in [0:n] do
  if l>=h then break
  let m:=l+(h - l) / 2
  let some b <-bey m|return none
  if b then l:=m+1 else h:=m
 return some h
def dH:Bool->Keyed->Array Keyed->Nat->Nat->Nat->SM' (Option Nat):=sortPriv% PySem.Builtin.gallop
theorem oU(left:Bool)(key:Keyed)(arr:Array Keyed)(base n at0:Nat):dH left key arr base n at0=gal (λi=>do
  let x <-elem' arr (base+i)
  if left then lt' x key else return (<-lt' key x).map (!·)) n at0:=rfl
section
theorem wu{bey:Nat->SM' (Option Bool)}{B:Nat->Prop}[DecidablePred B]{Q:Option (Option Nat)×Nat×Nat->SortSt->Prop}{l h:Nat}
  (hb:∀i,i<n->∀Q:Option Bool->SortSt->Prop,Q (some (decide (B i))) st->wpS (model prog w) A E s (bey i) Q st) (mono:∀i j,i<=j->j<n->B j->B i)
  (lh:l<=h) (hn:h<=n) (b1:∀i,i<l->B i) (b2:∀i,h<=i->i<n->¬ B i) (q:∀l k,k<=n->(∀i,i<k->B i)->(∀i,k<=i->i<n->¬ B i)->Q (none,l,k) st) :
  wpS (model prog w) A E s (forIn [0:n] ((none,l,h):Option (Option Nat)×Nat×Nat) λ_ c =>
   if c.snd.fst>=c.snd.snd then pure (ForInStep.done (none,c.snd.fst,c.snd.snd))
   else do
    match <-bey (c.snd.fst+(c.snd.snd - c.snd.fst) / 2)with
    | some b=>if b=true then pure (ForInStep.yield (none,c.snd.fst+(c.snd.snd - c.snd.fst) / 2+1,c.snd.snd))else pure (ForInStep.yield (none,c.snd.fst,c.snd.fst+(c.snd.snd - c.snd.fst) / 2))
    | _=>pure (ForInStep.done (some none,c.snd.fst,c.snd.snd))) Q st:=by
 refine r6 (I:=λx c st'=>st'=st/\∃l h,c=(none,l,h)/\l<=h/\h<=n/\h - l<=n - x/\(∀i,i<l->B i)/\(∀i,h<=i->i<n->¬ B i)) (λx c st' _ hx I=>?_) (λc st' I=>?_) ⟨rfl,l,h,rfl,lh,hn,by lia,b1,b2⟩
 ·obtain⟨rfl,l,h,rfl,lh,hn,sz,b1,b2⟩:=I
  dsimp only
  split
  ·exact di (q l h hn (λi hi=>b1 i (by lia)) b2)
  ·rename_i c
   refine ba (hb _ (by lia) _ ?_)
   by_cases d:B (l+(h - l) / 2)
   ·rw[eT d]
    exact di ⟨rfl,_,h,rfl,by lia,hn,by lia,λi hi=>mono i _ (by lia) (by lia) d,b2⟩
   ·rw[cr d]
    exact di ⟨rfl,l,_,rfl,by lia,by lia,by lia,b1,λi i1 i2 e=>d (mono _ i i1 i2 e)⟩
 ·obtain⟨rfl,l,h,rfl,lh,hn,sz,b1,b2⟩:=I
  exact q l h hn (λi hi=>b1 i (by lia)) b2
theorem Ap{bey:Nat->SM' (Option Bool)}{B:Nat->Prop}[DecidablePred B]{at0:Nat}
  (hb:∀i,i<n->∀Q:Option Bool->SortSt->Prop,Q (some (decide (B i))) st->wpS (model prog w) A E s (bey i) Q st) (mono:∀i j,i<=j->j<n->B j->B i) (h0:at0<n)
  (q:∀k,k<=n->(∀i,i<k->B i)->(∀i,k<=i->i<n->¬ B i)->Q (some k) st):wpS (model prog w) A E s (gal bey n at0) Q st:=by
 unfold gal
 dsimp only
 refine ba (hb at0 h0 _ ?_)
 by_cases d:B at0
 ·rw[eT d]
  dsimp only
  rw[aw rfl]
  refine ba (JI (r6 (I:=λx c st'=>st'=st/\∃u o,c=(none,u,o)/\u<o/\x<o/\at0+u<n/\B (at0+u))
   (Q:=λc st'=>st'=st/\∃u o,c=(none,u,o)/\u<o/\at0+u<n/\B (at0+u)/\(at0+o<n->¬ B (at0+o))) (λx c st' _ hx I=>?_) (λc st' I=>?_) ⟨rfl,0,1,rfl,by lia,by lia,h0,d⟩) λc st' I=>?_)
  ·obtain⟨rfl,u,o,rfl,uo,xo,un,bu⟩:=I
   dsimp only
   split
   ·exact di ⟨rfl,u,o,rfl,uo,un,bu,λz=>by lia⟩
   ·rename_i c
    refine ba (hb _ (by lia) _ ?_)
    by_cases e:B (at0+o)
    ·rw[eT e]
     exact di ⟨rfl,o,2*o+1,rfl,by lia,by lia,by lia,e⟩
    ·rw[cr e]
     exact di ⟨rfl,u,o,rfl,uo,un,bu,λ_=>e⟩
  ·obtain⟨rfl,u,o,rfl,uo,xo,un,bu⟩:=I
   exact⟨rfl,u,o,rfl,uo,un,bu,λz=>by lia⟩
  ·obtain⟨rfl,u,o,rfl,uo,un,bu,bo⟩:=I
   dsimp only
   refine ba (wu hb mono (by lia) (by lia) (λi hi=>mono i _ (by lia) un bu) (λi i1 i2 e=>?_) λl k k1 k2 k3=>di (q k k1 k2 k3))
   by_cases z:at0+o<n
   ·exact bo z (mono _ i (by lia) i2 e)
   ·lia
 ·rw[cr d]
  dsimp only
  rw[am (by decide)]
  refine ba (JI (r6 (I:=λx c st'=>st'=st/\∃u o,c=(none,u,o)/\u<o/\x<o/\u<=at0/\¬ B (at0 - u))
   (Q:=λc st'=>st'=st/\∃u o,c=(none,u,o)/\u<o/\u<=at0/\¬ B (at0 - u)/\(o<=at0->B (at0 - o))) (λx c st' _ hx I=>?_) (λc st' I=>?_) ⟨rfl,0,1,rfl,by lia,by lia,by lia,d⟩) λc st' I=>?_)
  ·obtain⟨rfl,u,o,rfl,uo,xo,un,bu⟩:=I
   dsimp only
   split
   ·exact di ⟨rfl,u,o,rfl,uo,un,bu,λz=>by lia⟩
   ·rename_i c
    refine ba (hb _ (by lia) _ ?_)
    by_cases e:B (at0 - o)
    ·rw[eT e]
     exact di ⟨rfl,u,o,rfl,uo,un,bu,λ_=>e⟩
    ·rw[cr e]
     exact di ⟨rfl,o,2*o+1,rfl,by lia,by lia,by lia,e⟩
  ·obtain⟨rfl,u,o,rfl,uo,xo,un,bu⟩:=I
   exact⟨rfl,u,o,rfl,uo,un,bu,λz=>by lia⟩
  ·obtain⟨rfl,u,o,rfl,uo,un,bu,bo⟩:=I
   dsimp only
   refine ba (wu hb mono (by lia) (by lia) (λi hi=>?_) (λi i1 i2 e=>bu (mono _ i i1 i2 e)) λl k k1 k2 k3=>di (q k k1 k2 k3))
   by_cases z:o<=at0
   ·exact mono i _ (by lia) (by lia) (bo z)
   ·lia
theorem jm{key:Keyed}{arr:Array Keyed}{base at0:Nat}(hC:cI prog w A s κ rk a₀)(hk:kindOf st=κ)(hm:key∈a₀.toList)(hz:base+n<=arr.size)(ha:∀p∈arr.toList,p∈a₀.toList)
  (ho:Asc rk arr base (base+n)) (h0:at0<n) (q:∀k,k<=n->(∀i,i<k->kr rk arr (base+i)<rk key.1)->(∀i,k<=i->i<n->rk key.1<=kr rk arr (base+i))->Q (some k) st) :
  wpS (model prog w) A E s (dH true key arr base n at0) Q st:=by
 rw[oU]
 refine Ap (B:=λi=>kr rk arr (base+i)<rk key.1) (λi hi Q q=>?_) (λi j ij jn b=>?_) h0 λk k1 k2 k3=>q k k1 k2 λi i1 i2=>Int.not_lt.mp (k3 i i1 i2)
 ·have e:arr[base+i]? = some (arr[base+i]'(by lia)):=ac _
  refine ba (bP e ?_)
  rw[aw rfl]
  refine rW hC hk (ha _ (by simp)) hm ?_
  rw[bG e]at q
  exact q
 ·have:=ho (base+i) (base+j) (by lia) (by lia) (by lia)
  lia
theorem jl{key:Keyed}{arr:Array Keyed}{base at0:Nat}(hC:cI prog w A s κ rk a₀)(hk:kindOf st=κ)(hm:key∈a₀.toList)(hz:base+n<=arr.size)(ha:∀p∈arr.toList,p∈a₀.toList)
  (ho:Asc rk arr base (base+n)) (h0:at0<n) (q:∀k,k<=n->(∀i,i<k->kr rk arr (base+i)<=rk key.1)->(∀i,k<=i->i<n->rk key.1<kr rk arr (base+i))->Q (some k) st) :
  wpS (model prog w) A E s (dH false key arr base n at0) Q st:=by
 rw[oU]
 refine Ap (B:=λi=>¬ rk key.1<kr rk arr (base+i)) (λi hi Q q=>?_) (λi j ij jn b=>?_) h0 λk k1 k2 k3=>q k k1 (λi hi=>Int.not_lt.mp (k2 i hi)) λi i1 i2=>Classical.not_not.mp (k3 i i1 i2)
 ·have e:arr[base+i]? = some (arr[base+i]'(by lia)):=ac _
  refine ba (bP e ?_)
  rw[am (by decide)]
  refine ba (rW hC hk hm (ha _ (by simp)) (di ?_))
  rw[bG e]at q
  have e2:(some (decide (rk key.1<rk (arr[base+i]'(by lia)).1))).map (!·)=some (decide (¬ rk key.1<rk (arr[base+i]'(by lia)).1)):=by
   generalize rk (arr[base+i]'(by lia)).1=x
   rw[JQ]
   congr 1
   by_cases c:rk key.1<x
   ·rw[eT c,cr (λz=>z c)];rfl
   ·rw[cr c,eT c];rfl
  rw[e2]
  exact q
 ·have:=ho (base+i) (base+j) (by lia) (by lia) (by lia)
  lia
end
def setG:Nat->SM' Unit:=sortPriv% PySem.Builtin.setMinGallop
theorem BD(g:Nat):setG g=modify λc=>SortSt.mk' (kindOf c) (arrOf c) (pendingOf c) g (failedOf c):=rfl
def mC:Array Keyed->Array Keyed->SM' (Array Keyed):=sortPriv% PySem.Builtin.mergeLo
def mE:Array Keyed->Array Keyed->SM' (Array Keyed):=sortPriv% PySem.Builtin.mergeHi
abbrev W1:=Option (Array Keyed)×Array Keyed×Nat×Nat×Nat×Nat
abbrev W2:=Option (Array Keyed)×Array Keyed×Nat×Nat×Nat×Nat×Nat
abbrev W0:=Option (Array Keyed)×Array Keyed×Nat×Nat×Nat
section
variable (a b:Array Keyed)
def fA(out:Array Keyed)(i j:Nat):Array Keyed:=out++a.extract i a.size++b.extract j b.size
def fB(out:Array Keyed)(i j:Nat):Array Keyed:=out++b.extract j b.size++a.extract i a.size
def lS(g:Nat)(out:Array Keyed)(i j p q:Nat):SM' (ForInStep W1):=do
 let x <-elem' b j
 let y <-elem' a i
 match <-lt' x y with
 | some t =>
  if t=true then do
   let x <-elem' b j
   if(j+1==b.size)=true then pure (.done (some (fA a b (out.push x) i (j+1)),out.push x,i,j+1,0,q+1))
   else if q+1>=g then pure (.done (none,out.push x,i,j+1,0,q+1))
   else pure (.yield (none,out.push x,i,j+1,0,q+1))
  else do
   let y <-elem' a i
   if(i+1+1==a.size)=true then pure (.done (some (fB a b (out.push y) (i+1) j),out.push y,i+1,j,p+1,0))
   else if p+1>=g then pure (.done (none,out.push y,i+1,j,p+1,0))
   else pure (.yield (none,out.push y,i+1,j,p+1,0))
 | _=>pure (.done (some (fA a b out i j),out,i,j,p,q))
def l3(out:Array Keyed)(i j g p q:Nat):SM' (ForInStep W2):=do
 let y <-elem' a i
 if(i+1+1==a.size)=true then pure (.done (some (fB a b (out.push y) (i+1) j),out.push y,i+1,j,g,p,q))
 else if(decide (p<7)&&decide (q<7))=true then pure (.done (none,out.push y,i+1,j,g,p,q))
 else pure (.yield (none,out.push y,i+1,j,g,p,q))
def l2(out:Array Keyed)(i j g p q:Nat):SM' (ForInStep W2):=do
 let y <-elem' a i
 match <-dH true y b j (b.size - j) 0 with
 | some k =>
  if k>0 then
   if(j+k==b.size)=true then pure (.done (some (fA a b (out++b.extract j (j+k)) i (j+k)),out++b.extract j (j+k),i,j+k,g,p,k))
   else l3 a b (out++b.extract j (j+k)) i (j+k) g p k
  else l3 a b out i j g p k
 | _=>pure (.done (some (fA a b out i j),out,i,j,g,p,q))
def l1(out:Array Keyed)(i j g p q:Nat):SM' (ForInStep W2):=do
 let x <-elem' b j
 if(j+1==b.size)=true then pure (.done (some (fA a b (out.push x) i (j+1)),out.push x,i,j+1,g,p,q))
 else l2 a b (out.push x) i (j+1) g p q
def l0(out:Array Keyed)(i j g p q:Nat):SM' (ForInStep W2):=do
 setG g
 let x <-elem' b j
 match <-dH false x a i (a.size - i) 0 with
 | some k =>
  if k>0 then
   if(i+k+1==a.size)=true then pure (.done (some (fB a b (out++a.extract i (i+k)) (i+k) j),out++a.extract i (i+k),i+k,j,g,k,q))
   else if(i+k==a.size)=true then pure (.done (some (fA a b (out++a.extract i (i+k)) (i+k) j),out++a.extract i (i+k),i+k,j,g,k,q))
   else l1 a b (out++a.extract i (i+k)) (i+k) j g k q
  else l1 a b out i j g k q
 | _=>pure (.done (some (fA a b out i j),out,i,j,g,p,q))
def lT(out:Array Keyed)(i j g:Nat):SM' (ForInStep W0):=do
 let c <-forIn [0:a.size+b.size] ((none,out,i,j,0,0):W1) λ_ c=>lS a b g c.2.1 c.2.2.1 c.2.2.2.1 c.2.2.2.2.1 c.2.2.2.2.2
 match c.1 with
 | some r=>pure (.done (some r,c.2.1,c.2.2.1,c.2.2.2.1,g))
 | none=>do
  liftM (rule "list.sort.gallop")
  let d <-forIn [0:a.size+b.size] ((none,c.2.1,c.2.2.1,c.2.2.2.1,g+1,c.2.2.2.2.1,c.2.2.2.2.2):W2) λ_ c =>
   if c.2.2.2.2.1>1 then l0 a b c.2.1 c.2.2.1 c.2.2.2.1 (c.2.2.2.2.1 - 1) c.2.2.2.2.2.1 c.2.2.2.2.2.2
   else l0 a b c.2.1 c.2.2.1 c.2.2.2.1 c.2.2.2.2.1 c.2.2.2.2.2.1 c.2.2.2.2.2.2
  match d.1 with
  | some r=>pure (.done (some r,d.2.1,d.2.2.1,d.2.2.2.1,d.2.2.2.2.1))
  | none=>do
   setG (d.2.2.2.2.1+1)
   pure (.yield (none,d.2.1,d.2.2.1,d.2.2.2.1,d.2.2.2.2.1+1))
theorem t9:mC a b=(do
  liftM (rule "list.sort.merge-lo")
  let x <-elem' b 0
  if(1==b.size)=true then pure (fA a b #[x] 0 1)
  else if(0+1==a.size)=true then pure (fB a b #[x] 0 1)
  else do
   let st <-get
   let c <-forIn [0:a.size+b.size] ((none,#[x],0,1,gallopOf st):W0) λ_ c=>lT a b c.2.1 c.2.2.1 c.2.2.2.1 c.2.2.2.2
   match c.1 with
   | some r=>pure r
   | none=>liftM (unsupported "internal:list.sort.merge-bound" : Sem (Array Keyed))):=by
 kernel_rfl
def hA(out:Array Keyed)(i j:Nat):Array Keyed:=a.extract 0 i++b.extract 0 j++out.reverse
def hB(out:Array Keyed)(i j:Nat):Array Keyed:=b.extract 0 j++a.extract 0 i++out.reverse
abbrev V1:=Option (Array Keyed)×Nat×Nat×Array Keyed×Nat×Nat
abbrev V2:=Option (Array Keyed)×Nat×Nat×Array Keyed×Nat×Nat×Nat
abbrev V0:=Option (Array Keyed)×Nat×Nat×Array Keyed×Nat
def hS(g:Nat)(i j:Nat)(out:Array Keyed)(p q:Nat):SM' (ForInStep V1):=do
 let x <-elem' b (j - 1)
 let y <-elem' a (i - 1)
 match <-lt' x y with
 | some t =>
  if t=true then do
   let y <-elem' a (i - 1)
   if(i - 1==0)=true then pure (.done (some (hA a b (out.push y) (i - 1) j),i - 1,j,out.push y,p+1,0))
   else if p+1>=g then pure (.done (none,i - 1,j,out.push y,p+1,0))
   else pure (.yield (none,i - 1,j,out.push y,p+1,0))
  else do
   let x <-elem' b (j - 1)
   if(j - 1==1)=true then pure (.done (some (hB a b (out.push x) i (j - 1)),i,j - 1,out.push x,0,q+1))
   else if q+1>=g then pure (.done (none,i,j - 1,out.push x,0,q+1))
   else pure (.yield (none,i,j - 1,out.push x,0,q+1))
 | _=>pure (.done (some (hA a b out i j),i,j,out,p,q))
def h3(i j:Nat)(out:Array Keyed)(g p q:Nat):SM' (ForInStep V2):=do
 let y <-elem' a (i - 1)
 if(i - 1==0)=true then pure (.done (some (hA a b (out.push y) (i - 1) j),i - 1,j,out.push y,g,p,q))
 else if(decide (p<7)&&decide (q<7))=true then pure (.done (none,i - 1,j,out.push y,g,p,q))
 else pure (.yield (none,i - 1,j,out.push y,g,p,q))
def h2(i j:Nat)(out:Array Keyed)(g p q:Nat):SM' (ForInStep V2):=do
 let y <-elem' a (i - 1)
 match <-dH true y b 0 j (j - 1)with
 | some x =>
  if j - x>0 then
   if(x==1)=true then pure (.done (some (hB a b (out++(b.extract x j).reverse) i x),i,x,out++(b.extract x j).reverse,g,p,j - x))
   else if(x==0)=true then pure (.done (some (hA a b (out++(b.extract x j).reverse) i x),i,x,out++(b.extract x j).reverse,g,p,j - x))
   else h3 a b i x (out++(b.extract x j).reverse) g p (j - x)
  else h3 a b i j out g p (j - x)
 | _=>pure (.done (some (hA a b out i j),i,j,out,g,p,q))
def h1(i j:Nat)(out:Array Keyed)(g p q:Nat):SM' (ForInStep V2):=do
 let x <-elem' b (j - 1)
 if(j - 1==1)=true then pure (.done (some (hB a b (out.push x) i (j - 1)),i,j - 1,out.push x,g,p,q))
 else h2 a b i (j - 1) (out.push x) g p q
def h0(i j:Nat)(out:Array Keyed)(g p q:Nat):SM' (ForInStep V2):=do
 setG g
 let x <-elem' b (j - 1)
 match <-dH false x a 0 i (i - 1)with
 | some x =>
  if i - x>0 then
   if(x==0)=true then pure (.done (some (hA a b (out++(a.extract x i).reverse) x j),x,j,out++(a.extract x i).reverse,g,i - x,q))
   else h1 a b x j (out++(a.extract x i).reverse) g (i - x) q
  else h1 a b i j out g (i - x) q
 | _=>pure (.done (some (hA a b out i j),i,j,out,g,p,q))
def hT(i j:Nat)(out:Array Keyed)(g:Nat):SM' (ForInStep V0):=do
 let c <-forIn [0:a.size+b.size] ((none,i,j,out,0,0):V1) λ_ c=>hS a b g c.2.1 c.2.2.1 c.2.2.2.1 c.2.2.2.2.1 c.2.2.2.2.2
 match c.1 with
 | some r=>pure (.done (some r,c.2.1,c.2.2.1,c.2.2.2.1,g))
 | none=>do
  liftM (rule "list.sort.gallop")
  let d <-forIn [0:a.size+b.size] ((none,c.2.1,c.2.2.1,c.2.2.2.1,g+1,c.2.2.2.2.1,c.2.2.2.2.2):V2) λ_ c =>
   if c.2.2.2.2.1>1 then h0 a b c.2.1 c.2.2.1 c.2.2.2.1 (c.2.2.2.2.1 - 1) c.2.2.2.2.2.1 c.2.2.2.2.2.2
   else h0 a b c.2.1 c.2.2.1 c.2.2.2.1 c.2.2.2.2.1 c.2.2.2.2.2.1 c.2.2.2.2.2.2
  match d.1 with
  | some r=>pure (.done (some r,d.2.1,d.2.2.1,d.2.2.2.1,d.2.2.2.2.1))
  | none=>do
   setG (d.2.2.2.2.1+1)
   pure (.yield (none,d.2.1,d.2.2.1,d.2.2.2.1,d.2.2.2.2.1+1))
theorem uc:mE a b=(do
  liftM (rule "list.sort.merge-hi")
  let x <-elem' a (a.size - 1)
  if(a.size - 1==0)=true then pure (hA a b #[x] (a.size - 1) b.size)
  else if(b.size==1)=true then pure (hB a b #[x] (a.size - 1) b.size)
  else do
   let st <-get
   let c <-forIn [0:a.size+b.size] ((none,a.size - 1,b.size,#[x],gallopOf st):V0) λ_ c=>hT a b c.2.1 c.2.2.1 c.2.2.2.1 c.2.2.2.2
   match c.1 with
   | some r=>pure r
   | none=>liftM (unsupported "internal:list.sort.merge-bound" : Sem (Array Keyed))):=by
 kernel_rfl
end
section
abbrev Le(rk:Value->Int)(x y:Keyed):Prop:=rk x.1<=rk y.1
structure Gd(rk:Value->Int)(T O A B:List Keyed):Prop where
 so:O.Pairwise (Le rk)
 sa:A.Pairwise (Le rk)
 sb:B.Pairwise (Le rk)
 ah:∀x∈O,∀y,y∈A\/y∈B->Le rk x y
 pm:(O++(A++B)).Perm T
def Srt(rk:Value->Int)(T r:List Keyed):Prop:=r.Pairwise (Le rk)/\r.Perm T
theorem Gd.a{A:List Keyed}(h:Gd rk T O (S++A) B)(hs:∀x∈S,∀y∈B,Le rk x y):Gd rk T (O++S) A B:=by
 have sa:=List.pairwise_append.mp h.sa
 refine⟨List.pairwise_append.mpr ⟨h.so,sa.1,λx hx y hy=>h.ah x hx y (.inl (zzh _ hy))⟩,sa.2.1,h.sb,λx hx y hy=>?_,by simpa[Ba]using h.pm⟩
 rcases List.mem_append.mp hx with hx|hx
 ·exact h.ah x hx y (hy.imp (ib _) id)
 ·rcases hy with hy|hy
  ·exact sa.2.2 x hx y hy
  ·exact hs x hx y hy
theorem Gd.flip{A:List Keyed}(h:Gd rk T O A B):Gd rk T O B A :=
 ⟨h.so,h.sb,h.sa,λx hx y hy=>h.ah x hx y hy.symm,((List.perm_append_comm (l₁:=B)).append_left O).trans h.pm⟩
theorem Gd.b{A:List Keyed}(h:Gd rk T O A (S++B))(hs:∀x∈S,∀y∈A,Le rk x y):Gd rk T (O++S) A B:=(h.flip.a hs).flip
theorem Gd.fa{A:List Keyed}(h:Gd rk T O A B)(hs:∀x∈A,∀y∈B,Le rk x y):Srt rk T (O++A++B):=by
 refine⟨?_,by rw[Ba];exact h.pm⟩
 rw[Ba]
 exact List.pairwise_append.mpr ⟨h.so,List.pairwise_append.mpr ⟨h.sa,h.sb,hs⟩,λx hx y hy=>h.ah x hx y (List.mem_append.mp hy)⟩
theorem Gd.fb{A:List Keyed}(h:Gd rk T O A B)(hs:∀x∈B,∀y∈A,Le rk x y):Srt rk T (O++B++A):=h.flip.fa hs
abbrev Ga(rk:Value->Int)(T:List Keyed)(a b out:Array Keyed)(i j:Nat):Prop:=Gd rk T out.toList (a.toList.drop i) (b.toList.drop j)
theorem CV{a:Array Keyed}(h:i<a.size):a.toList.drop i=[a[i]]++a.toList.drop (i+1):=by
 rw[su (by simpa using h)]
 simp
theorem AJ{a:Array Keyed}{k:Nat}:a.toList.drop i=(a.extract i (i+k)).toList++a.toList.drop (i+k):=by
 rw[oP,li,Nat.add_sub_cancel_left,<-Kl,yp]
theorem jF{a:Array Keyed}(h:x∈a.toList.drop i):∃t,i<=t/\t<a.size/\kr rk a t=rk x.1:=by
 obtain⟨n,hn,e⟩:=List.mem_iff_getElem.mp h
 have hl:i+n<a.size:=by
  rw[Db]at hn
  have:a.toList.length=a.size:=fu
  lia
 refine⟨i+n,by lia,hl,bG ?_⟩
 rw[List.getElem_drop]at e
 rw[ac hl,<-e]
 simp
theorem Cm{a:Array Keyed}{k:Nat}(h:x∈(a.extract i (i+k)).toList):∃t,i<=t/\t<i+k/\t<a.size/\kr rk a t=rk x.1:=by
 obtain⟨n,hn,e⟩:=List.mem_iff_getElem.mp h
 have hn':n<(a.extract i (i+k)).size:=by rw[<-fu];exact hn
 rw[um]at hn'
 refine⟨i+n,by lia,by lia,by lia,bG ?_⟩
 rw[ac (by lia),<-e]
 simp
theorem fK{a:Array Keyed}(h:Asc rk a 0 a.size):a.toList.Pairwise (Le rk):=by
 rw[List.pairwise_iff_getElem]
 intro i j hi hj hij
 have hi':i<a.size:=by simpa using hi
 have hj':j<a.size:=by simpa using hj
 have:=h i j (bi _) (K0 hij) hj'
 rw[bG (ac hi'),bG (ac hj')]at this
 simpa using this
theorem qy(a b out:Array Keyed)(i j:Nat):(fA a b out i j).toList=out.toList++a.toList.drop i++b.toList.drop j:=by
 unfold fA
 rw[Cn,Cn,oP,oP,li,li,u8 (by simp),u8 (by simp)]
theorem CS(a b out:Array Keyed)(i j:Nat):(fB a b out i j).toList=out.toList++b.toList.drop j++a.toList.drop i:=qy b a out j i
end
section
structure Two(rk:Value->Int)(a₀ a b:Array Keyed):Prop where
 sa:Asc rk a 0 a.size
 sb:Asc rk b 0 b.size
 ma:∀p∈a.toList,p∈a₀.toList
 mb:∀p∈b.toList,p∈a₀.toList
 na:1<=a.size
 nb:1<=b.size
 lo:∀i,i<a.size->kr rk b 0<=kr rk a i
 hi:∀j,j<b.size->kr rk b j<=kr rk a (a.size - 1)
structure S0(κ:SortKind)(X:Array Keyed)(P:Runs)(st:SortSt):Prop where
 kd:kindOf st=κ
 ar:arrOf st=X
 pe:pendingOf st=P
 fl:failedOf st=none
variable {a b:Array Keyed} {P:Runs}
structure Mid(rk:Value->Int)(a b out:Array Keyed)(i j:Nat):Prop where
 g:Ga rk (a.toList++b.toList) a b out i j
 hi:i+2<=a.size
 hj:j+1<=b.size
def Res(κ:SortKind)(rk:Value->Int)(a b X:Array Keyed)(P:Runs)(r:Array Keyed)(st:SortSt):Prop:=S0 κ X P st/\Srt rk (a.toList++b.toList) r.toList
theorem Ga.pb(g:Ga rk T a b out i j)(hj:j<b.size)(h:∀t,i<=t->t<a.size->kr rk b j<=kr rk a t):Ga rk T a b (out.push b[j]) i (j+1):=by
 have g':Gd rk T out.toList (a.toList.drop i) (b.toList.drop j):=g
 rw[CV hj]at g'
 show Gd rk T (out.push b[j]).toList _ _
 rw[Kw]
 refine g'.b λx hx y hy=>?_
 obtain⟨t,t1,t2,e⟩:=jF (rk:=rk) hy
 rw[List.mem_singleton.mp hx]
 have:=h t t1 t2
 rw[e,bG (ac hj)]at this
 exact this
theorem Ga.pa(g:Ga rk T a b out i j)(hi:i<a.size)(h:∀t,j<=t->t<b.size->kr rk a i<=kr rk b t):Ga rk T a b (out.push a[i]) (i+1) j :=
 Gd.flip (Ga.pb (a:=b) (b:=a) (i:=j) (j:=i) (Gd.flip g) hi h)
theorem Ga.eb{k:Nat}(g:Ga rk T a b out i j)(h:∀t u,j<=t->t<j+k->i<=u->u<a.size->kr rk b t<=kr rk a u):Ga rk T a b (out++b.extract j (j+k)) i (j+k):=by
 have g':Gd rk T out.toList (a.toList.drop i) (b.toList.drop j):=g
 rw[AJ (a:=b) (i:=j) (k:=k)]at g'
 show Gd rk T (out++b.extract j (j+k)).toList _ _
 rw[Cn]
 refine g'.b λx hx y hy=>?_
 obtain⟨t,t1,t2,_,e⟩:=Cm (rk:=rk) hx
 obtain⟨u,u1,u2,e2⟩:=jF (rk:=rk) hy
 have:=h t u t1 t2 u1 u2
 rw[e,e2]at this
 exact this
theorem Ga.ea{k:Nat}(g:Ga rk T a b out i j)(h:∀t u,i<=t->t<i+k->j<=u->u<b.size->kr rk a t<=kr rk b u):Ga rk T a b (out++a.extract i (i+k)) (i+k) j :=
 Gd.flip (Ga.eb (a:=b) (b:=a) (i:=j) (j:=i) (Gd.flip g) h)
theorem Ga.eB(g:Ga rk T a b out i j)(hj:b.size<=j):Srt rk T (fA a b out i j).toList:=by
 rw[qy]
 refine Gd.fa g λx _ y hy=>?_
 rw[List.drop_eq_nil_of_le (by simpa using hj)]at hy
 cases hy
theorem Ga.eA(g:Ga rk T a b out i j)(hi:a.size<=i):Srt rk T (fA a b out i j).toList:=by
 rw[qy]
 refine Gd.fa g λx hx y _=>?_
 rw[List.drop_eq_nil_of_le (by simpa using hi)]at hx
 cases hx
theorem Ga.eL(g:Ga rk T a b out i j)(tw:Two rk a₀ a b)(hi:i+1=a.size):Srt rk T (fB a b out i j).toList:=by
 rw[CS]
 refine Gd.fb g λx hx y hy=>?_
 obtain⟨t,t1,t2,e⟩:=jF (rk:=rk) hx
 obtain⟨u,u1,u2,e2⟩:=jF (rk:=rk) hy
 have:=tw.hi t t2
 rw[e,show a.size - 1=u by lia,e2]at this
 exact this
theorem kU{Q:Unit->SortSt->Prop}(h:S0 κ X P st)(q:∀st',S0 κ X P st'->Q () st'):wpS (model prog w) A E s (setG g) Q st:=by
 rw[BD]
 exact KO (q _ ⟨h.kd,h.ar,h.pe,h.fl⟩)
theorem HL{Q:ForInStep W1->SortSt->Prop}(hC:cI prog w A s κ rk a₀)(tw:Two rk a₀ a b)(h:S0 κ X P st)(m:Mid rk a b out i j)
  (q1:∀r o i j p q,Res κ rk a b X P r st->Q (.done (some r,o,i,j,p,q)) st) (q2:∀o i' j' p q,Mid rk a b o i' j'->i'+j'=i+j+1->Q (.done (none,o,i',j',p,q)) st/\Q (.yield (none,o,i',j',p,q)) st) :
  wpS (model prog w) A E s (lS a b g out i j p q) Q st:=by
 have hi:=m.hi
 have hj:=m.hj
 have ea:a[i]? = some (a[i]'(by lia)):=ac _
 have eb:b[j]? = some (b[j]'(by lia)):=ac _
 unfold lS
 refine ba (bP eb (ba (bP ea (ba (rW hC h.kd (tw.mb _ (by simp)) (tw.ma _ (by simp)) ?_)))))
 by_cases c:rk (b[j]'(by lia)).1<rk (a[i]'(by lia)).1
 ·rw[eT c]
  dsimp only
  rw[aw rfl]
  have g':=Ga.pb m.g (show j<b.size by lia) λt t1 t2=>by
   have:=tw.sa i t (bi _) t1 t2
   rw[bG ea]at this
   rw[bG eb]
   lia
  refine ba (bP eb ?_)
  split
  ·rename_i z
   have z':j+1=b.size:=by simpa using z
   exact di (q1 _ _ _ _ _ _ ⟨h,g'.eB (by lia)⟩)
  ·rename_i z
   have z':j+1≠b.size:=by simpa using z
   have:=q2 (out.push (b[j]'(by lia))) i (j+1) 0 (q+1) ⟨g',hi,by lia⟩ (by lia)
   split
   ·exact di this.1
   ·exact di this.2
 ·rw[cr c]
  dsimp only
  rw[am (by decide)]
  have g':=Ga.pa m.g (show i<a.size by lia) λt t1 t2=>by
   have:=tw.sb j t (bi _) t1 t2
   rw[bG eb]at this
   rw[bG ea]
   lia
  refine ba (bP ea ?_)
  split
  ·rename_i z
   have z':i+1+1=a.size:=by simpa using z
   exact di (q1 _ _ _ _ _ _ ⟨h,g'.eL tw z'⟩)
  ·rename_i z
   have z':i+1+1≠a.size:=by simpa using z
   have:=q2 (out.push (a[i]'(by lia))) (i+1) j (p+1) 0 ⟨g',by lia,hj⟩ (by lia)
   split
   ·exact di this.1
   ·exact di this.2
end
section
variable {a b:Array Keyed} {P:Runs}
structure Lp(κ:SortKind)(rk:Value->Int)(a b X:Array Keyed)(P:Runs)(n:Nat)(Q:ForInStep W2->SortSt->Prop):Prop where
 r:∀r o i j g p q st,Res κ rk a b X P r st->Q (.done (some r,o,i,j,g,p,q)) st
 d:∀o i j g p q st,Mid rk a b o i j->n<=i+j->S0 κ X P st->Q (.done (none,o,i,j,g,p,q)) st
 y:∀o i j g p q st,Mid rk a b o i j->n<=i+j->S0 κ X P st->Q (.yield (none,o,i,j,g,p,q)) st
theorem D3{Q:ForInStep W2->SortSt->Prop}(tw:Two rk a₀ a b)(h:S0 κ X P st)(m:Mid rk a b out i j)(hn:n<=i+j)(ha:∀t,j<=t->t<b.size->kr rk a i<=kr rk b t)(L:Lp κ rk a b X P n Q) :
  wpS (model prog w) A E s (l3 a b out i j g p q) Q st:=by
 have hi:=m.hi
 have hj:=m.hj
 have ea:a[i]? = some (a[i]'(by lia)):=ac _
 unfold l3
 have g':=Ga.pa m.g (show i<a.size by lia) ha
 refine ba (bP ea ?_)
 split
 ·rename_i z
  have z':i+1+1=a.size:=by simpa using z
  exact di (L.r _ _ _ _ _ _ _ _ ⟨h,g'.eL tw z'⟩)
 ·rename_i z
  have z':i+1+1≠a.size:=by simpa using z
  split
  ·exact di (L.d _ _ _ _ _ _ _ ⟨g',by lia,hj⟩ (by lia) h)
  ·exact di (L.y _ _ _ _ _ _ _ ⟨g',by lia,hj⟩ (by lia) h)
theorem HM{Q:ForInStep W2->SortSt->Prop}(hC:cI prog w A s κ rk a₀)(tw:Two rk a₀ a b)(h:S0 κ X P st)(m:Mid rk a b out i j)(hn:n<=i+j)(L:Lp κ rk a b X P n Q) :
  wpS (model prog w) A E s (l2 a b out i j g p q) Q st:=by
 have hi:=m.hi
 have hj:=m.hj
 have ea:a[i]? = some (a[i]'(by lia)):=ac _
 unfold l2
 refine ba (bP ea (ba (jm hC h.kd (tw.ma _ (by simp)) (by lia) tw.mb (λx y hx hxy hy=>tw.sb x y (bi _) hxy (by lia)) (by lia) λk k1 k2 k3=>?_)))
 rw[<-bG (rk:=rk) ea]at k2 k3
 have rest:∀t,j+k<=t->t<b.size->kr rk a i<=kr rk b t:=λt t1 t2=>by
  have:=k3 (t - j) (by lia) (by lia)
  rwa [show j+(t - j)=t by lia]at this
 dsimp only
 split
 ·have g':=Ga.eb (k:=k) m.g λt u t1 t2 u1 u2=>by
   have h1:=k2 (t - j) (by lia)
   rw[show j+(t - j)=t by lia]at h1
   have h2:=tw.sa i u (bi _) u1 u2
   lia
  split
  ·rename_i z
   have z':j+k=b.size:=by simpa using z
   exact di (L.r _ _ _ _ _ _ _ _ ⟨h,g'.eB (by lia)⟩)
  ·rename_i z
   have z':j+k≠b.size:=by simpa using z
   exact D3 tw h ⟨g',hi,by lia⟩ (by lia) rest L
 ·have k0:k=0:=by lia
  subst k0
  exact D3 tw h m hn (λt t1 t2=>rest t (by lia) t2) L
theorem D4{Q:ForInStep W2->SortSt->Prop}(hC:cI prog w A s κ rk a₀)(tw:Two rk a₀ a b)(h:S0 κ X P st)(m:Mid rk a b out i j)(hn:n<=i+j)(hb:∀t,i<=t->t<a.size->kr rk b j<=kr rk a t)(L:Lp κ rk a b X P n Q) :
  wpS (model prog w) A E s (l1 a b out i j g p q) Q st:=by
 have hi:=m.hi
 have hj:=m.hj
 have eb:b[j]? = some (b[j]'(by lia)):=ac _
 unfold l1
 have g':=Ga.pb m.g (show j<b.size by lia) hb
 refine ba (bP eb ?_)
 split
 ·rename_i z
  have z':j+1=b.size:=by simpa using z
  exact di (L.r _ _ _ _ _ _ _ _ ⟨h,g'.eB (by lia)⟩)
 ·rename_i z
  have z':j+1≠b.size:=by simpa using z
  exact HM hC tw h ⟨g',hi,by lia⟩ (by lia) L
theorem D5{Q:ForInStep W2->SortSt->Prop}(hC:cI prog w A s κ rk a₀)(tw:Two rk a₀ a b)(h:S0 κ X P st)(m:Mid rk a b out i j)(hn:n<=i+j)(L:Lp κ rk a b X P n Q) :
  wpS (model prog w) A E s (l0 a b out i j g p q) Q st:=by
 have hi:=m.hi
 have hj:=m.hj
 have eb:b[j]? = some (b[j]'(by lia)):=ac _
 unfold l0
 refine ba (kU h λst' h'=>?_)
 refine ba (bP eb (ba (jl hC h'.kd (tw.mb _ (by simp)) (by lia) tw.ma (λx y hx hxy hy=>tw.sa x y (bi _) hxy (by lia)) (by lia) λk k1 k2 k3=>?_)))
 rw[<-bG (rk:=rk) eb]at k2 k3
 have rest:∀t,i+k<=t->t<a.size->kr rk b j<=kr rk a t:=λt t1 t2=>by
  have:=k3 (t - i) (by lia) (by lia)
  rw[show i+(t - i)=t by lia]at this
  lia
 dsimp only
 split
 ·have g':=Ga.ea (k:=k) m.g λt u t1 t2 u1 u2=>by
   have h1:=k2 (t - i) (by lia)
   rw[show i+(t - i)=t by lia]at h1
   have h2:=tw.sb j u (bi _) u1 u2
   lia
  split
  ·rename_i z
   have z':i+k+1=a.size:=by simpa using z
   exact di (L.r _ _ _ _ _ _ _ _ ⟨h',g'.eL tw z'⟩)
  ·rename_i z
   have z':i+k+1≠a.size:=by simpa using z
   split
   ·rename_i y
    have y':i+k=a.size:=by simpa using y
    exact di (L.r _ _ _ _ _ _ _ _ ⟨h',g'.eA (by lia)⟩)
   ·rename_i y
    have y':i+k≠a.size:=by simpa using y
    exact D4 hC tw h' ⟨g',by lia,hj⟩ (by lia) rest L
 ·have k0:k=0:=by lia
  subst k0
  exact D4 hC tw h' m hn (λt t1 t2=>rest t (by lia) t2) L
theorem HK{Q:ForInStep W0->SortSt->Prop}(hC:cI prog w A s κ rk a₀)(tw:Two rk a₀ a b)(h:S0 κ X P st)(m:Mid rk a b out i j)
  (q1:∀r o i j g st,Res κ rk a b X P r st->Q (.done (some r,o,i,j,g)) st) (q2:∀o i' j' g st,Mid rk a b o i' j'->i+j+1<=i'+j'->S0 κ X P st->Q (.yield (none,o,i',j',g)) st) :
  wpS (model prog w) A E s (lT a b out i j g) Q st:=by
 unfold lT
 have hz:1<=a.size+b.size:=by have:=tw.na;lia
 refine ba (JI (r6 (I:=λx c st'=>st'=st/\∃o i' j' p q,c=(none,o,i',j',p,q)/\Mid rk a b o i' j'/\i'+j'=i+j+x)
  (Q:=λc st'=>st'=st/\((∃r o i' j' p q,c=(some r,o,i',j',p,q)/\Res κ rk a b X P r st)\/∃o i' j' p q,c=(none,o,i',j',p,q)/\Mid rk a b o i' j'/\i+j+1<=i'+j'))
  (λx c st' _ hx I=>?_) (λc st' I=>?_) ⟨rfl,out,i,j,0,0,rfl,m,rfl⟩) λc st' I=>?_)
 ·obtain⟨rfl,o,i',j',p,q,rfl,m',e⟩:=I
  dsimp only
  exact HL hC tw h m' (λr o i j p q hr=>⟨rfl,.inl ⟨r,o,i,j,p,q,rfl,hr⟩⟩) λo i2 j2 p q m2 e2=>⟨⟨rfl,.inr ⟨o,i2,j2,p,q,rfl,m2,by lia⟩⟩,⟨rfl,o,i2,j2,p,q,rfl,m2,by lia⟩⟩
 ·obtain⟨rfl,o,i',j',p,q,rfl,m',e⟩:=I
  exact⟨rfl,.inr ⟨o,i',j',p,q,rfl,m',by lia⟩⟩
 ·obtain⟨rfl,⟨r,o,i',j',p,q,rfl,hr⟩|⟨o,i',j',p,q,rfl,m',e⟩⟩:=I
  ·exact di (q1 _ _ _ _ _ _ hr)
  ·dsimp only
   refine ba (wpS_lift (JJ ⟨rfl,?_⟩))
   refine ba (JI (r6 (I:=λx c st'=>S0 κ X P st'/\∃o i' j' g p q,c=(none,o,i',j',g,p,q)/\Mid rk a b o i' j'/\i+j+1<=i'+j')
    (Q:=λc st'=>(∃r o i' j' g p q,c=(some r,o,i',j',g,p,q)/\Res κ rk a b X P r st')\/(S0 κ X P st'/\∃o i' j' g p q,c=(none,o,i',j',g,p,q)/\Mid rk a b o i' j'/\i+j+1<=i'+j'))
    (λx c st2 _ hx I=>?_) (λc st2 I=>.inr I) ⟨h,o,i',j',g+1,p,q,rfl,m',e⟩) λc st2 I=>?_)
   ·obtain⟨h2,o,i2,j2,g2,p,q,rfl,m2,e2⟩:=I
    dsimp only
    split
    ·exact D5 hC tw h2 m2 e2 ⟨λr o i j g p q st hr=>.inl ⟨r,o,i,j,g,p,q,rfl,hr⟩,λo i j g p q st m e h=>.inr ⟨h,o,i,j,g,p,q,rfl,m,e⟩,λo i j g p q st m e h=>⟨h,o,i,j,g,p,q,rfl,m,e⟩⟩
    ·exact D5 hC tw h2 m2 e2 ⟨λr o i j g p q st hr=>.inl ⟨r,o,i,j,g,p,q,rfl,hr⟩,λo i j g p q st m e h=>.inr ⟨h,o,i,j,g,p,q,rfl,m,e⟩,λo i j g p q st m e h=>⟨h,o,i,j,g,p,q,rfl,m,e⟩⟩
   ·rcases I with ⟨r,o,i2,j2,g2,p,q,rfl,hr⟩|⟨h2,o,i2,j2,g2,p,q,rfl,m2,e2⟩
    ·exact di (q1 _ _ _ _ _ _ hr)
    ·exact ba (kU h2 λst3 h3=>di (q2 _ _ _ _ _ m2 e2 h3))
theorem t8{Q:Array Keyed->SortSt->Prop}(hC:cI prog w A s κ rk a₀)(tw:Two rk a₀ a b)(h:S0 κ X P st)(q:∀r st',Res κ rk a b X P r st'->Q r st'):wpS (model prog w) A E s (mC a b) Q st:=by
 have na:=tw.na
 have nb:=tw.nb
 have eb:b[0]? = some (b[0]'(by lia)):=ac _
 rw[t9]
 have g0:Ga rk (a.toList++b.toList) a b #[] 0 0:=⟨.nil,by simpa using fK tw.sa,by simpa using fK tw.sb,(λx hx=>by simp at hx),by simp⟩
 have g1:=Ga.pb g0 (show 0<b.size by lia) λt _ t2=>tw.lo t t2
 refine ba (wpS_lift (JJ ⟨rfl,ba (bP eb ?_)⟩))
 split
 ·rename_i z
  have z':1=b.size:=by simpa using z
  exact di (q _ _ ⟨h,g1.eB (by lia)⟩)
 ·rename_i z
  have z':1≠b.size:=by simpa using z
  split
  ·rename_i y
   have y':0+1=a.size:=by simpa using y
   exact di (q _ _ ⟨h,g1.eL tw y'⟩)
  ·rename_i y
   have y':0+1≠a.size:=by simpa using y
   refine ba (Kq ?_)
   refine ba (JI (r6 (I:=λx c st'=>S0 κ X P st'/\∃o i j g,c=(none,o,i,j,g)/\Mid rk a b o i j/\x+1<=i+j)
    (Q:=λc st'=>∃r o i j g,c=(some r,o,i,j,g)/\Res κ rk a b X P r st') (λx c st' _ hx I=>?_) (λc st' I=>?_) ⟨h,_,0,1,_,rfl,⟨g1,by lia,by lia⟩,by lia⟩) λc st' I=>?_)
   ·obtain⟨h',o,i,j,g,rfl,m,e⟩:=I
    dsimp only
    exact HK hC tw h' m (λr o i j g st hr=>⟨r,o,i,j,g,rfl,hr⟩) λo i2 j2 g st m2 e2 h2=>⟨h2,o,i2,j2,g,rfl,m2,by lia⟩
   ·obtain⟨h',o,i,j,g,rfl,m,e⟩:=I
    have:=m.hi
    have:=m.hj
    lia
   ·obtain⟨r,o,i,j,g,rfl,hr⟩:=I
    exact di (q _ _ hr)
end
section
structure Gh(rk:Value->Int)(T A B O:List Keyed):Prop where
 so:O.Pairwise (Le rk)
 sa:A.Pairwise (Le rk)
 sb:B.Pairwise (Le rk)
 ah:∀x∈O,∀y,y∈A\/y∈B->Le rk y x
 pm:((A++B)++O).Perm T
theorem Gh.flip{A:List Keyed}(h:Gh rk T A B O):Gh rk T B A O :=
 ⟨h.so,h.sb,h.sa,λx hx y hy=>h.ah x hx y hy.symm,((List.perm_append_comm (l₁:=B)).append_right O).trans h.pm⟩
theorem Gh.b{A:List Keyed}(h:Gh rk T A (B++S) O)(hs:∀x∈S,∀y∈A,Le rk y x):Gh rk T A B (S++O):=by
 have sb:=List.pairwise_append.mp h.sb
 refine⟨List.pairwise_append.mpr ⟨sb.2.1,h.so,λx hx y hy=>h.ah y hy x (.inr (ib _ hx))⟩,h.sa,sb.1,λx hx y hy=>?_,by simpa[Ba]using h.pm⟩
 rcases List.mem_append.mp hx with hx|hx
 ·rcases hy with hy|hy
  ·exact hs x hx y hy
  ·exact sb.2.2 y hy x hx
 ·exact h.ah x hx y (hy.imp id (zzh _))
theorem Gh.fa{A:List Keyed}(h:Gh rk T A B O)(hs:∀x∈A,∀y∈B,Le rk x y):Srt rk T (A++B++O) :=
 ⟨List.pairwise_append.mpr ⟨List.pairwise_append.mpr ⟨h.sa,h.sb,hs⟩,h.so,λx hx y hy=>h.ah y hy x (List.mem_append.mp hx)⟩,h.pm⟩
abbrev Gq(rk:Value->Int)(T:List Keyed)(a b out:Array Keyed)(i j:Nat):Prop:=Gh rk T (a.toList.take i) (b.toList.take j) out.toList.reverse
theorem Bw{a:Array Keyed}(h:i<a.size):a.toList.take (i+1)=a.toList.take i++[a[i]]:=by
 rw[List.take_succ_eq_append_getElem (by simpa using h)]
 simp
theorem yP{a:Array Keyed}{x:Nat}(h:x<=i):a.toList.take i=a.toList.take x++(a.extract x i).toList:=by
 rw[oP,li]
 have e:i=x+(i - x):=by lia
 conv=>lhs;rw[e,List.take_add]
theorem jE{a:Array Keyed}(h:x∈a.toList.take i):∃t,t<i/\t<a.size/\kr rk a t=rk x.1:=by
 obtain⟨n,hn,e⟩:=List.mem_iff_getElem.mp h
 have hl:n<i/\n<a.size:=by
  rw[ng]at hn
  have:a.toList.length=a.size:=fu
  lia
 refine⟨n,hl.1,hl.2,bG ?_⟩
 rw[List.getElem_take]at e
 rw[ac hl.2,<-e]
 simp
theorem mG{a:Array Keyed}{x:Nat}{p:Keyed}(h:p∈(a.extract x i).toList):∃t,x<=t/\t<i/\t<a.size/\kr rk a t=rk p.1:=by
 obtain⟨n,hn,e⟩:=List.mem_iff_getElem.mp h
 have hn':n<(a.extract x i).size:=by rw[<-fu];exact hn
 rw[um]at hn'
 refine⟨x+n,by lia,by lia,by lia,bG ?_⟩
 rw[ac (by lia),<-e]
 simp
theorem qr(a b out:Array Keyed)(i j:Nat):(hA a b out i j).toList=a.toList.take i++b.toList.take j++out.toList.reverse:=by
 unfold hA
 rw[Cn,Cn,oP,oP,li,li,Array.toList_reverse]
 simp
end
section
variable {a b:Array Keyed} {P:Runs}
theorem Gq.pb(g:Gq rk T a b out i (j+1))(hj:j<b.size)(h:∀t,t<i->t<a.size->kr rk a t<=kr rk b j):Gq rk T a b (out.push b[j]) i j:=by
 have g':Gh rk T (a.toList.take i) (b.toList.take (j+1)) out.toList.reverse:=g
 rw[Bw hj]at g'
 show Gh rk T _ _ (out.push b[j]).toList.reverse
 rw[Kw,List.reverse_append]
 refine g'.b λx hx y hy=>?_
 obtain⟨t,t1,t2,e⟩:=jE (rk:=rk) hy
 rw[List.mem_singleton.mp hx]
 have:=h t t1 t2
 rw[e,bG (ac hj)]at this
 exact this
theorem Gq.pa(g:Gq rk T a b out (i+1) j)(hi:i<a.size)(h:∀t,t<j->t<b.size->kr rk b t<=kr rk a i):Gq rk T a b (out.push a[i]) i j :=
 Gh.flip (Gq.pb (a:=b) (b:=a) (i:=j) (j:=i) (Gh.flip g) hi h)
theorem Gq.eb{x:Nat}(g:Gq rk T a b out i j)(hx:x<=j)(h:∀t u,x<=t->t<j->u<i->u<a.size->kr rk a u<=kr rk b t):Gq rk T a b (out++(b.extract x j).reverse) i x:=by
 have g':Gh rk T (a.toList.take i) (b.toList.take j) out.toList.reverse:=g
 rw[yP (a:=b) hx]at g'
 show Gh rk T _ _ (out++(b.extract x j).reverse).toList.reverse
 rw[Cn,List.reverse_append,Array.toList_reverse,List.reverse_reverse]
 refine g'.b λx hx y hy=>?_
 obtain⟨t,t1,t2,_,e⟩:=mG (rk:=rk) hx
 obtain⟨u,u1,u2,e2⟩:=jE (rk:=rk) hy
 have:=h t u t1 t2 u1 u2
 rw[e,e2]at this
 exact this
theorem Gq.ea{x:Nat}(g:Gq rk T a b out i j)(hx:x<=i)(h:∀t u,x<=t->t<i->u<j->u<b.size->kr rk b u<=kr rk a t):Gq rk T a b (out++(a.extract x i).reverse) x j :=
 Gh.flip (Gq.eb (a:=b) (b:=a) (i:=j) (j:=i) (Gh.flip g) hx h)
theorem Gq.eA(g:Gq rk T a b out 0 j):Srt rk T (hA a b out 0 j).toList:=by
 rw[qr]
 refine Gh.fa g λx hx y _=>?_
 rw[List.take_zero]at hx
 cases hx
theorem Gq.eZ(g:Gq rk T a b out i j)(hi:i=0):Srt rk T (hA a b out i j).toList:=by
 subst hi
 exact g.eA
theorem Gq.eB(g:Gq rk T a b out i 0):Srt rk T (hA a b out i 0).toList:=by
 rw[qr]
 refine Gh.fa g λx _ y hy=>?_
 rw[List.take_zero]at hy
 cases hy
theorem Gq.eF(g:Gq rk T a b out i 1)(tw:Two rk a₀ a b):Srt rk T (hB a b out i 1).toList:=by
 show Srt rk T (hA b a out 1 i).toList
 rw[qr]
 refine Gh.fa (Gh.flip g) λx hx y hy=>?_
 obtain⟨t,t1,t2,e⟩:=jE (rk:=rk) hx
 obtain⟨u,u1,u2,e2⟩:=jE (rk:=rk) hy
 have:=tw.lo u u2
 rw[e2,show 0=t by lia,e]at this
 exact this
structure Mih(rk:Value->Int)(a b out:Array Keyed)(i j:Nat):Prop where
 g:Gq rk (a.toList++b.toList) a b out i j
 hi:1<=i
 hj:2<=j
 ia:i<=a.size
 jb:j<=b.size
theorem HY{Q:ForInStep V1->SortSt->Prop}(hC:cI prog w A s κ rk a₀)(tw:Two rk a₀ a b)(h:S0 κ X P st)(m:Mih rk a b out i j)
  (q1:∀r i j o p q,Res κ rk a b X P r st->Q (.done (some r,i,j,o,p,q)) st) (q2:∀i' j' o p q,Mih rk a b o i' j'->i'+j'+1=i+j->Q (.done (none,i',j',o,p,q)) st/\Q (.yield (none,i',j',o,p,q)) st) :
  wpS (model prog w) A E s (hS a b g i j out p q) Q st:=by
 obtain⟨gg,hi,hj,ia,jb⟩:=m
 obtain⟨i,rfl⟩:∃k,i=k+1:=⟨i - 1,by lia⟩
 obtain⟨j,rfl⟩:∃k,j=k+1:=⟨j - 1,by lia⟩
 have ea:a[i]? = some (a[i]'(by lia)):=ac _
 have eb:b[j]? = some (b[j]'(by lia)):=ac _
 unfold hS
 rw[Kk,Kk]
 refine ba (bP eb (ba (bP ea (ba (rW hC h.kd (tw.mb _ (by simp)) (tw.ma _ (by simp)) ?_)))))
 by_cases c:rk (b[j]'(by lia)).1<rk (a[i]'(by lia)).1
 ·rw[eT c]
  dsimp only
  rw[aw rfl]
  have g':=Gq.pa gg (show i<a.size by lia) λt t1 t2=>by
   have:=tw.sb t j (bi _) (by lia) (by lia)
   rw[bG eb]at this
   rw[bG ea]
   lia
  refine ba (bP ea ?_)
  split
  ·rename_i z
   have z':i=0:=by simpa using z
   subst z'
   exact di (q1 _ _ _ _ _ _ ⟨h,g'.eA⟩)
  ·rename_i z
   have z':i≠0:=by simpa using z
   have:=q2 i (j+1) (out.push (a[i]'(by lia))) (p+1) 0 ⟨g',by lia,hj,by lia,jb⟩ (by lia)
   split
   ·exact di this.1
   ·exact di this.2
 ·rw[cr c]
  dsimp only
  rw[am (by decide)]
  have g':=Gq.pb gg (show j<b.size by lia) λt t1 t2=>by
   have:=tw.sa t i (bi _) (by lia) (by lia)
   rw[bG ea]at this
   rw[bG eb]
   lia
  refine ba (bP eb ?_)
  split
  ·rename_i z
   have z':j=1:=by simpa using z
   subst z'
   exact di (q1 _ _ _ _ _ _ ⟨h,g'.eF tw⟩)
  ·rename_i z
   have z':j≠1:=by simpa using z
   have:=q2 (i+1) j (out.push (b[j]'(by lia))) 0 (q+1) ⟨g',hi,by lia,ia,by lia⟩ (by lia)
   split
   ·exact di this.1
   ·exact di this.2
structure Lq(κ:SortKind)(rk:Value->Int)(a b X:Array Keyed)(P:Runs)(n:Nat)(Q:ForInStep V2->SortSt->Prop):Prop where
 r:∀r i j o g p q st,Res κ rk a b X P r st->Q (.done (some r,i,j,o,g,p,q)) st
 d:∀i j o g p q st,Mih rk a b o i j->i+j<=n->S0 κ X P st->Q (.done (none,i,j,o,g,p,q)) st
 y:∀i j o g p q st,Mih rk a b o i j->i+j<=n->S0 κ X P st->Q (.yield (none,i,j,o,g,p,q)) st
theorem D6{Q:ForInStep V2->SortSt->Prop}(tw:Two rk a₀ a b)(h:S0 κ X P st)(m:Mih rk a b out i j)(hn:i+j<=n)(ha:∀t,t<j->t<b.size->kr rk b t<=kr rk a (i - 1))(L:Lq κ rk a b X P n Q) :
  wpS (model prog w) A E s (h3 a b i j out g p q) Q st:=by
 obtain⟨gg,hi,hj,ia,jb⟩:=m
 obtain⟨i,rfl⟩:∃k,i=k+1:=⟨i - 1,by lia⟩
 have ea:a[i]? = some (a[i]'(by lia)):=ac _
 unfold h3
 rw[Kk]at ha ⊢
 have g':=Gq.pa gg (show i<a.size by lia) ha
 refine ba (bP ea ?_)
 split
 ·rename_i z
  have z':i=0:=by simpa using z
  subst z'
  exact di (L.r _ _ _ _ _ _ _ _ ⟨h,g'.eA⟩)
 ·rename_i z
  have z':i≠0:=by simpa using z
  split
  ·exact di (L.d _ _ _ _ _ _ _ ⟨g',by lia,hj,by lia,jb⟩ (by lia) h)
  ·exact di (L.y _ _ _ _ _ _ _ ⟨g',by lia,hj,by lia,jb⟩ (by lia) h)
theorem HZ{Q:ForInStep V2->SortSt->Prop}(hC:cI prog w A s κ rk a₀)(tw:Two rk a₀ a b)(h:S0 κ X P st)(m:Mih rk a b out i j)(hn:i+j<=n)(L:Lq κ rk a b X P n Q) :
  wpS (model prog w) A E s (h2 a b i j out g p q) Q st:=by
 obtain⟨gg,hi,hj,ia,jb⟩:=id m
 have ea:a[i - 1]? = some (a[i - 1]'(by lia)):=ac _
 unfold h2
 refine ba (bP ea (ba (jm hC h.kd (tw.ma _ (by simp)) (by lia) tw.mb (λx y hx hxy hy=>tw.sb x y (bi _) hxy (by lia)) (by lia) λx k1 k2 k3=>?_)))
 rw[<-bG (rk:=rk) ea]at k2 k3
 simp only[Nat.zero_add]at k2 k3
 have rest:∀t,t<x->t<b.size->kr rk b t<=kr rk a (i - 1):=λt t1 t2=>Int.le_of_lt (k2 t t1)
 dsimp only
 split
 ·have g':=Gq.eb (x:=x) gg k1 λt u t1 t2 u1 u2=>by
   have h1:=k3 t t1 t2
   have h2:=tw.sa u (i - 1) (bi _) (by lia) (by lia)
   lia
  split
  ·rename_i z
   have z':x=1:=by simpa using z
   subst z'
   exact di (L.r _ _ _ _ _ _ _ _ ⟨h,g'.eF tw⟩)
  ·rename_i z
   have z':x≠1:=by simpa using z
   split
   ·rename_i y
    have y':x=0:=by simpa using y
    subst y'
    exact di (L.r _ _ _ _ _ _ _ _ ⟨h,g'.eB⟩)
   ·rename_i y
    have y':x≠0:=by simpa using y
    exact D6 tw h ⟨g',hi,by lia,ia,by lia⟩ (by lia) rest L
 ·have k0:x=j:=by lia
  subst k0
  exact D6 tw h m hn rest L
theorem D7{Q:ForInStep V2->SortSt->Prop}(hC:cI prog w A s κ rk a₀)(tw:Two rk a₀ a b)(h:S0 κ X P st)(m:Mih rk a b out i j)(hn:i+j<=n)(hb:∀t,t<i->t<a.size->kr rk a t<=kr rk b (j - 1))(L:Lq κ rk a b X P n Q) :
  wpS (model prog w) A E s (h1 a b i j out g p q) Q st:=by
 obtain⟨gg,hi,hj,ia,jb⟩:=m
 obtain⟨j,rfl⟩:∃k,j=k+1:=⟨j - 1,by lia⟩
 have eb:b[j]? = some (b[j]'(by lia)):=ac _
 unfold h1
 rw[Kk]at hb ⊢
 have g':=Gq.pb gg (show j<b.size by lia) hb
 refine ba (bP eb ?_)
 split
 ·rename_i z
  have z':j=1:=by simpa using z
  subst z'
  exact di (L.r _ _ _ _ _ _ _ _ ⟨h,g'.eF tw⟩)
 ·rename_i z
  have z':j≠1:=by simpa using z
  exact HZ hC tw h ⟨g',hi,by lia,ia,by lia⟩ (by lia) L
theorem D8{Q:ForInStep V2->SortSt->Prop}(hC:cI prog w A s κ rk a₀)(tw:Two rk a₀ a b)(h:S0 κ X P st)(m:Mih rk a b out i j)(hn:i+j<=n)(L:Lq κ rk a b X P n Q) :
  wpS (model prog w) A E s (h0 a b i j out g p q) Q st:=by
 obtain⟨gg,hi,hj,ia,jb⟩:=id m
 have eb:b[j - 1]? = some (b[j - 1]'(by lia)):=ac _
 unfold h0
 refine ba (kU h λst' h'=>?_)
 refine ba (bP eb (ba (jl hC h'.kd (tw.mb _ (by simp)) (by lia) tw.ma (λx y hx hxy hy=>tw.sa x y (bi _) hxy (by lia)) (by lia) λx k1 k2 k3=>?_)))
 rw[<-bG (rk:=rk) eb]at k2 k3
 simp only[Nat.zero_add]at k2 k3
 have rest:∀t,t<x->t<a.size->kr rk a t<=kr rk b (j - 1):=λt t1 t2=>k2 t t1
 dsimp only
 split
 ·have g':=Gq.ea (x:=x) gg k1 λt u t1 t2 u1 u2=>by
   have h1:=k3 t t1 t2
   have h2:=tw.sb u (j - 1) (bi _) (by lia) (by lia)
   lia
  split
  ·rename_i z
   have z':x=0:=by simpa using z
   subst z'
   exact di (L.r _ _ _ _ _ _ _ _ ⟨h',g'.eA⟩)
  ·rename_i z
   have z':x≠0:=by simpa using z
   exact D7 hC tw h' ⟨g',by lia,hj,by lia,jb⟩ (by lia) rest L
 ·have k0:x=i:=by lia
  subst k0
  exact D7 hC tw h' m hn rest L
theorem HX{Q:ForInStep V0->SortSt->Prop}(hC:cI prog w A s κ rk a₀)(tw:Two rk a₀ a b)(h:S0 κ X P st)(m:Mih rk a b out i j)
  (q1:∀r i j o g st,Res κ rk a b X P r st->Q (.done (some r,i,j,o,g)) st) (q2:∀i' j' o g st,Mih rk a b o i' j'->i'+j'+1<=i+j->S0 κ X P st->Q (.yield (none,i',j',o,g)) st) :
  wpS (model prog w) A E s (hT a b i j out g) Q st:=by
 unfold hT
 have hz:1<=a.size+b.size:=by have:=tw.na;lia
 refine ba (JI (r6 (I:=λx c st'=>st'=st/\∃i' j' o p q,c=(none,i',j',o,p,q)/\Mih rk a b o i' j'/\i'+j'+x=i+j)
  (Q:=λc st'=>st'=st/\((∃r i' j' o p q,c=(some r,i',j',o,p,q)/\Res κ rk a b X P r st)\/∃i' j' o p q,c=(none,i',j',o,p,q)/\Mih rk a b o i' j'/\i'+j'+1<=i+j))
  (λx c st' _ hx I=>?_) (λc st' I=>?_) ⟨rfl,i,j,out,0,0,rfl,m,rfl⟩) λc st' I=>?_)
 ·obtain⟨rfl,i',j',o,p,q,rfl,m',e⟩:=I
  dsimp only
  exact HY hC tw h m' (λr i j o p q hr=>⟨rfl,.inl ⟨r,i,j,o,p,q,rfl,hr⟩⟩) λi2 j2 o p q m2 e2=>⟨⟨rfl,.inr ⟨i2,j2,o,p,q,rfl,m2,by lia⟩⟩,⟨rfl,i2,j2,o,p,q,rfl,m2,by lia⟩⟩
 ·obtain⟨rfl,i',j',o,p,q,rfl,m',e⟩:=I
  exact⟨rfl,.inr ⟨i',j',o,p,q,rfl,m',by lia⟩⟩
 ·obtain⟨rfl,⟨r,i',j',o,p,q,rfl,hr⟩|⟨i',j',o,p,q,rfl,m',e⟩⟩:=I
  ·exact di (q1 _ _ _ _ _ _ hr)
  ·dsimp only
   refine ba (wpS_lift (JJ ⟨rfl,?_⟩))
   refine ba (JI (r6 (I:=λx c st'=>S0 κ X P st'/\∃i' j' o g p q,c=(none,i',j',o,g,p,q)/\Mih rk a b o i' j'/\i'+j'<=i+j - 1)
    (Q:=λc st'=>(∃r i' j' o g p q,c=(some r,i',j',o,g,p,q)/\Res κ rk a b X P r st')\/(S0 κ X P st'/\∃i' j' o g p q,c=(none,i',j',o,g,p,q)/\Mih rk a b o i' j'/\i'+j'<=i+j - 1))
    (λx c st2 _ hx I=>?_) (λc st2 I=>.inr I) ⟨h,i',j',o,g+1,p,q,rfl,m',by lia⟩) λc st2 I=>?_)
   ·obtain⟨h2,i2,j2,o,g2,p,q,rfl,m2,e2⟩:=I
    dsimp only
    split
    ·exact D8 hC tw h2 m2 e2 ⟨λr i j o g p q st hr=>.inl ⟨r,i,j,o,g,p,q,rfl,hr⟩,λi j o g p q st m e h=>.inr ⟨h,i,j,o,g,p,q,rfl,m,e⟩,λi j o g p q st m e h=>⟨h,i,j,o,g,p,q,rfl,m,e⟩⟩
    ·exact D8 hC tw h2 m2 e2 ⟨λr i j o g p q st hr=>.inl ⟨r,i,j,o,g,p,q,rfl,hr⟩,λi j o g p q st m e h=>.inr ⟨h,i,j,o,g,p,q,rfl,m,e⟩,λi j o g p q st m e h=>⟨h,i,j,o,g,p,q,rfl,m,e⟩⟩
   ·rcases I with ⟨r,i2,j2,o,g2,p,q,rfl,hr⟩|⟨h2,i2,j2,o,g2,p,q,rfl,m2,e2⟩
    ·exact di (q1 _ _ _ _ _ _ hr)
    ·have:=m.hi
     have e3:i2+j2+1<=i+j:=by lia
     exact ba (kU h2 λst3 h3=>di (q2 _ _ _ _ _ m2 e3 h3))
theorem ub{Q:Array Keyed->SortSt->Prop}(hC:cI prog w A s κ rk a₀)(tw:Two rk a₀ a b)(h:S0 κ X P st)(q:∀r st',Res κ rk a b X P r st'->Q r st'):wpS (model prog w) A E s (mE a b) Q st:=by
 have na:=tw.na
 have nb:=tw.nb
 have ea:a[a.size - 1]? = some (a[a.size - 1]'(by lia)):=ac _
 rw[uc]
 have ta:a.toList.take (a.size - 1+1)=a.toList:=u8 (by simp;lia)
 have tb:b.toList.take b.size=b.toList:=u8 (by simp)
 have g0:Gq rk (a.toList++b.toList) a b #[] (a.size - 1+1) b.size:=⟨by simp,by rw[ta];exact fK tw.sa,by rw[tb];exact fK tw.sb,(λx hx=>by simp at hx),by rw[ta,tb];simp⟩
 have g1:=Gq.pa g0 (show a.size - 1<a.size by lia) λt _ t2=>tw.hi t t2
 refine ba (wpS_lift (JJ ⟨rfl,ba (bP ea ?_)⟩))
 split
 ·rename_i z
  have z':a.size - 1=0:=by simpa using z
  exact di (q _ _ ⟨h,g1.eZ z'⟩)
 ·rename_i z
  have z':a.size - 1≠0:=by simpa using z
  split
  ·rename_i y
   have y':b.size=1:=by simpa using y
   rw[y']at g1 ⊢
   exact di (q _ _ ⟨h,g1.eF tw⟩)
  ·rename_i y
   have y':b.size≠1:=by simpa using y
   refine ba (Kq ?_)
   refine ba (JI (r6 (I:=λx c st'=>S0 κ X P st'/\∃i j o g,c=(none,i,j,o,g)/\Mih rk a b o i j/\i+j+x+1<=a.size+b.size)
    (Q:=λc st'=>∃r i j o g,c=(some r,i,j,o,g)/\Res κ rk a b X P r st') (λx c st' _ hx I=>?_) (λc st' I=>?_) ⟨h,a.size - 1,b.size,_,_,rfl,⟨g1,by lia,by lia,by lia,by lia⟩,by lia⟩) λc st' I=>?_)
   ·obtain⟨h',i,j,o,g,rfl,m,e⟩:=I
    dsimp only
    exact HX hC tw h' m (λr i j o g st hr=>⟨r,i,j,o,g,rfl,hr⟩) λi2 j2 o g st m2 e2 h2=>⟨h2,i2,j2,o,g,rfl,m2,by lia⟩
   ·obtain⟨h',i,j,o,g,rfl,m,e⟩:=I
    have:=m.hi
    have:=m.hj
    lia
   ·obtain⟨r,i,j,o,g,rfl,hr⟩:=I
    exact di (q _ _ hr)
end
def putAll(l:List Keyed)(at0 k:Nat)(xs:Array Keyed):Array Keyed:=(l.zipIdx k).foldl (λa p=>a.setIfInBounds (at0+p.2) p.1) xs
theorem jX(at0:Nat):∀(l:List Keyed) (k:Nat) (xs:Array Keyed),at0+k+l.length<=xs.size->∀t,(putAll l at0 k xs)[t]? = if at0+k<=t/\t<at0+k+l.length then l[t - (at0+k)]? else xs[t]?
 | [],k,xs,_,t=>by
  show xs[t]? = _
  rw[am (by rw[zi];lia)]
 | p::l,k,xs,h,t=>by
  rw[qu]at h
  show(putAll l at0 (k+1) (xs.setIfInBounds (at0+k) p))[t]? = _
  rw[jX at0 l (k+1) _ (by rw[Array.size_setIfInBounds];lia),qu,Array.getElem?_setIfInBounds]
  by_cases c:t=at0+k
  ·subst c
   rw[am (by lia),aw rfl,aw (by lia),aw (by lia),Nat.sub_self]
   rfl
  ·by_cases c2:at0+(k+1)<=t/\t<at0+(k+1)+l.length
   ·rw[aw c2,aw (by lia),show t - (at0+k)=(t - (at0+(k+1)))+1 by lia]
    rfl
   ·rw[am c2,am (λz=>c z.symm),am (by lia)]
theorem kh{l:List Keyed}{at0:Nat}(h:at0+l.length<=xs.size):(putAll l at0 0 xs).toList=xs.toList.take at0++(l++xs.toList.drop (at0+l.length)):=by
 apply JZ
 intro t
 have e:=jX at0 l 0 xs (by lia) t
 rw[ug,e]
 have hl:xs.toList.length=xs.size:=fu
 by_cases c:t<at0
 ·rw[am (by lia),lf (by rw[ng];lia),mo c,ug]
 ·rw[ye (by rw[ng];lia),ng,show min at0 xs.toList.length=at0 by lia]
  by_cases c2:t<at0+l.length
  ·rw[aw (by lia),lf (by lia),Nat.add_zero]
  ·rw[am (by lia),ye (by lia),List.getElem?_drop,ug]
   congr 1
   lia
section
theorem fi{a e t:Nat}(h:a+t<e)(he:e<=xs.size):kr rk (xs.extract a e) t=kr rk xs (a+t):=by
 refine g6 ?_
 rw[Array.getElem?_extract,aw (by lia)]
def Cov:List (Nat×Nat×Nat)->Nat->Nat->Prop
 | [],lo,hi=>lo=hi
 | (s,n,_)::r,lo,hi=>s=lo/\1<=n/\Cov r (lo+n) hi
theorem Cov.split:∀{L R:List (Nat×Nat×Nat)} {lo hi:Nat},Cov (L++R) lo hi->∃m,Cov L lo m/\Cov R m hi
 | [],_,lo,_,h=>⟨lo,rfl,h⟩
 | (s,n,_)::L,R,lo,hi,h=>by
  obtain⟨h1,h2,h3⟩:=h
  obtain⟨m,h4,h5⟩:=Cov.split (L:=L) h3
  exact⟨m,⟨h1,h2,h4⟩,h5⟩
theorem Cov.join:∀{L R:List (Nat×Nat×Nat)} {lo m hi:Nat},Cov L lo m->Cov R m hi->Cov (L++R) lo hi
 | [],_,lo,_,_,h,h'=>by cases h;exact h'
 | (s,n,_)::L,R,lo,m,hi,h,h'=>⟨h.1,h.2.1,Cov.join (L:=L) h.2.2 h'⟩
theorem Cov.le:∀{L:List (Nat×Nat×Nat)} {lo hi:Nat},Cov L lo hi->lo+L.length<=hi
 | [],lo,_,h=>by cases h;simp
 | (s,n,_)::L,lo,hi,h=>by
  obtain⟨_,h2,h3⟩:=h
  have:=Cov.le h3
  rw[qu]
  lia
theorem Cov.mem:∀{L:List (Nat×Nat×Nat)} {lo hi:Nat} {x:Nat×Nat×Nat},Cov L lo hi->x∈L->lo<=x.1/\x.1+x.2.1<=hi
 | (s,n,_)::L,lo,hi,x,h,hx=>by
  obtain⟨h1,h2,h3⟩:=h
  rcases List.mem_cons.mp hx with rfl|hx
  ·have:=Cov.le h3
   exact⟨by dsimp only;lia,by dsimp only;lia⟩
  ·have:=Cov.mem h3 hx
   exact⟨by lia,this.2⟩
structure Rn(κ:SortKind)(rk:Value->Int)(a₀:Array Keyed)(hi:Nat)(st:SortSt):Prop where
 pm:(arrOf st).Perm a₀
 kd:kindOf st=κ
 fl:failedOf st=none
 cv:Cov (pendingOf st).toList 0 hi
 so:∀x∈(pendingOf st).toList,Asc rk (arrOf st) x.1 (x.1+x.2.1)
 le:hi<=a₀.size
theorem Bq{Z:Type}{M:Model}{c st:Z}{Q:PUnit->Z->Prop}(h:Q ⟨⟩ c):wpS M A E s (set c:StateT Z Sem PUnit) Q st:=by
 unfold wpS;rw[StateT.run_set];exact zzb ⟨rfl,h⟩
theorem ud(i:Nat):mergeAt' i=(do
  let st <-get
  match ((pendingOf st)[i]?,(pendingOf st)[i+1]?)with
  | (some (sa,na,pw),some (sb,nb,_))=>do
   set (setPending st (((pendingOf st).setIfInBounds i (sa,na+nb,pw)).eraseIdxIfInBounds (i+1)))
   let x <-elem' (arrOf st) sb
   match <-dH false x (arrOf st) sa na 0 with
   | some k =>
    if(na - k==0)=true then pure true
    else do
     let y <-elem' (arrOf st) (sa+k+(na - k) - 1)
     match <-dH true y (arrOf st) sb nb (nb - 1)with
     | some n =>
      if(n==0)=true then pure true
      else if na - k<=n then do
       let r <-mC ((arrOf st).extract (sa+k) sb) ((arrOf st).extract sb (sb+n))
       modify λc=>setArr c (putAll r.toList (sa+k) 0 (arrOf c))
       pure (failedOf (<-get)).isNone
      else do
       let r <-mE ((arrOf st).extract (sa+k) sb) ((arrOf st).extract sb (sb+n))
       modify λc=>setArr c (putAll r.toList (sa+k) 0 (arrOf c))
       pure (failedOf (<-get)).isNone
     | _=>pure false
   | _=>pure false
  | _=>liftM (unsupported "internal:list.sort.pending" : Sem Bool)):=by
 kernel_rfl
end
section
theorem De{P:Runs}(h:i+1<P.size):∃L x y R,P.toList=L++x::y::R/\L.length=i/\P[i]? = some x/\P[i+1]? = some y:=by
 have h':i+1<P.toList.length:=by simpa using h
 refine⟨P.toList.take i,P[i],P[i+1],P.toList.drop (i+2),?_,by rw[ng];lia,ac _,ac _⟩
 have e1:P.toList.drop i=P[i]::P.toList.drop (i+1):=by rw[su (by lia)];simp
 have e2:P.toList.drop (i+1)=P[i+1]::P.toList.drop (i+2):=by rw[su h'];simp
 rw[<-e2,<-e1,yp]
theorem Bu{P:Runs}{L R:List (Nat×Nat×Nat)}{x y z:Nat×Nat×Nat}(e:P.toList=L++x::y::R)(hl:L.length=i):((P.setIfInBounds i z).eraseIdxIfInBounds (i+1)).toList=L++z::R:=by
 have hs:i+1<P.size:=by
  rw[<-fu,e]
  simp
  lia
 have hs2:i+1<(P.setIfInBounds i z).size:=by rw[Array.size_setIfInBounds];exact hs
 unfold Array.eraseIdxIfInBounds
 rw[dif_pos hs2,Array.toList_eraseIdx,Array.toList_setIfInBounds,e,<-hl]
 rw[List.set_append_right _ _ (ai _),Nat.sub_self,List.set_cons_zero,List.eraseIdx_append_of_length_le (by lia),Nat.add_sub_cancel_left]
 rfl
theorem z9{sa m sb:Nat}(h1:sa<=m)(h2:m<=sb)(h3:sb<=n)(h4:n<=hi)(oa:Asc rk xs sa sb)(ob:Asc rk xs sb hi)
  (k1:∀t,t<m->kr rk ys t=kr rk xs t) (k2:∀t,n<=t->kr rk ys t=kr rk xs t) (om:Asc rk ys m n) (mem:∀t,m<=t->t<n->∃u,m<=u/\u<n/\kr rk ys t=kr rk xs u)
  (lo:∀t,sa<=t->t<m->sb<hi->kr rk xs t<=kr rk xs sb) (up:∀t,n<=t->t<hi->m<sb->kr rk xs (sb - 1)<=kr rk xs t) (lu:∀t u,sa<=t->t<m->n<=u->u<hi->kr rk xs t<=kr rk xs u):Asc rk ys sa hi:=λi j hi' hij hj=>by
 have pm:∀t u,sa<=t->t<m->m<=u->u<n->kr rk xs t<=kr rk xs u:=λt u a1 a2 a3 a4=>by
  by_cases c:u<sb
  ·exact oa t u a1 (by lia) c
  ·have:=lo t a1 a2 (by lia)
   have:=ob sb u (ai _) (by lia) (by lia)
   lia
 have pu:∀t u,m<=t->t<n->n<=u->u<hi->kr rk xs t<=kr rk xs u:=λt u a1 a2 a3 a4=>by
  by_cases c:t<sb
  ·have:=oa t (sb - 1) (by lia) (by lia) (by lia)
   have:=up u a3 a4 (by lia)
   lia
  ·exact ob t u (by lia) (by lia) a4
 by_cases c1:i<m
 ·rw[k1 i c1]
  by_cases c2:j<m
  ·rw[k1 j c2];exact oa i j hi' hij (by lia)
  ·by_cases c3:j<n
   ·obtain⟨u,u1,u2,e⟩:=mem j (by lia) c3
    rw[e];exact pm i u hi' c1 u1 u2
   ·rw[k2 j (by lia)]
    exact lu i j hi' c1 (by lia) hj
 ·by_cases c3:j<n
  ·exact om i j (by lia) hij c3
  ·rw[k2 j (by lia)]
   by_cases c4:i<n
   ·obtain⟨u,u1,u2,e⟩:=mem i (by lia) c4
    rw[e];exact pu u j u1 u2 (by lia) hj
   ·rw[k2 i (by lia)];exact ob i j (by lia) hij hj
theorem v6{p:Keyed}(h:xs.Perm a₀)(e:xs[i]? = some p):p∈a₀.toList :=
 (Array.perm_iff_toList_perm.mp h).mem_iff.mp (by
  obtain⟨hl,e⟩:=Array.getElem?_eq_some_iff.mp e
  rw[<-e];simp)
theorem qd(h:xs.Perm a₀):∀p∈xs.toList,p∈a₀.toList:=λp hp=>(Array.perm_iff_toList_perm.mp h).mem_iff.mp hp
theorem v5{a e:Nat}(h:xs.Perm a₀):∀p∈(xs.extract a e).toList,p∈a₀.toList:=λp hp=>by
 rw[oP,li]at hp
 exact qd h p (List.mem_of_mem_drop (List.mem_of_mem_take hp))
theorem uI{st':SortSt}{sa na pw sb nb pb k:Nat}{L R:List (Nat×Nat×Nat)}{r:Array Keyed}(h:Rn κ rk a₀ hi st)(e:(pendingOf st).toList=L++(sa,na,pw)::(sb,nb,pb)::R)(hl:L.length=i)
  (hk:k<=na) (hn:n<=nb) (kR1:∀t,t<k->kr rk (arrOf st) (sa+t)<=kr rk (arrOf st) sb) (kL2:∀t,n<=t->t<nb->k<na->kr rk (arrOf st) (sb - 1)<=kr rk (arrOf st) (sb+t)) (hnn:k=na->n=0)
  (hr:Srt rk (((arrOf st).extract (sa+k) sb).toList++((arrOf st).extract sb (sb+n)).toList) r.toList)
  (e1:arrOf st'=putAll r.toList (sa+k) 0 (arrOf st)) (e2:pendingOf st'=((pendingOf st).setIfInBounds i (sa,na+nb,pw)).eraseIdxIfInBounds (i+1)) (e3:kindOf st'=κ) (e4:failedOf st'=none) :
  Rn κ rk a₀ hi st'/\(pendingOf st').size+1=(pendingOf st).size/\∀t,hi<=t->(arrOf st')[t]? = (arrOf st)[t]?:=by
 have cv:=h.cv
 rw[e]at cv
 obtain⟨m0,c1,c2⟩:=Cov.split cv
 obtain⟨rfl,na1,rfl,nb1,c3⟩:=c2
 have hsz:(arrOf st).size=a₀.size:=h.pm.size_eq
 have lhi:=Cov.le c3
 have hle:=h.le
 have oa:Asc rk (arrOf st) sa (sa+na):=h.so (sa,na,pw) (by rw[e];simp)
 have ob:Asc rk (arrOf st) (sa+na) (sa+na+nb):=h.so (sa+na,nb,pb) (by rw[e];simp)
 have rl:r.toList.length=(na - k)+n:=by
  rw[hr.2.length_eq,zzf,fu,fu,um,um]
  lia
 have fits:sa+k+r.toList.length<=(arrOf st).size:=by lia
 have at_:∀t,(arrOf st')[t]? = if sa+k<=t/\t<sa+na+n then r.toList[t - (sa+k)]? else(arrOf st)[t]?:=λt=>by
  rw[e1,jX _ _ _ _ (by lia),rl]
  simp only[Nat.add_zero]
  congr 1
  rw[show sa+k+(na - k+n)=sa+na+n by lia]
 have kin:∀t,¬ (sa+k<=t/\t<sa+na+n)->kr rk (arrOf st') t=kr rk (arrOf st) t:=λt ht=>g6 (by rw[at_,am ht])
 have seg:((arrOf st).extract (sa+k) (sa+na)).toList++((arrOf st).extract (sa+na) (sa+na+n)).toList=((arrOf st).toList.drop (sa+k)).take (na - k+n):=by
  rw[oP,oP,li,li,List.take_add,Kl]
  congr 2
  ·lia
  ·lia
  ·congr 1;lia
 have perm:(arrOf st').Perm (arrOf st):=by
  rw[Array.perm_iff_toList_perm,e1,kh fits]
  have e5:(arrOf st).toList=(arrOf st).toList.take (sa+k)++(((arrOf st).toList.drop (sa+k)).take (na - k+n)++(arrOf st).toList.drop (sa+k+r.toList.length)):=by
   rw[rl]
   generalize sa+k=u
   rw[<-Kl,yp,yp]
  conv=>rhs;rw[e5]
  exact(List.Perm.append_left _ ((hr.2.trans (by rw[seg])).append_right _))
 have krr:∀t,sa+k<=t->t<sa+na+n->∃hh:t - (sa+k)<r.toList.length,kr rk (arrOf st') t=rk (r.toList[t - (sa+k)]'hh).1:=λt t1 t2=>by
  refine⟨by lia,bG ?_⟩
  rw[at_,aw ⟨t1,t2⟩,ic]
 have asc:Asc rk (arrOf st') sa (sa+na+nb):=by
  refine z9 (m:=sa+k) (sb:=sa+na) (n:=sa+na+n) (by lia) (by lia) (by lia) (by lia) oa ob (λt ht=>kin t (by lia)) (λt ht=>kin t (by lia)) ?_ ?_ ?_ ?_ ?_
  ·intro i j a1 a2 a3
   obtain⟨p1,q1⟩:=krr i a1 (by lia)
   obtain⟨p2,q2⟩:=krr j (by lia) a3
   rw[q1,q2]
   by_cases c:i=j
   ·subst c;exact wT _
   ·exact List.pairwise_iff_getElem.mp hr.1 _ _ p1 p2 (by lia)
  ·intro t t1 t2
   obtain⟨p1,q1⟩:=krr t t1 t2
   have hm:=hr.2.mem_iff.mp (io p1)
   rcases List.mem_append.mp hm with hm|hm
   ·obtain⟨u,u1,u2,_,eu⟩:=mG (rk:=rk) hm
    exact⟨u,u1,by lia,by rw[q1,eu]⟩
   ·obtain⟨u,u1,u2,_,eu⟩:=mG (rk:=rk) hm
    exact⟨u,by lia,u2,by rw[q1,eu]⟩
  ·intro t t1 t2 _
   have:=kR1 (t - sa) (by lia)
   rwa [show sa+(t - sa)=t by lia]at this
  ·intro t t1 t2 t3
   have:=kL2 (t - (sa+na)) (by lia) (by lia) (by lia)
   rwa [show sa+na+(t - (sa+na))=t by lia]at this
  ·intro t u t1 t2 u1 u2
   have:=kR1 (t - sa) (by lia)
   rw[show sa+(t - sa)=t by lia]at this
   have:=ob (sa+na) u (ai _) (by lia) u2
   lia
 have pl:(pendingOf st').toList=L++(sa,na+nb,pw)::R:=by rw[e2];exact Bu e hl
 refine⟨⟨perm.trans h.pm,e3,e4,?_,λx hx=>?_,hle⟩,?_,λt ht=>by rw[at_,am (by lia)]⟩
 ·rw[pl]
  exact Cov.join c1 ⟨rfl,by lia,by rw[<-Nat.add_assoc];exact c3⟩
 ·rw[pl]at hx
  rcases List.mem_append.mp hx with hx|hx
  ·have o:=h.so x (by rw[e];exact zzh _ hx)
   have:=Cov.mem c1 hx
   exact λi j a1 a2 a3=>by rw[kin i (by lia),kin j (by lia)];exact o i j a1 a2 a3
  ·rcases List.mem_cons.mp hx with rfl|hx
   ·dsimp only
    rw[<-Nat.add_assoc];exact asc
   ·have o:=h.so x (by rw[e];exact ib _ (zzg _ (zzg _ hx)))
    have:=Cov.mem c3 hx
    exact λi j a1 a2 a3=>by rw[kin i (by lia),kin j (by lia)];exact o i j a1 a2 a3
 ·rw[<-fu,<-fu,pl,e]
  simp
  lia
theorem mF{Q:Bool->SortSt->Prop}(hC:cI prog w A s κ rk a₀)(h:Rn κ rk a₀ hi st)(hi2:i+1<(pendingOf st).size)
  (q:∀st',Rn κ rk a₀ hi st'->(pendingOf st').size+1=(pendingOf st).size->(∀t,hi<=t->(arrOf st')[t]? = (arrOf st)[t]?)->Q true st'):wpS (model prog w) A E s (mergeAt' i) Q st:=by
 obtain⟨L,⟨sa,na,pw⟩,⟨sb,nb,pb⟩,R,e,hl,g1,g2⟩:=De hi2
 have cv:=h.cv
 rw[e]at cv
 obtain⟨m0,c1,c2⟩:=Cov.split cv
 obtain⟨rfl,na1,rfl,nb1,c3⟩:=c2
 have hsz:(arrOf st).size=a₀.size:=h.pm.size_eq
 have lhi:=Cov.le c3
 have hle:=h.le
 have oa:Asc rk (arrOf st) sa (sa+na):=h.so (sa,na,pw) (by rw[e];simp)
 have ob:Asc rk (arrOf st) (sa+na) (sa+na+nb):=h.so (sa+na,nb,pb) (by rw[e];simp)
 rw[ud]
 refine ba (Kq ?_)
 rw[g1,g2]
 dsimp only
 refine ba (Bq ?_)
 have s0:S0 κ (arrOf st) (((pendingOf st).setIfInBounds i (sa,na+nb,pw)).eraseIdxIfInBounds (i+1)) (setPending st (((pendingOf st).setIfInBounds i (sa,na+nb,pw)).eraseIdxIfInBounds (i+1))):=⟨h.kd,rfl,rfl,h.fl⟩
 have ex:(arrOf st)[sa+na]? = some ((arrOf st)[sa+na]'(by lia)):=ac _
 refine ba (bP ex (ba (jl hC s0.kd (v6 h.pm ex) (by lia) (qd h.pm) oa (by lia) λk k1 k2 k3=>?_)))
 rw[<-bG (rk:=rk) ex]at k2 k3
 dsimp only
 split
 ·rename_i z
  have z':na - k=0:=by simpa using z
  have ek:k=na:=by lia
  subst ek
  have f:=uI (st':=setPending st (((pendingOf st).setIfInBounds i (sa,k+nb,pw)).eraseIdxIfInBounds (i+1))) (r:=#[]) (n:=0) h e hl k1 (bi _) k2 (λt _ _ z=>absurd z (pr _)) (λ_=>rfl) ⟨.nil,by simp[oP,li]⟩ rfl rfl h.kd h.fl
  exact di (q _ f.1 f.2.1 f.2.2)
 ·rename_i z
  have z':na - k≠0:=by simpa using z
  have ey:(arrOf st)[sa+k+(na - k) - 1]? = some ((arrOf st)[sa+k+(na - k) - 1]'(by lia)):=ac _
  refine ba (bP ey (ba (jm hC s0.kd (v6 h.pm ey) (by lia) (qd h.pm) ob (by lia) λn n1 n2 n3=>?_)))
  rw[<-bG (rk:=rk) ey,show sa+k+(na - k) - 1=sa+na - 1 by lia]at n2 n3
  have kL2:∀t,n<=t->t<nb->k<na->kr rk (arrOf st) (sa+na - 1)<=kr rk (arrOf st) (sa+na+t):=λt a1 a2 _=>n3 t a1 a2
  dsimp only
  split
  ·rename_i y
   have y':n=0:=by simpa using y
   subst y'
   have f:=uI (st':=setPending st (((pendingOf st).setIfInBounds i (sa,na+nb,pw)).eraseIdxIfInBounds (i+1))) (r:=(arrOf st).extract (sa+k) (sa+na)) (n:=0) h e hl k1 (bi _) k2 kL2 (λz=>by lia) ⟨?_,by simp[oP,li]⟩ ?_ rfl h.kd h.fl
   ·exact di (q _ f.1 f.2.1 f.2.2)
   ·refine fK λi j a1 a2 a3=>?_
    rw[um]at a3
    rw[fi (by lia) (by lia),fi (by lia) (by lia)]
    exact oa _ _ (by lia) (by lia) (by lia)
   ·show arrOf st=_
    apply Array.ext'
    rw[kh (by rw[fu,um];lia),fu,um,oP,li]
    rw[show min (sa+na) (arrOf st).size - (sa+k)=sa+na - (sa+k) by lia]
    generalize sa+na - (sa+k)=v
    generalize sa+k=u
    rw[<-Kl,yp,yp]
  ·rename_i y
   have y':n≠0:=by simpa using y
   have tw:Two rk a₀ ((arrOf st).extract (sa+k) (sa+na)) ((arrOf st).extract (sa+na) (sa+na+n)):=by
    have z1:((arrOf st).extract (sa+k) (sa+na)).size=na - k:=by rw[um];lia
    have z2:((arrOf st).extract (sa+na) (sa+na+n)).size=n:=by rw[um];lia
    refine⟨λi j a1 a2 a3=>?_,λi j a1 a2 a3=>?_,v5 h.pm,v5 h.pm,by lia,by lia,λi a1=>?_,λj a1=>?_⟩
    ·rw[fi (by lia) (by lia),fi (by lia) (by lia)]
     exact oa _ _ (by lia) (by lia) (by lia)
    ·rw[fi (by lia) (by lia),fi (by lia) (by lia)]
     exact ob _ _ (by lia) (by lia) (by lia)
    ·rw[fi (by lia) (by lia),fi (by lia) (by lia)]
     have:=k3 (k+i) (by lia) (by lia)
     rw[<-Nat.add_assoc]at this
     rw[Nat.add_zero]
     lia
    ·rw[z1,fi (by lia) (by lia),fi (by lia) (by lia)]
     have:=n2 j (by lia)
     rw[show sa+k+(na - k - 1)=sa+na - 1 by lia]
     lia
   have last:∀(r:Array Keyed) (st2:SortSt),Res κ rk ((arrOf st).extract (sa+k) (sa+na)) ((arrOf st).extract (sa+na) (sa+na+n)) (arrOf st) (((pendingOf st).setIfInBounds i (sa,na+nb,pw)).eraseIdxIfInBounds (i+1)) r st2 ->
     wpS (model prog w) A E s (do modify λc=>setArr c (putAll r.toList (sa+k) 0 (arrOf c));pure (failedOf (<-get)).isNone) Q st2:=λr st2 hr=>by
    refine ba (KO (ba (Kq (di ?_))))
    have f:=uI (st':=setArr st2 (putAll r.toList (sa+k) 0 (arrOf st2))) (r:=r) (n:=n) h e hl k1 n1 k2 kL2 (λz=>by lia) hr.2 (by show putAll _ _ _ (arrOf st2)=_;rw[hr.1.ar]) hr.1.pe hr.1.kd hr.1.fl
    have ef:(failedOf (setArr st2 (putAll r.toList (sa+k) 0 (arrOf st2)))).isNone=true:=by
     show(failedOf st2).isNone=true
     rw[hr.1.fl];rfl
    rw[ef]
    exact q _ f.1 f.2.1 f.2.2
   split
   ·exact ba (t8 hC tw s0 last)
   ·exact ba (ub hC tw s0 last)
end
abbrev Cu:=Option Unit×Unit
def Io(pw:Nat):SM' (ForInStep Cu):=do
 let st <-get
 match (if(pendingOf st).size>1 then(pendingOf st)[(pendingOf st).size - 2]? else none)with
 | some (_,_,o) =>
  if o<=pw then pure (.done (none,()))
  else do
   let b <-mergeAt' ((pendingOf st).size - 2)
   if(!b)=true then pure (.done (some (),()))else pure (.yield (none,()))
 | _=>pure (.done (none,()))
def addW(lo n:Nat):SM' (ForInStep (Option Unit×Nat)):=do
 modify λc=>setPending c ((pendingOf c).push (lo,n,0))
 pure (.yield (none,lo+n))
def vH(z lo n:Nat):SM' (ForInStep (Option Unit×Nat)):=do
 let st <-get
 match (pendingOf st).back? with
 | some (s1,n1,_)=>do
  let c <-forIn [0:z] ((none,()):Cu) λ_ _=>Io (power' z (2*s1+n1) (2*s1+n1+n1+n) z)
  match c.1 with
  | some r=>pure (.done (some r,lo))
  | none=>do
   modify λc=>setPending c ((pendingOf c).modify ((pendingOf c).size - 1) λx=>(x.1,x.2.1,power' z (2*s1+n1) (2*s1+n1+n1+n) z))
   addW lo n
 | _=>addW lo n
def ux(P:Runs):Nat:=if((if P.size - 2>0 then P[P.size - 2 - 1]?.map (·.2.1)else none).any (· < (P[P.size - 2+1]?.elim 0 (·.2.1))))=true then P.size - 2 - 1 else P.size - 2
def D2:SM' (ForInStep Cu):=do
 let st <-get
 if(pendingOf st).size<=1 then pure (.done (none,()))
 else do
  let b <-mergeAt' (ux (pendingOf st))
  if(!b)=true then pure (.done (some (),()))else pure (.yield (none,()))
theorem BB:sortRuns'=(do
  let st <-get
  let c <-forIn [0:(arrOf st).size] ((none,0):Option Unit×Nat) λ_ c =>
   if c.2>=(arrOf st).size then pure (.done (none,c.2))
   else do
    match <-countRun' c.2 ((arrOf st).size - c.2)with
    | some f =>
     if f<minRun' (arrOf st).size (arrOf st).size 0 then do
      liftM (rule "list.sort.binary-insertion")
      let b <-binarySort' c.2 (min ((arrOf st).size - c.2) (minRun' (arrOf st).size (arrOf st).size 0)) f
      if(!b)=true then pure (.done (some (),c.2))
      else vH (arrOf st).size c.2 (min ((arrOf st).size - c.2) (minRun' (arrOf st).size (arrOf st).size 0))
     else vH (arrOf st).size c.2 f
    | _=>pure (.done (some (),c.2))
  match c.1 with
  | some r=>pure r
  | none=>do
   let c <-forIn [0:(arrOf st).size] ((none,()):Cu) λ_ _=>D2
   match c.1 with
   | some r=>pure r
   | none=>pure ()):=by
 kernel_rfl
section
def Rp(κ:SortKind)(rk:Value->Int)(a₀:Array Keyed)(lo n:Nat)(st:SortSt):Prop:=Rn κ rk a₀ lo st/\1<=n/\lo+n<=a₀.size/\Asc rk (arrOf st) lo (lo+n)
theorem A9{lo:Nat}{Q:ForInStep (Option Unit×Nat)->SortSt->Prop}(h:Rp κ rk a₀ lo n st)(q:∀st',Rn κ rk a₀ (lo+n) st'->Q (.yield (none,lo+n)) st'):wpS (model prog w) A E s (addW lo n) Q st:=by
 obtain⟨r,n1,le,o⟩:=h
 unfold addW
 refine ba (KO (di (q _ ⟨r.pm,r.kd,r.fl,?_,λx hx=>?_,le⟩)))
 ·show Cov ((pendingOf st).push (lo,n,0)).toList 0 (lo+n)
  rw[Kw]
  exact Cov.join r.cv ⟨rfl,n1,rfl⟩
 ·have hx':x∈((pendingOf st).push (lo,n,0)).toList:=hx
  rw[Kw]at hx'
  rcases List.mem_append.mp hx' with hx|hx
  ·exact r.so x hx
  ·rw[List.mem_singleton.mp hx];exact o
theorem Cov.mod{f:Nat×Nat×Nat->Nat×Nat×Nat}(hf:∀x,(f x).1=x.1/\(f x).2.1=x.2.1):∀(L:List (Nat×Nat×Nat)) (i lo hi:Nat),Cov L lo hi->Cov (L.modify i f) lo hi
 | [],i,lo,hi,h=>by simpa using h
 | (a,n,p)::L,0,lo,hi,h=>by
  rw[List.modify_zero_cons]
  obtain⟨h1,h2⟩:=hf (a,n,p)
  generalize f (a,n,p)=y at h1 h2
  obtain⟨b,m,r⟩:=y
  dsimp only at h1 h2
  subst h1 h2
  exact h
 | (a,n,p)::L,i+1,lo,hi,h=>by
  rw[List.modify_succ_cons]
  exact⟨h.1,h.2.1,Cov.mod hf L i _ _ h.2.2⟩
theorem v4{f:Nat×Nat×Nat->Nat×Nat×Nat}(hf:∀x,(f x).1=x.1/\(f x).2.1=x.2.1):∀(L:List (Nat×Nat×Nat)) (i:Nat) (x:Nat×Nat×Nat),x∈L.modify i f->∃y∈L,x.1=y.1/\x.2.1=y.2.1
 | [],i,x,h=>by simp at h
 | y::L,0,x,h=>by
  rw[List.modify_zero_cons]at h
  rcases List.mem_cons.mp h with rfl|h
  ·exact⟨y,ce,hf y⟩
  ·exact⟨x,zzg _ h,rfl,rfl⟩
 | y::L,i+1,x,h=>by
  rw[List.modify_succ_cons]at h
  rcases List.mem_cons.mp h with rfl|h
  ·exact⟨x,ce,rfl,rfl⟩
  ·obtain⟨z,hz,e⟩:=v4 hf L i x h
   exact⟨z,zzg _ hz,e⟩
theorem vG{lo:Nat}{Q:ForInStep (Option Unit×Nat)->SortSt->Prop}(hC:cI prog w A s κ rk a₀)(h:Rp κ rk a₀ lo n st)(q:∀st',Rn κ rk a₀ (lo+n) st'->Q (.yield (none,lo+n)) st'):wpS (model prog w) A E s (vH z lo n) Q st:=by
 unfold vH
 refine ba (Kq ?_)
 split
 ·refine ba (JI (r6 (I:=λx c st'=>c=(none,())/\Rp κ rk a₀ lo n st') (Q:=λc st'=>c=(none,())/\Rp κ rk a₀ lo n st') (λx c st' _ _ I=>?_) (λc st' I=>I) ⟨rfl,h⟩) λc st' I=>?_)
  ·obtain⟨rfl,r,n1,le,o⟩:=I
   unfold Io
   refine ba (Kq ?_)
   split
   ·rename_i g
    split
    ·exact di ⟨rfl,r,n1,le,o⟩
    ·have hs:(pendingOf st').size>1:=by
      rcases JW 1 (pendingOf st').size with c|c
      ·exact c
      ·rw[am (by lia)]at g;cases g
     refine ba (mF hC r (by lia) λst2 r2 _ k2=>?_)
     refine di ⟨rfl,r2,n1,le,λi j a1 a2 a3=>?_⟩
     rw[g6 (k2 i a1),g6 (k2 j (by lia))]
     exact o i j a1 a2 a3
   ·exact di ⟨rfl,r,n1,le,o⟩
  ·obtain⟨rfl,r,n1,le,o⟩:=I
   dsimp only
   refine ba (KO (A9 ⟨⟨r.pm,r.kd,r.fl,?_,λx hx=>?_,r.le⟩,n1,le,o⟩ q))
   ·show Cov ((pendingOf st').modify _ _).toList 0 lo
    rw[Array.toList_modify]
    refine Cov.mod ?_ _ _ _ _ r.cv
    exact λ_=>⟨rfl,rfl⟩
   ·have hx':x∈((pendingOf st').modify _ _).toList:=hx
    rw[Array.toList_modify]at hx'
    have mm:=λ(c:Nat)=>v4 (f:=λx=>(x.1,x.2.1,c)) (λ_=>⟨rfl,rfl⟩) (pendingOf st').toList ((pendingOf st').size - 1) x
    obtain⟨y,hy,e1,e2⟩:=mm _ hx'
    rw[e1,e2]
    exact r.so y hy
 ·exact A9 h q
theorem xT{P:Runs}(h:1<P.size):ux P+1<P.size:=by
 unfold ux
 by_cases d:P.size - 2>0
 ·split<;>split<;>lia
 ·rw[am d,am (by simp)]
  lia
theorem BA{Q:Unit->SortSt->Prop}(hC:cI prog w A s κ rk a₀)(h2:1<=a₀.size)(h:Rn κ rk a₀ 0 st)(q:∀st',(arrOf st').Perm a₀->failedOf st'=none->Asc rk (arrOf st') 0 a₀.size->Q () st'):wpS (model prog w) A E s sortRuns' Q st:=by
 rw[BB]
 refine ba (Kq ?_)
 have hsz:(arrOf st).size=a₀.size:=h.pm.size_eq
 rw[hsz]
 refine ba (JI (r6 (I:=λx c st'=>∃lo,c=(none,lo)/\Rn κ rk a₀ lo st'/\(x<=lo\/lo=a₀.size)) (Q:=λc st'=>c=(none,a₀.size)/\Rn κ rk a₀ a₀.size st') (λx c st' _ hx I=>?_) (λc st' I=>?_) ⟨0,rfl,h,.inl (ai _)⟩) λc st' I=>?_)
 ·obtain⟨lo,rfl,r,hl⟩:=I
  have rle:=r.le
  dsimp only
  split
  ·have e:lo=a₀.size:=by lia
   subst e
   exact di ⟨rfl,r⟩
  ·rename_i c
   have sb:SB κ a₀ lo (arrOf st') (pendingOf st') st':=⟨r.pm,r.kd,r.fl,λ_ _=>rfl,rfl⟩
   have back:∀st2 n,SB κ a₀ lo (arrOf st') (pendingOf st') st2->1<=n->lo+n<=a₀.size->Asc rk (arrOf st2) lo (lo+n)->Rp κ rk a₀ lo n st2:=λst2 n b n1 n2 o=>by
    refine⟨⟨b.pm,b.kd,b.fl,by rw[b.pe];exact r.cv,λx hx=>?_,r.le⟩,n1,n2,o⟩
    rw[b.pe]at hx
    have m:=Cov.mem r.cv hx
    have o:=r.so x hx
    exact λi j a1 a2 a3=>by rw[g6 (b.kp i (by lia)),g6 (b.kp j (by lia))];exact o i j a1 a2 a3
   refine ba (EC hC (by lia) (by lia) sb λm st2 ⟨b2,m1,m2,o2⟩=>?_)
   dsimp only
   split
   ·refine ba (wpS_lift (JJ ⟨rfl,ba (Gf hC (by lia) (by lia) b2 o2 λst3 b3 o3=>?_)⟩))
    rw[am (by decide)]
    exact vG hC (back st3 _ b3 (by lia) (by lia) o3) λst4 r4=>⟨_,rfl,r4,.inl (by lia)⟩
   ·exact vG hC (back st2 _ b2 m1 (by lia) o2) λst4 r4=>⟨_,rfl,r4,.inl (by lia)⟩
 ·obtain⟨lo,rfl,r,hl⟩:=I
  have:=r.le
  have e:lo=a₀.size:=by lia
  subst e
  exact⟨rfl,r⟩
 ·obtain⟨rfl,r⟩:=I
  dsimp only
  have hp:(pendingOf st').size<=a₀.size:=by
   have:=Cov.le r.cv
   rw[fu]at this
   lia
  refine ba (JI (r6 (I:=λx c st2=>c=(none,())/\Rn κ rk a₀ a₀.size st2/\(pendingOf st2).size+x<=a₀.size+1) (Q:=λc st2=>c=(none,())/\Rn κ rk a₀ a₀.size st2/\(pendingOf st2).size<=1) (λx c st2 _ hx I=>?_) (λc st2 I=>?_) ⟨rfl,r,by lia⟩) λc st2 I=>?_)
  ·obtain⟨rfl,r2,sz⟩:=I
   unfold D2
   refine ba (Kq ?_)
   split
   ·rename_i c;exact di ⟨rfl,r2,c⟩
   ·rename_i c
    refine ba (mF hC r2 (xT (by lia)) λst3 r3 z3 _=>?_)
    exact di ⟨rfl,r3,by lia⟩
  ·obtain⟨rfl,r2,sz⟩:=I
   exact⟨rfl,r2,by lia⟩
  ·obtain⟨rfl,r2,sz⟩:=I
   dsimp only
   refine di (q st2 r2.pm r2.fl ?_)
   have cv:=r2.cv
   have so:=r2.so
   have hl:(pendingOf st2).toList.length<=1:=by rw[fu];exact sz
   match hP:(pendingOf st2).toList,hl,cv,so with
   | [],_,cv,_=>have:0=a₀.size:=cv;lia
   | [(a,n,p)],_,cv,so =>
    obtain⟨rfl,_,e⟩:=cv
    have e':0+n=a₀.size:=e
    have:=so (0,n,p) ce
    dsimp only at this
    rw[e']at this
    exact this
   | _::_::_,hl,_,_=>simp at hl
end
def mid(s:Shared)(a:Addr)(vs:List Value):Shared:={ s with heap:=((s.heap.update a (Obj.mapSeq λ_=>#[])).push (seqObj "tuple" vs.toArray 0)).push (seqObj "list" #[] 0) }
section
theorem zW{a:Addr}{P:Fin->Shared->Prop}(ho:s.heap.get? a=some (seqObj "list" vs.toArray n))(hz:vs.length<=sizeLine)
  (hk:2<=vs.length->∀Q:SortKind->Shared->Prop,Q κ (mid s a vs)->wpAny (model prog w) A (keyKind' vs.toArray) Q E (mid s a vs)) (hC:2<=vs.length->cI prog w A (mid s a vs) κ rk (pairsOf vs))
  (h:∀out:Array Value,out.toList.Perm vs->out.toList.Pairwise (λx y=>rk x<=rk y)->P (.done (.ret .none)) { s with heap:=sortedHeap s.heap a vs out }):wpAny (model prog w) A (Builtin.«list.sort» ⟨[.ref a],[]⟩) P E s:=by
 have hlt:=ay ho
 obtain⟨ep,ho1⟩:∃ep,(s.heap.update a (Obj.mapSeq λ_=>#[])).get? a=some (seqObj "list" #[] ep):=⟨_,K4 ho λ_=>#[]⟩
 have ho2:(mid s a vs).heap.get? a=some (seqObj "list" #[] ep):=by
  unfold mid
  dsimp only
  rw[xt,xt]
  ·exact ho1
  ·rw[wE];exact eE hlt
  ·rw[KP,wE];exact eE (sd hlt)
 rw[list_sort_plain]
 refine zza (KQ ho rfl (zza (Kz ho rfl (zza (seqEpoch_at ho1 rfl (zza (wpAny_newTuple (zza (wpAny_newList (sk ?_)))))))  (by simpa using hz) (bi _))))
 have mem:∀p∈(pairsOf vs).toList,p.1=p.2/\p.1∈vs:=λp hp=>by
  rw[pairsOf_toList]at hp
  exact mem_zip_self hp
 have fin:∀c:SortSt,(arrOf c).Perm (pairsOf vs)->Asc rk (arrOf c) 0 (arrOf c).size->P (.done (.ret .none)) { s with heap:=sortedHeap s.heap a vs ((arrOf c).map (·.2)) }:=λc hp ha=>by
  have hp':=Array.perm_iff_toList_perm.mp hp
  have e:((arrOf c).map (·.2)).toList=(arrOf c).toList.map (·.1):=by
   rw[Array.toList_map]
   exact Kh λp q=>(mem p (hp'.mem_iff.mp q)).1.symm
  refine h _ ?_ ?_
  ·rw[e]
   have:=hp'.map (·.1)
   rwa [pairsOf_toList,List.map_fst_zip (ai _)]at this
  ·rw[e,List.pairwise_map]
   exact fK ha
 have size2:∀c:SortSt,(arrOf c).Perm (pairsOf vs)->((arrOf c).map (·.2)).size<=sizeLine+1:=λc hp=>by
  rw[Array.size_map,hp.size_eq,pairsOf_size];lia
 have vz:vs.toArray.size=vs.length:=be ..
 show wpAny (model prog w) A _ P E (mid s a vs)
 by_cases c:vs.length<2
 ·rw[aw (by rw[vz];exact c),aw (by rw[vz];exact c)]
  refine zza (zzb ?_)
  dsimp only
  rw[StateT.run_pure]
  refine zza (zzb (zza (seqEpoch_at ho2 rfl (zza (Kz ho2 rfl ?_ (bi _) (size2 (SortSt.mk' general' (vs.toArray.zip vs.toArray) #[] 7 none) (Array.Perm.refl _)))))))
  rw[am (by simp)]
  refine zzb (fin (SortSt.mk' general' (vs.toArray.zip vs.toArray) #[] 7 none) (Array.Perm.refl _) λi j _ ij hj=>?_)
  have hj':j<(pairsOf vs).size:=hj
  rw[pairsOf_size]at hj'
  rw[show i=j by lia]
  exact wT _
 ·rw[am (by rw[vz];exact c),am (by rw[vz];exact c)]
  refine zza (hk (by lia) _ ?_)
  have so:=BA (E:=E) (hC (by lia)) (by rw[pairsOf_size];lia) (st:=SortSt.mk' κ (vs.toArray.zip vs.toArray) #[] 7 none) (Q:=λ_ c=>(arrOf c).Perm (pairsOf vs)/\failedOf c=none/\Asc rk (arrOf c) 0 (pairsOf vs).size)
   ⟨Array.Perm.refl _,rfl,rfl,rfl,(λx hx=>by cases hx),bi _⟩ (λc a1 a2 a3=>⟨a1,a2,a3⟩)
  refine zza (r0 so (λr s' ⟨e,a1,a2,a3⟩=>?_) λ_ _ e=>e)
  subst e
  obtain⟨⟨⟩,c⟩:=r
  dsimp only at a1 a2 a3 ⊢
  refine zza (seqEpoch_at ho2 rfl (zza (Kz ho2 rfl ?_ (bi _) (size2 c a1))))
  rw[a2]
  dsimp only
  rw[am (by simp)]
  exact zzb (fin c a1 (by rw[a1.size_eq];exact a3))
theorem CY{l:Addr}{Q:List Value->Shared->Prop}(ho:s.heap.get? l=some o)(hc:o.cls=.type "list" \/ o.cls=.type "tuple")(hd:o.data=.seq vs.toArray n)(hz:vs.length<=sizeLine)
  (h:Q vs { s with heap:=(s.heap.push (seqObj "list" #[] 0)).update s.heap.objs.size (Obj.mapSeq (· ++ vs.toArray)) }):wpAny (model prog w) A (collect (.ref l)) Q E s:=by
 have ho':(s.heap.push (seqObj "list" #[] 0)).get? l=some o:=zzc _ ho
 have e0:(s.heap.push (seqObj "list" #[] 0)).get? s.heap.objs.size=some (seqObj "list" #[] 0):=zze _ rfl
 unfold collect
 refine zza (wpAny_runValue (JP entry_proto_collect' ?_))
 show wpAny (model prog w) _ (newList [] >>= λx=>again (.builtin "list.__iadd__" ⟨[x,.ref l],[]⟩)) _ _ s
 refine zza (wpAny_newList (zzb ⟨Kn _ (by decide +kernel),JP entry_list_iadd' ?_⟩))
 show wpAny (model prog w) _ (Builtin.List.listExtendWith (.ref s.heap.objs.size) (.ref l) (.ref s.heap.objs.size)) _ _ { s with heap:=s.heap.push (seqObj "list" #[] 0) }
 unfold Builtin.List.listExtendWith
 have sz:(((· ++ vs.toArray):Array Value->Array Value) #[]).size<=sizeLine+1:=by
  show(#[]++vs.toArray).size<=_
  rw[Array.size_append,be]
  simp only[be,zi]
  lia
 have tail:wpAny (model prog w) A (do
   let o <-load s.heap.objs.size
   match o.data with
   | .seq xs _=>pure xs.toList
   | _=>unsupported "internal:collect") Q E { s with heap:=(s.heap.push (seqObj "list" #[] 0)).update s.heap.objs.size (Obj.mapSeq (· ++ vs.toArray)) }:=by
  refine zza (wpAny_load (K4 e0 _) ?_)
  show wpAny (model prog w) A (pure ((#[]:Array Value)++vs.toArray).toList) Q E _
  rw[show((#[]:Array Value)++vs.toArray).toList=vs by simp]
  exact zzb h
 rcases hc with hc|hc
 ·refine zza (JM (T := "list") ⟨o,ho',hc⟩ ?_)
  rw[aw (by rw[show(Value.type "list" == Value.type "list")=true from rfl];simp)]
  refine zza (KQ ho' hd (zza (KQ (xs:=#[]) (n:=0) e0 rfl ?_)))
  rw[am (by simp)]
  exact zza (Kz (xs:=#[]) (n:=0) e0 rfl (zzb tail) (bi _) sz)
 ·refine zza (JM (T := "tuple") ⟨o,ho',hc⟩ ?_)
  rw[aw (by rw[show(Value.type "tuple" == Value.type "tuple")=true from rfl];simp)]
  refine zza (KQ ho' hd (zza (KQ (xs:=#[]) (n:=0) e0 rfl ?_)))
  rw[am (by simp)]
  exact zza (Kz (xs:=#[]) (n:=0) e0 rfl (zzb tail) (bi _) sz)
def dB(s:Shared)(vs:List Value):Shared:={ s with heap:=s.heap.push (seqObj "list" vs.toArray 0) }
theorem lB{x:Value}{Q:zzj}(col:∀(E':zzj) (Q':List Value->Shared->Prop),(∀vs s2,(vs.length<=sizeLine/\∃(κ:SortKind) (rk:Value->Int),
   (2<=vs.length->∀(E':zzj) (Q:SortKind->Shared->Prop),Q κ (mid (dB s2 vs) s2.heap.objs.size vs)->wpAny (model prog w) A.in1.in1 (keyKind' vs.toArray) Q E' (mid (dB s2 vs) s2.heap.objs.size vs)) /\
   (2<=vs.length->cI prog w A.in1.in1 (mid (dB s2 vs) s2.heap.objs.size vs) κ rk (pairsOf vs)) /\
   ∀out:Array Value,out.toList.Perm vs->out.toList.Pairwise (λx y=>rk x<=rk y)->Q (.ref s2.heap.objs.size) { s2 with heap:=sortedHeap (dB s2 vs).heap s2.heap.objs.size vs out })->Q' vs s2)->wpAny (model prog w) A.in1 (collect x) Q' E' s) :
  wpAny (model prog w) A (call (.builtin "sorted") [x]) Q E s:=by
 refine Calls.call_function_entry kind_sorted plain_sorted entry_sorted (args_sorted1 _) ?_
 unfold Builtin.«sorted»
 refine zza (m:=checkCount "sorted" 1 1 _) (zzb (zza (col _ _ λvs s2 ⟨hz,κ,rk,hk,hC,h⟩=>zza (wpAny_newList ?_))))
 have hg:(dB s2 vs).heap.get? s2.heap.objs.size=some (seqObj "list" vs.toArray 0):=zze _ rfl
 show wpAny _ _ _ _ _ (dB s2 vs)
 exact zza (sk (wd slot_list_sort ⟨_,hg,rfl⟩ entry_list_sort (zW hg hz (λc=>hk c _) hC λout a1 a2=>⟨_,rfl,zzb ⟨_,rfl,h out a1 a2⟩⟩) (args_list_sort _)))
theorem pM{h:Heap}{a:Addr}{out:Array Value}{b:Addr}(hab:b≠a)(e:h.get? b=some o):(sortedHeap h a vs out).get? b=some o:=by
 have hlt:b<h.objs.size:=ay e
 unfold sortedHeap
 rw[Kj _ _ _ _ hab,xt _ _ _ (by rw[KP,wE];exact eE (sd hlt)),xt _ _ _ (by rw[wE];exact eE hlt),Kj _ _ _ _ hab]
 exact e
theorem tQ{h:Heap}{a:Addr}{out:Array Value}(ho:h.get? a=some (seqObj "list" vs.toArray n)):∃e,(sortedHeap h a vs out).get? a=some (seqObj "list" out e):=by
 have hlt:a<h.objs.size:=ay ho
 obtain⟨ep,e1⟩:∃ep,(h.update a (Obj.mapSeq λ_=>#[])).get? a=some (seqObj "list" #[] ep):=⟨_,K4 ho λ_=>#[]⟩
 unfold sortedHeap
 refine⟨_,K4 (n:=ep) (xs:=#[]) ?_ λ_=>out⟩
 rw[xt _ _ _ (by rw[KP,wE];exact eE (sd hlt)),xt _ _ _ (by rw[wE];exact eE hlt)]
 exact e1
theorem Ck{b:Addr}(e:s.heap.get? b=some o):(mid (dB s vs) s.heap.objs.size vs).heap.get? b=some o:=by
 have hlt:b<s.heap.objs.size:=ay e
 unfold mid dB
 dsimp only
 rw[xt _ _ _ (by rw[KP,wE,KP];exact eE (sd (sd hlt))),xt _ _ _ (by rw[wE,KP];exact eE (sd hlt)),Kj _ _ _ _ (eE hlt)]
 exact zzc _ e
end
end TS
namespace L4
open PySem PySem.Spec PyProof.Rows L2 L3
variable {α:Type}
section
open HT
theorem uk:∀a:List Int,lexLt a a=false
 | []=>rfl
 | x::a=>by rw[lexLt_cons,aw rfl];exact uk a
theorem v7:∀{a b c:List Int},lexLt a b=true->lexLt b c=true->lexLt a c=true
 | [],[],_,h,_=>by cases h
 | [],_::_,[],_,h=>by cases h
 | [],_::_,_::_,_,_=>rfl
 | _::_,[],_,h,_=>by cases h
 | _::_,_::_,[],_,h=>by cases h
 | x::a,y::b,z::c,h1,h2=>by
  rw[lexLt_cons]at h1 h2 ⊢
  by_cases e1:x=y
  ·by_cases e2:y=z
   ·rw[aw e1]at h1;rw[aw e2]at h2;rw[aw (e1.trans e2)]
    exact v7 h1 h2
   ·rw[am e2,zzi]at h2
    rw[am (by lia),zzi];lia
  ·rw[am e1,zzi]at h1
   by_cases e2:y=z
   ·rw[am (by lia),zzi];lia
   ·rw[am e2,zzi]at h2
    rw[am (by lia),zzi];lia
theorem qg:∀{a b:List Int},lexLt a b=false->lexLt b a=false->a=b
 | [],[],_,_=>rfl
 | [],_::_,h,_=>by cases h
 | _::_,[],_,h=>by cases h
 | x::a,y::b,h1,h2=>by
  rw[lexLt_cons]at h1 h2
  by_cases e:x=y
  ·rw[aw e]at h1;rw[aw e.symm]at h2
   rw[e,qg h1 h2]
  ·rw[am e,ur]at h1
   rw[am (λz=>e z.symm),ur]at h2
   lia
theorem HG{a b:List Int}(h:lexLt a b=true):lexLt b a=false:=by
 cases q:lexLt b a with
 | false=>rfl
 | true=>have:=v7 h q;rw[uk]at this;cases this
end
theorem yl{p q:α->Bool}{l:List α}{x:α}(h:∀y∈l,p y=true->q y=true)(hx:x∈l)(h1:p x=false)(h2:q x=true):l.countP p<l.countP q:=by
 induction l with
 | nil=>cases hx
 | cons y l ih =>
  have hm:∀z∈l,p z=true->q z=true:=λz hz=>h z (zzg _ hz)
  have le:l.countP p<=l.countP q:=List.countP_mono_left hm
  rw[List.countP_cons,List.countP_cons]
  rcases List.mem_cons.mp hx with rfl|hx
  ·rw[h1,h2];simp;lia
  ·have:=ih hm hx
   have hy:=h y ce
   cases e:p y with
   | false=>simp;lia
   | true=>rw[hy e];simp;lia
def rankOf{α:Type}(l:List α)(k:α->List Int)(x:α):Int:=(l.countP λu=>HT.lexLt (k u) (k x):Nat)
theorem pS{l:List α}{k:α->List Int}{x y:α}(hx:x∈l)(hy:y∈l):decide (rankOf l k x<rankOf l k y)=HT.lexLt (k x) (k y):=by
 have up:∀x y,x∈l->HT.lexLt (k x) (k y)=true->rankOf l k x<rankOf l k y:=λx y hx h=>by
  have:=yl (p:=λu=>HT.lexLt (k u) (k x)) (q:=λu=>HT.lexLt (k u) (k y)) (l:=l) (λz _ hz=>v7 hz h) hx (uk _) h
  unfold rankOf;lia
 cases e:HT.lexLt (k x) (k y)with
 | true=>exact eT (up x y hx e)
 | false =>
  rw[ur]
  intro z
  cases e2:HT.lexLt (k y) (k x)with
  | true=>have:=up y x hy e2;lia
  | false =>
   have ek:=qg e e2
   unfold rankOf at z
   rw[ek]at z
   lia
def qp:D->Bool
 | .tuple ds=>match intsOf ds with
  | some (_::_)=>true
  | _=>false
 | _=>false
def uE:D->Bool
 | .int _=>true
 | _=>false
def bQ(ds:List D):Bool:=ds.all uE||ds.all qp
def keyD:D->List Int
 | .int i=>[i]
 | .tuple ds=>(intsOf ds).getD []
 | _=>[]
def leK(x y:D):Bool:=!HT.lexLt (keyD y) (keyD x)
def bE(ds:List D):List D:=ds.mergeSort leK
theorem cf(ds:List D):(bE ds).Perm ds:=List.mergeSort_perm ds leK
theorem Fp(x y z:D)(h1:leK x y=true)(h2:leK y z=true):leK x z=true:=by
 unfold leK at *
 rw[Kv]at *
 cases e:HT.lexLt (keyD z) (keyD x)with
 | false=>rfl
 | true =>
  exfalso
  cases e2:HT.lexLt (keyD x) (keyD y)with
  | true=>have:=v7 e e2;rw[h2]at this;cases this
  | false=>rw[qg e2 h1,h2]at e;cases e
theorem Cy(x y:D):(leK x y||leK y x)=true:=by
 unfold leK
 cases e:HT.lexLt (keyD y) (keyD x)with
 | false=>rfl
 | true=>rw[HG e];rfl
theorem pN(ds:List D):(bE ds).Pairwise λx y=>leK x y=true:=List.pairwise_mergeSort Fp Cy ds
theorem n5{R:D->D->Prop}:∀{a b:List D},(∀x∈b,∀y∈b,R x y->R y x->x=y)->a.Perm b->a.Pairwise R->b.Pairwise R->a=b
 | [],b,_,hp,_,_=>by simpa using hp.symm.eq_nil
 | x::r,b,hR,hp,ha,hb=>by
  cases b with
  | nil=>exact absurd hp.length_eq (by simp)
  | cons y t =>
   rw[List.pairwise_cons]at ha hb
   have hx:x∈y::t:=hp.mem_iff.mp ce
   have hy:y∈x::r:=hp.mem_iff.mpr ce
   have e:x=y:=by
    rcases List.mem_cons.mp hx with e|hx'
    ·exact e
    ·rcases List.mem_cons.mp hy with e|hy'
     ·exact e.symm
     ·exact hR x hx y ce (ha.1 y hy') (hb.1 x hx')
   subst e
   rw[n5 (λx hx y hy=>hR x (zzg _ hx) y (zzg _ hy)) (List.Perm.cons_inv hp) ha.2 hb.2]
theorem iH{d:D}(h:qp d=true):∃n r,d=.tuple ((n::r).map PyData.int):=by
 unfold qp at h
 split at h
 ·rename_i ds
  split at h
  ·rename_i n r e;exact⟨n,r,by rw[bV e]⟩
  ·cases h
 ·cases h
theorem iG{d:D}(h:uE d=true):∃n,d=.int n:=by
 cases d<;>first|exact⟨_,rfl⟩|cases h
theorem CD{ds:List D}(h:bQ ds=true):∀x∈ds,∀y∈ds,keyD x=keyD y->x=y:=λx hx y hy e=>by
 unfold bQ at h
 rw[oC,pd,pd]at h
 rcases h with h|h
 ·obtain⟨n,rfl⟩:=iG (h x hx)
  obtain⟨m,rfl⟩:=iG (h y hy)
  have e':[n]=[m]:=e
  injection e' with e'
  rw[e']
 ·obtain⟨n,r,rfl⟩:=iH (h x hx)
  obtain⟨m,t,rfl⟩:=iH (h y hy)
  have kt:∀l:List Int,keyD (.tuple (l.map PyData.int))=l:=λl=>by
   show(intsOf (l.map PyData.int)).getD []=l
   rw[jk];rfl
  rw[kt,kt]at e
  rw[e]
theorem rf{ds r:List D}(h:bQ ds=true)(hp:r.Perm ds)(hs:r.Pairwise λx y=>leK x y=true):r=bE ds :=
 n5 (λx hx y hy h1 h2=>CD h x ((cf ds).mem_iff.mp hx) y ((cf ds).mem_iff.mp hy) (by
  unfold leK at h1 h2
  rw[Kv]at h1 h2
  exact qg h2 h1)) (hp.trans (cf ds).symm) hs (pN ds)
theorem zA{β:Type}{f:α->β}:∀{out:List β} {l:List α},out.Perm (l.map f)->∃l':List α,l'.Perm l/\l'.map f=out:=by
 intro out l h
 generalize e:l.map f=m at h
 induction h generalizing l with
 | nil =>
  cases l with
  | nil=>exact⟨[],.refl _,rfl⟩
  | cons y l=>cases e
 | @cons x a b hp ih =>
  cases l with
  | nil=>cases e
  | cons y l =>
   rw[bj]at e
   injection e with e1 e2
   obtain⟨l',h1,h2⟩:=ih e2
   exact⟨y::l',h1.cons y,by rw[bj,h2,e1]⟩
 | @swap x y a =>
  match l,e with
  | u::v::l,e =>
   rw[bj,bj]at e
   injection e with e1 e2
   injection e2 with e2 e3
   exact⟨v::u::l,.swap _ _ _,by rw[bj,bj,e1,e2,e3]⟩
 | @trans a b c h1 h2 ih1 ih2 =>
  obtain⟨l1,p1,q1⟩:=ih2 e
  obtain⟨l2,p2,q2⟩:=ih1 q1
  exact⟨l2,p2.trans p1,q2⟩
end L4
namespace L4
open PySem PySem.Spec PyProof.Rows L2 L3 TS
theorem sr{prog:Program}{w:World}{A:Around}{s:Shared}{b fin:Bool}{Q:Bool->Shared->Prop}:∀{vs us:List Value} {ns ms:List Int} (i:Nat),IntsAre vs ns->IntsAre us ms->fin=decide (vs.length<us.length)->Q (HT.lexLt ns ms) s ->
  PySem.W.KatLex prog w A b fin Q (vs.zip us) i s:=by
 intro vs us ns ms i h1 h2 e q
 induction h1 generalizing us ms i with
 | nil=>cases h2<;>(subst e;exact q)
 | cons x t h1 ih=>cases h2 with
  | nil=>subst e;exact q
  | cons y u h2 =>
   rw[List.zip_cons_cons]
   refine PySem.W.kat_cons (wpAny_eqBool_int ?_)
   rw[HT.lexLt_cons]at q
   by_cases c:x=y
   ·rw[aw c]at q
    rw[show(x==y)=true by simpa using c]
    exact PySem.W.kat_yes (ih (i+1) h2 (by rw[e];simp) q)
   ·rw[am c]at q
    rw[show(x==y)=false by simpa using c]
    refine PySem.W.kat_no ?_
    cases hb:(b&&i==0)with
    | true=>exact oneLt_int q
    | false=>exact PySem.W.kat_one _ _ (lt_int q)
theorem triples{K:Fg}{F:Hp}:∀{vs:List V} {ds:List D} {its:List Value},RepL K F vs ds->Vals vs its->∃L:List (V×D×Value),L.map (·.1)=vs/\L.map (·.2.1)=ds/\L.map (·.2.2)=its/\∀t∈L,Rep K F t.1 t.2.1/\RelV t.1 t.2.2:=by
 intro vs ds its h r
 induction vs generalizing ds its with
 | nil=>cases h;cases r;exact⟨[],rfl,rfl,rfl,λ_ h=>by cases h⟩
 | cons v vs ih=>cases h with
  | cons h t=>cases r with
   | cons r rr =>
    obtain⟨L,e1,e2,e3,e4⟩:=ih t rr
    refine⟨(_,_,_)::L,by rw[bj,e1],by rw[bj,e2],by rw[bj,e3],λx hx=>?_⟩
    rcases List.mem_cons.mp hx with rfl|hx
    ·exact⟨h,r⟩
    ·exact e4 x hx
theorem qW{K:Fg}{F:Hp}:∀{L:List (V×D×Value)},(∀t∈L,Rep K F t.1 t.2.1/\RelV t.1 t.2.2)->RepL K F (L.map (·.1)) (L.map (·.2.1))/\Vals (L.map (·.1)) (L.map (·.2.2))
 | [],_=>⟨.nil,.nil⟩
 | x::L,h=>by
  obtain⟨h1,h2⟩:=h x ce
  obtain⟨h3,h4⟩:=qW (L:=L) λt ht=>h t (zzg _ ht)
  exact⟨.cons h1 h3,.cons h2 h4⟩
def zm(K:Fg):List V->Hp->VK->Prop:=λxs H Q=>∃(G:Gh) (F:Hp) (Z:L2.St) (ρ:En) (x:V) (d:D) (ds:List D),xs=[x]/\StOk K G F Z H ρ/\OR K F H x d/\cG d=some ds/\bQ ds=true /\
 ∀l vs,H l=none->RepL K F vs (bE ds)->Q (.ref l) (upd H l (.lst vs))
def wC:List D->Option (List D)
 | [d]=>match cG d with
  | some ds=>if bQ ds then some (bE ds)else none
  | none=>none
 | _=>none
theorem z6{ds:List D}(h:bQ ds=true):PyData.canLayAll0 ds=true:=by
 have all:∀l:List D,(∀d∈l,d.canLay0=true)->PyData.canLayAll0 l=true:=by
  intro l
  induction l with
  | nil=>intro _;simp[PyData.canLayAll0]
  | cons a l ih =>
   intro h
   simp only[PyData.canLayAll0,ax]
   exact⟨h a ce,ih λd hd=>h d (zzg _ hd)⟩
 refine all ds λd hd=>?_
 unfold bQ at h
 rw[oC,pd,pd]at h
 rcases h with h|h
 ·obtain⟨n,rfl⟩:=iG (h d hd)
  simp[PyData.canLay0]
 ·obtain⟨n,r,rfl⟩:=iH (h d hd)
  simp only[PyData.canLay0]
  refine all _ λd hd=>?_
  obtain⟨m,_,rfl⟩:=List.mem_map.mp hd
  simp[PyData.canLay0]
theorem j6{h:Heap}:∀{vs:List Value} {ns:List Int} {as:List Addr},ReadsAll h vs (ns.map PyData.int) as->IntsAre vs ns
 | _,[],_,r=>by rw[K2]at r;cases r;exact .nil
 | _,n::ns,_,r=>by
  rw[bj]at r
  cases r with
  | cons a b =>
   cases a with
   | int i t=>exact .cons n t (j6 b)
theorem all_ints:∀{ds:List D},ds.all uE=true->∃ns:List Int,ds=ns.map PyData.int
 | [],_=>⟨[],rfl⟩
 | d::ds,h=>by
  rw[List.all_cons,ax]at h
  obtain⟨n,rfl⟩:=iG h.1
  obtain⟨ns,rfl⟩:=all_ints h.2
  exact⟨n::ns,rfl⟩
theorem n6{X:Cx}{pins:zzk}{Z σ':L2.St}{H F:Hp}{s:Shared}{G:Gh}{ρ:En}{vs:List V}{ds:List D}{its:List Value}{Q:VK}(I:Inv X pins Z H s)(S:StOk X.K G F σ' H ρ)(rl:RepL X.K F vs ds)(rv:Vals vs its)(hz:vs.length<=sizeLine)(hok:bQ ds=true)
  (k:∀l vs,H l=none->RepL X.K F vs (bE ds)->Q (.ref l) (upd H l (.lst vs))):its.length<=sizeLine/\∃(κ:SortKind) (rk:Value->Int),
   (2<=its.length->∀(E':zzj) (Q:SortKind->Shared->Prop),Q κ (mid (dB s its) s.heap.objs.size its)->wpAny (model X.prog X.w) X.A.in1.in1 (keyKind' its.toArray) Q E' (mid (dB s its) s.heap.objs.size its)) /\
   (2<=its.length->cI X.prog X.w X.A.in1.in1 (mid (dB s its) s.heap.objs.size its) κ rk (pairsOf its)) /\
   ∀out:Array Value,out.toList.Perm its->out.toList.Pairwise (λx y=>rk x<=rk y)->EP X pins Z Q (.ref s.heap.objs.size) { s with heap:=sortedHeap (dB s its).heap s.heap.objs.size its out }:=by
 have lay:=z6 hok
 have I1:Inv X pins Z H (mid (dB s its) s.heap.objs.size its):=I.kept (t':=s.toks) λb o e=>Ck e
 obtain⟨as,ra⟩:=(bR I1).2 (rl.mono S.fh) lay rv
 generalize hs1:mid (dB s its) s.heap.objs.size its=s1 at I1 ra
 have emap:its.map (SeqAt.readOf s1.heap)=ds:=SeqAt.readsAll_map ds _ _ lay ra
 let kf:Value->List Int:=λv=>keyD (SeqAt.readOf s1.heap v)
 have hmem:∀x,x∈(pairsOf its).toList->x.1∈its:=λx hx=>by
  rw[pairsOf_toList]at hx
  exact(mem_zip_self hx).2
 have hzl:its.length<=sizeLine:=by rw[<-rv.length];exact hz
 have fin:∀out:Array Value,out.toList.Perm its->out.toList.Pairwise (λx y=>rankOf its kf x<=rankOf its kf y)->EP X pins Z Q (.ref s.heap.objs.size) { s with heap:=sortedHeap (dB s its).heap s.heap.objs.size its out }:=λout o1 o2=>by
  obtain⟨L,e1,e2,e3,e4⟩:=triples rl rv
  rw[<-e3]at o1
  obtain⟨L',p1,p2⟩:=zA o1
  have e4':∀t∈L',Rep X.K F t.1 t.2.1/\RelV t.1 t.2.2:=λt ht=>e4 t (p1.mem_iff.mp ht)
  have rd:∀t∈L',SeqAt.readOf s1.heap t.2.2=t.2.1:=λt ht=>by
   obtain⟨a1,a2⟩:=e4' t ht
   have:t.2.1∈ds:=by rw[<-e2];exact List.mem_map.mpr ⟨t,p1.mem_iff.mp ht,rfl⟩
   have al:∀l:List D,PyData.canLayAll0 l=true->∀d∈l,d.canLay0=true:=by
    intro l
    induction l with
    | nil=>intro _ d hd;cases hd
    | cons a l ih =>
     intro h d hd
     simp only[PyData.canLayAll0,ax]at h
     rcases List.mem_cons.mp hd with rfl|hd
     ·exact h.1
     ·exact ih h.2 d hd
   have hcl:=al ds lay _ this
   obtain⟨bs,rb⟩:=(bR I1).1 (a1.mono S.fh) hcl a2
   exact SeqAt.readOf_eq hcl rb
  obtain⟨u1,u2⟩:=qW e4'
  have es:L'.map (·.2.1)=bE ds:=by
   refine rf hok (by rw[<-e2];exact p1.map _) ?_
   rw[<-p2,List.pairwise_map]at o2
   rw[List.pairwise_map]
   refine List.Pairwise.imp_of_mem (λ{x y} hx hy h=>?_) o2
   have mx:x.2.2∈its:=by rw[<-e3];exact List.mem_map.mpr ⟨x,p1.mem_iff.mp hx,rfl⟩
   have my:y.2.2∈its:=by rw[<-e3];exact List.mem_map.mpr ⟨y,p1.mem_iff.mp hy,rfl⟩
   have q:=pS (k:=kf) my mx
   rw[cr (by lia)]at q
   show(!HT.lexLt (keyD y.2.1) (keyD x.2.1))=true
   rw[<-rd x hx,<-rd y hy]
   show(!HT.lexLt (kf y.2.2) (kf x.2.2))=true
   rw[<-q];rfl
  rw[es]at u1
  rw[p2]at u2
  obtain⟨ep,he⟩:=tQ (out:=out) (show(dB s its).heap.get? s.heap.objs.size=some (seqObj "list" its.toArray 0)from zze _ rfl)
  refine⟨.ref s.heap.objs.size,upd H s.heap.objs.size (.lst (L'.map (·.1))),I.laid (t':=s.toks) (λb o q=>pM (eE (ay q)) (zzc _ q)) (ai _) ⟨?_,out.toList,ep,u2,?_⟩,rfl,k _ _ (I.hok.fresh (ai _)) u1⟩
  ·rw[u2.length,<-p2,zzd,p1.length_eq,<-zzd (f:=λt:V×D×Value=>t.2.2),e3];exact hzl
  ·exact he
 have hok':=hok
 unfold bQ at hok'
 rw[oC]at hok'
 rcases hok' with hI|hT
 ·obtain⟨ns,rfl⟩:=all_ints hI
  have ia:IntsAre its ns:=j6 ra
  have kfi:∀{m:Int} {t:Tok},kf (.int m t)=[m]:=λ{m t}=>by
   show keyD (SeqAt.readOf s1.heap (.int m t))=[m]
   rw[SeqAt.readOf_eq (d:=.int m) (by simp[PyData.canLay0]) (.int m t)]
   rfl
  refine⟨hzl,oneType',rankOf its kf,λh2 E' Q' q=>?_,λh2 x y hx hy E' Q' q=>?_,fin⟩
  ·match its,ia,h2,q with
   | v1::v2::rest,ia,_,q =>
    rw[keyKind_ints ia]
    exact zzb q
  ·have hx':=hmem x hx
   have hy':=hmem y hy
   rw[pS hx' hy']at q
   obtain⟨m1,t1,e1⟩:=ia.all _ hx'
   obtain⟨m2,t2,e2⟩:=ia.all _ hy'
   rw[e1,e2]at q ⊢
   rw[kfi,kfi]at q
   rw[keyLt'_oneType]
   refine oneLt_int ?_
   have:HT.lexLt [m1] [m2]=decide (m1<m2):=by
    rw[HT.lexLt_cons]
    split
    ·rename_i e;rw[e];simp[HT.lexLt_nil_nil]
    ·rfl
   rw[this]at q
   exact q
 ·rw[pd]at hT
  have each:∀v∈its,∃(a:Addr) (o:Obj) (xs:List Value) (n:Nat) (m:Int) (ms:List Int),v=.ref a/\s1.heap.get? a=some o/\o.cls=.type "tuple" /\ o.data=.seq xs.toArray n/\IntsAre xs (m::ms)/\kf v=m::ms:=λv hv=>by
   obtain⟨dv,bs,rd,hl,_⟩:=SeqAt.readsAll_mem ds its _ lay ra v hv
   have er:=SeqAt.readOf_eq hl rd
   have hin:dv∈ds:=by rw[<-emap,<-er];exact List.mem_map.mpr ⟨v,hv,rfl⟩
   obtain⟨m,ms,rfl⟩:=iH (hT dv hin)
   cases rd with
   | tuple g1 g2 g3 g4 =>
    rename_i a o vs' n
    refine⟨a,o,vs'.toList,n,m,ms,rfl,g1,g2,by rw[g3],j6 g4,?_⟩
    show keyD (SeqAt.readOf s1.heap (.ref a))=_
    rw[er]
    show(intsOf ((m::ms).map PyData.int)).getD []=_
    rw[jk];rfl
  refine⟨hzl,tuples' true,rankOf its kf,λh2 E' Q' q=>?_,λh2 x y hx hy E' Q' q=>?_,fin⟩
  ·have fs:∀l:List Value,(∀v∈l,v∈its)->∃fs:List Value,PySem.W.KatTups s1.heap l fs/\fs.length=l.length/\∀v∈fs,∃i t,v=.int i t:=by
    intro l
    induction l with
    | nil=>intro _;exact⟨[],trivial,rfl,λ_ h=>by cases h⟩
    | cons v l ih =>
     intro hl
     obtain⟨fs,f1,f2,f3⟩:=ih λv hv=>hl v (zzg _ hv)
     obtain⟨a,o,xs,n,m,ms,rfl,g1,g2,g3,g4,_⟩:=each v (hl v ce)
     cases g4 with
     | cons _ t g5 =>
      refine⟨.int m t::fs,PySem.W.KatTups.cons g1 g2 g3 (by simp) f1,by simp[f2],λv hv=>?_⟩
      rcases List.mem_cons.mp hv with rfl|hv
      ·exact⟨_,_,rfl⟩
      ·exact f3 v hv
   obtain⟨fs,f1,f2,f3⟩:=fs its λ_ h=>h
   refine PySem.W.kat_kind f1 (by lia) (T:=.type "int") (λv hv=>?_) rfl q
   obtain⟨i,t,rfl⟩:=f3 v hv
   exact PySem.W.Looks.now
  ·have hx':=hmem x hx
   have hy':=hmem y hy
   rw[pS hx' hy']at q
   obtain⟨a1,o1,xs1,n1,m1,ms1,e1,g1,g2,g3,g4,g5⟩:=each _ hx'
   obtain⟨a2,o2,xs2,n2,m2,ms2,e2,k1,k2,k3,k4,k5⟩:=each _ hy'
   rw[g5,k5]at q
   rw[e1,e2]
   refine PySem.W.kat_lt g1 g3 k1 k3 ?_
   have:=sr (prog:=X.prog) (w:=X.w) (A:=X.A.in1.in1) (b:=true) (Q:=Q') 0 g4 k4 rfl q
   simpa using this
theorem yq{X:Cx}:CallR X (.builtin "sorted") (zm X.K):=by
 intro pins s Z H xs us Q I r h0
 obtain⟨G,F,σ',ρ,x,d,ds,rfl,S,ho,hd,hok,k⟩:=h0
 obtain⟨u,rfl,ru⟩:=L2.Vals.one r
 have hseq:∃(p:Addr) (o:Obj) (n:Nat) (vs:List V) (its:List Value),u=.ref p/\s.heap.get? p=some o/\(o.cls=.type "list" \/ o.cls=.type "tuple")/\o.data=.seq its.toArray n/\Vals vs its/\vs.length<=sizeLine/\RepL X.K F vs ds:=by
  cases d with
  | list es =>
   cases hd
   obtain⟨a,vs,rfl,h1,h2⟩:=ho.list S.fh
   cases ru
   obtain⟨its,rv,pl,hz⟩:=I.list h1
   obtain⟨o,e1,e2,n,e3⟩:=pl.isList
   exact⟨a,o,n,vs,its,rfl,e1,.inl e2,e3,rv,hz,h2⟩
  | tuple es =>
   cases hd
   obtain⟨a,vs,rfl,h1,h2⟩:=ho.tuple S.fh
   cases ru
   obtain⟨its,rv,⟨o,e1,e2,n,e3⟩,hz⟩:=I.tuple h1
   exact⟨a,o,n,vs,its,rfl,e1,.inr e2,e3,rv,hz,h2⟩
  | _=>cases hd
 obtain⟨p,o,n,vs,its,rfl,hp,hcl,hdat,rv,hz,rl⟩:=hseq
 have I2:Inv X pins Z H { s with heap:=(s.heap.push (seqObj "list" #[] 0)).update s.heap.objs.size (Obj.mapSeq (· ++ its.toArray)) }:=I.kept (t':=s.toks) λb o e=>by
  have hlt:b<s.heap.objs.size:=ay e
  rw[Kj _ _ _ _ (eE hlt)]
  exact zzc _ e
 exact lB λE' Q' q=>CY hp hcl hdat (by rw[<-rv.length];exact hz) (q _ _ (n6 I2 S rl rv hz hok k))
theorem Cb{K:Fg}:pK K (zm K) wC:=by
 intro G F Z H ρ xs ds res Q S o e k
 unfold wC at e
 split at e
 ·rename_i d
  split at e
  ·rename_i es hes
   split at e
   ·rename_i hok
    cases e
    obtain⟨v,r,rfl,ho,hr⟩:=aQ o
    obtain rfl:=bm hr
    refine⟨G,F,Z,ρ,v,d,es,rfl,S,ho,hes,hok,λl vs hl rp=>?_⟩
    obtain⟨S2,r2⟩:=S.newLst hl rp
    exact k _ F _ (Same.refl _) S2 r2
   ·cases e
  ·cases e
 ·cases e
end L4
namespace TS
open PySem PyProof.Rows
variable {es:Array DictEntry}{ep:Nat}
def DR(h:Heap)(d:Addr)(es:Array DictEntry)(ep:Nat):Prop:=∃o,h.get? d=some o/\o.ExactDict/\o.data=.dict es ep
theorem DR.ty{s:Shared}{d:Addr}(x:DR s.heap d es ep):s.TypeIs (.ref d) "dict":=let ⟨o,e,c,_⟩:=x;⟨o,e,c.1⟩
theorem DR.kp{h h':Heap}{d:Addr}(x:DR h d es ep)(k:∀o,h.get? d=some o->h'.get? d=some o):DR h' d es ep:=let ⟨o,e,r⟩:=x;⟨o,k o e,r⟩
section
variable {prog:Program} {w:World} {A:Around} {E:zzj} {s:Shared} {d it:Addr} {i:Nat}
theorem CH{Q:zzj}(lo:(d==sysModules)=false)(x:DR s.heap d es ep)(q:Q (.ref s.heap.objs.size) { s with heap:=s.heap.push { cls:=.type "dict_keyiterator",data:=.fields #[.ref d,.int 0 0,.int es.size 0,.int ep 0] } }) :
  wpAny (model prog w) A (pyIter (.ref d)) Q E s:=by
 obtain⟨o,e1,e2,e3⟩:=id x
 refine wpAny_pyIter_slot x.ty F.slot_dict_iter (wd F.slot_dict_iter x.ty F.entry_dict_iter ?_ (F.args_dict_iter_1 _))
 unfold Builtin.«dict.__iter__»
 refine zza ?_
 unfold Builtin.Dict.dictSlotNone
 refine zza (wpAny_notOrdered_dict x.ty (show wpAny (model prog w) _ (pure (Value.ref d)) _ _ s from zzb ?_))
 refine(show wpAny (model prog w) _ (Builtin.Dict.showsAll d >>= _) _ _ s from ?_)
 unfold Builtin.Dict.showsAll
 rw[am (by rw[lo];decide)]
 refine zza (zzb (zza (wpAny_dictEntries e1 e3 (zza (wpAny_dictEpoch e1 e3 (zza (pi (zzb ⟨_,rfl, "dict_keyiterator",_,⟨_,zze _ rfl,rfl⟩,F.slot_dict_keyiterator_next.lookup,?_⟩))))))))
 simpa[rawInt]using q
theorem vX{n:Nat}{Q:Option Value->Shared->Prop}(hit:s.heap.IsKeyIter it d i es.size ep)(x:DR s.heap d es ep)
  (q1:∀(hi:i<es.size) (h':Heap),h'.IsKeyIter it d (i+1) es.size ep->Heap.SameBut it s.heap h'->Q (some es[i].key) { s with heap:=h' })
  (q2:es.size<=i->A.handled=none/\∀h',Heap.ExtBut it s.heap h'->Q none { s with heap:=h' }):wpAny (model prog w) A (pyNext (.ref it)) Q E s:=by
 obtain⟨o,ho,hc,hd⟩:=id hit
 obtain⟨od,f1,f2,f3⟩:=id x
 have T:=hit.typeIs
 have no:Builtin.Dict_items.ownsTuple "dict_keyiterator" = false:=by decide
 have pos:¬ ((i:Int)<0):=by lia
 unfold pyNext
 refine zza (Ky (se (name:=Str.ofString "__next__") T F.slot_dict_keyiterator_next (wd F.slot_dict_keyiterator_next T F.entry_dict_keyiterator_next ?_ (F.args_dict_keyiterator_next_1 _))))
 refine zza (zzb (zza (zza (zza (Ka T (zzb (zza (wpAny_fieldsOf ho hd ?_))))))))
 simp only[no,JR,JU]
 refine(show wpAny (model prog w) _ (if(Value.ref d==Value.none)=true then _ else _) _ _ s from ?_)
 rw[am (show ¬ ((Value.ref d==Value.none)=true)from λz=>Bool.noConfusion z)]
 refine zza (zzb (zza (wpAny_dictEntries f1 f3 ?_)))
 rw[am (by simp)]
 refine zza (zzb (zza (wpAny_dictEpoch f1 f3 ?_)))
 rw[am (by simp)]
 refine zzb ?_
 by_cases hi:i<es.size
 ·simp only[pos,JU,J0,ac hi]
  refine zza (zza (Ka T (zzb (zza (wpAny_isOneOf_keyiter T ?_)))))
  refine(show wpAny (model prog w) _ (setField (.ref it) 1 (rawInt ((i:Int)+1)) >>= _) _ _ s from zza (Cr ho hd (by simp) ?_))
  have hit':(s.heap.update it (Obj.mapFields (·.setIfInBounds 1 (rawInt ((i:Int)+1))))).IsKeyIter it d (i+1) es.size ep :=
   ⟨_,ue _ ho (yi (oR hd _)),(Ks ..).trans hc,by rw[oR hd];simp[rawInt]⟩
  refine zza (sk (zza (wpAny_isOneOf_keyiter (s:={ s with heap:=s.heap.update it (Obj.mapFields (·.setIfInBounds 1 (rawInt ((i:Int)+1)))) }) hit'.typeIs ?_)))
  refine(show wpAny (model prog w) _ (pure es[i].key) _ _ _ from zzb (zzb ⟨_,rfl,zzb (q1 hi _ hit' (Heap.SameBut.update ..))⟩))
 ·obtain⟨hh,q⟩:=q2 (by lia)
  simp only[pos,JU,J0,Array.getElem?_eq_none (show es.size<=i by lia)]
  refine zza (zza (Ka T (zzb ?_)))
  refine(show wpAny (model prog w) _ (setField (.ref it) 0 .none >>= _) _ _ s from zza (Cr ho hd (by simp) ?_))
  refine(show wpAny (model prog w) _ (newExc (.type "StopIteration") [] >>= _) _ _ _ from zza ?_)
  simp only[newExc,newTuple]
  refine zza (pi ?_ (by size_fits))
  refine zza (m:=firstArgMember _ _) (wpAny_of_eq (a:=Value.none) (by first|rfl|(simp only[firstArgMember];rfl)) ?_)
  refine pi ?_ (by size_fits)
  simp only[raiseNew]
  refine zza (wpAny_handled ?_)
  rw[show A.in1.handled=none from hh]
  refine zza (zzb (wpAny_throw ?_))
  refine zza (KF (T := "StopIteration") (b:=true) (by exact⟨_,zze _ rfl,rfl⟩) isSubtype_stop ?_)
  exact zzb (q _ (((Heap.SameBut.update ..).extBut.push _).push _))
theorem rc(lo:(d==sysModules)=false):PySem.W.KdlSrc prog w "dict" d d es.size (λi v=>∃e,es[i]? = some e/\v=e.key) (λh=>DR h d es ep) where
 type:=λ_ x=>x.ty
 there:=λh x=>let ⟨_,e,_⟩:=x;⟨ay e,ay e⟩
 keep:=λ_ _ x k=>x.kp λo e=>k d (.inl rfl) o e
 notList:=by decide
 notTuple:=by decide
 hint:=λ_ _ _ _ x q=>PySem.W.kdl_hint_dict x.ty q
 iter:=λA s hh x=>by
  have hne:d≠s.heap.objs.size:=by obtain⟨_,e,_⟩:=x;exact eE (ay e)
  refine⟨_,λi h=>h.IsKeyIter s.heap.objs.size d i es.size ep/\DR h d es ep,λE Q q=>CH lo x q,⟨?_,?_,?_,?_,?_⟩,⟨_,zze _ rfl,rfl,rfl⟩,x.kp λo e=>zzc _ e⟩
  ·intro b hb
   rw[List.mem_singleton.mp hb]
   exact ce
  ·intro i h h' st k
   exact⟨st.1.at λo e=>k _ ce o e,st.2.kp λo e=>k d (by simp) o e⟩
  ·intro i s1 Q E hi st q
   refine vX (n:=0) st.1 st.2 (λhi h' a1 a2=>q _ h' s1.toks ⟨_,ac hi,rfl⟩ ⟨a1,st.2.kp λo e=>a2.extBut d o hne e⟩ λb o hb e=>a2.extBut b o (λz=>hb (by simp[z])) e) λz=>absurd hi (by lia)
  ·intro s1 Q E st q
   exact vX (n:=0) st.1 st.2 (λhi=>absurd hi (pr _)) λ_=>⟨hh,λh' a=>q h' s1.toks λb o hb e=>a b o (λz=>hb (by simp[z])) e⟩
  ·intro i s1 Q E st q
   exact wpAny_pyIter_keyiter st.1 q
end
end TS
namespace L4
open PySem PySem.Spec PyProof.Rows L2 L3 TS
variable {K:Fg}{X:Cx}{G:Gh}{F H:Hp}{Z:L2.St}{ρ:En}{w:World}
theorem _root_.L3.StOk.seeT(S:StOk K G F Z H ρ){b:Addr}{vs:List V}{ds:List D}(hb:H b=some (.tup vs))(r:RepL K F vs ds):∃F',Same F F'/\StOk K G F' Z H ρ/\Rep K F' (.ref b) (.tuple ds):=by
 cases e:F b with
 | some o =>
  have:=S.fh b o e
  rw[hb]at this
  cases this
  exact⟨F,Same.refl _,S,.tup e r⟩
 | none =>
  have og:G.O b=none:=by
   cases q:G.O b with
   | none=>rfl
   | some o =>
    have:=S.oh b o q
    rw[hb]at this
    cases this
    exact((S.fo b _ q).2:False).elim
  refine⟨upd F b (.tup vs),bL e,S.freeze hb e og (λi c ho z=>?_),.tup aB (r.mono (bL e))⟩
  obtain⟨a,e1,oa⟩:=S.ow i c ho
  rw[z]at e1
  injection e1 with e1;injection e1 with e1;injection e1 with e1
  subst e1
  exact(oa.he.notup hb:False)
theorem BJ:∀k:Key,Rep K F (kV k) (L3.keyD k)
 | .inl i=>.int i
 | .inr x=>.str x
theorem lK{K:Fg}{F:Hp}:∀ks:List Key,RepL K F (ks.map kV) (ks.map L3.keyD)
 | []=>.nil
 | k::ks=>.cons (BJ k) (lK ks)
theorem yZ:∀{kvs:List (List Key×V)} {xs:List (List Key×Addr×Value)} {F:Hp},KT H kvs xs->StOk K G F Z H ρ ->
  ∃F',Same F F'/\StOk K G F' Z H ρ/\RepL K F' (xs.map λq=>V.ref q.2.1) (kvs.map λp=>g7 p.1)/\Vals (xs.map λq=>V.ref q.2.1) (xs.map λq=>Value.ref q.2.1):=by
 intro kvs xs F r S
 induction r generalizing F with
 | nil=>exact⟨F,Same.refl _,S,.nil,.nil⟩
 | @cons p q ps qs h t ih =>
  obtain⟨h1,h2,h3⟩:=h
  obtain⟨F1,s1,S1,r1⟩:=S.seeT h2 (lK p.1)
  obtain⟨F2,s2,S2,r2,v2⟩:=ih S1
  exact⟨F2,s1.trans s2,S2,.cons (r1.mono s2) r2,.cons rfl v2⟩
theorem zf{P:Program}{k:Key}{u:Value}(r:(aX P w).is k u=true):RelV (kV k) u:=by
 rcases br (k:=k) (v:=u) r with ⟨i,t,rfl,rfl⟩|⟨i,t,rfl,rfl⟩
 ·exact⟨t,rfl⟩
 ·exact⟨t,rfl⟩
theorem tI{P:Program}:∀{es:List DictEntry} {vs:List (Key×Value)},Pairs (aX P w) es vs->Vals (vs.map λp=>kV p.1) (es.map (·.key)):=by
 intro es vs r
 induction r with
 | nil=>exact .nil
 | cons a b _ ih=>exact .cons (zf a) ih
theorem Cz{κ:Type}{kvs:List (κ×V)}{vs:List (κ×Value)}(r:KV kvs vs):Vals (kvs.map (·.2)) (vs.map (·.2))/\kvs.map (·.1)=vs.map (·.1):=by
 unfold KV at r
 induction r with
 | nil=>exact⟨.nil,rfl⟩
 | cons h t ih=>exact⟨.cons h.2 ih.1,by rw[bj,bj,h.1,ih.2]⟩
theorem o7{pins:zzk}{σ':L2.St}{s:Shared}{x:V}{es:List (D×D)}(I:Inv X pins Z H s)(S:StOk X.K G F σ' H ρ)(ho:OR X.K F H x (.dict es))(hnx:d9 es=false) :
  ∃a F' vs ds ep,x=.ref a/\Same F F'/\StOk X.K G F' σ' H ρ/\(a==sysModules)=false/\DR s.heap a ds ep/\ds.size<=sizeLine/\vs.length=ds.size/\Vals vs (ds.toList.map (·.key))/\RepL X.K F' vs (es.map (·.1)):=by
 obtain⟨a,rfl,⟨kvs,h1,h2,h3⟩|⟨kvs,h1,h2,h3⟩⟩:=ho.dict S.fh hnx
 ·obtain⟨z,y,xs,kt,o,ds,ep,e1,e2,e3,e4,_⟩:=mX I.hok h1
  obtain⟨F',s1,S1,r1,v1⟩:=yZ kt S
  have el:ds.size=kvs.length:=by
   rw[<-fu,e4,zzd]
   have:=r1.length
   rw[zzd,zzd]at this
   exact this
  refine⟨a,F',_,ds,ep,rfl,s1,S1,y,⟨o,e1,e2,e3⟩,by lia,?_,?_,by rw[h2];exact r1⟩
  ·rw[zzd,el]
   have:=r1.length
   rw[zzd,zzd]at this
   exact this
  ·rw[e4,wP]
   exact v1
 ·obtain⟨z,y,vs,kv,o,ds,ep,e1,e2,e3,e4,e5,_⟩:=sK I.hok h1
  obtain⟨_,ek⟩:=Cz kv
  have vp:=tI e5
  have el:ds.size=kvs.length:=by
   have:=vp.length
   simp only[zzd,fu]at this
   have e:=congrArg List.length ek
   rw[zzd,zzd]at e
   lia
  refine⟨a,F,kvs.map λp=>kV p.1,ds,ep,rfl,Same.refl _,S,y,⟨o,e1,e2,e3⟩,by lia,by rw[zzd];lia,?_,?_⟩
  ·have e:=congrArg (List.map kV) ek
   rw[wP,wP]at e
   have e':kvs.map (λp=>kV p.1)=vs.map (λp=>kV p.1):=e
   rw[e']
   exact vp
  ·rw[h2]
   have e:kvs.map (λp=>kV p.1)=(kvs.map (·.1)).map kV:=by rw[wP];rfl
   have e':kvs.map (λp=>L3.keyD p.1)=(kvs.map (·.1)).map L3.keyD:=by rw[wP];rfl
   rw[e,e']
   exact lK _
theorem mM{ds:Array DictEntry}{acc:Array Value}(h:ItemsOf (λi v=>∃e,ds[i]? = some e/\v=e.key) acc ds.size):acc.toList=ds.toList.map (·.key):=by
 apply JZ
 intro j
 rw[ug,nu,ug]
 cases q:acc[j]? with
 | some v =>
  obtain⟨e,e1,rfl⟩:=h.2 j v q
  rw[e1];rfl
 | none =>
  have:ds.size<=j:=by rw[<-h.1];exact Array.getElem?_eq_none_iff.mp q
  rw[Array.getElem?_eq_none this];rfl
def tV(K:Fg):List V->Hp->VK->Prop:=λxs H Q=>∃(G:Gh) (F:Hp) (Z:L2.St) (ρ:En) (x:V) (es:List (D×D)),xs=[x]/\StOk K G F Z H ρ/\OR K F H x (.dict es)/\d9 es=false /\
 ∀l vs F',H l=none->Same F F'->StOk K G F' Z H ρ->RepL K F' vs (es.map (·.1))->Q (.ref l) (upd H l (.lst vs))
theorem uR(hc:X.calm=true):CallR X (.type "list") (tV X.K):=by
 intro pins s Z H xs us Q I r h0
 obtain⟨G,F,σ',ρ,x,es,rfl,S,ho,hnx,k⟩:=h0
 obtain⟨u,rfl,ru⟩:=L2.Vals.one r
 obtain⟨a,F',vs,ds,ep,rfl,s1,S1,lo,dr,hz,hl,rv,rl⟩:=o7 I S ho hnx
 cases ru
 refine PySem.W.kdl_call (rc lo) (I.ok.hd hc) dr hz λh' tk acc c kp e it=>?_
 refine⟨.ref s.heap.objs.size,upd H s.heap.objs.size (.lst vs),I.laid (t':=tk) kp (ai _) ⟨by rw[hl];exact hz,acc.toList,c,by rw[mM it];exact rv,by rw[Array.toArray_toList];exact e⟩,rfl,k _ _ _ (I.hok.fresh (ai _)) s1 S1 rl⟩
def hV:List D->Option (List D)
 | [.dict es]=>if d9 es then none else some (es.map (·.1))
 | l=>wH l
theorem nj(hc:X.calm=true):CallR X (.type "list") (λxs H Q=>(∃p ys,xs=[.ref p]/\(SqL X.K H p ys\/SqT X.K H p ys)/\∀l,H l=none->Q (.ref l) (upd H l (.lst ys)))\/tV X.K xs H Q):=CallR.or qA (uR hc)
theorem rM:pK K (λxs H Q=>(∃p ys,xs=[.ref p]/\(SqL K H p ys\/SqT K H p ys)/\∀l,H l=none->Q (.ref l) (upd H l (.lst ys)))\/tV K xs H Q) hV:=by
 intro G F Z H ρ xs ds res Q S o e k
 by_cases hd:∃es,ds=[.dict es]
 ·obtain⟨es,rfl⟩:=hd
  cases hnx:d9 es with
  | true=>simp[hV,hnx]at e
  | false =>
  have e:some (es.map (·.1))=some res:=by simpa[hV,hnx]using e
  cases e
  obtain⟨v,r,rfl,ho,hr⟩:=aQ o
  obtain rfl:=bm hr
  refine .inr ⟨G,F,Z,ρ,v,es,rfl,S,ho,hnx,λl vs F' hl s1 S1 rp=>?_⟩
  obtain⟨S2,r2⟩:=S1.newLst hl rp
  exact k _ F' _ s1 S2 r2
 ·have e':wH ds=some res:=by
   rw[<-e]
   unfold hV
   split
   ·rename_i es;exact absurd ⟨es,rfl⟩ hd
   ·rfl
  exact .inl (Cg G F Z H ρ xs ds res Q S o e' k)
theorem AR{prog:Program}{A:Around}{E:zzj}{s:Shared}{T:String}{r d:Addr}{n:Nat}{P:Nat->Value->Prop}{OK:Heap->Prop}{Q:List Value->Shared->Prop}(K:PySem.W.KdlSrc prog w T r d n P OK)(hh:A.handled=none)(hok:OK s.heap)(hn:n<=sizeLine)
  (q:∀h' tk acc,(∀b o,s.heap.get? b=some o->h'.get? b=some o)->ItemsOf P acc n->Q acc.toList { s with heap:=h',toks:=tk }):wpAny (model prog w) A (collect (.ref r)) Q E s:=by
 have hlt:=K.there _ hok
 have e0:(s.heap.push (seqObj "list" #[] 0)).get? s.heap.objs.size=some (seqObj "list" #[] 0):=zze _ rfl
 have key:∀R:Result->Shared->Prop,(∀h' tk acc c,(∀b o,s.heap.get? b=some o->h'.get? b=some o)->h'.get? s.heap.objs.size=some { cls:=.type "list",dict:=none,data:=.seq acc c,slots:=#[] }->ItemsOf P acc n->R (.ok (.ret (.ref s.heap.objs.size))) { s with heap:=h',toks:=tk }) ->
   codeAny (model prog w) A (.builtin "proto.collect" ⟨[.ref r],[]⟩) R s:=λR hR=>by
  refine JP entry_proto_collect' ?_
  rw[Kf PySem.F.plain_proto_collect _]
  show wpAny (model prog w) A.in1 (newList [] >>= λx=>again (.builtin "list.__iadd__" ⟨[x,.ref r],[]⟩)) _ _ s
  refine zza (wpAny_newList (zzb ⟨Kn _ (by decide +kernel),JP entry_list_iadd' ?_⟩))
  rw[Kf PySem.F.plain_list_iadd _]
  show wpAny (model prog w) A.in1 (Builtin.List.listExtendWith (.ref s.heap.objs.size) (.ref r) (.ref s.heap.objs.size)) _ _ { s with heap:=s.heap.push (seqObj "list" #[] 0) }
  exact PySem.W.kdl_extend (s:={ s with heap:=s.heap.push (seqObj "list" #[] 0) }) K hh (K.keep _ _ hok λb _ o e=>zzc _ e) _ (xz hlt.1) (xz hlt.2) _ 0 e0 (λh' tk acc c kp e it=>hR h' tk acc c (λb o z=>kp b o (eE (ay z)) (zzc _ z)) e it) hn
 unfold collect
 refine zza (wpAny_runValue (key _ λh' tk acc c kp e it=>?_))
 show wpAny (model prog w) A (load s.heap.objs.size >>= _) _ _ _
 exact zza (wpAny_load e (zzb (q h' tk acc kp it)))
def zl(K:Fg):List V->Hp->VK->Prop:=λxs H Q=>zm K xs H Q\/∃(G:Gh) (F:Hp) (Z:L2.St) (ρ:En) (x:V) (es:List (D×D)),xs=[x]/\StOk K G F Z H ρ/\OR K F H x (.dict es)/\d9 es=false/\bQ (es.map (·.1))=true /\
 ∀l vs F',H l=none->Same F F'->StOk K G F' Z H ρ->RepL K F' vs (bE (es.map (·.1)))->Q (.ref l) (upd H l (.lst vs))
theorem m9(hc:X.calm=true):CallR X (.builtin "sorted") (zl X.K):=by
 intro pins s Z H xs us Q I r h0
 rcases h0 with h0|⟨G,F,σ',ρ,x,es,rfl,S,ho,hnx,hok,k⟩
 ·exact yq pins s Z H xs us Q I r h0
 obtain⟨u,rfl,ru⟩:=L2.Vals.one r
 obtain⟨a,F',vs,ds,ep,rfl,s1,S1,lo,dr,hz,hl,rv,rl⟩:=o7 I S ho hnx
 cases ru
 refine lB λE' Q' q=>AR (rc lo) (I.ok.hd hc) dr hz λh' tk acc kp it=>q _ _ ?_
 have I2:Inv X pins Z H { s with heap:=h',toks:=tk }:=I.kept (t':=tk) kp
 refine n6 I2 S1 rl (by rw[mM it];exact rv) (by rw[hl];exact hz) hok λl vs hl rp=>k l vs F' hl s1 S1 rp
def hU:List D->Option (List D)
 | [.dict es]=>if d9 es then none else if bQ (es.map (·.1))then some (bE (es.map (·.1)))else none
 | l=>wC l
theorem rJ:pK K (zl K) hU:=by
 intro G F Z H ρ xs ds res Q S o e k
 by_cases hd:∃es,ds=[.dict es]
 ·obtain⟨es,rfl⟩:=hd
  cases hnx:d9 es with
  | true=>simp[hU,hnx]at e
  | false =>
  have e':(if bQ (es.map (·.1))then some (bE (es.map (·.1)))else none)=some res:=by simpa[hU,hnx]using e
  split at e'
  ·rename_i hok
   cases e'
   obtain⟨v,r,rfl,ho,hr⟩:=aQ o
   obtain rfl:=bm hr
   refine .inr ⟨G,F,Z,ρ,v,es,rfl,S,ho,hnx,hok,λl vs F' hl s1 S1 rp=>?_⟩
   obtain⟨S2,r2⟩:=S1.newLst hl rp
   exact k _ F' _ s1 S2 r2
  ·cases e'
 ·have e':wC ds=some res:=by
   rw[<-e]
   unfold hU
   split
   ·rename_i es;exact absurd ⟨es,rfl⟩ hd
   ·rfl
  exact .inl (Cb G F Z H ρ xs ds res Q S o e' k)
end L4
namespace L4
open PySem PySem.Spec PyProof.Rows L2 L3
variable {X:Cx}{K:Fg}{x qual p0 p1 c:Str}{pos p p2:Pos}{f:Addr}{fd:FuncData}{F H:Hp}{st:Stmt}{e ke ve:Expr}{Z:L2.St}{α S:Type}{i:Int}{n j:Nat}{v:V}{ts es:List Expr}{s:Shared}{E:zzj}{G:Gh}{ρ:En}{cs ps:List Str}
theorem Cq{us:List α}(h:us.length=n+1):∃a r,us=a::r/\r.length=n:=by
 cases us with
 | nil=>exact absurd h (Nat.succ_ne_zero n).symm
 | cons a r=>exact⟨a,r,rfl,Nat.succ.inj h⟩
theorem HJ{us:List α}(h:us.length=1):∃a0,us=[a0]:=by
 obtain⟨a0,r,rfl,h0⟩:=Cq h
 obtain rfl:=List.eq_nil_of_length_eq_zero h0
 exact⟨a0,rfl⟩
theorem HI{us:List α}(h:us.length=2):∃a0 a1,us=[a0,a1]:=by
 obtain⟨a0,r,rfl,h0⟩:=Cq h
 obtain⟨a1,rfl⟩:=HJ h0
 exact⟨a0,a1,rfl⟩
theorem HH{us:List α}(h:us.length=3):∃a0 a1 a2,us=[a0,a1,a2]:=by
 obtain⟨a0,r,rfl,h0⟩:=Cq h
 obtain⟨a1,a2,rfl⟩:=HI h0
 exact⟨a0,a1,a2,rfl⟩
theorem Je{us:List α}(h:us.length=4):∃a0 a1 a2 a3,us=[a0,a1,a2,a3]:=by
 obtain⟨a0,r,rfl,h0⟩:=Cq h
 obtain⟨a1,a2,a3,rfl⟩:=HH h0
 exact⟨a0,a1,a2,a3,rfl⟩
theorem Ge(F:Fun K x qual st f fd)
  (h:∀(kV doc pm:Value) (an:Option Addr) (cdv ct:Value) (u0:Value),bindArgs (PySem.W.fnOf x qual (bD st) (aZ st) (au st) .none kV doc pm an cdv ct) ⟨[u0],[]⟩=pure (List.zip [p0] [u0])):Binds K fd [p0] [] :=
 F.binds λa b c d e g us hl=>by obtain⟨u0,rfl⟩:=HJ hl;exact h a b c d e g u0
theorem nP(F:Fun K x qual st f fd)
  (h:∀(kV doc pm:Value) (an:Option Addr) (cdv ct:Value) (u0 u1:Value),bindArgs (PySem.W.fnOf x qual (bD st) (aZ st) (au st) .none kV doc pm an cdv ct) ⟨[u0,u1],[]⟩=pure (List.zip [p0,p1] [u0,u1])):Binds K fd [p0,p1] [] :=
 F.binds λa b c d e g us hl=>by obtain⟨u0,u1,rfl⟩:=HI hl;exact h a b c d e g u0 u1
theorem AY{p2:Str}(F:Fun K x qual st f fd)
  (h:∀(kV doc pm:Value) (an:Option Addr) (cdv ct:Value) (u0 u1 u2:Value),bindArgs (PySem.W.fnOf x qual (bD st) (aZ st) (au st) .none kV doc pm an cdv ct) ⟨[u0,u1,u2],[]⟩=pure (List.zip [p0,p1,p2] [u0,u1,u2])):Binds K fd [p0,p1,p2] [] :=
 F.binds λa b c d e g us hl=>by obtain⟨u0,u1,u2,rfl⟩:=HH hl;exact h a b c d e g u0 u1 u2
theorem Jr{p2 p3:Str}(F:Fun K x qual st f fd)
  (h:∀(kV doc pm:Value) (an:Option Addr) (cdv ct:Value) (u0 u1 u2 u3:Value),bindArgs (PySem.W.fnOf x qual (bD st) (aZ st) (au st) .none kV doc pm an cdv ct) ⟨[u0,u1,u2,u3],[]⟩=pure (List.zip [p0,p1,p2,p3] [u0,u1,u2,u3])):Binds K fd [p0,p1,p2,p3] [] :=
 F.binds λa b c d e g us hl=>by obtain⟨u0,u1,u2,u3,rfl⟩:=Je hl;exact h a b c d e g u0 u1 u2 u3
theorem iQ{K:Fg}{F:Hp}:∀{vs:List V} {ds:List D},RepL K F vs ds->RepL K F vs.dropLast ds.dropLast
 | _,_,.nil=>.nil
 | _,_,.cons h .nil=>.nil
 | _,_,.cons h (.cons h2 t)=>by
  rw[List.dropLast_cons₂,List.dropLast_cons₂]
  exact .cons h (iQ (.cons h2 t))
def g9(tb:List (Str×Bool)):D->Option Bool
 | .dict ((.none,.str c)::_)=>tb.lookup c
 | _=>none
def rD(tb:List (Str×Bool))(p:Pu D):Pu Bool:=λρ=>bd (p ρ) λd=>oM (g9 tb d)
def Inst1(K:Fg)(cv:Value):List (Str×Bool)->Prop
 | []=>True
 | (c,b)::r=>(∃C,PySem.W.nsIn K mainGlobals c=some (some (.ref C))/\PySem.W.kitOne K (.ref C) cv=some b)/\Inst1 K cv r
def InstT(K:Fg)(its:List Value):List (Str×Bool)->Prop
 | []=>True
 | (c,b)::r=>(∃C,PySem.W.nsIn K mainGlobals c=some (some (.ref C))/\PySem.W.kitAny K (.ref C) its=some b)/\InstT K its r
theorem Inst1.at{K:Fg}{cv:Value}:∀{tb:List (Str×Bool)} {c:Str} {b:Bool} {C:Addr},Inst1 K cv tb->tb.lookup c=some b->PySem.W.nsIn K mainGlobals c=some (some (.ref C))->PySem.W.kitOne K (.ref C) cv=some b
 | (d,b')::r,c,b,C,h,l,n=>by
  rw[wn]at l
  cases q:c==d with
  | true =>
   rw[q]at l
   cases l
   have:c=d:=by simpa using q
   subst this
   obtain⟨⟨C',n',k⟩,_⟩:=h
   rw[n]at n'
   cases n'
   exact k
  | false=>rw[q]at l;exact Inst1.at h.2 l n
theorem InstT.at{K:Fg}{its:List Value}:∀{tb:List (Str×Bool)} {c:Str} {b:Bool} {C:Addr},InstT K its tb->tb.lookup c=some b->PySem.W.nsIn K mainGlobals c=some (some (.ref C))->PySem.W.kitAny K (.ref C) its=some b
 | (d,b')::r,c,b,C,h,l,n=>by
  rw[wn]at l
  cases q:c==d with
  | true =>
   rw[q]at l
   cases l
   have:c=d:=by simpa using q
   subst this
   obtain⟨⟨C',n',k⟩,_⟩:=h
   rw[n]at n'
   cases n'
   exact k
  | false=>rw[q]at l;exact InstT.at h.2 l n
theorem Aw{es:List (D×D)}(r:Rep K F v (.dict ((.none,.str c)::es))):∃a C dd fv,v=.ref a/\F a=some (.ext (XO a C dd))/\XQ K C c/\FX F dd fv/\es.map (·.1)=fv.map (λp=>.str p.1)/\RepL K F (fv.map (·.2)) (es.map (·.2)):=by
 cases r with
 | dct _ h _=>exact absurd (qm h) (by simp[d9])
 | dck _ h _=>exact absurd (qo h) (by simp[d9])
 | exc h1 q fx h2 h3=>exact⟨_,_,_,_,rfl,h1,q,fx,h2,h3⟩
theorem FX.xat{a C:Addr}{dd:Option Addr}{fv:List (Str×V)}(s:Same F H)(h1:F a=some (.ext (XO a C dd)))(fx:FX F dd fv):XAt H a C dd:=⟨s _ _ h1,λdx z=>by
 rcases fx with ⟨z',_⟩|⟨dx',z',y⟩
 ·rw[z']at z;cases z
 ·rw[z']at z;cases z;exact⟨_,s _ _ y⟩⟩
def EJ(K:Fg)(tb:List (Str×Bool))(vc:V):List V->Hp->VK->Prop:=λxs H Q=>∃v d b,xs=[v,vc]/\Rep K H v d/\g9 tb d=some b/\Q (.bl b) H
def EI(K:Fg)(tb:List (Str×Bool))(vcs:List V):List V->Hp->VK->Prop:=λxs H Q=>∃v p d b,xs=[v,.ref p]/\H p=some (.tup vcs)/\Rep K H v d/\g9 tb d=some b/\Q (.bl b) H
theorem oS{tb:List (Str×Bool)}{d:D}{b:Bool}(h:g9 tb d=some b):∃c es,d=.dict ((.none,.str c)::es)/\tb.lookup c=some b:=by
 unfold g9 at h
 split at h
 ·exact⟨_,_,rfl,h⟩
 ·cases h
theorem uU{tb:List (Str×Bool)}{vc:V}{cv:Value}(hv:RelV vc cv)(hu:∀u,RelV vc u->u=cv)(ht:Inst1 X.K cv tb):CallR X (.builtin "isinstance") (EJ X.K tb vc):=by
 intro pins s Z H xs us Q I r h
 obtain⟨v,d,b,rfl,rp,hb,q⟩:=h
 obtain⟨u,w,rfl,ru,rw'⟩:=vals2 r
 have:=hu w rw'
 subst this
 obtain⟨c,es,rfl,hl⟩:=oS hb
 obtain⟨a,C,dd,fv,rfl,h1,xq,fx,_,_⟩:=Aw rp
 cases ru
 obtain⟨D,fI,xc⟩:=xq.xc
 exact mN I xc xq.kc (fx.xat (Same.refl _) h1) (ht.at hl xq.ns) λtk=>⟨.bl _,H,I.tok tk,rfl,q⟩
theorem uT{tb:List (Str×Bool)}{vcs:List V}{its:List Value}(hu:∀us,Vals vcs us->us=its)(ht:InstT X.K its tb):CallR X (.builtin "isinstance") (EI X.K tb vcs):=by
 intro pins s Z H xs us Q I r h
 obtain⟨v,p,d,b,rfl,hp,rp,hb,q⟩:=h
 obtain⟨u,w,rfl,ru,rw'⟩:=vals2 r
 cases rw'
 obtain⟨c,es,rfl,hl⟩:=oS hb
 obtain⟨a,C,dd,fv,rfl,h1,xq,fx,_,_⟩:=Aw rp
 cases ru
 obtain⟨D,fI,xc⟩:=xq.xc
 obtain⟨its',rv,⟨o,e1,e2,n',e3⟩,hz⟩:=I.tuple (SqT.of hp)
 have:=hu its' rv
 subst this
 obtain⟨cl,d1,da,sl⟩:=o
 dsimp only at e2 e3
 subst e2 e3
 exact sw I xc xq.kc (fx.xat (Same.refl _) h1) e1 (ht.at hl xq.ns) λtk=>⟨.bl _,H,I.tok tk,rfl,q⟩
def tCs:List V->TA
 | []=>GN
 | v::r=>Du (tC v) (tCs r)
theorem yT{Z:L2.St}{H:Hp}:∀{vs:List V} {Q:List V->Hp->Prop},Q vs H->tCs vs Z H Q
 | [],Q,h=>h
 | v::r,Q,h=>by
  show tCs r Z H λys H2=>Q (v::ys) H2
  exact yT h
section
variable {t:Expr} {p:Pu D} {p1:Pos} {tb:List (Str×Bool)} {x1:ExprContext}
theorem tB{vc:V}{cv:Value}(hv:RelV vc cv)(hu:∀u,RelV vc u->u=cv)(htb:Inst1 X.K cv tb)(hg:Gl X "isinstance")(hm:X.mg "isinstance" = none)(ht:PE X t (tC vc))(ha:AP X e p)(hs:starEach [e,t] X.env=(false,eval e X.env)::starEach [t] X.env)(hs2:starEach [t] X.env=(false,eval t X.env)::starEach [] X.env)
  (hpl:(backTo pos (starEach [t] X.env)).any (·.1)=false):AB X (.Call (.Name "isinstance" p1) [e,t] [] pos) (rD tb p) :=
 λG F Z H ρ Q S w=>sem (gS (uU hv hu htb) hg hm (by decide +kernel) (b6 aC (b6 ht gT hs2) hs) (by decide) (by decide) hs hpl) (ha G F Z H ρ _ S (w.bind.imp λd F1 H1 s1 S1 w1 v hv=>by
  obtain⟨b,hb,k⟩:=w1.opt
  exact⟨v,d,b,rfl,hv.mono S1.fh,hb,k F1 H1 (Same.refl _) S1⟩))
end
section
variable {p:Pu D} {p1:Pos} {tb:List (Str×Bool)}
theorem Bf{vcs:List V}{its:List Value}{x1}(hu:∀us,Vals vcs us->us=its)(htb:InstT X.K its tb)(hg:Gl X "isinstance")(hm:X.mg "isinstance" = none)(ht:PA X ts (tCs vcs))(hl:vcs.length<=1000)(ha:AP X e p)
  (hs:starEach [e,.Tuple ts x1 p2] X.env=(false,eval e X.env)::starEach [.Tuple ts x1 p2] X.env) (hs2:starEach [.Tuple ts x1 p2] X.env=(false,eval (.Tuple ts x1 p2) X.env)::starEach [] X.env)
  (hpl:(backTo pos (starEach [.Tuple ts x1 p2] X.env)).any (·.1)=false):AB X (.Call (.Name "isinstance" p1) [e,.Tuple ts x1 p2] [] pos) (rD tb p) :=
 λG F Z H ρ Q S w=>sem (gS (uT hu htb) hg hm (by decide +kernel) (b6 aC (b6 (zB ht) gT hs2) hs) (by decide) (by decide) hs hpl) (ha G F Z H ρ _ S (w.bind.imp λd F1 H1 s1 S1 w1 v hv=>by
  obtain⟨b,hb,k⟩:=w1.opt
  refine yT ⟨mJ hl,λq hq=>?_⟩
  have S2:=S1.lay (o:=.tup vcs) hq
  exact⟨v,q,d,b,rfl,aB,hv.mono S2.fh,hb,k F1 _ (Same.refl _) S2⟩))
end
abbrev _root_.L2.Cx.wishP(X:Cx)(E:zzj)(pn:zzk):Cx:={ X with xe:=E,pn:=pn }
section
variable {pins pins':zzk}
theorem _root_.L2.Inv.wishP(I:Inv X pins Z H s)(E:zzj):Inv (X.wishP E (X.pn++pins)) [] Z H s :=
 ⟨⟨I.ok.mod,I.ok.kind,I.ok.glob,I.ok.blt,I.ok.above,I.ok.inj,I.ok.has,I.ok.cab,I.ok.hd,I.ok.frames,I.ok.stk,I.ok.exf,I.ok.bs,I.ok.bsz,I.ok.noex,I.ok.exfs,I.ok.funs,I.ok.frf⟩,I.os,I.bare,I.base,I.loc,I.cell,I.free,I.freeC,λp hp=>I.pin p (by simpa using hp),I.hok,I.len⟩
theorem _root_.L2.Inv.unwishP(I:Inv (X.wishP E (X.pn++pins)) pins' Z H s):Inv X pins Z H s :=
 ⟨⟨I.ok.mod,I.ok.kind,I.ok.glob,I.ok.blt,I.ok.above,I.ok.inj,I.ok.has,I.ok.cab,I.ok.hd,I.ok.frames,I.ok.stk,I.ok.exf,I.ok.bs,I.ok.bsz,I.ok.noex,I.ok.exfs,I.ok.funs,I.ok.frf⟩,I.os,I.bare,I.base,I.loc,I.cell,I.free,I.freeC,λp hp=>I.pin p (zzh _ hp),I.hok,I.len⟩
theorem tP{Dd:Ends}{f:Flow}{s':Shared}(h:SP (X.wishP E (X.pn++pins)) [] Dd f s'):SP X pins Dd f s':=by
 cases f with
 | next=>obtain⟨σ',H',I,q⟩:=h;exact⟨σ',H',I.unwishP,q⟩
 | brk=>obtain⟨σ',H',I,q⟩:=h;exact⟨σ',H',I.unwishP,q⟩
 | cont=>obtain⟨σ',H',I,q⟩:=h;exact⟨σ',H',I.unwishP,q⟩
 | ret u=>obtain⟨v,σ',H',I,r,q⟩:=h;exact⟨v,σ',H',I.unwishP,r,q⟩
end
theorem _root_.L3.StOk.reB{B:Hp}(S:StOk K { G with B:=B } F Z H ρ)(h:Same G.B F):StOk K G F Z H ρ :=
 ⟨S.fh,S.oh,S.fo,S.ln,S.fz,λi c q=>by obtain⟨a,e,oa⟩:=S.ow i c q;exact⟨a,e,oa.nf,oa.no,oa.he⟩,S.dj,S.pp,S.pq,h⟩
theorem _root_.L3.StOk.toB(S:StOk K G F Z H ρ):StOk K { G with B:=F } F Z H ρ :=
 ⟨S.fh,S.oh,S.fo,S.ln,S.fz,λi c q=>by obtain⟨a,e,oa⟩:=S.ow i c q;exact⟨a,e,oa.nf,oa.no,oa.he⟩,S.dj,S.pp,S.pq,Same.refl _⟩
def Fh(ρ:En):Bool:=ρ.all λx=>match x with
 | some (.op _)=>false
 | _=>true
def jz(sh:List Kd):Bool:=sh.all λk=>match k with
 | .f=>true
 | .dead=>true
 | _=>false
theorem mr:∀{sh:List Kd} {s:SOf sh} {i:Nat} {av:AV},jz sh=true->(wr sh s)[i]? = some (some av)->∃d,av=.fz d
 | [],s,i,av,_,q=>by simp[wr]at q
 | .f::r,s,0,av,h,q=>by simp[wr]at q;exact⟨_,q.symm⟩
 | .f::r,s,i+1,av,h,q=>mr (sh:=r) (s:=s.2) (i:=i) (by simpa[jz]using h) (by simpa[wr]using q)
 | .dead::r,s,0,av,h,q=>by simp[wr]at q
 | .dead::r,s,i+1,av,h,q=>mr (sh:=r) (s:=s) (i:=i) (by simpa[jz]using h) (by simpa[wr]using q)
 | .o::r,s,i,av,h,q=>by simp[jz]at h
 | .p::r,s,i,av,h,q=>by simp[jz]at h
 | .t::r,s,i,av,h,q=>by simp[jz]at h
 | .k::r,s,i,av,h,q=>by simp[jz]at h
def oE{S:Type}(cs:List Str)(c:Str)(m:M S):M S:=match cs.contains c with
 | true=>m
 | false=>.bad
def Eg{S A B:Type}(m:M (A ⊕ (Ex×B)))(k:A->M S)(h:Ex->B->M S):M S:=bd m λr=>match r with
 | .inl a=>k a
 | .inr p=>h p.1 p.2
def onX{S T:Type}(h:Ex->M T)(m:M S)(k:S->M T):M T:=m.on h k
def KB(sh shx:List Kd):KS (SOf sh ⊕ (Ex×SOf shx)):=⟨rdk sh λs=>.ret (.inl s),λ_ _=>.bad,λ_ _=>.bad,λ_=>.bad,λ_=>.bad,λex ρ=>rdk shx (λs=>.ret (.inr (ex,s))) ρ⟩
def KH{S:Type}(j:Nat)(K:KS S):KS S:=⟨λρ=>K.nx (ρ.set j none),λ_ _=>.bad,λ_ _=>.bad,λ_=>.bad,λ_=>.bad,λ_ _=>.bad⟩
def Ew{S:Type}(j:Nat)(cs:List Str)(sh shx:List Kd)(mb:SM (SOf sh ⊕ (Ex×SOf shx)))(mh:SM S):SM S:=λK ρ=>match Fh ρ with
 | true=>Eg (mb (KB sh shx) ρ) (λs=>K.nx (wr sh s)) λex s=>oE cs ex.cls (mh (KH j K) ((wr shx s).set j (some (.fz (mV ex)))))
 | false=>.bad
def HandL(K:Fg)(hv:Value):List Str->Prop
 | []=>True
 | c::r=>(∃C,PySem.W.nsIn K mainGlobals c=some (some (.ref C))/\PySem.W.exmOne K (.ref C) hv=some true)/\HandL K hv r
theorem HandL.at{K:Fg}{hv:Value}:∀{cs:List Str} {c:Str} {C:Addr},HandL K hv cs->cs.contains c=true->PySem.W.nsIn K mainGlobals c=some (some (.ref C))->PySem.W.exmOne K (.ref C) hv=some true
 | d::r,c,C,h,l,n=>by
  rw[List.contains_cons,oC]at l
  rcases l with q|q
  ·have:c=d:=by simpa using q
   subst this
   obtain⟨⟨C',n',k⟩,_⟩:=h
   rw[n]at n'
   cases n'
   exact k
  ·exact HandL.at h.2 q n
section
variable {n:Str} {b0:Stmt} {body suite:List Stmt} {pC ph:Pos} {sh shx:List Kd} {hv:Value} {mb:SM (SOf sh ⊕ (Ex×SOf shx))} {mh:SM S}
theorem Gj(hmx:X.mg x=some hv)(hgx:Gl X x)(hcs:HandL X.K hv cs)(hb:∀E pn,ASs (X.wishP E pn) body mb)(hh:∀a,ASs (cau X a) (b0::suite) mh)(hF:jz shx=true)
  (hN:X.N.Nodup) (hj:X.N[j]? = some n) (hnl:X.env.scope.names.lookup n=some .local) (stk:X.stack=X.env::X.outer) (frm:X.env.frame=some X.env.locals) (hdx:(x==("__debug__" : Str))=false) :
  AS X (.Try body [.ExceptHandler (some (.Name x pC)) (some n) (b0::suite) ph] [] [] pos) (Ew j cs sh shx mb mh):=by
 intro OK K G F Z H ρ E hO hX St ok eo
 unfold Ew at ok
 cases hq:Fh ρ with
 | false=>rw[hq]at ok;exact(hO ok).elim
 | true =>
 rw[hq]at ok
 dsimp only at ok
 have noP:∀i a,G.P i≠some a:=λi a z=>by
  obtain⟨_,c,q⟩:=St.pp i a z
  unfold Fh at hq
  have:=List.all_eq_true.mp hq _ (ut q)
  cases this
 unfold jt
 intro pins s I
 rw[arm_exec_Try]
 refine zza (J6 (wpAny_tryStmt_except ?_))
 generalize hXE:(λ(e:Value) (s1:Shared)=>wpAny (model X.prog X.w) X.A (noteFrame e X.env) (λ_ s2=>wpAny (model X.prog X.w) X.A (setFlight e none) (λ_ s3=>wpAny (model X.prog X.w) X.A (handleBy e X.env [.ExceptHandler (some (.Name x pC)) (some n) (b0::suite) ph]) (SP X pins E) X.xe s3) X.xe s2) X.xe s1)=XE
 let E1:Ends:={ nx:=E.nx,rt:=λ_ _=>False,bk:=λ_ _=>False,ct:=λ_ _=>False }
 let OK1:M (SOf sh ⊕ (Ex×SOf shx))->Prop:=λm=>OK (Eg m (λs=>K.nx (wr sh s)) λex s=>oE cs ex.cls (mh (KH j K) ((wr shx s).set j (some (.fz (mV ex))))))
 have hO1:KOk OK1:=λz=>hO z
 have bsem:j9 (X.wishP XE (X.pn++pins)) body E1 Z H:=by
  refine hb XE (X.pn++pins) OK1 (KB sh shx) { G with B:=F } F Z H ρ E1 hO1 ?_ St.toB ok ⟨?_,λF' σ' H' ρ' d v s S' r o=>(hO1 o).elim,λF' σ' H' ρ' d v s S' r o=>(hO1 o).elim,λF' σ' H' ρ' s S' o=>(hO1 o).elim,λF' σ' H' ρ' s S' o=>(hO1 o).elim⟩
  ·
   intro F1 ρ1 ex o1
   intro F' H' s' a C dd pins' σ' g fz I' xs hp xr
   have o2:OK1 (rdk shx (λs=>.ret (.inr (ex,s))) ρ1):=o1
   unfold rdk at o2
   cases hr:rd shx ρ1 with
   | none=>rw[hr]at o2;exact(hO1 o2).elim
   | some sx =>
   rw[hr]at o2
   have o3:OK (oE cs ex.cls (mh (KH j K) ((wr shx sx).set j (some (.fz (mV ex)))))):=o2
   unfold oE at o3
   cases hc:cs.contains ex.cls with
   | false=>rw[hc]at o3;exact(hO o3).elim
   | true =>
   rw[hc]at o3
   dsimp only at o3
   have I2:Inv X pins σ' H' s':=I'.unwishP
   have hlo:X.s₀.heap.objs.size<=X.s₀.heap.objs.size:=ai _
   have hp2:∀p∈X.pn++pins,¬ iP s'.heap a p.1:=λp q=>hp p (zzh _ q)
   show XE (.ref a) s'
   subst hXE
   refine rS (lo:=X.s₀.heap.objs.size) (base:=X.base) (env:=X.env) (outer:=X.outer) (L:=X.env.locals) (P:=X.prog) (w:=X.w) (I2.ok.frames.trans (congrArg some stk)) (stk▸I2.stack) frm I2.hok xs λh3 m3 xs3 tn=>?_
   have I3:Inv X pins σ' H' { s' with heap:=h3 }:=Inv.mv I2 (by rw[stk];exact m3) xs xs3 hlo hp2 s'.toks
   have hp3:∀p∈X.pn++pins,¬ iP h3 a p.1:=λp q z=>absurd (du (ay (I2.pin p q).1) (tn _ z)) (pr _)
   refine yb (K:=X.K) (C:=C) (jG (X:=cau X a) (pc I3) hgx hmx ⟨I3.kIn,hcs.at hc xr.1.ns,?_,?_⟩ hdx)
   ·obtain⟨oe,_,q1,q2,_⟩:=xs3.obj
    exact⟨oe,q1,q2⟩
   refine flight_again (s:={ s' with heap:=h3 }) (frs X.stack) xs3 λh4 m4 xs4=>?_
   have I4:Inv X pins σ' H' { s' with heap:=h4 }:=Inv.mv (s:={ s' with heap:=h3 }) I3 m4 xs3 xs4 hlo hp3 s'.toks
   refine ju I4 hN hj (.inl hnl) (v:=.ref a) rfl (λs5 I5=>?_) (.inr hnl)
   have oa:G.O a=none:=by
    cases q:G.O a with
    | none=>rfl
    | some o =>
     have h1:=g.oh a o q
     rw[xs.trk]at h1
     cases h1
     exact((g.fo a _ q).2:False).elim
   obtain⟨F2,sm2,fh2,fo2,ra⟩:∃F2,Same F' F2/\Same F2 H'/\(∀b o,G.O b=some o->F2 b=none/\yG o)/\Rep X.K F2 (.ref a) (mV ex):=by
    cases q:F' a with
    | some o =>
     have h1:=g.fh a o q
     rw[xs.trk]at h1
     cases h1
     exact⟨F',Same.refl _,g.fh,g.fo,xr.rep q⟩
    | none =>
     have sm:=bL (F:=F') (o:=.ext (XO a C dd)) q
     refine⟨upd F' a (.ext (XO a C dd)),sm,λb u z=>?_,λb u z=>?_,(xr.mono sm).rep aB⟩
     ·by_cases y:b=a
      ·subst y;rw[aB]at z;cases z;exact xs.trk
      ·rw[aA y]at z;exact g.fh b u z
     ·rw[aA (aL z oa)];exact g.fo b u z
   have FB:Same F F':=g.fb
   have hjl:j<σ'.length:=by rw[I2.len];exact(List.getElem?_eq_some_iff.mp hj).1
   obtain⟨wl,w1,w2⟩:=gQ shx ρ1 sx hr
   have hjr:j<(wr shx sx).length:=by rw[wl,<-fz.ln];exact hjl
   have only:∀i av,((wr shx sx).set j (some (.fz (mV ex))))[i]? = some (some av)->∃d,av=AV.fz d:=λi av q=>by
    by_cases y:i=j
    ·rw[y,nc hjr]at q;injection q with q;injection q with q;exact⟨_,q.symm⟩
    ·rw[je (Ne.symm y)]at q;exact mr hF q
   have noown:∀i c,¬ own ((wr shx sx).set j (some (.fz (mV ex)))) i c:=λi c q=>by
    rcases q with q|q<;>(obtain⟨d,z⟩:=only i _ q;cases z)
   have S3:StOk X.K G F2 (σ'.set j (some (V.ref a))) H' ((wr shx sx).set j (some (.fz (mV ex)))):=by
    refine⟨fh2,g.oh,fo2,by simp[wl,fz.ln],λi d q=>?_,λi c q=>(noown i c q).elim,λi k c e b q=>(noown i c q).elim,λi b z=>(noP i b z).elim,λi c q=>?_,(St.fb.trans FB).trans sm2⟩
    ·by_cases y:i=j
     ·rw[y,nc hjr]at q
      injection q with q;injection q with q;injection q with q
      rw[<-q,y]
      exact⟨_,nc hjl,ra⟩
     ·rw[je (Ne.symm y)]at q
      obtain⟨v,e1,r1⟩:=fz.fz i d (w1 i _ q)
      exact⟨v,by rw[je (Ne.symm y)];exact e1,r1.mono sm2⟩
    ·obtain⟨d,z⟩:=only i _ q;cases z
   have suite':=hh a OK (KH j K) G F2 _ H' _ { nx:=λσ6 H6=>∃F6 ρ6,Same F2 F6/\StOk X.K G F6 σ6 H6 ρ6/\OK (K.nx (ρ6.set j none)),rt:=λ_ _=>False,bk:=λ_ _=>False,ct:=λ_ _=>False } hO (λ_ _ _ z=>(hO z).elim) S3 o3
    ⟨λF6 σ6 H6 ρ6 s6 S6 o6=>⟨F6,ρ6,s6,S6,o6⟩,λF' σ' H' ρ' d v s S' r o=>(hO o).elim,λF' σ' H' ρ' d v s S' r o=>(hO o).elim,λF' σ' H' ρ' s S' o=>(hO o).elim,λF' σ' H' ρ' s S' o=>(hO o).elim⟩
   unfold j9 at suite'
   refine r0 (suite' pins s5 (pc I5)) (λf s6 z=>?_) λ_ _ z=>z
   cases f with
   | next =>
    obtain⟨σ6,H6,I6,F6,ρ6,s6,S6,o6⟩:=z
    refine CK (uP I2.ok.hd I6) hN hj hnl λs7 I7=>⟨σ6.set j none,H6,I7,?_⟩
    have S7:StOk X.K G F6 σ6 H6 (ρ6.set j none):=by
     refine S6.weak (by simp) (λi av q=>?_) (λi c q=>?_)
     ·by_cases y:i=j
      ·rw[y,List.getElem?_set]at q
       simp at q
      ·rw[je (Ne.symm y)]at q;exact q
     ·obtain⟨b,z⟩:=S6.pq i c q
      exact(noP i b z).elim
    refine eo.nx F6 _ H6 (ρ6.set j none) ((FB.trans sm2).trans s6) (S7.setdead (λav q=>?_) none) o6
    rw[List.getElem?_set]at q
    simp at q
   | brk=>obtain⟨_,_,_,z⟩:=z;exact z.elim
   | cont=>obtain⟨_,_,_,z⟩:=z;exact z.elim
   | ret u=>obtain⟨_,_,_,_,_,z⟩:=z;exact z.elim
  ·intro F' σ' H' ρ' s1 S' o
   have o2:OK1 (rdk sh (λs=>.ret (.inl s)) ρ'):=o
   unfold rdk at o2
   cases hr:rd sh ρ' with
   | none=>rw[hr]at o2;exact(hO1 o2).elim
   | some sx =>
   rw[hr]at o2
   have S2:StOk X.K G F' σ' H' ρ':=S'.reB (St.fb.trans s1)
   exact eo.nx F' σ' H' (wr sh sx) s1 (S2.rd hr) o2
 unfold j9 at bsem
 refine r0 (bsem [] s (I.wishP XE)) (λf s1 z=>?_) λe s1 z=>by subst hXE;exact z
 have z2:=tP z
 cases f with
 | next=>exact Kg z2
 | brk=>obtain⟨_,_,_,z⟩:=z2;exact z.elim
 | cont=>obtain⟨_,_,_,z⟩:=z2;exact z.elim
 | ret u=>obtain⟨_,_,_,_,_,z⟩:=z2;exact z.elim
end
theorem zg{a:Addr}:∀u,RelV (.ref a) u->u=.ref a:=λu h=>h
theorem oq:∀{Cs:List Addr} (us:List Value),Vals (Cs.map V.ref) us->us=Cs.map Value.ref
 | [],us,h=>by cases h;rfl
 | C::r,us,h=>by
  rw[bj]at h
  cases h with
  | cons a b=>rw[oq _ b];cases a;rfl
def MgL(mg:zzl):List Str->List Addr->Prop
 | [],[]=>True
 | c::r,C::t=>mg c=some (.ref C)/\MgL mg r t
 | _,_=>False
inductive NamesOf(X:Cx):List Str->List Expr->Prop
 | nil:NamesOf X [] []
 | cons {c:Str} {p:Pos} {cs:List Str} {ts:List Expr} (hg:Gl X c) (hd:(c==("__debug__" : Str))=false) (hs:starEach (.Name c p::ts) X.env=(false,eval (.Name c p) X.env)::starEach ts X.env) (r:NamesOf X cs ts):NamesOf X (c::cs) (.Name c p::ts)
theorem rC{X:Cx}:∀{cs:List Str} {ts:List Expr} {Cs:List Addr},NamesOf X cs ts->MgL X.mg cs Cs->PA X ts (tCs (Cs.map V.ref))
 | _,_,[],.nil,_=>gT
 | _,_,C::Cs,.nil,h=>h.elim
 | _,_,[],.cons _ _ _ _,h=>h.elim
 | _,_,C::Cs,.cons hg hd hs r,h=>b6 (pU hg h.1 (show RelV (.ref C) (.ref C)from rfl) hd) (rC r h.2) hs
theorem v3{mg:zzl}:∀{cs:List Str} {Cs:List Addr},MgL mg cs Cs->Cs.length=cs.length
 | [],[],_=>rfl
 | [],_::_,h=>h.elim
 | _::_,[],h=>h.elim
 | _::_,_::_,h=>by simp[v3 h.2]
section
variable {p:Pu D} {p1:Pos} {tb:List (Str×Bool)}
theorem Bg(h:∃C,X.mg c=some (.ref C)/\Inst1 X.K (.ref C) tb)(hgc:Gl X c)(hm:X.mg "isinstance" = none)(hg:Gl X "isinstance")(ha:AP X e p)(hs:starEach [e,.Name c p2] X.env=(false,eval e X.env)::starEach [.Name c p2] X.env)(hs2:starEach [.Name c p2] X.env=(false,eval (.Name c p2) X.env)::starEach [] X.env)
  (hpl:(backTo pos (starEach [.Name c p2] X.env)).any (·.1)=false) (hd:(c==("__debug__" : Str))=false):AB X (.Call (.Name "isinstance" p1) [e,.Name c p2] [] pos) (rD tb p):=by
 obtain⟨C,h1,h2⟩:=h
 exact tB (vc:=.ref C) rfl zg h2 hg hm (pU hgc h1 rfl hd) ha hs hs2 hpl
theorem Be{T:String}(h:Inst1 X.K (.type T) tb)(hgc:Gl X c)(hmc:X.mg c=none)(hb:bootBuiltins c=some (.type T))(hm:X.mg "isinstance" = none)(hg:Gl X "isinstance")(ha:AP X e p)(hs:starEach [e,.Name c p2] X.env=(false,eval e X.env)::starEach [.Name c p2] X.env)(hs2:starEach [.Name c p2] X.env=(false,eval (.Name c p2) X.env)::starEach [] X.env)
  (hpl:(backTo pos (starEach [.Name c p2] X.env)).any (·.1)=false) (hn:c ≠ "__name__") (hd:(c==("__debug__" : Str))=false):AB X (.Call (.Name "isinstance" p1) [e,.Name c p2] [] pos) (rD tb p) :=
 tB (vc:=.ty T) rfl (λu h=>h) h hg hm (vP hgc hmc hb rfl hn hd) ha hs hs2 hpl
theorem yF{x1}(h:∃Cs,MgL X.mg cs Cs/\InstT X.K (Cs.map Value.ref) tb)(hn:NamesOf X cs ts)(hl:cs.length<=1000)(hm:X.mg "isinstance" = none)(hg:Gl X "isinstance")(ha:AP X e p)
  (hs:starEach [e,.Tuple ts x1 p2] X.env=(false,eval e X.env)::starEach [.Tuple ts x1 p2] X.env) (hs2:starEach [.Tuple ts x1 p2] X.env=(false,eval (.Tuple ts x1 p2) X.env)::starEach [] X.env)
  (hpl:(backTo pos (starEach [.Tuple ts x1 p2] X.env)).any (·.1)=false):AB X (.Call (.Name "isinstance" p1) [e,.Tuple ts x1 p2] [] pos) (rD tb p):=by
 obtain⟨Cs,h1,h2⟩:=h
 exact Bf (vcs:=Cs.map V.ref) oq h2 hg hm (rC hn h1) (by rw[zzd,v3 h1];exact hl) ha hs hs2 hpl
end
section
variable {n:Str} {b0:Stmt} {body suite:List Stmt} {pC ph:Pos} {sh shx:List Kd} {mb:SM (SOf sh ⊕ (Ex×SOf shx))} {mh:SM S}
theorem C7(h:∃hv,X.mg x=some hv/\HandL X.K hv cs)(hgx:Gl X x)(hb:∀E pn,ASs (X.wishP E pn) body mb)(hh:∀a,ASs (cau X a) (b0::suite) mh)(hF:jz shx=true)
  (hN:X.N.Nodup) (hj:X.N[j]? = some n) (hnl:X.env.scope.names.lookup n=some .local) (stk:X.stack=X.env::X.outer) (frm:X.env.frame=some X.env.locals) (hdx:(x==("__debug__" : Str))=false) :
  AS X (.Try body [.ExceptHandler (some (.Name x pC)) (some n) (b0::suite) ph] [] [] pos) (Ew j cs sh shx mb mh):=by
 obtain⟨hv,h1,h2⟩:=h
 exact Gj h1 hgx h2 hb hh hF hN hj hnl stk frm hdx
end
theorem GG{C:Addr}(h:(["bool", "int", "str", "list", "tuple", "dict"].all λT=>PySem.W.kitOne K (.ref C) (.type T)==some false)=true):∀T,nC T=true->PySem.W.kitOne K (.ref C) (.type T)=some false:=λT hT=>by
 have h':∀T∈["bool", "int", "str", "list", "tuple", "dict"],PySem.W.kitOne K (.ref C) (.type T)=some false:=λT q=>by
  have:=List.all_eq_true.mp h T q
  simpa using this
 apply h'
 simp only[nC,oC,KY]at hT
 rcases hT with ((((rfl|rfl)|rfl)|rfl)|rfl)|rfl<;>simp
def uH:List Int->Option Int
 | []=>none
 | n::r=>some (r.foldl min n)
def wF:List D->Option D
 | [.list ds]=>match intsOf ds with
  | some ns=>(uH ns).map PyData.int
  | none=>none
 | l=>Au l
theorem yd(r:List Int):∀n:Int,r.foldl min n<=n/\(∀i∈r,r.foldl min n<=i)/\(r.foldl min n=n\/r.foldl min n∈r):=by
 induction r with
 | nil=>intro n;exact⟨wT _,λi hi=>(nomatch hi),.inl rfl⟩
 | cons a r ih =>
  intro n
  obtain⟨h1,h2,h3⟩:=ih (min n a)
  rw[List.foldl_cons]
  refine⟨by lia,λi hi=>?_,?_⟩
  ·rcases List.mem_cons.mp hi with rfl|hi
   ·lia
   ·exact h2 i hi
  ·rcases h3 with h3|h3
   ·rw[h3]
    by_cases hna:a<=n
    ·right;rw[show min n a=a by lia];exact ce
    ·left;lia
   ·right;exact zzg _ h3
theorem oV{ns:List Int}(h:uH ns=some i):(∀j∈ns,i<=j)/\i∈ns:=by
 cases ns with
 | nil=>cases h
 | cons n r =>
  cases h
  obtain⟨h1,h2,h3⟩:=yd r n
  refine⟨λi hi=>?_,?_⟩
  ·rcases List.mem_cons.mp hi with rfl|hi
   ·exact h1
   ·exact h2 i hi
  ·rcases h3 with h3|h3
   ·rw[h3];exact ce
   ·exact zzg _ h3
theorem yt(hc:X.calm=true):CallR X (.builtin "min") (kg X.K uH):=by
 intro pins s Z H xs us Q I r h0
 obtain⟨a,ns,i,rfl,hq,e,q⟩:=h0
 obtain⟨u,rfl,ru⟩:=Vals.one r
 cases ru
 obtain⟨its,rv,pl,hz⟩:=I.list hq
 obtain⟨ps,rfl,rfl⟩:=cJ rv
 have hne:ps≠[]:=by rintro rfl;cases e
 have hl:s.heap.IsList a (intItems ps.toArray):=by
  have:=pl.isList
  unfold intItems
  simpa using this
 have hpos:0<ps.length:=List.length_pos_iff.mpr hne
 refine min_intList (I.ok.hd hc) hl (by simpa using hpos) λv h' tk hv hk=>?_
 obtain⟨t,rfl⟩:=intItems_at hv
 refine⟨.int _,H,I.kept hk,⟨_,rfl⟩,?_⟩
 have b:=argBest_lt (numAt ps.toArray) (ps.toArray.size - 1)
 generalize argBest (λi j=>decide (numAt ps.toArray i<numAt ps.toArray j)) (ps.toArray.size - 1)=m at b hv
 have hm:m<ps.length:=by
  have h0:=b.1
  simp at h0
  lia
 have hsp:=oV e
 have e1:numAt ps.toArray m=i:=by
  refine Int.le_antisymm ?_ ?_
  ·obtain⟨j,hj,ej⟩:=rg hsp.2
   have h0:=b.2 j (by simp at hj ⊢;lia)
   rw[cV (i:=j),la,ic hj]at h0
   rw[<-ej]
   exact h0
  ·refine hsp.1 _ ?_
   rw[cV,la,ic (by simpa using hm)]
   exact io _
 rw[e1]
 exact q
def DJ(K:Fg):List V->Hp->VK->Prop:=λxs H Q=>kg K uH xs H Q\/∃i j,xs=[.int i,.int j]/\Q (.int (if j<i then j else i)) H
theorem yu(hc:X.calm=true):CallR X (.builtin "min") (DJ X.K):=(yt hc).or (yv hc)
theorem Cc:eJ K (DJ K) wF:=by
 intro G F Z H ρ xs ds res Q S o e k
 unfold wF at e
 split at e
 ·rename_i es
  split at e
  case h_2=>cases e
  rename_i ns hns
  obtain⟨i,hi,rfl⟩:=Option.map_eq_some_iff.mp e
  obtain⟨v,r,rfl,ho,hr⟩:=aQ o
  obtain rfl:=bm hr
  obtain⟨a,vs,rfl,h1,h2⟩:=ho.list S.fh
  rw[bV hns]at h2
  rw[cm h2]at h1
  exact .inl ⟨a,ns,_,rfl,h1,hi,k _ F H (Same.refl _) S (show Rep K F _ _ from .int _)⟩
 ·exact .inr (Cd G F Z H ρ xs ds res Q S o e k)
section
variable {prog:Program} {w:World} {A:Around}
theorem uf(d:Addr)(hd:(d==sysModules)=false) :
  MeetsIn prog w (Builtin.«dict.__len__» ⟨[.ref d],[]⟩) (λ_ R s=>∃o es ep,s.heap.get? d=some o/\o.data=.dict es ep/\R (.ok (.ret (.int es.size s.toks))) { s with toks:=s.toks+1 }) :=
 .of_wp λA R s ⟨o,es,ep,ho,hdat,h⟩=>by
  show wpAny _ _ (dictSize d >>= _) _ _ s
  unfold dictSize
  refine zza (zza (wpAny_dictEntries ho hdat (zzb ?_)))
  show wpAny _ _ (Builtin.Dict.pendingCount d >>= _) _ _ s
  refine zza (wpAny_pendingCount_other hd ?_)
  refine wpAny_ret_mkInt ?_
  rw[Nat.add_zero];exact h
theorem uS{d:Addr}{o:Obj}{es:Array DictEntry}{ep:Nat}{Q:zzj}(hd:(d==sysModules)=false)(ho:s.heap.get? d=some o)(hc:o.cls=.type "dict")(hdat:o.data=.dict es ep)(hfit:(es.size:Int)<2^63)
  (h:Q (.int es.size (s.toks+1)) { s with toks:=s.toks+1+1 }):wpAny (model prog w) A (call (.builtin "len") [.ref d]) Q E s:=by
 have ty:s.TypeIs (.ref d) "dict":=⟨o,ho,hc⟩
 refine Calls.call_function_entry kind_len plain_len entry_len (args_len1 _) ?_
 unfold Builtin.«len»
 refine zza (m:=oneArg "len" _) (zzb ?_)
 refine zza (m:=callSpecial? (.ref d) (Str.ofString "__len__")) (se (name:=Str.ofString "__len__") ty F.slot_dict_len
  (KW F.slot_dict_len ty F.entry_dict_len (F.args_dict_len_1 _) (uf d hd) ⟨o,es,ep,ho,hdat,?_⟩))
 show wpAny _ _ _ _ _ { s with toks:=s.toks+1 }
 refine zza (sk (zzb ?_))
 refine zza (wpAny_letGo ?_)
 show wpAny _ _ (if((es.size:Nat):Int)<0 then _ else _) _ _ _
 rw[am (by lia)]
 show wpAny _ _ (if((es.size:Nat):Int)>=2^63 then _ else _) _ _ _
 rw[am (by lia)]
 exact zza (wpAny_mkInt (zzb ⟨_,rfl,h⟩))
end
def DM:List V->Hp->VK->Prop:=λxs H Q=>∃a n,xs=[.ref a]/\((∃kvs,H a=some (.dT kvs)/\n=kvs.length)\/∃kvs,H a=some (.dK kvs)/\n=kvs.length)/\Q (.int (n:Nat)) H
theorem yA:CallR X (.builtin "len") DM:=by
 intro pins s Z H xs us Q I r h0
 obtain⟨a,n,rfl,hd,q⟩:=h0
 obtain⟨u,rfl,ru⟩:=L2.Vals.one r
 cases ru
 rcases hd with ⟨kvs,e,rfl⟩|⟨kvs,e,rfl⟩
 ·obtain⟨z,lo,xs,kt,o,es,ep,h1,h2,h3,h4,_⟩:=mX I.hok e
  have el:es.size=kvs.length:=by
   rw[<-fu,h4,zzd]
   exact(Paired.length kt).symm
  refine uS lo h1 h2.1 h3 (by rw[el];rw[Kb]at z;lia) ?_
  rw[el]
  exact⟨.int _,H,I.tok _,⟨_,rfl⟩,q⟩
 ·exact Im I (.inl e) λt s' I'=>⟨.int _,H,I',⟨_,rfl⟩,q⟩
def DN(K:Fg):List V->Hp->VK->Prop:=λxs H Q=>EH K xs H Q\/DM xs H Q
theorem px:CallR X (.builtin "len") (DN X.K):=CallR.or bw yA
theorem vV:eJ K (DN K) sI:=by
 intro G F Z H ρ xs ds res Q S o e k
 unfold sI at e
 split at e
 ·rename_i es
  split at e
  ·cases e
  ·rename_i nx
   cases e
   obtain⟨v,r,rfl,ho,hr⟩:=aQ o
   obtain rfl:=bm hr
   obtain⟨a,rfl,hh⟩:=ho.dict S.fh (by simpa using nx)
   refine .inr ⟨a,es.length,rfl,?_,k _ F H (Same.refl _) S (.int _)⟩
   rcases hh with ⟨kvs,h1,h2,_⟩|⟨kvs,h1,h2,_⟩
   ·exact .inl ⟨kvs,h1,by have:=congrArg List.length h2;simpa using this⟩
   ·exact .inr ⟨kvs,h1,by have:=congrArg List.length h2;simpa using this⟩
 ·exact .inl (df G F Z H ρ xs ds res Q S o e k)
def DA{S:Type}(i j:Nat):SM S:=λK ρ=>match e9 ρ i with
 | some ds=>match ds.getLast? with
  | some d=>match eN (kF ρ i ds.dropLast) j with
   | true=>K.nx ((kF ρ i ds.dropLast).set j (some (.fz d)))
   | false=>.bad
  | none=>.bad
 | none=>.bad
section
variable {pos' apos cpos ypos:Pos}
theorem C9{i:Nat}{y:Str}(hN:X.N[i]? = some x)(hv:Vis X.env.scope x)(hnd:X.N.Nodup)(hj:X.N[j]? = some y)(hy:Loc X.env.scope y)(hij:i≠j)
  (hbase:attributeBase (.Name x pos') "pop" X.env (eval (.Name x pos') X.env)=eval (.Name x pos') X.env) (hline:(apos.endLine==cpos.line)=true)
  (hsw:swapsWith (.Call (.Attribute (.Name x pos') "pop" apos) [] [] cpos) (some (.Name y ypos)) pos.line X.env=pure false) (hf:X.fn y=true\/X.env.scope.names.lookup y=some .local) (hd:(x==("__debug__" : Str))=false:=by decide) (hcd:(x==("__classdict__" : Str))=false:=by decide) :
  AS X (.Assign [.Name y ypos] (.Call (.Attribute (.Name x pos') "pop" apos) [] [] cpos) pos) (DA (S:=S) i j):=λOK K G F Z H ρ E hO hX St ok eo =>
 fw (jg hnd hj hy (EW KG PySem.F.slot_list_pop PySem.F.type_list_pop Fk (e8 hN hv hd hcd) hbase hline) hsw hf) (by
  unfold DA at ok
  split at ok
  case h_2=>exact(hO ok).elim
  rename_i ds0 h0
  split at ok
  case h_2=>exact(hO ok).elim
  rename_i d hdl
  split at ok
  case h_2=>exact(hO ok).elim
  rename_i hset
  obtain⟨hl,hop⟩:=bY hset
  obtain⟨a,vs0,ea,hh,rv⟩:=cy St h0
  have hlen:vs0.length=ds0.length:=rv.length
  rw[List.getLast?_eq_getElem?]at hdl
  obtain⟨u,hu,ru⟩:=rv.get hdl
  refine⟨_,ea,.inl ⟨rfl,vs0,.inl (.inl hh)⟩,a,vs0,u,rfl,rfl,hh,by rw[hlen];exact hu,?_⟩
  exact eo.nx F _ _ _ (Same.refl _) ((jw St h0 ea (iQ rv)).store hop hl (.inl ⟨d,rfl,ru⟩)) ok)
end
def fnD(f:Str):D:=.dict [(.bool true,.str f)]
def fnQ(d:D)(f:Str):Bool:=match d with
 | .dict [(.bool true,.str g)]=>g==f
 | _=>false
theorem FL{d:D}{f:Str}(h:fnQ d f=true):d=fnD f:=by
 unfold fnQ at h
 split at h
 ·rename_i g;have:g=f:=by simpa using h
  subst this;rfl
 ·cases h
theorem Ie{f:Str}(r:Rep K F v (fnD f)):∃a,v=.ref a/\PySem.W.nsIn K mainGlobals f=some (some (.ref a)):=by
 unfold fnD at r
 cases r with
 | dct _ h _=>exact absurd (qm h) (by simp[d9])
 | dck _ h _=>exact absurd (qo h) (by simp[d9])
 | fn h=>exact⟨_,rfl,h⟩
theorem A4{f:Str}(h:∃a,X.mg f=some (.ref a)/\PySem.W.nsIn X.K mainGlobals f=some (some (.ref a)))(hg:Gl X f)(hd:(f==("__debug__" : Str))=false):AP X (.Name f p) (xF (fnD f)):=by
 obtain⟨a,h1,h2⟩:=h
 exact λG F Z H ρ Q S w=>sem (pU (v:=.ref a) hg h1 rfl hd) (w F H (Same.refl _) S _ (.fn h2))
def Hv(i:Nat)(f:Str)(mf:List D->M D)(ps:Pa D):Pu D:=λρ=>match ρ[i]? with
 | some (some (.fz d))=>match fnQ d f with
  | true=>ps (λds=>mf ds) ρ
  | false=>.bad
 | _=>.bad
theorem Gw{k i:Nat}{mf:List D->M D}{f:Str}{ps:Pa D}(C:CF X.prog X.w X.K X.mg X.base f k (spD X.K n mf))(hr:Room k X.A)(hN:X.N[i]? = some x)(hv:Vis X.env.scope x)(ha:AA X (e::es) ps)(hn:(e::es).length=n)
  (he:starEach (e::es) X.env=(false,eval e X.env)::starEach es X.env) (hpl:(backTo pos (starEach es X.env)).any (·.1)=false) (hd:(x==("__debug__" : Str))=false:=by decide) (hcd:(x==("__classdict__" : Str))=false:=by decide):AP X (.Call (.Name x p) (e::es) [] pos) (Hv i f mf ps):=by
 obtain⟨fa,fd,pl,Fn,h1,h2,h3⟩:=C.ex
 intro G F Z H ρ Q St w
 unfold Hv at w
 split at w
 case h_2=>exact w.elim
 rename_i d hd0
 split at w
 case h_2=>exact w.elim
 rename_i hq
 obtain rfl:=FL hq
 obtain⟨v,hv0,rv⟩:=St.fz i _ hd0
 obtain⟨a,ea,hns⟩:=Ie rv
 subst ea
 unfold dW
 intro pins s I
 have hm:=im I.kIn (I.mod.glob.keeps I.bk) hns
 rw[hm]at h1
 cases h1
 have arg:dU X (e::es) Z H λvs H1=>spD X.K n mf vs H1 Q (EX X G Z):=by
  refine ha G F Z H ρ _ _ _ St w λds vs F1 H1 s1 S1 hl r1 w1=>?_
  cases hdm:mf ds with
  | bad=>rw[hdm]at w1;exact w1.elim
  | exc e =>
   rw[hdm]at w1
   exact⟨_,F1,ds,hl.trans hn,cq S1 r1,by rw[hdm];exact λF' H' Cl dd g xr=>EX.of S1 w1 g xr⟩
  | ret d =>
   rw[hdm]at w1
   refine⟨_,F1,ds,hl.trans hn,cq S1 r1,?_⟩
   rw[hdm]
   intro v F2 H2 s2 S2 r2
   obtain⟨S3,t3⟩:=gf (avs':=ds.map AV.fz) S1 s2 S2
   exact w1 F2 H2 s2 S3 v r2
 unfold dU at arg
 refine re (thn (e8 (X:=X) hN hv hd hcd pins s Z H (λu H'=>u=.ref fa/\H'=H) I ⟨_,hv0,rfl,rfl⟩) λu s1 ⟨y,H1,I1,ry,e1,e2⟩=>?_)
 subst e1 e2
 cases ry
 refine PySem.W.callWith_K (h₀:=X.base) I1.ok.mod.kin h2 (thn (arg pos pins s1 I1) λus s2 ⟨vs,H2,I2,r,q⟩=>⟨I2.kIn,?_⟩) he hpl
 exact zb Fn hr h3 rB I2 r q
structure FunV(K:Fg)(x qual:Str)(st:Stmt)(f:Addr)(fd:FuncData)(T:Addr):Prop where
 ex:∃(oc:Value) (od:Option Addr) (kV doc pm:Value) (an:Option Addr) (cdv ct:Value) (osl:Array (Option Value)),
  fd=PySem.W.fnOf x qual (bD st) (aZ st) (au st) (.ref T) kV doc pm an cdv ct/\K.lookup f=some ⟨oc,od,.func fd,osl⟩/\PySem.W.codeIn K cdv qual=true
 kp:PySem.W.keepIn K (.ref f)=true
section
variable {P:Program} {w:World} {mg:zzl} {base:Heap} {T:Addr} {N:List Str} {k:Nat}
theorem CL{oc:Value}{od an:Option Addr}{osl:Array (Option Value)}{kV doc pm cdv ct:Value}(l:K.lookup f=some ⟨oc,od,.func (PySem.W.fnOf x qual (bD st) (aZ st) (au st) (.ref T) kV doc pm an cdv ct),osl⟩)
  (c:PySem.W.codeIn K cdv qual=true) (k:PySem.W.keepIn K (.ref f)=true):FunV K x qual st f (PySem.W.fnOf x qual (bD st) (aZ st) (au st) (.ref T) kV doc pm an cdv ct) T:=⟨⟨oc,od,kV,doc,pm,an,cdv,ct,osl,rfl,l,c⟩,k⟩
theorem Ic{sp:Sp}(Fn:FunV K x qual st f fd T)(S:FnScope N ps (au st))(len:∀vs H Q E,sp vs H Q E->vs.length=ps.length)
  (hbody:∀(cdv:Value) (A:Around) (outer:List Env) (s:Shared) (H:Hp) (vs:List V) (Q:VK) (E:XK),Room k (A.deeper (envOfC qual (au st) s.heap.objs.size f cdv))->sp vs H Q E ->
   ∃t,PSs (jL (CX1 P w) P w K mg base N qual (au st) f cdv A outer s H E) (aZ st) t/\t { nx:=λ_ H'=>Q .non H',rt:=Q } (start N vs) H):FnOk P w K mg base (CX1 P w) (k+1) f fd ps sp:=by
 obtain⟨oc,od,kV,doc,pm,an,cdv,ct,osl,rfl,lk,hcd⟩:=Fn.ex
 exact Eb lk hcd S len λA outer s H vs Q E hr hsp=>hbody cdv A outer s H vs Q E hr hsp
theorem CO{mb:SM D}{mf:List D->M D}(Fn:FunV K x qual st f fd T)(Sc:FnScope N ps (au st))
  (hb:∀(cdv:Value) (A:Around) (outer:List Env) (s:Shared) (H:Hp) (E:XK),Room k (A.deeper (envOfC qual (au st) s.heap.objs.size f cdv)) ->
   ASs (jL (CX1 P w) P w K mg base N qual (au st) f cdv A outer s H E) (aZ st) mb)
  (hm:∀ds,ds.length=ps.length->mf ds=mb KD (fzs ds++List.replicate (N.length - ps.length) none)):FnOk P w K mg base (CX1 P w) (k+1) f fd ps (spD K ps.length mf):=by
 refine Ic Fn Sc (λvs H Q E h=>?_) (λcdv A outer s H vs Q E hr h=>?_)
 ·obtain⟨_,_,_,h1,_⟩:=h;exact h1
 ·obtain⟨G,F0,ds,h1,S0,e⟩:=h
  have hl:ds.length=ps.length:=by have:=S0.ln;simp at this;lia
  rw[hm ds hl]at e
  refine⟨_,dF,hb cdv A outer s H E hr (λm=>kS K G E m _) KD G F0 _ H _ _ (λz=>z) (λF ρ e z=>wI z) (lA h1 S0) e ?_⟩
  exact⟨λF' σ' H' ρ' s S' o=>(by exact o .non F' H' s (nr S0 s S') .non),λF' σ' H' ρ' d' v s S' r o=>(by exact o v F' H' s (nr S0 s S') r),λF' σ' H' ρ' d' v s S' r o=>(o:False).elim,λF' σ' H' ρ' s S' o=>(o:False).elim,λF' σ' H' ρ' s S' o=>(o:False).elim⟩
end
structure CFd(P:Program)(w:World)(K:Fg)(mg:zzl)(base:Heap)(x:Str)(k:Nat)(sp:Sp)(i:Int):Prop where
 ex:∃(f:Addr) (fd:FuncData) (ps:List Str) (u:Value),FnOk P w K mg base (CX1 P w) k f fd ps sp/\mg x=some (.ref f)/\PySem.W.keepIn K (.ref f)=true/\L2.Binds K fd ps [u]/\RelV (.int i) u
def Hw(mf:List D->M D)(i:Int)(ps:Pa D):Pu D:=λρ=>ps (λds=>mf (ds++[.int i])) ρ
section
variable {k:Nat} {sp:Sp} {E:XK} {Q:VK} {u:Value}
theorem w6(F:FnOk X.prog X.w X.K X.mg X.base (CX1 X.prog X.w) k f fd ps sp)(hr:Room k X.A)(hg:Gl X x)(hm:X.mg x=some (.ref f))(hk:PySem.W.keepIn X.K (.ref f)=true)(hb:L2.Binds X.K fd ps [u])(hu:RelV (.int i) u)(hx:jR X Z E)
  (hdb:(x==("__debug__" : Str))=false) (he:starEach (e::es) X.env=(false,eval e X.env)::starEach es X.env) (hpl:(backTo pos (starEach es X.env)).any (·.1)=false)
  (h:dU X (e::es) Z H λvs H1=>sp (vs++[.int i]) H1 Q E):dW X (.Call (.Name x p) (e::es) [] pos) Z H Q:=by
 unfold dW
 intro pins s I
 unfold dU at h
 refine re (jG I hg hm ?_ hdb)
 refine PySem.W.callWith_K (h₀:=X.base) I.ok.mod.kin hk (thn (h pos pins s I) λus s1 ⟨vs,H1,I1,r,q⟩=>⟨I1.kIn,?_⟩) he hpl
 have r2:Vals (vs++[.int i]) (us++[u]):=r.append (.cons hu .nil)
 have hl:(us++[u]).length=ps.length:=by rw[<-r2.length];exact F.len _ _ _ _ q
 refine wpAny_call (KU (F.run X.A X.stack s1 H1 ⟨us,[]⟩ (us++[u]) (vs++[.int i]) Q E hr I1.env0 (hb s1 us I1.kIn hl) r2 q) λr s' hq=>?_)
 cases r with
 | error e=>exact hx pins H1 s1 e s' I1 hq
 | ok fl =>
  cases fl with
  | ret u=>exact I1.after hq
  | next=>exact False.elim hq
  | brk=>exact False.elim hq
  | cont=>exact False.elim hq
end
section
variable {k:Nat} {mf:List D->M D} {ml:List D->M (List D)} {ps:Pa D} {pl:Pa (List D)}
theorem n9{vs:List V}{ds:List D}(r:RepL K F vs ds):RepL K F (vs++[.int i]) (ds++[.int i]):=r.append (.cons (.int i) .nil)
theorem Gv(C:CFd X.prog X.w X.K X.mg X.base x k (spD X.K n mf) i)(hr:Room k X.A)(ha:AA X (e::es) ps)(hg:Gl X x:=by rfl)(hn:(e::es).length+1=n:=by rfl)
  (hdb:(x==("__debug__" : Str))=false:=by decide) (he:starEach (e::es) X.env=(false,eval e X.env)::starEach es X.env:=by rfl) (hpl:(backTo pos (starEach es X.env)).any (·.1)=false:=by rfl):AP X (.Call (.Name x p) (e::es) [] pos) (Hw mf i ps):=by
 obtain⟨f,fd,pz,u,Fn,h1,h2,h3,hu⟩:=C.ex
 intro G F Z H ρ Q St w
 refine w6 Fn hr hg h1 h2 h3 hu (rB (G:=G)) hdb he hpl ?_
 refine ha G F Z H ρ _ _ _ St w λds vs F1 H1 s1 S1 hl r1 w1=>?_
 show spD X.K n mf (vs++[.int i]) H1 Q (EX X G Z)
 have hz:(vs++[V.int i]).length=n:=by rw[zzf,hl];exact hn
 cases hd:mf (ds++[.int i])with
 | bad=>rw[hd]at w1;exact w1.elim
 | exc e =>
  rw[hd]at w1
  exact⟨_,F1,ds++[.int i],hz,cq S1 (n9 r1),by rw[hd];exact λF' H' Cl dd g xr=>EX.of S1 w1 g xr⟩
 | ret d =>
  rw[hd]at w1
  refine⟨_,F1,ds++[.int i],hz,cq S1 (n9 r1),?_⟩
  rw[hd]
  intro v F2 H2 s2 S2 r2
  obtain⟨S3,t3⟩:=gf (avs':=(ds++[PyData.int i]).map AV.fz) S1 s2 S2
  exact w1 F2 H2 s2 S3 v r2
end
section
variable {pins:zzk} {a b:Addr} {u r:Value} {A:Around} {k:List Key}
theorem yk{kvs:List (List Key×V)}{Q:Unit->Shared->Prop}(hu:A.units+1<cLine)(I:Inv X pins Z H s)(e:H a=some (.dT kvs))(eb:H b=some (.tup (k.map kV)))(rv:RelV v r)(l:kvs.length<sizeLine)
  (h:∀s',Inv X pins Z (upd H a (.dT (putK kvs k v))) s'->Q () s'):wpAny (model X.prog X.w) A (dictSet a (.ref b) r) Q E s:=by
 obtain⟨z,hd,xs,rel,dd⟩:=mX I.hok e
 have hz:xs.length<=sizeLine:=by rw[<-Paired.length rel];exact z
 have hl:(putK kvs k v).length<=sizeLine:=by have:=cX kvs k v;lia
 refine wpAny_dictSet_heap (hsz:=hz) (show(tupleKind (aX X.prog X.w)).room A from by first|exact hu|exact Is (ai _) hu|(show A.units<cLine;lia)) (fZ I.hok eb) dd λh' dd' hs=>h _ ?_
 obtain⟨q,es,ep,hq,h2,h3,h4,_,h5⟩:=dd'
 refine jK I (by rw[e];exact True.intro) hs ⟨q,hq⟩ ⟨hl,hd,_,(rel.put k eb rv).keeps λc ys ec=>?_,q,es,ep,hq,h2,h3,h4,h5⟩
 rw[aA (zS ec e (λz=>nomatch z))]
 exact ec
end
def GP(tk tv:TE):TE:=λZ H Q=>∀p,H p=none->tk Z (upd H p (.dT [])) λx H1=>tv Z H1 λy H2=>∃b k,x=.ref b/\H2 b=some (.tup (k.map kV))/\H2 p=some (.dT [])/\Q (.ref p) (upd H2 p (.dT [(k,y)]))
theorem vM{tk tv:TE}(hu:X.A.units+1<cLine)(hk:PE X ke tk)(hv:PE X ve tv):PE X (.Dict [some ke] [ve] pos) (GP tk tv):=by
 intro pins s Z H Q I q
 have hn:=I.hok.fresh (ai s.heap.objs.size)
 have I1:=I.laid (a:=s.heap.objs.size) (o:=.dT []) (h':=s.heap.push { cls:=.type "dict",data:=.dict #[] }) (t':=s.toks) (λ_ _ q=>zzc _ q) (ai _) (mY s.heap I.big)
 refine wpAny_Dict_any rfl rfl (by simp) (by simp) ?_
 have pp:=zt (pos:=pos) hk hv (BX (X:=X) (pos:=pos))
 let R:List (V×V)->Hp->Prop:=λps H2=>match ps with
  | [(x,y)]=>∃b k,x=.ref b/\H2 b=some (.tup (k.map kV))/\H2 s.heap.objs.size=some (.dT [])/\Q (.ref s.heap.objs.size) (upd H2 s.heap.objs.size (.dT [(k,y)]))
  | _=>False
 refine thn (pp pins _ Z _ R I1 (q _ hn)) λws s2 ⟨ps,H2,I2,rel,hR⟩=>?_
 rcases ps with _|⟨⟨x,y⟩,_|⟨p2,r2⟩⟩
 ·exact(show False from hR).elim
 ·obtain⟨b,k,ex,hb,hp,q2⟩:=hR
  subst ex
  cases rel with
  | @cons _ wq _ _ h t =>
   cases t
   obtain⟨w1,w2⟩:=wq
   obtain⟨rx,ry⟩:=h
   dsimp only at rx ry
   cases rx
   show wpAny _ _ (storeAll s.heap.objs.size [(Value.ref b,w2)]) _ _ _
   unfold storeAll
   simp only[List.forIn_cons,List.forIn_nil]
   refine zza (zza (yk hu I2 hp hb ry (by decide) λs3 I3=>zzb (zzb ⟨.ref s.heap.objs.size,_,I3,rfl,q2⟩)))
 ·exact(show False from hR).elim
theorem _root_.L3.StOk.relay(S:StOk K G F Z H ρ){p:Addr}{o:HO}(fp:F p=none)(op:G.O p=none)(ne:∀(i:Nat) (e:OC),own ρ i e->Z[i]? ≠ some (some (V.ref p))):StOk K G F Z (upd H p o) ρ:=by
 refine⟨dP S.fh fp,dP S.oh op,S.fo,S.ln,S.fz,λi c h=>?_,S.dj,S.pp,S.pq,S.fb⟩
 obtain⟨a,e,oa⟩:=S.ow i c h
 exact⟨a,e,oa.nf,oa.no,oa.he.at (aA λz=>ne i c h (by rw[e,z]))⟩
def dA{S:Type}(d:D)(m:M S):M S:=match bX d with
 | true=>m
 | false=>.bad
def DB{S:Type}(i:Nat)(pk pv:Pu D):SM S:=λK ρ=>bd (noX (pk ρ)) λkd=>bd (noX (pv ρ)) λd=>match eN ρ i with
 | true=>dA kd (K.nx (ρ.set i (some (.ol (.t [(kd,d)])))))
 | false=>.bad
theorem qI{i:Nat}{pk pv:Pu D}{pos' tpos:Pos}(hu:X.A.units+1100<cLine)(hN:X.N.Nodup)(hi:X.N[i]? = some x)(hx:Loc X.env.scope x)(hk:AP X ke pk)(hv:AP X ve pv)(hs:swapsWith (.Dict [some ke] [ve] tpos) (some (.Name x pos')) pos.line X.env=pure false)(hf:X.fn x=true\/X.env.scope.names.lookup x=some .local) :
  AS (S:=S) X (.Assign [.Name x pos'] (.Dict [some ke] [ve] tpos) pos) (DB i pk pv):=λOK K G F Z H ρ E hO hX St ok eo=>by
 unfold DB at ok
 cases e1:pk ρ with
 | bad=>rw[e1]at ok;exact(hO ok).elim
 | exc e=>rw[e1]at ok;exact(hO ok).elim
 | ret kd =>
 cases e2:pv ρ with
 | bad=>rw[e1,e2]at ok;exact(hO ok).elim
 | exc e=>rw[e1,e2]at ok;exact(hO ok).elim
 | ret d =>
 rw[e1,e2]at ok
 have ok:OK (match eN ρ i with|true=>dA kd (K.nx (ρ.set i (some (.ol (.t [(kd,d)])))))|false=>.bad):=ok
 cases hq:eN ρ i with
 | false=>rw[hq]at ok;exact(hO ok).elim
 | true =>
 rw[hq]at ok
 have ok:OK (dA kd (K.nx (ρ.set i (some (.ol (.t [(kd,d)])))))):=ok
 unfold dA at ok
 cases hq1:bX kd with
 | false=>rw[hq1]at ok;exact(hO ok).elim
 | true =>
 rw[hq1]at ok
 obtain⟨hl,hop⟩:=bY hq
 obtain⟨ks,rfl⟩:=dR hq1
 refine fw (jg hN hi hx (vM (by lia) aC aC) hs hf) λp hp=>?_
 have fp:=St.fh.free hp
 have op:=St.oh.free hp
 have S1:=(St.lay (o:=.dT []) hp).hold (p:=p) (o:=.dT []) aB fp (St.fresh_ne hp)
 refine hk _ F Z _ ρ _ S1 ?_
 rw[e1]
 intro F1 H1 s1 S2 kx rx
 refine hv _ F1 Z H1 ρ _ S2 ?_
 rw[e2]
 intro F2 H2 s2 S3 y ry
 obtain⟨S4,hp2,fp2,ne2⟩:=S3.unhold op
 obtain⟨b,rfl,hb⟩:=fy (rx.mono s2)
 refine⟨b,ks,rfl,S4.fh _ _ hb,hp2,?_⟩
 refine eo.nx F2 _ _ _ (s1.trans s2) ((S4.relay (o:=.dT [(ks,y)]) fp2 op ne2).store hop hl (.inr ⟨.t [(g7 ks,d)],rfl,p,rfl,⟨fp2,op,[(ks,y)],aB,rfl,.cons ry .nil⟩,ne2⟩)) ok
def E8{S:Type}(d:D)(f:Str)(m:M S):M S:=match fnQ d f with
 | true=>m
 | false=>.bad
def zO{S:Type}(ds:List D)(k:D->M S):M S:=match ds.getLast? with
 | some d=>k d
 | none=>.bad
def DfT(K:Fg)(T:Addr)(i:Int):Prop:=∃(o:Obj) (n:Nat) (u:Value),K.lookup T=some o/\o.data=.seq #[u] n/\RelV (.int i) u
section
variable {T:Addr}
theorem FunV.binds0(F:FunV K x qual st f fd T)(hT:DfT K T i)(h:∀(kV doc pm:Value) (an:Option Addr) (cdv ct:Value) (us:List Value) (u:Value),us.length=ps.length->∃k:Option (Array Value)->Sem (List (Str×Value)),bindArgs (PySem.W.fnOf x qual (bD st) (aZ st) (au st) (.ref T) kV doc pm an cdv ct) ⟨us,[]⟩=seqItems? (.ref T) >>= k/\k (some #[u])=pure (ps.zip us)):L2.Binds K fd ps []:=by
 obtain⟨oc,od,kV,doc,pm,an,cdv,ct,osl,rfl,lk,hcd⟩:=F.ex
 obtain⟨o,n,u,h1,h2,h3⟩:=hT
 intro s us X hl
 rw[ou]at hl ⊢
 obtain⟨k,e1,e2⟩:=h kV doc pm an cdv ct us u hl
 exact PySem.W.binds_K X rfl h1 h2 e1 e2
theorem FunV.binds1(F:FunV K x qual st f fd T)(hT:DfT K T i)(h:∀(kV doc pm:Value) (an:Option Addr) (cdv ct:Value) (us:List Value) (u:Value),us.length+1=ps.length->∃k:Option (Array Value)->Sem (List (Str×Value)),bindArgs (PySem.W.fnOf x qual (bD st) (aZ st) (au st) (.ref T) kV doc pm an cdv ct) ⟨us,[]⟩=seqItems? (.ref T) >>= k/\k (some #[u])=pure (ps.zip (us++[u]))):L2.Binds K fd ps [hT.choose_spec.choose_spec.choose]:=by
 obtain⟨oc,od,kV,doc,pm,an,cdv,ct,osl,rfl,lk,hcd⟩:=F.ex
 have h1:=hT.choose_spec.choose_spec.choose_spec.1
 have h2:=hT.choose_spec.choose_spec.choose_spec.2.1
 intro s us X hl
 obtain⟨k,e1,e2⟩:=h kV doc pm an cdv ct us hT.choose_spec.choose_spec.choose (by simpa using hl)
 exact PySem.W.binds_K X rfl h1 h2 e1 e2
end
def DX(pk pv:Pu D):Pu D:=λρ=>bd (noX (pk ρ)) λkd=>bd (noX (pv ρ)) λd=>dA kd (.ret (.dict [(kd,d)]))
theorem Df{pk pv:Pu D}(hu:X.A.units+1100<cLine)(hk:AP X ke pk)(hv:AP X ve pv):AP X (.Dict [some ke] [ve] pos) (DX pk pv):=by
 intro G F Z H ρ Q St w
 unfold DX at w
 cases e1:pk ρ with
 | bad=>rw[e1]at w;exact w.elim
 | exc e=>rw[e1]at w;exact w.elim
 | ret kd =>
 cases e2:pv ρ with
 | bad=>rw[e1,e2]at w;exact w.elim
 | exc e=>rw[e1,e2]at w;exact w.elim
 | ret d =>
 rw[e1,e2]at w
 have w:W X G F Z ρ (dA kd (.ret (.dict [(kd,d)]))) (λd F' H'=>∀v,Rep X.K F' v d->Q v H'):=w
 unfold dA at w
 cases hq1:bX kd with
 | false=>rw[hq1]at w;exact w.elim
 | true =>
 rw[hq1]at w
 obtain⟨ks,rfl⟩:=dR hq1
 refine sem (vM (by lia) aC aC) λp hp=>?_
 have fp:=St.fh.free hp
 have op:=St.oh.free hp
 have S1:=(St.lay (o:=.dT []) hp).hold (p:=p) (o:=.dT []) aB fp (St.fresh_ne hp)
 refine hk _ F Z _ ρ _ S1 ?_
 rw[e1]
 intro F1 H1 s1 S2 kx rx
 refine hv _ F1 Z H1 ρ _ S2 ?_
 rw[e2]
 intro F2 H2 s2 S3 y ry
 obtain⟨S4,hp2,fp2,ne2⟩:=S3.unhold op
 obtain⟨b,rfl,hb⟩:=fy (rx.mono s2)
 refine⟨b,ks,rfl,S4.fh _ _ hb,hp2,?_⟩
 have S5:=(S4.relay (o:=.dT [(ks,y)]) fp2 op ne2).freeze (a:=p) (o:=.dT [(ks,y)]) aB fp2 op ne2
 exact w _ _ ((s1.trans s2).trans (bL fp2)) S5 (.ref p) (.dct aB rfl (.cons (ry.mono (bL fp2)) .nil))
end L4
namespace L4
open PySem PyProof.Rows L2 L3
theorem lr1:typeLookup (Value.type "list_reverseiterator") (Str.ofString "__len__")=pure none:=by rfl
theorem lr2:typeLookup (Value.type "list_reverseiterator") (Str.ofString "__length_hint__")=pure (some (Value.builtin "list_reverseiterator.__length_hint__")):=by rfl
theorem lr3:isSubtype (.type "list_reverseiterator") (.type "list_reverseiterator")=pure true:=by rfl
section
variable {prog:Program}{w:World}{A:Around}{E:zzj}{s:Shared}{r I l:Addr}{items:Array Value}
theorem Al{Q:Bool->Shared->Prop}(hT:s.TypeIs (.ref r) "list_reverseiterator")(h:Q false s) :
  wpAny (model prog w) A (Builtin.List.listLengthHint (.ref r)) Q E s:=by
 unfold Builtin.List.listLengthHint
 refine zza (wpAny_specialOf hT lr1 ?_)
 refine(show wpAny (model prog w) A (specialOf (.ref r) (Str.ofString "__length_hint__") >>= _) _ _ s from ?_)
 refine zza (wpAny_specialOf hT lr2 ?_)
 dsimp only
 rw[show splitId "list_reverseiterator.__length_hint__" = some ("list_reverseiterator", "__length_hint__")from by decide +kernel]
 dsimp only
 refine zza (KF (T := "list_reverseiterator") (b:=true) hT lr3 ?_)
 refine(show wpAny (model prog w) A (pure false) _ _ s from zzb h)
def BI(items:Array Value):Nat->Value->Prop:=λi v=>items[items.size - 1 - i]? = some v
theorem CT{R:Result->Shared->Prop}(hh:A.handled=none)(hi:s.heap.IsRevIter I l ((items.size:Int) - 1))(hl:s.heap.IsList l items)(hn:items.size<=sizeLine)(hIl:l≠I)(S:Addr)(hSI:S≠I)(hSl:S≠l)(res:Value)(c₀:Nat)
  (hS:s.heap.get? S=some { cls:=Value.type "list",data:=Data.seq #[] c₀ })
  (hR:∀(h':Heap) (tk:Nat) (acc':Array Value) (c':Nat),(∀(b:Addr) (o:Obj),b≠S->b≠I->s.heap.get? b=some o->h'.get? b=some o)->h'.get? S=some { cls:=Value.type "list",data:=Data.seq acc' c' }->ItemsOf (BI items) acc' items.size->R (Except.ok (Flow.ret res)) { s with heap:=h',toks:=tk }) :
  wpAny (model prog w) A.in1 (Builtin.List.listExtendWith (Value.ref S) (Value.ref I) res)
   (λfin s'=>match fin with
    | Fin.done f=>R (Except.ok f) s'
    | Fin.again c'=>c'.quiet=true/\codeAny (model prog w) A c' R s')
   (λe s'=>R (Except.error e) s') s:=by
 have W:=Walks.listRev (prog:=prog) (w:=w) (A:=A.in1) hh I l hIl items
 have hSf:S∉[I,l]:=by simp[hSI,hSl]
 unfold Builtin.List.listExtendWith
 refine zza (JM hi.typeIs ?_)
 rw[am (by simp[Builtin.List.listSameRef,hSI])]
 refine zza (wpAny_pyIter_revIter hi (zza (sk (Al hi.typeIs ?_))))
 refine(show wpAny (model prog w) A.in1 (again (Code.builtin "list.extend.loop" { pos:=[Value.ref S,Value.ref I,res] })) _ _ s from ?_)
 refine zzb ⟨plainId_quiet F.plain_extend_loop _,?_⟩
 refine codeAny_extend_loopS (Walks.toS W) hn S hSf res items.size 0 s #[] c₀ rfl (bi _) ⟨bi _,by simpa using hi,hl⟩ hS (ItemsOf.nil _) λs' acc' c' hm hS' hacc=>?_
 rw[Moved.eq_with hm]
 exact hR s'.heap s'.toks acc' c' (λb o hb hb2 e=>hm.heap b o (by simp[hb,hb2]) e) hS' hacc
theorem zX{Q:zzj}(hh:A.handled=none)(hi:s.heap.IsRevIter I l ((items.size:Int) - 1))(hl:s.heap.IsList l items)(hn:items.size<=sizeLine)(hIl:l≠I)
  (hQ:∀(h':Heap) (tk:Nat) (acc':Array Value) (c':Nat),(∀(b:Addr) (o:Obj),b≠I->s.heap.get? b=some o->h'.get? b=some o)->h'.get? s.heap.objs.size=some { cls:=Value.type "list",data:=Data.seq acc' c' }->ItemsOf (BI items) acc' items.size->Q (Value.ref s.heap.objs.size) { s with heap:=h',toks:=tk }) :
  wpAny (model prog w) A (call (Value.type "list") [Value.ref I]) Q E s:=by
 refine callType_codes F.called_list (F.typeCall_list_1 (Value.ref I)) F.entry_list_init (code_list_new (Q₁:=λv s1=>v=Value.ref s.heap.objs.size/\s1={ s with heap:=s.heap.push { cls:=Value.type "list",data:=Data.seq #[] } }) (Value.ref I) ⟨rfl,rfl⟩) λobj s₁ h₁=>?_
 obtain⟨rfl,rfl⟩:=h₁
 have hS:(s.heap.push { cls:=Value.type "list",data:=Data.seq #[] }).get? s.heap.objs.size=some { cls:=Value.type "list",data:=Data.seq #[] }:=zze s.heap rfl
 have hk:∀b o,s.heap.get? b=some o->(s.heap.push { cls:=Value.type "list",data:=Data.seq #[] }).get? b=some o:=λb o e=>zzc _ e
 refine⟨⟨_,hS,rfl⟩,F.args_list_init_2 _ _,?_⟩
 have l1:∀{b:Addr} {o:Obj},s.heap.get? b=some o->b≠s.heap.objs.size:=λe=>eE (ay e)
 obtain⟨oi,ei,ri⟩:=id hi
 obtain⟨ol,el,rl⟩:=id hl
 refine(show wpAny (model prog w) A.in1.in1 (Builtin.List.listItems (.ref s.heap.objs.size) >>= _) _ _ _ from zza ?_)
 refine(show wpAny (model prog w) A.in1.in1 (seqItems? (.ref s.heap.objs.size) >>= _) _ _ _ from zza (wpAny_seqItems hS rfl (zzb ?_)))
 refine(show wpAny (model prog w) A.in1.in1 (updateSeq s.heap.objs.size (λ_=>#[]) >>= _) _ _ _ from zza (wpAny_updateSeq hS rfl ?_ (by rw[Kb];decide) (by rw[Kb];decide)))
 have oth:∀b o,s.heap.get? b=some o->((s.heap.push { cls:=Value.type "list",data:=Data.seq #[] }).update s.heap.objs.size (Obj.mapSeq λ_=>#[])).get? b=some o:=λb o e =>
  (wa _ _ (Ne.symm (l1 e))).trans (hk b o e)
 refine zza (wpAny_letGo (CT (A:=A.in1) hh ⟨oi,oth _ _ ei,ri⟩ ⟨ol,oth _ _ el,rl⟩ hn hIl s.heap.objs.size (Ne.symm (l1 ei)) (Ne.symm (l1 el)) Value.none _ (ue _ hS rfl) ?_))
 intro h' tk acc' c' kp e it
 exact⟨rfl,hQ h' tk acc' c' (λb o hb e=>kp b o (l1 e) hb (oth b o e)) e it⟩
end
def IU(K:Fg):List V->Hp->VK->Prop:=λxs H Q=>∃p ys,xs=[.ref p]/\SqL K H p ys/\∀l,H l=none->Q (.ref l) (upd H l (.lst ys.reverse))
theorem xX{items acc:Array Value}(h:ItemsOf (BI items) acc items.size):acc.toList=items.toList.reverse:=by
 apply JZ
 intro j
 by_cases hj:j<items.size
 ·have h1:j<acc.size:=by rw[h.1];exact hj
  have:=h.2 j acc[j] (ac h1)
  unfold BI at this
  rw[ug,ac h1,<-this,List.getElem?_reverse (by simpa using hj),ug,fu]
 ·rw[List.getElem?_eq_none (by rw[fu,h.1];lia),List.getElem?_eq_none (by rw[List.length_reverse,fu];lia)]
theorem yM:∀{xs:List V} {us:List Value},Vals xs us->Vals xs.reverse us.reverse:=by
 intro xs
 induction xs with
 | nil=>intro us r;cases r;exact .nil
 | cons x xs ih =>
  intro us r
  cases r with
  | cons a b =>
   rw[Kt,Kt]
   exact Vals.append (ih b) (.cons a .nil)
theorem ze{K:Fg}{F:Hp}:∀{vs:List V} {ds:List D},RepL K F vs ds->RepL K F vs.reverse ds.reverse:=by
 intro vs
 induction vs with
 | nil=>intro ds r;cases r;exact .nil
 | cons x xs ih =>
  intro ds r
  cases r with
  | cons a b =>
   rw[Kt,Kt]
   exact RepL.append (ih b) (.cons a .nil)
def wD:List D->Option (List D)
 | [.list ds]=>some ds.reverse
 | _=>none
section
variable {X:Cx}{a:Expr}{t:TA}{p p2 pos pos2:Pos}
theorem tX(hc:X.calm=true)(hg:Gl X "list")(hm:X.mg "list" = none)(hg2:Gl X "reversed")(hm2:X.mg "reversed" = none)(ha:PA X [a] t)
  (he:starEach [a] X.env=[(false,eval a X.env)]) (he2:starEach [.Call (.Name "reversed" p2) [a] [] pos2] X.env=[(false,eval (.Call (.Name "reversed" p2) [a] [] pos2) X.env)]) :
  PE X (.Call (.Name "list" p) [.Call (.Name "reversed" p2) [a] [] pos2] [] pos) (tCB (IU X.K) t):=by
 intro pins s Z H Q I h
 refine re (fg I hg hm (show bootBuiltins "list" = some (.type "list") by decide +kernel) ?_ (by decide) (by decide))
 refine pI ?_ he2 rfl
 rw[he2]
 show wpAny _ _ (spliced ((false,eval (.Call (.Name "reversed" p2) [a] [] pos2) X.env)::backTo pos [])) _ _ s
 refine Ko (re (fg I hg2 hm2 (show bootBuiltins "reversed" = some (.type "reversed") by decide +kernel) ?_ (by decide) (by decide)))
 refine pI (T := "reversed") (thn (ha pos2 pins s Z H _ I h) λus s1 ⟨vs,H1,I1,r1,q1⟩=>?_) he rfl
 obtain⟨b,ys,rfl,hq,k⟩:=q1
 obtain⟨u,rfl,ru⟩:=L2.Vals.one r1
 cases ru
 obtain⟨its,rv,⟨o,n,e1,e2,e3,e4⟩,hz⟩:=I1.list hq
 refine call_reversed_list ⟨o,e1,e2,n,e4⟩ (Ku ?_)
 have hlen:its.toArray.size=ys.length:=by rw[be,rv.length]
 have hne:b≠s1.heap.objs.size:=eE (ay e1)
 refine zX (s:={ s1 with heap:=s1.heap.push (revObj b ((its.toArray.size:Int) - 1)) }) (l:=b) (items:=its.toArray) (I1.ok.hd hc) ⟨_,zze _ rfl,rfl,rfl⟩ ⟨o,zzc _ e1,e2,n,e4⟩ (by rw[hlen];exact hz) hne λh' tk acc c kp e it=>?_
 have hs:(s1.heap.push (revObj b ((its.toArray.size:Int) - 1))).objs.size=s1.heap.objs.size+1:=by simp[Heap.push]
 have hacc:acc.toList=its.reverse:=by simpa using xX it
 refine⟨.ref (s1.heap.push (revObj b ((its.toArray.size:Int) - 1))).objs.size,_,I1.laid (t':=tk) (o:=.lst ys.reverse) (λb' o' e'=>kp b' o' (eE (ay e')) (zzc _ e')) (by rw[hs];lia) ⟨by rw[List.length_reverse];exact hz,acc.toList,c,by rw[hacc];exact yM rv,by rw[Array.toArray_toList];exact e⟩,rfl,k _ (I1.hok.fresh (by rw[hs];lia))⟩
theorem u9{ps:Pa (List D)}(hc:X.calm=true)(hg:Gl X "list")(hm:X.mg "list" = none)(hg2:Gl X "reversed")(hm2:X.mg "reversed" = none)(ha:AAo X [a] ps)
  (he:starEach [a] X.env=[(false,eval a X.env)]) (he2:starEach [.Call (.Name "reversed" p2) [a] [] pos2] X.env=[(false,eval (.Call (.Name "reversed" p2) [a] [] pos2) X.env)]) :
  AL X (.Call (.Name "list" p) [.Call (.Name "reversed" p2) [a] [] pos2] [] pos) (ji wD ps) :=
 λG F Z H ρ Q S w=>sem (tX hc hg hm hg2 hm2 bI he he2) (jM ha S w λxs ds F' H' s' S' hx w'=>by
  obtain⟨res,e,k⟩:=w'.opt
  unfold wD at e
  split at e
  ·cases e
   obtain⟨v,r,rfl,ho,hr⟩:=aQ hx
   obtain rfl:=bm hr
   obtain⟨a,vs,rfl,h1,h2⟩:=ho.list S'.fh
   refine⟨a,vs,rfl,h1,λl hl=>?_⟩
   obtain⟨S2,r2⟩:=S'.newLst hl (ze h2)
   exact k F' _ (Same.refl _) S2 _ r2
  ·cases e)
end
end L4
namespace L4
open PySem PySem.Spec PyProof.Rows L2 L3
variable {C:Addr}
section
variable {α:Type} {l:List α}
theorem ln0(h:l.length=0):l=[]:=List.eq_nil_of_length_eq_zero h
theorem lnS{n:Nat}(h:l.length=n+1):∃a t,l=a::t/\t.length=n :=
 List.recOn (motive:=λl=>l.length=n+1->∃a t,l=a::t/\t.length=n) l (λh=>(Nat.succ_ne_zero n h.symm).elim) (λa t _ h=>⟨a,t,rfl,Nat.succ.inj h⟩) h
theorem ln1(h:l.length=1):∃a,l=[a]:=by obtain⟨a,t,e,q⟩:=lnS h;exact⟨a,by rw[e,ln0 q]⟩
theorem ln2(h:l.length=2):∃a b,l=[a,b]:=by obtain⟨a,t,rfl,q⟩:=lnS h;obtain⟨b,rfl⟩:=ln1 q;exact⟨a,b,rfl⟩
theorem ln3(h:l.length=3):∃a b c,l=[a,b,c]:=by obtain⟨a,t,rfl,q⟩:=lnS h;obtain⟨b,c,rfl⟩:=ln2 q;exact⟨a,b,c,rfl⟩
theorem ln4(h:l.length=4):∃a b c d,l=[a,b,c,d]:=by obtain⟨a,t,rfl,q⟩:=lnS h;obtain⟨b,c,d,rfl⟩:=ln3 q;exact⟨a,b,c,d,rfl⟩
end
section
variable {K:Fg} {h:Heap} {mg:zzl} {x qual:Str} {st:Stmt} {f T:Addr} {oc:Value} {od an:Option Addr} {osl:Array (Option Value)} {kV doc pm cdv ct:Value}
def Fa(K:Fg)(x:Str)(st:Stmt):Prop:=∃f fd,PySem.W.nsIn K mainGlobals x=some (some (.ref f))/\Fun K x x st f fd
theorem cB(a:PySem.W.nsIn K mainGlobals x=some (some (.ref f)))(l:K.lookup f=some ⟨oc,od,.func (PySem.W.fnOf x x (bD st) (aZ st) (au st) .none kV doc pm an cdv ct),osl⟩)
  (c:PySem.W.codeIn K cdv x=true) (k:PySem.W.keepIn K (.ref f)=true):Fa K x st:=⟨f,_,a,Aq l c k⟩
def FaV(K:Fg)(x:Str)(st:Stmt)(i:Int):Prop:=∃f fd T,PySem.W.nsIn K mainGlobals x=some (some (.ref f))/\FunV K x x st f fd T/\DfT K T i
theorem FN{o:Obj}{n:Nat}{u:Value}{i:Int}(a:PySem.W.nsIn K mainGlobals x=some (some (.ref f)))(l:K.lookup f=some ⟨oc,od,.func (PySem.W.fnOf x x (bD st) (aZ st) (au st) (.ref T) kV doc pm an cdv ct),osl⟩)
  (c:PySem.W.codeIn K cdv x=true) (k:PySem.W.keepIn K (.ref f)=true) (dl:K.lookup T=some o) (de:o.data=.seq #[u] n) (dr:RelV (.int i) u):FaV K x st i:=⟨f,_,T,a,CL l c k,o,n,u,dl,de,dr⟩
def Xa(K:Fg)(x qual:Str)(st:Stmt)(fl:List Str):Prop:=∃C D f fd,PySem.W.nsIn K mainGlobals x=some (some (.ref C))/\Fun K "__init__" qual st f fd/\XC K C D f/\XQ K C x/\PySem.W.keepIn K (.ref C)=true/\(∀f∈fl,nB K C f)/\PySem.W.exmOne K (.ref C) (.ref C)=some true
theorem GH{D N:Addr}{nm qn:Str}{bs sb:List Value}{sn:List Str}{ab:Bool}{co:Option Bool}{dd:Option Addr}{k0 k1 k2 k3 k5:Option Value}{fl:List Str}
  (xa:PySem.W.nsIn K mainGlobals x=some (some (.ref C))) (xb:K.lookup C=some (excClassObj nm qn C N bs (.ref D::bmV) true sn sb ab co dd k0 k1 k2 k3 k5 "ValueError.__new__")) (xc:PySem.W.findIn K (.ref C) "__init__" = some (some (.ref f)))
  (xd:K.lookup f=some ⟨oc,od,.func (PySem.W.fnOf "__init__" qual (bD st) (aZ st) (au st) .none kV doc pm an cdv ct),osl⟩) (xe:PySem.W.codeIn K cdv qual=true) (xf:PySem.W.keepIn K (.ref f)=true) (xg:PySem.W.keepIn K (.ref C)=true)
  (xh:PySem.W.tailIn K bmV (.ref D::bmV)=true) (xi:PySem.W.typeIn K (.ref f)=some (.type "function")) (xj:PySem.W.findIn K (.ref C) "__setattr__" = some (some (.builtin "object.__setattr__"))) (xk:PySem.W.findIn K (.ref C) "__getattribute__" = some (some (.builtin "BaseException.__getattribute__")))
  (xl:PySem.W.findIn K (.ref C) "__getattr__" = some none) (xm:PySem.W.exmOne K (.ref C) (.ref C)=some true) (xp:PySem.W.findIn K (.ref C) "__class__" = some (some (.builtin "object.__class__"))) (xq:PySem.W.specialIn K (.builtin "object.__class__") "__get__" = some (some (.builtin "getset_descriptor.__get__")))
  (xr:PySem.W.takesIn K (.builtin "object.__class__")=some true) (xo:(["bool", "int", "str", "list", "tuple", "dict"].all λT=>PySem.W.kitOne K (.ref C) (.type T)==some false)=true) (xn:∀f∈fl,nB K C f):Xa K x qual st fl :=
 ⟨C,D,f,_,xa,Aq xd xe xf,⟨⟨nm,qn,N,bs,sn,sb,ab,co,dd,k0,k1,k2,k3,k5,xb⟩,xh,xc,xi,xj,xk,xl⟩,⟨xa,⟨_,_,⟨nm,qn,N,bs,sn,sb,ab,co,dd,k0,k1,k2,k3,k5,xb⟩,xh,xc,xi,xj,xk,xl⟩,⟨xp,xq,xr⟩,GG xo⟩,xg,xn,xm⟩
theorem na0:∀f∈([]:List Str),nB K C f:=λ_ h=>(nomatch h)
theorem Ff{D:Addr}(a:PySem.W.nsIn K mainGlobals x=some (some (.ref C)))(b:PySem.W.nsIn K mainGlobals x=some (some (.ref D))):C=D:=by
 rw[a]at b;cases b;rfl
def HQ:Option (Option Value)->Bool
 | some none=>true
 | _=>false
theorem Ip{l:List Str}(X:K.In h)(G:h.Ns mainGlobals mg)(z:(l.all λx=>HQ (PySem.W.nsIn K mainGlobals x))=true):∀x∈l,mg x=none:=λx hx=>by
 have q:=List.all_eq_true.mp z x hx
 generalize e:PySem.W.nsIn K mainGlobals x=o at q
 match o,q with
 | some none,_=>exact PySem.W.mg_none_of X G e
end
end L4
set_option maxHeartbeats 3200000
namespace WD
open PySem PyProof.Rows
section
variable {prog:Program}{w:World}{A:Around}{E:zzj}
theorem Cj{s:Shared}{a:Addr}{o:Obj}{xs:Array Value}{k:Nat}{name:Str}{u:Tok}{Q:zzj}
  (hx:s.heap.get? a=some o) (hc:o.cls=.type "list") (hdat:o.data=.seq xs k) (hd:o.dict=none) (hmiss:typeLookup (.type "list") name=pure none) (hname:(["__module__", "__name__", "__qualname__", "__doc__", "__annotations__"]:List Str).contains name=false) (hA:A.handled=none) (hsz:name.length+100<=sizeLine)
  (h:∀h' tk e,Heap.NewExcOf s.heap h' e "AttributeError" -> E (.ref e) { s with heap:=h',toks:=tk }) :
  wpAny (model prog w) A (getAttrBy (.ref a) (.str name u) false) Q E s:=by
 obtain⟨c,dct,dat,sl⟩:=o
 simp only at hc hdat hd
 subst hc hdat hd
 obtain⟨hp,g,d,tk,os⟩:=s
 have hT:∀tk',(⟨hp,g,d,tk',os⟩:Shared).TypeIs (.ref a) "list":=λ_=>⟨_,hx,rfl⟩
 have f1:=sub_AttributeError
 have f3:=F.slot_list_getattribute.lookup
 have f4:=F.slot_list_getattribute.bind (.ref a)
 have f5:=am_list_getattr_none
 unfold getAttrBy
 repeat (any_goals (first|assumption|exact hT _|((with_reducible show wpAny _ _ (call (Value.builtin "list.__getattribute__") _ _) _ _ _);refine call_meets F.slot_list_getattribute (hT _) am_entry_list_getattribute (F.args_list_getattribute_2 _ _) (meets_getattribute_miss_list a xs k sl name _ hmiss hname hsz) ⟨hx,hA,λh' tk' e hx'=>?_⟩)|wp_step))
 obtain⟨t',u',he⟩:=hx'.there
 show wpAny _ _ (getattributeRaised _ _ _ _ _ _ _) _ _ _
 unfold getattributeRaised
 repeat (any_goals (first|assumption|wp_step))
 exact h _ _ _ hx'.of
theorem miss?{s:Shared}{a:Addr}{o:Obj}{xs:Array Value}{k:Nat}{name:Str}{Q:Option Value->Shared->Prop}
  (hx:s.heap.get? a=some o) (hc:o.cls=.type "list") (hdat:o.data=.seq xs k) (hd:o.dict=none) (hmiss:typeLookup (.type "list") name=pure none) (hname:(["__module__", "__name__", "__qualname__", "__doc__", "__annotations__"]:List Str).contains name=false) (hA:A.handled=none) (hsz:name.length+100<=sizeLine)
  (h:∀h' tk e,Heap.NewExcOf s.heap h' e "AttributeError" -> Q none { s with heap:=h',toks:=tk }) :
  wpAny (model prog w) A (getAttr? (.ref a) name) Q E s:=by
 unfold getAttr? getAttrBy?
 obtain⟨hp,g,d,tk,os⟩:=s
 repeat (any_goals (first|assumption|(with_reducible refine Cj (s:=⟨hp,g,d,_,os⟩) hx hc hdat hd hmiss hname hA hsz λh' tk' e hx'=>?_)|wp_step))
 obtain⟨oe,vs,he,hec,hed,_⟩:=hx'.there
 have f1:=sub_AttributeError
 obtain⟨c,dct,dat,sl⟩:=oe
 simp only at hec hed
 subst hec hed
 repeat (any_goals (first|assumption|wp_step))
 exact h _ _ _ hx'
end
end WD
namespace L4
open PySem PySem.Spec PyProof.Rows L2 L3
variable {X:Cx}{p:Addr}{pins:zzk}{Z:L2.St}{H H':Hp}{A:Around}
section
variable {s:Shared} {a b:Addr} {y v:V} {u r:Value} {E:zzj}
theorem FY{Q:Unit->Shared->Prop}(hu:A.units+1<cLine)(I:Inv X pins Z H s)(g:DPut H a y v H')(ry:RelV y u)(rv:RelV v r)
  (h:∀s',Inv X pins Z H' s'->(∀b o,b≠a->s.heap.get? b=some o->s'.heap.get? b=some o)->Q () s') :
  wpAny (model X.prog X.w) A (dictSet a u r) Q E s:=by
 rcases g with ⟨kvs,k,e,ey,l,eH⟩|⟨kvs,k,b,e,ey,eb,l,eH⟩
 ·subst ey eH
  obtain⟨z,hd,vs,rel,dd⟩:=sK I.hok e
  have hz:vs.length<=sizeLine:=by rw[<-rel.length];exact z
  have hl:(putK kvs k v).length<=sizeLine:=by have:=cX kvs k v;lia
  refine wpAny_dictSet_pairs (hsz:=hz) (ky ry) dd λh' dd' hs=>h _ ?_ λb o n e=>(hs.2 b n).trans e
  have he:∃q,h'.get? a=some q:=let ⟨q,_,_,hq,_⟩:=dd';⟨q,hq⟩
  exact jK I (by rw[e];exact True.intro) hs he (AM hl hd (rel.put k rv) dd')
 ·subst ey eH
  cases (show u=Value.ref b from ry)
  obtain⟨z,hd,xs,rel,dd⟩:=mX I.hok e
  have hz:xs.length<=sizeLine:=by rw[<-Paired.length rel];exact z
  have hl:(putK kvs k v).length<=sizeLine:=by have:=cX kvs k v;lia
  refine wpAny_dictSet_heap (hsz:=hz) (show(tupleKind (aX X.prog X.w)).room A from by first|exact hu|exact Is (ai _) hu|(show A.units<cLine;lia)) (fZ I.hok eb) dd λh' dd' hs=>h _ ?_ λb o n e=>(hs.2 b n).trans e
  obtain⟨q,es,ep,hq,h2,h3,h4,_,h5⟩:=dd'
  refine jK I (by rw[e];exact True.intro) hs ⟨q,hq⟩ ⟨hl,hd,_,(rel.put k eb rv).keeps λc ys ec=>?_,q,es,ep,hq,h2,h3,h4,h5⟩
  rw[aA (zS ec e (λz=>nomatch z))]
  exact ec
theorem kZ(g:DPut H a y v H'):H a≠none/\∀b,b≠a->H' b=H b:=by
 rcases g with ⟨kvs,k,e,ey,l,eH⟩|⟨kvs,k,b,e,ey,eb,l,eH⟩
 ·subst eH;exact⟨by rw[e];exact(λz=>nomatch z),λb n=>aA n⟩
 ·subst eH;exact⟨by rw[e];exact(λz=>nomatch z),λb n=>aA n⟩
end
inductive PutAll(K:PySem.W.Frag)(d:Addr):Hp->List V->Hp->Prop where
 | nil {H:Hp}:PutAll K d H [] H
 | cons {H H1 H':Hp} {t:Addr} {k v:V} {rest:List V}:SqT K H t [k,v]->DPut H d k v H1->PutAll K d H1 rest H'->PutAll K d H (.ref t::rest) H'
theorem oX:entryFor table "dict.update.loop" = some Builtin.«dict.update.loop»:=entryFor_of_tree (by kernel_rfl)
theorem iC:plainId "dict.update.loop" = true:=by decide +kernel
section
theorem Il{R:Result->Shared->Prop}(hh:A.handled=none)(hu:A.units+2<cLine){d it:Addr}{xs:List V}(f1:it≠X.env.locals)(f3:it∈X.ex\/X.s₀.heap.objs.size<=it)
  (f4:∀x c,X.env.cells.lookup x=some c->c≠it) (f5:∀p∈X.pn++pins,p.1≠it):∀(rest:List V) (i:Nat) (j:Int) (u:Tok) (s:Shared) (H H':Hp),Inv X pins Z H s->H it=none->s.heap.IsListIter it p i ->
  (∀H1,(∀b,b≠d->H1 b=H b)->SqL X.K H1 p xs)->xs.drop i=rest->PutAll X.K d H rest H'->(∀s',Inv X pins Z H' s'->R (.ok (.ret .none)) s') ->
  codeAny (model X.prog X.w) A (.builtin "dict.update.loop" ⟨[.ref d,.ref it,.int j u,.none],[]⟩) R s:=by
 intro rest
 induction rest with
 | nil =>
  intro i j u s H H' I f0 st kp hd P hR
  cases P
  refine JP oX ?_
  rw[Kf iC _]
  show wpAny _ A.in1 (pyNext (.ref it) >>= _) _ _ s
  obtain⟨its,rv,pl,hz⟩:=I.list (kp H λ_ _=>rfl)
  have hl:=rv.length
  have hl2:=congrArg List.length hd
  rw[Db,zi]at hl2
  refine zza (wpAny_pyNext_list_end (show A.in1.handled=none from hh) st pl.isList (by simp;lia) λh' eb=>?_)
  exact zza (zzb (zzb (hR _ (I.turned (t':=s.toks) (λb o hb e=>eb b o hb e) f0 f1 f3 f4 f5))))
 | cons q rest ih =>
  intro i j u s H H' I f0 st kp hd P hR
  cases P with
  | @cons _ H1 _ t k v _ tq g P =>
  refine JP oX ?_
  rw[Kf iC _]
  show wpAny _ A.in1 (pyNext (.ref it) >>= _) _ _ s
  obtain⟨its,rv,pl,hz⟩:=I.list (kp H λ_ _=>rfl)
  have hx:xs[i]? = some (.ref t):=by
   have:=congrArg (λl=>l[0]?) hd
   simpa using this
  obtain⟨w,hw,rw'⟩:=rv.get hx
  cases (show w=Value.ref t from rw')
  refine zza (wpAny_pyNext_list_item st pl.isList (x:=.ref t) (by simpa using hw) λh' st' sb=>?_)
  dsimp only
  have I1:Inv X pins Z H { s with heap:=h' }:=I.turned (t':=s.toks) (λb o hb e=>(sb.2 b hb).trans e) f0 f1 f3 f4 f5
  obtain⟨tt,vt,pt,_⟩:=I1.tuple tq
  cases vt with
  | cons rk vt =>
  cases vt with
  | cons rv' vt =>
  cases vt
  obtain⟨ot,et,ct,n,dt⟩:=pt
  refine zza (sk ?_)
  have hT:({ s with heap:=h' }:Shared).TypeIs (.ref t) "tuple":=⟨ot,et,ct⟩
  obtain⟨c,dct,dat,sl⟩:=ot
  simp only at ct dt
  subst ct dt
  refine zza (wpAny_tryCatch ?_)
  unfold Builtin.Dict.pairItems
  refine zza (JM hT ?_)
  rw[aw (by decide)]
  refine zza (wpAny_seqItems et rfl ?_)
  refine zzb ?_
  show wpAny _ _ (holding [_,_] (dictSet d _ _)) _ _ _
  have nd:it≠d:=λz=>(kZ g).1 (by rw[<-z];exact f0)
  refine sk (FY (by show A.units+1+1<cLine;exact hu) I1 g rk rv' λs2 I2 k2=>?_)
  refine zzb ⟨plainId_quiet iC _,?_⟩
  exact ih (i+1) _ _ s2 H1 H' I2 (((kZ g).2 it nd).trans f0) (st'.at λo e=>k2 it o nd e) (λH2 h2=>kp H2 λb n=>(h2 b n).trans ((kZ g).2 b n)) (by rw[<-Kl,hd];rfl) P hR
end
section
variable {s:Shared} {E:zzj}
theorem rX:typeLookup (.type "list") "keys" = pure none:=by rw[typeLookup_type,builtinLookup_eq_fast];kernel_rfl
theorem uV{xs:List V}{ob:HO}{Q:zzj}(hh:A.handled=none)(hu:A.units+10<cLine)(I:Inv X pins Z H s)(hob:ob=.dK []\/ob=.dT [])
  (hq:∀H1,(∀b,b≠s.heap.objs.size->H1 b=H b)->SqL X.K H1 p xs) (P:PutAll X.K s.heap.objs.size (upd H s.heap.objs.size ob) xs H') (h:∀s',Inv X pins Z H' s'->Q (.ref s.heap.objs.size) s') :
  wpAny (model X.prog X.w) A (call (.type "dict") [.ref p]) Q E s:=by
 refine callType_codes (Q₁:=λobj s₁=>obj=.ref s.heap.objs.size/\s₁={ s with heap:=s.heap.push { cls:=.type "dict",data:=.dict #[] } }) F.kt_called_dict (F.kt_typeCall_dict_1 _) F.entry_dict_init (kt_code_dict_new _ ⟨rfl,rfl⟩) ?_
 rintro obj s₁ ⟨rfl,rfl⟩
 have I1:Inv X pins Z (upd H s.heap.objs.size ob) { s with heap:=s.heap.push { cls:=.type "dict",data:=.dict #[] },toks:=s.toks }:=by
  rcases hob with rfl|rfl
  ·exact I.laid (λ_ _ q=>zzc _ q) (ai _) (sL s.heap I.big)
  ·exact I.laid (λ_ _ q=>zzc _ q) (ai _) (mY s.heap I.big)
 have hT:({ s with heap:=s.heap.push { cls:=.type "dict",data:=.dict #[] } }:Shared).TypeIs (.ref s.heap.objs.size) "dict":=⟨_,zze _ rfl,rfl⟩
 refine⟨hT,F.args_dict_init_2 _ _,?_⟩
 unfold Builtin.«dict.__init__»
 refine zza ?_
 unfold Builtin.Dict.selfAndRest
 refine zza (wpAny_notOrdered_dict hT ?_)
 show wpAny _ _ (pure (s.heap.objs.size,[Value.ref p])) _ _ _
 refine zzb ?_
 show wpAny _ _ (Builtin.Dict.updateFrom "dict.__init__" s.heap.objs.size (.ref p) [] .none) _ _ _
 unfold Builtin.Dict.updateFrom
 have q1:=hq (upd H s.heap.objs.size ob) (λb n=>aA n)
 obtain⟨its,rv,pl,hz⟩:=I1.list q1
 obtain⟨o,n,e,c,d,dt⟩:=id pl
 refine zza (JM ⟨o,e,c⟩ ?_)
 rw[aw (by decide)]
 refine zza (WD.miss? (A:=A.in1.in1) e c dt d rX (by decide) hh (by rw[Kb];decide) λh2 tk2 ex ne=>?_)
 simp only[Option.isNone_none,At]
 have I2:=I1.kept (h':=h2) (t':=tk2) ne.keeps
 obtain⟨its2,rv2,pl2,_⟩:=I2.list q1
 refine zza (JJ ?_)
 refine zza (wpAny_pyIter_list pl2.isList ?_)
 obtain⟨f0,f1,f2,f3,f4,f5⟩:=I2.fpOk (H':=upd H s.heap.objs.size ob) (ai _) (I2.hok.fresh (ai _))
 refine zzb ⟨plainId_quiet iC _,?_⟩
 exact Il (A:=A.in1) hh (by show A.units+1+2<cLine;lia) f1 f3 f4 f5 xs 0 _ _ _ _ H' (I2.kept (t':=tk2) λb o e=>zzc _ e) f0 ⟨_,zze _ rfl,rfl,rfl⟩ (λH2 h2=>hq H2 λb n=>(h2 b n).trans (aA n)) rfl P λs' J=>⟨rfl,h s' J⟩
end
def uL(t:Bool):HO:=if t then .dT []else .dK []
def IH(K:PySem.W.Frag)(t:Bool)(te:TE):TE:=λZ H Q=>te Z H λx H1=>∃a xs,x=.ref a/\∀p,H1 p=none->(∀H2:Hp,(∀b,b≠p->H2 b=H1 b)->SqL K H2 a xs)/\∃H',PutAll K p (upd H1 p (uL t)) xs H'/\Q (.ref p) H'
section
variable {e:Expr} {te:TE} {p pos:Pos}
theorem B4(t:Bool)(hc:X.calm=true)(hu:X.A.units+10<cLine)(hg:Gl X "dict")(hm:X.mg "dict" = none)(ha:PE X e te)(he:starEach [e] X.env=[(false,eval e X.env)]) :
  PE X (.Call (.Name "dict" p) [e] [] pos) (IH X.K t te):=by
 intro pins s Z H Q I h
 refine re (fg I hg hm (show bootBuiltins "dict" = some (.type "dict") by decide +kernel) ?_ (by decide) (by decide))
 refine pI (T := "dict") ?_ he rfl
 rw[he]
 show wpAny _ _ (spliced ((false,eval e X.env)::backTo pos [])) _ _ s
 refine Ko (thn (ha pins s Z H _ I h) λv s1 ⟨x,H1,I1,r1,q1⟩=>?_)
 obtain⟨a,xs,rfl,k⟩:=q1
 cases r1
 refine Ku ?_
 obtain⟨hq,H',P,q⟩:=k s1.heap.objs.size (I1.hok.fresh (ai _))
 exact uV (I1.ok.hd hc) hu I1 (ob:=uL t) (by cases t;exact .inl rfl;exact .inr rfl) hq P λs' J=>⟨.ref s1.heap.objs.size,_,J,rfl,q⟩
end
def oB(t:Bool):List (D×D)->List D->Option (List (D×D))
 | es,[]=>some es
 | es,.tuple [k,d]::r=>(gI t es k d).bind λes1=>oB t es1 r
 | _,_=>none
theorem Hn{K:Fg}{F:Hp}{t:Bool}{es es1:List (D×D)}{kd d:D}{x v:V}(hh:Held K F H p (ocD t es))(sm:Same F H)(rk:Rep K F x kd)(rv:Rep K F v d)(hp:gI t es kd d=some es1) :
  ∃H1,DPut H p x v H1/\Held K F H1 p (ocD t es1):=by
 unfold gI at hp
 split at hp
 case isFalse=>cases hp
 rename_i hc
 cases hp
 rw[ax,zzi]at hc
 cases t with
 | true =>
  obtain⟨ks,rfl⟩:=dR hc.1
  obtain⟨b,rfl,hb⟩:=fy rk
  obtain⟨kvs,h1,h2,h3⟩:=(show Held K F H p (.t es)from hh)
  obtain⟨p1,p2⟩:=kW qj ks rv h2 h3
  have hlen:kvs.length=es.length:=by have:=congrArg List.length h2;simpa using this.symm
  exact⟨_,DPut.t h1 (sm _ _ hb) (by lia),⟨_,aB,p1,p2⟩⟩
 | false =>
  obtain⟨ks,rfl⟩:=fF hc.1
  obtain rfl:=gP rk
  obtain⟨kvs,h1,h2,h3⟩:=(show Held K F H p (.k es)from hh)
  obtain⟨p1,p2⟩:=kW uA ks rv h2 h3
  have hlen:kvs.length=es.length:=by have:=congrArg List.length h2;simpa using this.symm
  exact⟨_,DPut.k h1 (by lia),⟨_,aB,p1,p2⟩⟩
theorem BP{K:Fg}{F:Hp}{t:Bool}(fp:F p=none):∀{vs:List V} {ds:List D} {es es':List (D×D)} {H:Hp},RepL K F vs ds->Held K F H p (ocD t es)->Same F H->oB t es ds=some es' ->
  ∃H',PutAll K p H vs H'/\Held K F H' p (ocD t es')/\∀b,b≠p->H' b=H b:=by
 intro vs
 induction vs with
 | nil =>
  intro ds es es' H r hh sm e
  cases r
  cases e
  exact⟨H,.nil,hh,λ_ _=>rfl⟩
 | cons x vs ih =>
  intro ds es es' H r hh sm e
  cases r with
  | cons r1 r2 =>
  unfold oB at e
  split at e
  ·rename_i q;cases q
  ·rename_i k d r q
   cases q
   obtain⟨es1,e1,e2⟩:=Option.bind_eq_some_iff.mp e
   obtain⟨a,ws,rfl,ha,rw'⟩:=r1.tup_inv
   cases rw' with
   | cons rk rw' =>
   cases rw' with
   | cons rv rw' =>
   cases rw'
   obtain⟨H1,g,hh1⟩:=Hn hh sm rk rv e1
   have nb:=(kZ g).2
   have sm1:Same F H1:=λb o z=>by rw[nb b (λy=>by rw[y,fp]at z;cases z)];exact sm b o z
   obtain⟨H',P,hh2,n2⟩:=ih r2 hh1 sm1 e2
   exact⟨H',.cons (SqT.of (sm _ _ ha)) g P,hh2,λb n=>(n2 b n).trans (nb b n)⟩
  ·cases e
def wK(t:Bool):D->Option (List (D×D))
 | .list ds=>oB t [] ds
 | _=>none
def IP{S:Type}(t:Bool)(i:Nat)(me:Ev S D):SM S:=λK ρ=>me K.x (λd ρ1=>match eN ρ1 i with
 | true=>(oM (wK t d)).on (λe=>K.x e ρ1) (λes=>K.nx (ρ1.set i (some (.ol (ocD t es)))))
 | false=>.bad) ρ
theorem Gm{S:Type}(t:Bool){i:Nat}{x:Str}{e:Expr}{me:Ev S D}{p pos pos' tpos:Pos}(hc:X.calm=true)(hu:X.A.units+1100<cLine)(hg:Gl X "dict")(hm:X.mg "dict" = none)(hN:X.N.Nodup)(hi:X.N[i]? = some x)(hx:Loc X.env.scope x)(hk:AE X e me)(he:starEach [e] X.env=[(false,eval e X.env)])
  (hs:swapsWith (.Call (.Name "dict" p) [e] [] tpos) (some (.Name x pos')) pos.line X.env=pure false) (hf:X.fn x=true\/X.env.scope.names.lookup x=some .local) :
  AS (S:=S) X (.Assign [.Name x pos'] (.Call (.Name "dict" p) [e] [] tpos) pos) (IP t i me):=λOK K G F Z H ρ E hO hX St ok eo =>
 fw (jg hN hi hx (B4 t hc (by lia) hg hm aC he) hs hf) (hk OK K.x _ G F Z H ρ _ hO hX St ok λd v F1 H1 ρ1 s1 S1 r1 o1=>by
  split at o1
  case h_2=>exact(hO o1).elim
  rename_i hq
  obtain⟨es,hd,o3⟩:=cg hO o1
  obtain⟨hl,hop⟩:=bY hq
  unfold wK at hd
  split at hd
  case h_2=>cases hd
  rename_i ds
  obtain⟨a,vs,rfl,h1,h2⟩:=r1.lst_inv
  refine⟨a,vs,rfl,λp hp=>?_⟩
  have fp:=S1.fh.free hp
  have op:=S1.oh.free hp
  have smU:∀H2:Hp,(∀b,b≠p->H2 b=H1 b)->Same F1 H2:=λH2 h b o z=>by rw[h b (λy=>by rw[y,fp]at z;cases z)];exact S1.fh b o z
  obtain⟨H',P,hh,n⟩:=BP (t:=t) (es:=[]) (H:=upd H1 p (uL t)) fp h2 (by cases t<;>exact⟨[],aB,rfl,.nil⟩) (smU _ λb n=>aA n) hd
  refine⟨λH2 h=>(smU H2 h).seq h1,H',P,?_⟩
  obtain⟨o,ho⟩:=hh.some
  have eH:H'=upd H1 p o:=funext λb=>by
   by_cases z:b=p
   ·rw[z,ho,aB]
   ·rw[n b z,aA z,aA z]
  subst eH
  exact eo.nx F1 _ _ _ s1 ((S1.lay (o:=o) hp).store hop hl (.inr ⟨ocD t es,rfl,p,rfl,⟨fp,op,hh⟩,S1.fresh_ne hp⟩)) o3)
end L4
set_option maxHeartbeats 8000000
namespace K31
open PySem PySem.Spec PyProof.Rows L2 L3 L4
variable {f T:Addr}{fd:FuncData}{mg:zzl}
noncomputable section
def top(i:Nat):Stmt:=PySem.Challenge.pw_passersby_k31_ways_to_goals.main.body.getD i (.Pass ⟨0,0,0,0⟩)
abbrev BL:List Str:=["range", "len", "tuple", "list", "max", "min", "sum", "repr", "enumerate", "isinstance", "int", "bool", "sorted", "dict", "reversed", "ValueError"]
def BN(mg:zzl):Prop:=∀x∈BL,mg x=none
theorem BN.range(B:BN mg):mg "range" = none:=B _ (by decide)
theorem BN.len(B:BN mg):mg "len" = none:=B _ (by decide)
theorem BN.tuple(B:BN mg):mg "tuple" = none:=B _ (by decide)
theorem BN.list(B:BN mg):mg "list" = none:=B _ (by decide)
theorem BN.max(B:BN mg):mg "max" = none:=B _ (by decide)
theorem BN.min(B:BN mg):mg "min" = none:=B _ (by decide)
theorem BN.sum(B:BN mg):mg "sum" = none:=B _ (by decide)
theorem BN.repr(B:BN mg):mg "repr" = none:=B _ (by decide)
theorem BN.enumerate(B:BN mg):mg "enumerate" = none:=B _ (by decide)
theorem BN.isinstance(B:BN mg):mg "isinstance" = none:=B _ (by decide)
theorem BN.int(B:BN mg):mg "int" = none:=B _ (by decide)
theorem BN.bool(B:BN mg):mg "bool" = none:=B _ (by decide)
theorem BN.sorted(B:BN mg):mg "sorted" = none:=B _ (by decide)
theorem BN.dict(B:BN mg):mg "dict" = none:=B _ (by decide)
theorem BN.reversed(B:BN mg):mg "reversed" = none:=B _ (by decide)
theorem BN.ValueError(B:BN mg):mg "ValueError" = none:=B _ (by decide)
structure KX(K:Fg)(mg:zzl):Prop where
 t_NoCrowd_NoLine_NoMeeting_NoPaper_NoRule_NoText:∃Cs,MgL mg ["NoCrowd", "NoLine", "NoMeeting", "NoPaper", "NoRule", "NoText"] Cs/\InstT K (Cs.map Value.ref) [("TooMany",false)]
 i_TooMany:∃C,mg "TooMany" = some (.ref C)/\Inst1 K (.ref C) [("TooMany",true)]
 i_ValueError:Inst1 K (.type "ValueError") [("TooMany",true)]
 h_PassError:∃hv,mg "PassError" = some hv/\HandL K hv ["TooMany"]
 f_law_ask:∃a,mg "_law_ask" = some (.ref a)/\PySem.W.nsIn K mainGlobals "_law_ask" = some (some (.ref a))
section
variable {P:Program} {w:World} {K:Fg} {base:Heap}
def C1(s:Stmt):List Stmt:=match s with
 | .ClassDef _ _ _ b _ _ _ _ _ _ _=>b
 | _=>[]
abbrev dX:Stmt:=(C1 (top 5)).getD 0 (.Pass ⟨0,0,0,0⟩)
theorem kG:FnScope ["self"] ["self"] (au dX):=⟨rfl,rfl,rfl,by decide +kernel,rfl,by decide +kernel,by decide +kernel⟩
theorem uO{Cl D:Addr}(Fn:Fun K "__init__" "TooMany.__init__" dX f fd)(c:XC K Cl D f)(hm:mg "TooMany" = some (.ref Cl))(hc:XQ K Cl "TooMany")(kp:PySem.W.keepIn K (.ref Cl)=true)(na:∀f∈([]:List Str),nB K Cl f)(ex:PySem.W.exmOne K (.ref Cl) (.ref Cl)=some true):CCl P w K mg base "TooMany" 1 [] :=
 ⟨Cl,D,f,fd,["self"],c,HR (k:=0) Fn kG rfl,(Ge Fn λ_ _ _ _ _ _ _=>rfl),hm,hc,kp,na,ex⟩
abbrev lH:Stmt:=top 10
abbrev Bo:List Str:=["crowd", "meeting", "wanted"]
theorem sc_can_be:FnScope Bo ["crowd", "meeting"] (au lH):=⟨rfl,rfl,rfl,by decide +kernel,rfl,by decide +kernel,by decide +kernel⟩
def ik(gak:D)(gav:D):M D :=
 bd (bd (bd (oM (aD gav (.int 0))) λx1=>bd (oM (aD gav (.int 1))) λx2=>oM (gV x1 x2)) λb3=>if b3 then .ret (.int 2)else .ret (.int 1)) λx4=>bd (bd (bd (bd (bd (oM (aD gav (.int 0))) λx5=>oM (aD gak x5)) λx6=>oM (xH x6 x4)) λb9=>if b9 then bd (bd (oM (aD gav (.int 1))) λx7=>oM (aD gak x7)) λx8=>oM (xH x8 x4)else .ret false) λb10=>.ret (.bool b10)) λx11=>.ret x11
def oI:List D->M D:=λl=>match l with
 | [gak,gav]=>ik gak gav
 | _=>.bad
theorem xM(Fn:Fun K "can_be" "can_be" lH f fd)(hmg:mg "can_be" = some (.ref f))(B:BN mg)(Kx:KX K mg):CF P w K mg base "can_be" 1 (spD K 2 oI) :=
 ⟨f,fd,["crowd", "meeting"],cA (k:=0) Fn sc_can_be (λcdv A outer s H E hr =>
  (aa (aG (sh:=[.f,.f,.f]) (aO (i:=2) sc_can_be.nd (aj (Iq (bn (lZ (aq hr)) eM (ao (aS (aI (aq hr)) aH (ao (av 1)) (ao ak))) (ao (aS (aI (aq hr)) aH (ao (av 1)) (ao ak)))) ak ak))))
  (az (bh (aj (A6 (vd (qN vR vW (ao (aS (aI (aq hr)) aH (ao (av 0)) (ao (aS (aI (aq hr)) aH (ao (av 1)) (ao ak))))) (ao (av 2))) (Bc (qN vR vW (ao (aS (aI (aq hr)) aH (ao (av 0)) (ao (aS (aI (aq hr)) aH (ao (av 1)) (ao ak))))) (ao (av 2)))))))))))
 (λds hl=>(by obtain⟨gak,gav,rfl⟩:=ln2 hl;kernel_rfl)),hmg,Fn.kp,(nP Fn λ_ _ _ _ _ _ _ _=>rfl)⟩
abbrev lG:Stmt:=top 11
abbrev Bn:List Str:=["crowd", "meeting", "numbers", "room"]
theorem sc_led_to:FnScope Bn ["crowd", "meeting"] (au lG):=⟨rfl,rfl,rfl,by decide +kernel,rfl,by decide +kernel,by decide +kernel⟩
def ie(gaK:List D):M D :=
 bd (oM (ez [(PyData.list gaK)])) λx8=>.ret x8
def h7(gaK:List D)(d_:D)(kn9:List D×Unit->M D):M D :=
 bd (oM (cH (PyData.list gaK) d_)) λx10=>bd (oM (mq x10 (.int 1))) λx11=>bd (oM (putD gaK d_ x11)) λl12=>kn9 (l12,())
def ig(gbq:D)(gaK:List D):M D :=
 bd (bd (bd (asI (.int 2)) λlo5=>oM (iO gbq lo5 none)) λx6=>oM (cG x6)) λl7=>dg (λs13 d14 kn=>h7 s13.1 d14 kn) l7 (gaK,()) (λs13=>ie s13.1)
def h8(gbq:D)(gaK:List D)(d_:D)(kn15:D×List D×Unit->M D):M D :=
 bd (oM (cH (PyData.list gaK) d_)) λx16=>bd (oM (md x16 (.int 1))) λx17=>bd (oM (putD gaK d_ x17)) λl18=>kn15 (gbq,l18,())
def ii(gak:D)(gav:D):M D :=
 bd (oM (hV [gak])) λl1=>bd (bd (bd (asI (.int 2)) λhi2=>oM (iO gav none hi2)) λx3=>oM (cG x3)) λl4=>dg (λs19 d20 kn=>h8 s19.1 s19.2.1 d20 kn) l4 (gav,l1,()) (λs19=>ig s19.1 s19.2.1)
def oH:List D->M D:=λl=>match l with
 | [gak,gav]=>ii gak gav
 | _=>.bad
theorem xL(Fn:Fun K "led_to" "led_to" lG f fd)(hmg:mg "led_to" = some (.ref f))(B:BN mg)(Kx:KX K mg):CF P w K mg base "led_to" 1 (spD K 2 oH) :=
 ⟨f,fd,["crowd", "meeting"],cA (k:=0) Fn sc_led_to (λcdv A outer s H E hr =>
  (aa (aG (sh:=[.dead,.f,.o,.dead]) (cE (i:=2) sc_led_to.nd (cP (pH (nj rfl) rM B.list (by decide +kernel) (aJ (ao (av 0)) aP)))))
  (aa (bv (sh:=[.dead,.f,.o,.dead]) PassesOwn.leaving rfl (bH (dz (fP (ao (av 1)) fO (fN ak)))) (aK (i:=3) (bi _) sc_led_to.nd)
  (az (wQ (i:=2) rfl (vi rfl) FG CI (aj (av 3)) (aj ak) (λ_ _ _=>rfl))))
  (aa (bv (sh:=[.dead,.dead,.o,.dead]) PassesOwn.leaving rfl (bH (dz (fP (ao (av 1)) (fN ak) fO))) (aK (i:=3) (bi _) sc_led_to.nd)
  (az (wQ (i:=2) rfl (vi rfl) Ai wm (aj (av 3)) (aj ak) (λ_ _ _=>rfl))))
  (az (bh (aj (dS bB d3 B.tuple (by decide +kernel) (aJ (aN (i:=2)) aP)))))))))
 (λds hl=>(by obtain⟨gak,gav,rfl⟩:=ln2 hl;kernel_rfl)),hmg,Fn.kp,(nP Fn λ_ _ _ _ _ _ _ _=>rfl)⟩
abbrev i9:Stmt:=top 12
abbrev vg:List Str:=["rule", "pairs", "number", "meeting"]
theorem sc_pairs_of:FnScope vg ["rule"] (au i9):=⟨rfl,rfl,rfl,by decide +kernel,rfl,by decide +kernel,by decide +kernel⟩
def nN(gas:List (D×D)):M D :=
 .ret (PyData.dict gas)
def iY(gas:List (D×D))(d_:D)(kn3:List (D×D)×Unit->M D):M D :=
 un2 d_ λy4 y5=>bd (bd (asI (.int 2)) λhi6=>oM (iO y5 none hi6)) λx7=>bd (oM (gI true gas x7 y4)) λl8=>kn3 (l8,())
def gh(gaH:D):M D :=
 bd (bd (oM (aD gaH (.int 2))) λx1=>oM (iX [x1])) λl2=>dg (λs9 d10 kn=>iY s9.1 d10 kn) l2 ([],()) (λs9=>nN s9.1)
def kj:List D->M D:=λl=>match l with
 | [gaH]=>gh gaH
 | _=>.bad
theorem rK(Fn:Fun K "pairs_of" "pairs_of" i9 f fd)(hmg:mg "pairs_of" = some (.ref f))(B:BN mg)(Kx:KX K mg):CF P w K mg base "pairs_of" 1 (spD K 1 kj) :=
 ⟨f,fd,["rule"],cA (k:=0) Fn sc_pairs_of (λcdv A outer s H E hr =>
  (aa (aG (sh:=[.f,.t,.dead,.dead]) (qH true (i:=1) sc_pairs_of.nd rfl (lo rfl) rfl (.inl rfl)))
  (aa (bv (sh:=[.dead,.t,.dead,.dead]) PassesOwn.leaving rfl (bH (qK rfl B.enumerate (af (aS (aI (aq hr)) aH (ao (av 0)) (ao ak)) aE) rfl)) (iM rfl (bp (aK (i:=2) (bi _) sc_pairs_of.nd) (bp (aK (i:=3) (bi _) sc_pairs_of.nd) gu rfl) rfl) rfl rfl)
  (az (iL (aq hr) (i:=1) rfl (vi rfl) (aj (fP (ao (av 3)) fO (fN ak))) (aj (av 2)) rfl)))
  (az (iw (i:=1) (bh (aj (av 1))))))))
 (λds hl=>(by obtain⟨gaH,rfl⟩:=ln1 hl;kernel_rfl)),hmg,Fn.kp,(Ge Fn λ_ _ _ _ _ _ _=>rfl)⟩
abbrev ja:Stmt:=top 13
abbrev vh:List Str:=["rule", "pairs", "crowd", "meets", "rooms", "leads", "place", "a", "b", "number"]
theorem sc_leads_at:FnScope vh ["rule", "pairs", "crowd"] (au ja):=⟨rfl,rfl,rfl,by decide +kernel,rfl,by decide +kernel,by decide +kernel⟩
abbrev N_leads_at_0:List Str:=["rule", "pairs", "crowd", "meets", "rooms", "leads", "place", "a", "b", "number", "room", "many"]
theorem gw:N_leads_at_0.Nodup:=by decide +kernel
def nO(gas:D)(gaV:D)(gaW:D)(ga4:D)(gan:List D):M D :=
 .ret (PyData.list gan)
def i3(kn10:D×D×D×D×List D×Unit->M D)(gas:D)(gaV:D)(gaW:D)(ga4:D)(gan:List D)(v_a:D):M D :=
 kn10 (gas,gaV,gaW,ga4,gan,())
def fj(kn10:D×D×D×D×List D×Unit->M D)(gas:D)(gaV:D)(gaW:D)(ga4:D)(gan:List D)(v_a:D)(d_:D)(kn16:D×D×D×D×List D×D×Unit->M D):M D :=
 bd (oM (sN gas (.tuple [v_a,d_]))) λx17=>bd (bd (oM (db x17 .none)) λb20=>if b20 then bd (bd (oM (aD gaW x17)) λx18=>ik gaV x18) λx19=>oM (lq x19)else .ret false) λb21=>if b21 then
  bd (bd (bd (oM (aD gaW x17)) λx22=>ii gaV x22) λx23=>.ret (.tuple [x17,x23])) λx24=>bd (oM (nL gan [x24])) λl25=>kn16 (gas,gaV,gaW,ga4,l25,v_a,())
  else
  kn16 (gas,gaV,gaW,ga4,gan,v_a,())
def iZ(gas:D)(gaV:D)(gaW:D)(ga4:D)(gan:List D)(d_:D)(kn10:D×D×D×D×List D×Unit->M D):M D :=
 un2 d_ λy11 y12=>bd (bd (bd (asI y11) λlo13=>oM (iO ga4 lo13 none)) λx14=>oM (cG x14)) λl15=>dg (λs26 d27 kn=>fj kn10 s26.1 s26.2.1 s26.2.2.1 s26.2.2.2.1 s26.2.2.2.2.1 s26.2.2.2.2.2.1 d27 kn) l15 (gas,gaV,gaW,ga4,gan,y12,()) (λs26=>i3 kn10 s26.1 s26.2.1 s26.2.2.1 s26.2.2.2.1 s26.2.2.2.2.1 s26.2.2.2.2.2.1)
def gi(gaH:D)(gbv:D)(gak:D):M D :=
 bd (oM (aD gaH (.int 2))) λx1=>bd (bd (bd (oM (iX [gak])) λl6=>bd (bM (λd2=>un2 d2 λy3 y4=>bd (oM (kH y4 (.int 0))) λb5=>if b5 then .ret (some y3)else .ret none) l6) gH) λl7=>.ret (PyData.list l7)) λx8=>bd (oM (mS [x8])) λl9=>dg (λs28 d29 kn=>iZ s28.1 s28.2.1 s28.2.2.1 s28.2.2.2.1 s28.2.2.2.2.1 d29 kn) l9 (gbv,gak,x1,x8,[],()) (λs28=>nO s28.1 s28.2.1 s28.2.2.1 s28.2.2.2.1 s28.2.2.2.2.1)
def km:List D->M D:=λl=>match l with
 | [gaH,gbv,gak]=>gi gaH gbv gak
 | _=>.bad
theorem rN(Fn:Fun K "leads_at" "leads_at" ja f fd)(hmg:mg "leads_at" = some (.ref f))(B:BN mg)(Kx:KX K mg)(gbw:CF P w K mg base "can_be" 1 (spD K 2 oI))(gbx:CF P w K mg base "led_to" 1 (spD K 2 oH)):CF P w K mg base "leads_at" 2 (spD K 3 km) :=
 ⟨f,fd,["rule", "pairs", "crowd"],cA (k:=1) Fn sc_leads_at (λcdv A outer s H E hr =>
  (aa (aG (sh:=[.dead,.f,.f,.f,.dead,.dead,.dead,.dead,.dead,.dead]) (aO (i:=3) sc_leads_at.nd (aj (aS (aI (aq hr)) aH (ao (av 0)) (ao ak)))))
  (aa (aG (sh:=[.dead,.f,.f,.f,.f,.dead,.dead,.dead,.dead,.dead]) (u7 (i:=4) sc_leads_at.nd rfl (lo rfl) (.inl rfl) (N':=N_leads_at_0) (k:=2) rfl (cp (by kernel_rfl) rfl rfl) (qK rfl B.enumerate (af (av 2) aE) rfl) (λ_ _ _ _ _=>(iM rfl (bp (aK (i:=10) (show 10<=10 by decide) gw) (bp (aK (i:=11) (show 10<=11 by decide) gw) gu rfl) rfl) rfl rfl)) (λ_ _ _ _ _=>(C6 (bn rH rO (ao (av 11)) (ao ak)))) (λ_ _ _ _ _=>(av 10)) rfl (λ_=>rfl)))
  (aa (aG (sh:=[.dead,.f,.f,.f,.f,.o,.dead,.dead,.dead,.dead]) (cE (i:=5) sc_leads_at.nd (cP (cO aE))))
  (aa (bv (sh:=[.dead,.f,.f,.f,.f,.o,.dead,.dead,.dead,.dead]) PassesOwn.leaving rfl (bH (A7 rfl B.enumerate (af (av 4) aE) rfl)) (iM rfl (bp (aK (i:=6) (bi _) sc_leads_at.nd) (bp (aK (i:=7) (bi _) sc_leads_at.nd) gu rfl) rfl) rfl rfl)
  (az (bv (sh:=[.dead,.f,.f,.f,.f,.o,.dead,.f,.dead,.dead]) PassesOwn.leaving rfl (bH (dz (fP (ao (av 4)) (fN (av 6)) fO))) (aK (i:=8) (bi _) sc_leads_at.nd)
  (aa (aG (sh:=[.dead,.f,.f,.f,.f,.o,.dead,.f,.dead,.f]) (aO (i:=9) sc_leads_at.nd (aj (A5 (aq hr) (ao (av 1)) (gq (af (av 7) (af (av 8) aE))) ⟨rfl,rfl,rfl,rfl⟩))))
  (az (cF (bq (sZ (uZ (bn lX eM (ao (av 9)) (ao nv)) (qE (u4 (ao (eV gbw hr.m (af (av 2) (af (aS (aI (aq hr)) aH (ao (av 3)) (ao (av 9))) aE)))) (λ_=>rfl))))))
  (az (jq (i:=5) rfl (vi rfl) (aM (aj (gq (af (av 9) (af (eV gbx hr.m (af (av 2) (af (aS (aI (aq hr)) aH (ao (av 3)) (ao (av 9))) aE))) aE)))) aU) rfl rfl rfl rfl rfl rfl))
  bt))))))
  (az (iw (i:=5) (bh (aj (av 5))))))))))
 (λds hl=>(by obtain⟨gaH,gbv,gak,rfl⟩:=ln3 hl;kernel_rfl)),hmg,Fn.kp,(AY Fn λ_ _ _ _ _ _ _ _ _=>rfl)⟩
abbrev fS:Stmt:=top 16
abbrev qP:List Str:=["rule", "crowd", "limit", "pairs", "leads", "known", "found", "here", "lead"]
theorem sc_leads_from:FnScope qP ["rule", "crowd", "limit"] (au fS):=⟨rfl,rfl,rfl,by decide +kernel,rfl,by decide +kernel,by decide +kernel⟩
def gy(gbg:D)(gaX:D)(gas:D)(gan:List (D×D))(gaY:List (D×D))(gar:List D):M D :=
 .ret (PyData.dict gan)
def kP(kn2:D×D×D×List (D×D)×List (D×D)×List D×Unit->M D)(gbg:D)(gaX:D)(gas:D)(gan:List (D×D))(gaY:List (D×D))(gar:List D):M D :=
 kn2 (gbg,gaX,gas,gan,gaY,gar,())
def dh(kn2:D×D×D×List (D×D)×List (D×D)×List D×Unit->M D)(gbg:D)(gaX:D)(gas:D)(gan:List (D×D))(gaY:List (D×D))(gar:List D)(d_:D)(kn14:D×D×D×List (D×D)×List (D×D)×List D×Unit->M D):M D :=
 bd (bd (oM (aD d_ (.int 1))) λx15=>oM (bx x15 (PyData.dict gaY))) λb16=>if b16 then
  bd (oM (aD d_ (.int 1))) λx17=>bd (oM (gI true gaY x17 (.bool true))) λl18=>bd (oM (aD d_ (.int 1))) λx19=>bd (oM (nL gar [x19])) λl20=>kn14 (gbg,gaX,gas,gan,l18,l20,())
  else
  kn14 (gbg,gaX,gas,gan,gaY,gar,())
def bf(gbg:D)(gaX:D)(gas:D)(gan:List (D×D))(gaY:List (D×D))(gar:List D)(kn2:D×D×D×List (D×D)×List (D×D)×List D×Unit->M D):M D :=
 bd (bd (oM (sI [(PyData.dict gan)])) λx3=>bd (oM (dI [(PyData.list gar)])) λx4=>oM (ki x3 x4)) λb5=>if b5 then
  bd (bd (oM (dI [(PyData.list gar)])) λx6=>oM (kH x6 gaX)) λb7=>if b7 then
  .exc ⟨"TooMany",[]⟩
  else
  bd (bd (oM (sI [(PyData.dict gan)])) λx8=>oM (aD (PyData.list gar) x8)) λx9=>bd (gi gbg gas x9) λx10=>bd (oM (gI true gan x9 x10)) λl11=>bd (bd (oM (aD (PyData.dict l11) x9)) λx12=>oM (cG x12)) λl13=>dg (λs21 d22 kn=>dh kn2 s21.1 s21.2.1 s21.2.2.1 s21.2.2.2.1 s21.2.2.2.2.1 s21.2.2.2.2.2.1 d22 kn) l13 (gbg,gaX,gas,l11,gaY,gar,()) (λs21=>kP kn2 s21.1 s21.2.1 s21.2.2.1 s21.2.2.2.1 s21.2.2.2.2.1 s21.2.2.2.2.2.1)
  else gy gbg gaX gas gan gaY gar
def bW(gaH:D)(gak:D)(gaZ:D):M D :=
 bd (gh gaH) λx1=>dA gak (i7 (λs23 kn=>bf s23.1 s23.2.1 s23.2.2.1 s23.2.2.2.1 s23.2.2.2.2.1 s23.2.2.2.2.2.1 kn) 10000 (gaH,gaZ,x1,[],[(gak,(.bool true))],[gak],()))
def cQ:List D->M D:=λl=>match l with
 | [gaH,gak,gaZ]=>bW gaH gak gaZ
 | _=>.bad
theorem nG(Fn:Fun K "leads_from" "leads_from" fS f fd)(hmg:mg "leads_from" = some (.ref f))(B:BN mg)(Kx:KX K mg)(gbh:CF P w K mg base "pairs_of" 1 (spD K 1 kj))(gbi:CF P w K mg base "leads_at" 2 (spD K 3 km))(X_TooMany:CCl P w K mg base "TooMany" 1 []):CF P w K mg base "leads_from" 3 (spD K 3 cQ) :=
 ⟨f,fd,["rule", "crowd", "limit"],cA (k:=2) Fn sc_leads_from (λcdv A outer s H E hr =>
  (aa (aG (sh:=[.f,.f,.f,.f,.dead,.dead,.dead,.dead,.dead]) (aO (i:=3) sc_leads_from.nd (aj (eV gbh hr.m (af (av 0) aE)))))
  (aa (aG (sh:=[.f,.f,.f,.f,.t,.dead,.dead,.dead,.dead]) (qH true (i:=4) sc_leads_from.nd rfl (lo rfl) rfl (.inl rfl)))
  (aa (aG (sh:=[.f,.f,.f,.f,.t,.t,.dead,.dead,.dead]) (qI (i:=5) (aq hr) sc_leads_from.nd rfl (lo rfl) (av 1) gE rfl (.inl rfl)))
  (aa (aG (sh:=[.f,.dead,.f,.f,.t,.t,.o,.dead,.dead]) (cE (i:=6) sc_leads_from.nd (cP (cO (af (av 1) aE)))))
  (aa (fL (sh:=[.f,.dead,.f,.f,.t,.t,.o,.dead,.dead]) (fuel:=10000) PassesOwn.leaving (bq (bn (zM (aq hr)) zQ (ao (bc px vV B.len si (aJ (aN (i:=4)) aP))) (ao (bc bw df B.len si (aJ (aN (i:=6)) aP)))))
  (aa (cF (bq (bn rH rO (ao (bc bw df B.len si (aJ (aN (i:=6)) aP))) (ao (av 2))))
  (az (yD X_TooMany hr.m rfl (by decide)))
  bt)
  (aa (aG (sh:=[.f,.dead,.f,.f,.t,.t,.o,.f,.dead]) (aO (i:=7) sc_leads_from.nd (aj (aS (aI (aq hr)) aH (aN (i:=6)) (ao (bc px vV B.len si (aJ (aN (i:=4)) aP)))))))
  (aa (aG (sh:=[.f,.dead,.f,.f,.t,.t,.o,.f,.dead]) (iL (aq hr) (i:=4) rfl (vi rfl) (aj (av 7)) (aj (eV gbi hr.m (af (av 0) (af (av 3) (af (av 7) aE))))) rfl))
  (az (bv (sh:=[.f,.dead,.f,.f,.t,.t,.o,.dead,.dead]) PassesOwn.leaving rfl (bH (dz (aS (aI (aq hr)) aH (aN (i:=4)) (ao (av 7))))) (aK (i:=8) (bi _) sc_leads_from.nd)
  (az (cF (bq (bn (bS (aq hr)) cn (ao (aS (aI (aq hr)) aH (ao (av 8)) (ao ak))) (aN (i:=5))))
  (aa (aG (sh:=[.f,.dead,.f,.f,.t,.t,.o,.dead,.f]) (iL (aq hr) (i:=5) rfl (vi rfl) (aj (aS (aI (aq hr)) aH (ao (av 8)) (ao ak))) (aj gE) rfl))
  (az (jq (i:=6) rfl (vi rfl) (aM (aj (aS (aI (aq hr)) aH (ao (av 8)) (ao ak))) aU) rfl rfl rfl rfl rfl rfl)))
  bt))))))))
  (az (iw (i:=4) (bh (aj (av 4)))))))))))
 (λds hl=>(by obtain⟨gaH,gak,gaZ,rfl⟩:=ln3 hl;kernel_rfl)),hmg,Fn.kp,(AY Fn λ_ _ _ _ _ _ _ _ _=>rfl)⟩
abbrev lF:Stmt:=top 18
abbrev Bm:List Str:=["ahead", "goal", "row", "step"]
theorem sc_row_to:FnScope Bm ["ahead", "goal"] (au lF):=⟨rfl,rfl,rfl,by decide +kernel,rfl,by decide +kernel,by decide +kernel⟩
def kC(gaG:D)(gbD:List D)(gbB:D):M D :=
 bd (bd (oM (wD [(PyData.list gbD)])) λl2=>.ret (PyData.list l2)) λx3=>.ret x3
def cu(gaG:D)(gbD:List D)(gbB:D)(kn4:D×List D×D×Unit->M D):M D :=
 bd (oM (db gbB .none)) λb5=>if b5 then
  bd (oM (aD gbB (.int 1))) λx6=>bd (oM (nL gbD [x6])) λl7=>bd (bd (oM (aD gbB (.int 0))) λx8=>oM (aD gaG x8)) λx9=>kn4 (gaG,l7,x9,())
  else kC gaG gbD gbB
def jO(gbr:D)(ga5:D):M D :=
 bd (oM (aD gbr ga5)) λx1=>i7 (λs10 kn=>cu s10.1 s10.2.1 s10.2.2.1 kn) 10000 (gbr,[],x1,())
def oG:List D->M D:=λl=>match l with
 | [gbr,ga5]=>jO gbr ga5
 | _=>.bad
theorem xK(Fn:Fun K "row_to" "row_to" lF f fd)(hmg:mg "row_to" = some (.ref f))(B:BN mg)(Kx:KX K mg):CF P w K mg base "row_to" 1 (spD K 2 oG) :=
 ⟨f,fd,["ahead", "goal"],cA (k:=0) Fn sc_row_to (λcdv A outer s H E hr =>
  (aa (aG (sh:=[.f,.f,.o,.dead]) (cE (i:=2) sc_row_to.nd (cP (cO aE))))
  (aa (aG (sh:=[.f,.dead,.o,.f]) (aO (i:=3) sc_row_to.nd (aj (aS (aI (aq hr)) aH (ao (av 0)) (ao (av 1))))))
  (aa (fL (sh:=[.f,.dead,.o,.f]) (fuel:=10000) PassesOwn.leaving (bq (bn lX eM (ao (av 3)) (ao nv)))
  (aa (aG (sh:=[.f,.dead,.o,.f]) (jq (i:=2) rfl (vi rfl) (aM (aj (aS (aI (aq hr)) aH (ao (av 3)) (ao ak))) aU) rfl rfl rfl rfl rfl rfl))
  (az (aO (i:=3) sc_row_to.nd (aj (aS (aI (aq hr)) aH (ao (av 0)) (ao (aS (aI (aq hr)) aH (ao (av 3)) (ao ak)))))))))
  (az (iw (i:=2) (bh (aj (tf (u9 rfl rfl B.list rfl B.reversed (aJ (ao (av 2)) aP) rfl rfl))))))))))
 (λds hl=>(by obtain⟨gbr,ga5,rfl⟩:=ln2 hl;kernel_rfl)),hmg,Fn.kp,(nP Fn λ_ _ _ _ _ _ _ _=>rfl)⟩
abbrev lE:Stmt:=top 17
abbrev Bl:List Str:=["leads", "crowd", "goals", "ahead", "found", "place", "here", "lead"]
theorem sc_way_in:FnScope Bl ["leads", "crowd", "goals"] (au lE):=⟨rfl,rfl,rfl,by decide +kernel,rfl,by decide +kernel,by decide +kernel⟩
def kB(gan:D)(ga0:D)(gaG:List (D×D))(gar:List D)(gaS:D):M D :=
 bd (bd (oM (aD (PyData.list gar) gaS)) λx1=>jO (PyData.dict gaG) x1) λx2=>.ret x2
def kA(kn3:D×D×List (D×D)×List D×D×Unit->M D)(gan:D)(ga0:D)(gaG:List (D×D))(gar:List D)(gaS:D)(gbC:D):M D :=
 bd (oM (mq gaS (.int 1))) λx9=>kn3 (gan,ga0,gaG,gar,x9,())
def hZ(kn3:D×D×List (D×D)×List D×D×Unit->M D)(gan:D)(ga0:D)(gaG:List (D×D))(gar:List D)(gaS:D)(gbC:D)(d_:D)(kn10:D×D×List (D×D)×List D×D×D×Unit->M D):M D :=
 bd (bd (oM (aD d_ (.int 1))) λx11=>oM (bx x11 (PyData.dict gaG))) λb12=>if b12 then
  bd (oM (aD d_ (.int 1))) λx13=>bd (oM (gI true gaG x13 (.tuple [gbC,d_]))) λl14=>bd (oM (aD d_ (.int 1))) λx15=>bd (oM (nL gar [x15])) λl16=>kn10 (gan,ga0,l14,l16,gaS,gbC,())
  else
  kn10 (gan,ga0,gaG,gar,gaS,gbC,())
def eR(gan:D)(ga0:D)(gaG:List (D×D))(gar:List D)(gaS:D)(kn3:D×D×List (D×D)×List D×D×Unit->M D):M D :=
 bd (bd (oM (aD (PyData.list gar) gaS)) λx4=>oM (bx x4 ga0)) λb5=>if b5 then
  bd (oM (aD (PyData.list gar) gaS)) λx6=>bd (bd (oM (aD gan x6)) λx7=>oM (cG x7)) λl8=>dg (λs17 d18 kn=>hZ kn3 s17.1 s17.2.1 s17.2.2.1 s17.2.2.2.1 s17.2.2.2.2.1 s17.2.2.2.2.2.1 d18 kn) l8 (gan,ga0,gaG,gar,gaS,x6,()) (λs17=>kA kn3 s17.1 s17.2.1 s17.2.2.1 s17.2.2.2.1 s17.2.2.2.2.1 s17.2.2.2.2.2.1)
  else kB gan ga0 gaG gar gaS
def jN(gby:D)(gak:D)(gbz:D):M D :=
 dA gak (i7 (λs19 kn=>eR s19.1 s19.2.1 s19.2.2.1 s19.2.2.2.1 s19.2.2.2.2.1 kn) 10000 (gby,gbz,[(gak,.none)],[gak],(.int 0),()))
def iE:List D->M D:=λl=>match l with
 | [gby,gak,gbz]=>jN gby gak gbz
 | _=>.bad
theorem xJ(Fn:Fun K "way_in" "way_in" lE f fd)(hmg:mg "way_in" = some (.ref f))(B:BN mg)(Kx:KX K mg)(gbA:CF P w K mg base "row_to" 1 (spD K 2 oG)):CF P w K mg base "way_in" 2 (spD K 3 iE) :=
 ⟨f,fd,["leads", "crowd", "goals"],cA (k:=1) Fn sc_way_in (λcdv A outer s H E hr =>
  (aa (aG (sh:=[.f,.f,.f,.t,.dead,.dead,.dead,.dead]) (qI (i:=3) (aq hr) sc_way_in.nd rfl (lo rfl) (av 1) nv rfl (.inl rfl)))
  (aa (aG (sh:=[.f,.dead,.f,.t,.o,.dead,.dead,.dead]) (cE (i:=4) sc_way_in.nd (cP (cO (af (av 1) aE)))))
  (aa (aG (sh:=[.f,.dead,.f,.t,.o,.f,.dead,.dead]) (aO (i:=5) sc_way_in.nd (aj ak)))
  (aa (fL (sh:=[.f,.dead,.f,.t,.o,.f,.dead,.dead]) (fuel:=10000) PassesOwn.leaving (bq (bn (bS (aq hr)) cn (ao (aS (aI (aq hr)) aH (aN (i:=4)) (ao (av 5)))) (ao (av 2))))
  (aa (aG (sh:=[.f,.dead,.f,.t,.o,.f,.f,.dead]) (aO (i:=6) sc_way_in.nd (aj (aS (aI (aq hr)) aH (aN (i:=4)) (ao (av 5))))))
  (aa (bv (sh:=[.f,.dead,.f,.t,.o,.f,.f,.dead]) PassesOwn.leaving rfl (bH (dz (aS (aI (aq hr)) aH (ao (av 0)) (ao (av 6))))) (aK (i:=7) (bi _) sc_way_in.nd)
  (az (cF (bq (bn (bS (aq hr)) cn (ao (aS (aI (aq hr)) aH (ao (av 7)) (ao ak))) (aN (i:=3))))
  (aa (aG (sh:=[.f,.dead,.f,.t,.o,.f,.f,.f]) (iL (aq hr) (i:=3) rfl (vi rfl) (aj (aS (aI (aq hr)) aH (ao (av 7)) (ao ak))) (aj (gq (af (av 6) (af (av 7) aE)))) rfl))
  (az (jq (i:=4) rfl (vi rfl) (aM (aj (aS (aI (aq hr)) aH (ao (av 7)) (ao ak))) aU) rfl rfl rfl rfl rfl rfl)))
  bt)))
  (az (Gn (i:=5) sc_way_in.nd rfl (lo rfl) Ai wm (aj ak) (.inl rfl))))))
  (az (iw (i:=3) (bh (aj (eV gbA hr.m (af (av 3) (af (aS (aI (aq hr)) aH (aN (i:=4)) (ao (av 5))) aE))))))))))))
 (λds hl=>(by obtain⟨gby,gak,gbz,rfl⟩:=ln3 hl;kernel_rfl)),hmg,Fn.kp,(AY Fn λ_ _ _ _ _ _ _ _ _=>rfl)⟩
abbrev gL:Stmt:=top 15
abbrev Bj:List Str:=["rule", "crowd", "goal", "limit", "leads"]
theorem sc_way_to:FnScope Bj ["rule", "crowd", "goal", "limit"] (au gL):=⟨rfl,rfl,rfl,by decide +kernel,rfl,by decide +kernel,by decide +kernel⟩
abbrev N_way_to_0:List Str:=["rule", "crowd", "goal", "limit", "leads", "lead"]
theorem nK:N_way_to_0.Nodup:=by decide +kernel
def bU(gaH:D)(gak:D)(ga5:D)(gaZ:D):M D :=
 bd (bW gaH gak gaZ) λx1=>bd (oM (bx ga5 x1)) λb2=>if b2 then
  .ret .none
  else
  bd (bd (bd (bd (bd (dA ga5 (.ret (.dict [(ga5,(.bool true))]))) λx3=>jN x1 gak x3) λx4=>oM (cG x4)) λl7=>bd (bM (λd5=>bd (oM (aD d5 (.int 0))) λx6=>.ret (some x6)) l7) gH) λl8=>.ret (PyData.list l8)) λx9=>.ret x9
def dQ:List D->M D:=λl=>match l with
 | [gaH,gak,ga5,gaZ]=>bU gaH gak ga5 gaZ
 | _=>.bad
theorem oW(Fn:FunV K "way_to" "way_to" gL f fd T)(hT:DfT K T 1000)(B:BN mg)(Kx:KX K mg)(gaw:CF P w K mg base "leads_from" 3 (spD K 3 cQ))(gaU:CF P w K mg base "way_in" 2 (spD K 3 iE)):FnOk P w K mg base (CX1 P w) 4 f fd ["rule", "crowd", "goal", "limit"] (spD K 4 dQ) :=
 CO (k:=3) Fn sc_way_to (λcdv A outer s H E hr =>
  (aa (aG (sh:=[.dead,.f,.f,.dead,.f]) (aO (i:=4) sc_way_to.nd (aj (eV gaw hr.m (af (av 0) (af (av 1) (af (av 3) aE)))))))
  (aa (cF (bq (bn (bS (aq hr)) cn (ao (av 2)) (ao (av 4))))
  (az (bh (aj nv)))
  bt)
  (az (bh (aj (tf (wR (N':=N_way_to_0) (k:=1) rfl (cp (by kernel_rfl) rfl rfl) (dz (eV gaU hr.m (af (av 4) (af (av 1) (af (Df (aq hr) (av 2) gE) aE))))) (λ_ _ _ _ _=>(aK (i:=5) (show 5<=5 by decide) nK)) (λ_ _ _ _ _=>gp) (λ_ _ _ _ _=>(aS (aI (aq hr)) aH (ao (av 5)) (ao ak)))))))))))
 (λds hl=>(by obtain⟨gaH,gak,ga5,gaZ,rfl⟩:=ln4 hl;kernel_rfl))
theorem xI(Fn:FunV K "way_to" "way_to" gL f fd T)(hT:DfT K T 1000)(hmg:mg "way_to" = some (.ref f))(B:BN mg)(Kx:KX K mg)(gaw:CF P w K mg base "leads_from" 3 (spD K 3 cQ))(gaU:CF P w K mg base "way_in" 2 (spD K 3 iE)):CF P w K mg base "way_to" 4 (spD K 4 dQ) :=
 ⟨f,fd,["rule", "crowd", "goal", "limit"],oW Fn hT B Kx gaw gaU,hmg,Fn.kp,(Fn.binds0 hT λ_ _ _ _ _ _ us u hl=>(by obtain⟨a0,a1,a2,a3,rfl⟩:=ln4 hl;exact⟨_,rfl,rfl⟩))⟩
theorem xO(Fn:FunV K "way_to" "way_to" gL f fd T)(hT:DfT K T 1000)(hmg:mg "way_to" = some (.ref f))(B:BN mg)(Kx:KX K mg)(gaw:CF P w K mg base "leads_from" 3 (spD K 3 cQ))(gaU:CF P w K mg base "way_in" 2 (spD K 3 iE)):CFd P w K mg base "way_to" 4 (spD K 4 dQ) 1000 :=
 ⟨f,fd,["rule", "crowd", "goal", "limit"],hT.choose_spec.choose_spec.choose,oW Fn hT B Kx gaw gaU,hmg,Fn.kp,(Fn.binds1 hT λ_ _ _ _ _ _ us u hl=>(by obtain⟨a0,a1,a2,rfl⟩:=ln3 (Nat.succ.inj hl);exact⟨_,rfl,rfl⟩)),hT.choose_spec.choose_spec.choose_spec.2.2⟩
abbrev gN:Stmt:=top 20
abbrev tE:List Str:=["_law_script", "_law_at", "_law_cell"]
theorem sc__law_feed:FnScope tE ["_law_script", "_law_at"] (au gN):=⟨rfl,rfl,rfl,by decide +kernel,rfl,by decide +kernel,by decide +kernel⟩
def cD(gbj:D):M (List D) :=
 bd (bd (bd (oM (wG [(.int 0),gbj])) λx14=>bd (bd (bd (bd (oM (vU (.int 10) (.int 18))) λx11=>oM (xH gbj x11)) λb12=>.ret (.bool b12)) λx13=>oM (CQ [x13])) λx15=>oM (dc x14 x15)) λx16=>.ret [gbj,x16,(.int 0)]) λl17=>.ret l17
def eU(gao:D)(gbb:D):M (List D) :=
 bd (oM (dc (.int 31) gbb)) λx1=>bd (bd (oM (dI [gao])) λx2=>oM (kH x2 (.int 0))) λb3=>if b3 then
  bd (bd (bd (bd (oM (dI [gao])) λx4=>oM (jy gbb x4)) λx5=>oM (aD gao x5)) λx8=>bd (bd (bd (oM (dI [gao])) λx6=>oM (mn gbb x6)) λx7=>oM (dc (.int 7919) x7)) λx9=>oM (bF x8 x9)) λx10=>cD x10
  else
  cD x1
def jD:List D->M (List D):=λl=>match l with
 | [gao,gbb]=>eU gao gbb
 | _=>.bad
theorem qa(Fn:Fun K "_law_feed" "_law_feed" gN f fd)(hmg:mg "_law_feed" = some (.ref f))(B:BN mg)(Kx:KX K mg):CF P w K mg base "_law_feed" 1 (spL K 2 jD) :=
 ⟨f,fd,["_law_script", "_law_at"],FJ (k:=0) Fn sc__law_feed (λcdv A outer s H E hr =>
  (aa (aG (sh:=[.f,.f,.f]) (aO (i:=2) sc__law_feed.nd (aj (aW gU gW (ao ak) (ao (av 1))))))
  (aa (aG (sh:=[.dead,.dead,.f]) (cF (bq (bn rH rO (ao (bc bw df B.len si (aJ (ao (av 0)) aP))) (ao ak)))
  (az (aO (i:=2) sc__law_feed.nd (aj (aW bJ ci (ao (aS (aI (aq hr)) aH (ao (av 0)) (ao (aW jZ j0 (ao (av 1)) (ao (bc bw df B.len si (aJ (ao (av 0)) aP))))))) (ao (aW gU gW (ao ak) (ao (aW kX pX (ao (av 1)) (ao (bc bw df B.len si (aJ (ao (av 0)) aP)))))))))))
  bt))
  (az (C8 (cP (cO (af (av 2) (af (aW gU gW (ao (bc (yy rfl) Cf B.max (by decide +kernel) (aJ (ao ak) (aJ (ao (av 2)) aP)))) (ao (dS yB Fe B.int (by decide +kernel) (aJ (ao (A6 (qN vR vW (ao (av 2)) (ao (aW E4 Fb (ao ak) (ao ak)))))) aP)))) (af ak aE))))))))))
 (λds hl=>(by obtain⟨gao,gbb,rfl⟩:=ln2 hl;kernel_rfl)),hmg,Fn.kp,(nP Fn λ_ _ _ _ _ _ _ _=>rfl)⟩
abbrev gO:Stmt:=top 21
abbrev tF:List Str:=["_law_feed_here", "_law_many", "_law_turn", "_law_left", "_law_here", "_law_mixed"]
theorem sc__law_draw:FnScope tF ["_law_feed_here", "_law_many"] (au gO):=⟨rfl,rfl,rfl,by decide +kernel,rfl,by decide +kernel,by decide +kernel⟩
def aF(gah:List D)(gaR:D):M (D×List D) :=
 bd (oM (aD (PyData.list gah) (.int 2))) λx1=>bd (oM (bF x1 (.int 1))) λx2=>bd (oM (putD gah (.int 2) x2)) λl3=>bd (oM (aD (PyData.list l3) (.int 1))) λx4=>bd (oM (kH x4 (.int 0))) λb5=>if b5 then
  bd (oM (mn x4 gaR)) λx6=>bd (oM (putD l3 (.int 1) x6)) λl7=>bd (oM (jy x4 gaR)) λx8=>.ret (x8,l7)
  else
  bd (bd (bd (bd (oM (aD (PyData.list l3) (.int 0))) λx9=>oM (jy x9 (.int 2147483647))) λx11=>bd (bd (oM (dc (.int 31) x1)) λx10=>oM (dc x10 x1)) λx12=>oM (bF x11 x12)) λx13=>oM (bF x13 (.int 1))) λx14=>bd (bd (bd (bd (oM (dc (.int 40) x1)) λx15=>oM (bF (.int 48271) x15)) λx16=>oM (dc x14 x16)) λx17=>oM (jy x17 (.int 2147483629))) λx18=>bd (bd (bd (bd (bd (bd (oM (mn x18 (.int 11))) λx19=>oM (dc x19 (.int 69621))) λx20=>oM (bF x20 x1)) λx21=>oM (jy x21 (.int 998244353))) λx22=>oM (mn x22 (.int 7))) λx23=>oM (jy x23 gaR)) λx24=>.ret (x24,l3)
def cz:List D->List D->M (D×List D):=λgah l=>match l with
 | [gaR]=>aF gah gaR
 | _=>.bad
theorem qb(Fn:Fun K "_law_draw" "_law_draw" gO f fd)(hmg:mg "_law_draw" = some (.ref f))(B:BN mg)(Kx:KX K mg):CF P w K mg base "_law_draw" 1 (sp1 K 2 cz) :=
 ⟨f,fd,["_law_feed_here", "_law_many"],qx (k:=0) Fn sc__law_draw (λcdv A outer s H E hr =>
  (aa (aG (sh:=[.p,.f,.f,.dead,.dead,.dead]) (aO (i:=2) sc__law_draw.nd (aj (aS (aI (aq hr)) aH (aN (i:=0)) (ao ak)))))
  (aa (aG (sh:=[.p,.f,.f,.dead,.dead,.dead]) (j8 (i:=0) rfl (vi rfl) (aj ak) (aj (aW bJ ci (ao (av 2)) (ao ak))) (λ_=>rfl) rfl rfl rfl))
  (aa (aG (sh:=[.p,.f,.f,.f,.dead,.dead]) (aO (i:=3) sc__law_draw.nd (aj (aS (aI (aq hr)) aH (aN (i:=0)) (ao ak)))))
  (aa (cF (bq (bn rH rO (ao (av 3)) (ao ak)))
  (aa (aG (sh:=[.p,.f,.dead,.f,.dead,.dead]) (j8 (i:=0) rfl (vi rfl) (aj ak) (aj (aW kX pX (ao (av 3)) (ao (av 1)))) (λ_=>rfl) rfl rfl rfl))
  (az (bh (aj (aW jZ j0 (ao (av 3)) (ao (av 1)))))))
  bt)
  (aa (aG (sh:=[.p,.f,.f,.dead,.f,.dead]) (aO (i:=4) sc__law_draw.nd (aj (aW bJ ci (ao (aW bJ ci (ao (aW jZ j0 (ao (aS (aI (aq hr)) aH (aN (i:=0)) (ao ak))) (ao ak))) (ao (aW gU gW (ao (aW gU gW (ao ak) (ao (av 2)))) (ao (av 2)))))) (ao ak)))))
  (aa (aG (sh:=[.p,.f,.f,.dead,.dead,.f]) (aO (i:=5) sc__law_draw.nd (aj (aW jZ j0 (ao (aW gU gW (ao (av 4)) (ao (aW bJ ci (ao ak) (ao (aW gU gW (ao ak) (ao (av 2)))))))) (ao ak)))))
  (az (bh (aj (aW jZ j0 (ao (aW kX pX (ao (aW jZ j0 (ao (aW bJ ci (ao (aW gU gW (ao (aW kX pX (ao (av 5)) (ao ak))) (ao ak))) (ao (av 2)))) (ao ak))) (ao ak))) (ao (av 1)))))))))))))
 (λg ds hl=>(by obtain⟨gaR,rfl⟩:=ln1 (Nat.succ.inj hl);kernel_rfl)),hmg,Fn.kp,(nP Fn λ_ _ _ _ _ _ _ _=>rfl)⟩
abbrev gM:Stmt:=top 22
abbrev tD:List Str:=["_law_feed_here", "_law_most", "_law_rooms", "_law_sorts", "_law_starts", "_law_says", "_law_often", "_law_meets", "_law_a", "_law_b", "_law_c", "_law_d"]
theorem sc__law_rule:FnScope tD ["_law_feed_here", "_law_most"] (au gM):=⟨rfl,rfl,rfl,by decide +kernel,rfl,by decide +kernel,by decide +kernel⟩
abbrev N__law_rule_0:List Str:=["_law_feed_here", "_law_most", "_law_rooms", "_law_sorts", "_law_starts", "_law_says", "_law_often", "_law_meets", "_law_a", "_law_b", "_law_c", "_law_d", "_law_sort"]
theorem j4:N__law_rule_0.Nodup:=by decide +kernel
abbrev N__law_rule_1:List Str:=["_law_feed_here", "_law_most", "_law_rooms", "_law_sorts", "_law_starts", "_law_says", "_law_often", "_law_meets", "_law_a", "_law_b", "_law_c", "_law_d", "_law_room"]
theorem j3:N__law_rule_1.Nodup:=by decide +kernel
def iu(gai:List D)(gap:D)(gat:D)(gaD:D)(gax:D)(gay:List D):M (D×List D) :=
 bd (bd (oM (ez [(PyData.list gay)])) λx23=>.ret (.tuple [gap,gat,x23,gaD])) λx24=>.ret (x24,gai)
def iq(kn25:List D×D×D×D×D×List D×Unit->M (D×List D))(gai:List D)(gap:D)(gat:D)(gaD:D)(gax:D)(gay:List D)(gbk:D):M (D×List D) :=
 kn25 (gai,gap,gat,gaD,gax,gay,())
def il(kn25:List D×D×D×D×D×List D×Unit->M (D×List D))(gai:List D)(gap:D)(gat:D)(gaD:D)(gax:D)(gay:List D)(gbk:D)(d_:D)(kn27:List D×D×D×D×D×List D×D×Unit->M (D×List D)):M (D×List D) :=
 bd (aF gai gap) λr28=>bd (aF r28.2 gap) λr29=>bd (aF r29.2 gax) λr30=>bd (oM (gV r30.1 (.int 0))) λb31=>if b31 then bd (bd (bd (oM (hU [(PyData.list [r28.1,r29.1])])) λl32=>.ret (PyData.list l32)) λx33=>oM (fc x33 (PyData.list [gbk,d_]))) λb34=>if b34 then
  bd (oM (nL gay [(.tuple [gbk,d_,r28.1,r29.1])])) λl35=>kn27 (r30.2,gap,gat,gaD,gax,l35,gbk,())
  else
  kn27 (r30.2,gap,gat,gaD,gax,gay,gbk,())else kn27 (r30.2,gap,gat,gaD,gax,gay,gbk,())
def eI(gai:List D)(gap:D)(gat:D)(gaD:D)(gax:D)(gay:List D)(d_:D)(kn25:List D×D×D×D×D×List D×Unit->M (D×List D)):M (D×List D) :=
 bd (oM (iJ [d_,gap])) λl26=>dg (λs36 d37 kn=>il kn25 s36.1 s36.2.1 s36.2.2.1 s36.2.2.2.1 s36.2.2.2.2.1 s36.2.2.2.2.2.1 s36.2.2.2.2.2.2.1 d37 kn) l26 (gai,gap,gat,gaD,gax,gay,d_,()) (λs36=>iq kn25 s36.1 s36.2.1 s36.2.2.1 s36.2.2.2.1 s36.2.2.2.2.1 s36.2.2.2.2.2.1 s36.2.2.2.2.2.2.1)
def eS(gah:List D)(gaE:D):M (D×List D) :=
 bd (aF gah gaE) λr1=>bd (oM (bF (.int 1) r1.1)) λx2=>bd (aF r1.2 (.int 5)) λr3=>bd (oM (aD (PyData.list [(.int 1),(.int 2),(.int 2),(.int 3),(.int 4)]) r3.1)) λx4=>bd (oM (bA [x4])) λl5=>bd (cC (λs6 d7=>bd (aF s6.1 s6.2.1) λr8=>.ret (some r8.1,(r8.2,s6.2.1,s6.2.2.1,()))) l5 (r3.2,x2,x4,())) λr9=>bd (gH r9.1) λl10=>bd (oM (ez [(PyData.list l10)])) λx11=>bd (oM (bA [r9.2.2.1])) λl12=>bd (cC (λs13 d14=>bd (aF s13.1 (.int 2)) λr15=>bd (oM (gV r15.1 (.int 1))) λb16=>.ret (some (.bool b16),(r15.2,s13.2.1,s13.2.2.1,()))) l12 (r9.2.1,r9.2.2.1,x11,())) λr17=>bd (gH r17.1) λl18=>bd (oM (ez [(PyData.list l18)])) λx19=>bd (aF r17.2.1 (.int 3)) λr20=>bd (oM (bF (.int 1) r20.1)) λx21=>bd (oM (bA [r17.2.2.1])) λl22=>dg (λs38 d39 kn=>eI s38.1 s38.2.1 s38.2.2.1 s38.2.2.2.1 s38.2.2.2.2.1 s38.2.2.2.2.2.1 d39 kn) l22 (r20.2,r17.2.2.1,r17.2.2.2.1,x19,x21,[],()) (λs38=>iu s38.1 s38.2.1 s38.2.2.1 s38.2.2.2.1 s38.2.2.2.2.1 s38.2.2.2.2.2.1)
def jC:List D->List D->M (D×List D):=λgah l=>match l with
 | [gaE]=>eS gah gaE
 | _=>.bad
theorem pY(Fn:Fun K "_law_rule" "_law_rule" gM f fd)(hmg:mg "_law_rule" = some (.ref f))(B:BN mg)(Kx:KX K mg)(gaj:CF P w K mg base "_law_draw" 1 (sp1 K 2 cz)):CF P w K mg base "_law_rule" 2 (sp1 K 2 jC) :=
 ⟨f,fd,["_law_feed_here", "_law_most"],qx (k:=1) Fn sc__law_rule (λcdv A outer s H E hr =>
  (aa (aG (sh:=[.p,.dead,.f,.dead,.dead,.dead,.dead,.dead,.dead,.dead,.dead,.dead]) (aO (i:=2) sc__law_rule.nd (qM bJ ci (aj ak) (cj (i:=0) gaj hr.m (aM (aj (av 1)) aU)))))
  (aa (aG (sh:=[.p,.dead,.f,.f,.dead,.dead,.dead,.dead,.dead,.dead,.dead,.dead]) (aO (i:=3) sc__law_rule.nd (Ee (aI (aq hr)) aH (aj (tf (cO (af ak (af ak (af ak (af ak (af ak aE)))))))) (cj (i:=0) gaj hr.m (aM (aj ak) aU)))))
  (aa (aG (sh:=[.p,.dead,.f,.dead,.f,.dead,.dead,.dead,.dead,.dead,.dead,.dead]) (aO (i:=4) sc__law_rule.nd (pJ bB d3 B.tuple (by decide +kernel) (aM (Dl (nz (sh:=[.p,.dead,.f,.f,.dead,.dead,.dead,.dead,.dead,.dead,.dead,.dead]) (N':=N__law_rule_0) (k:=1) rfl (cp (by kernel_rfl) rfl rfl) (bH (cw rfl B.range (af (av 3) aE) rfl)) (λ_ _ _ _ _=>(aK (i:=12) (show 12<=12 by decide) j4)) (λ_ _ _ _ _=>(qL gp)) (λ_ _ _ _ _=>(cj (i:=0) gaj hr.m (aM (aj (av 2)) aU))))) aU))))
  (aa (aG (sh:=[.p,.dead,.f,.dead,.f,.f,.dead,.dead,.dead,.dead,.dead,.dead]) (aO (i:=5) sc__law_rule.nd (pJ bB d3 B.tuple (by decide +kernel) (aM (Dl (nz (sh:=[.p,.dead,.f,.dead,.f,.dead,.dead,.dead,.dead,.dead,.dead,.dead]) (N':=N__law_rule_1) (k:=1) rfl (cp (by kernel_rfl) rfl rfl) (bH (cw rfl B.range (af (av 2) aE) rfl)) (λ_ _ _ _ _=>(aK (i:=12) (show 12<=12 by decide) j3)) (λ_ _ _ _ _=>(qL gp)) (λ_ _ _ _ _=>(Js (Dk (lZ (aq hr)) eM (cj (i:=0) gaj hr.m (aM (aj ak) aU)) (aj ak) rfl))))) aU))))
  (aa (aG (sh:=[.p,.dead,.f,.dead,.f,.f,.f,.dead,.dead,.dead,.dead,.dead]) (aO (i:=6) sc__law_rule.nd (qM bJ ci (aj ak) (cj (i:=0) gaj hr.m (aM (aj ak) aU)))))
  (aa (aG (sh:=[.p,.dead,.f,.dead,.f,.f,.f,.o,.dead,.dead,.dead,.dead]) (cE (i:=7) sc__law_rule.nd (cP (cO aE))))
  (aa (bv (sh:=[.p,.dead,.f,.dead,.f,.f,.f,.o,.dead,.dead,.dead,.dead]) PassesOwn.leaving rfl (bH (cw rfl B.range (af (av 2) aE) rfl)) (aK (i:=8) (bi _) sc__law_rule.nd)
  (az (bv (sh:=[.p,.dead,.f,.dead,.f,.f,.f,.o,.f,.dead,.dead,.dead]) PassesOwn.leaving rfl (bH (yE rfl B.range (af (av 8) (af (av 2) aE)) rfl rfl)) (aK (i:=9) (bi _) sc__law_rule.nd)
  (aa (aG (sh:=[.p,.dead,.f,.dead,.f,.f,.f,.o,.f,.f,.f,.dead]) (aO (i:=10) sc__law_rule.nd (cj (i:=0) gaj hr.m (aM (aj (av 2)) aU))))
  (aa (aG (sh:=[.p,.dead,.f,.dead,.f,.f,.f,.o,.f,.f,.f,.f]) (aO (i:=11) sc__law_rule.nd (cj (i:=0) gaj hr.m (aM (aj (av 2)) aU))))
  (az (cF (Gy (Dh (Di (lZ (aq hr)) eM (cj (i:=0) gaj hr.m (aM (aj (av 6)) aU)) (aj ak)) (A8 (bq (bn (lY (aq hr)) eM (ao (tf (tj (m9 rfl) rJ B.sorted (by decide +kernel) (aJ (ao (tf (cO (af (av 10) (af (av 11) aE))))) aP)))) (ao (tf (cO (af (av 8) (af (av 9) aE))))))))))
  (az (jq (i:=7) rfl (vi rfl) (aM (aj (gq (af (av 8) (af (av 9) (af (av 10) (af (av 11) aE)))))) aU) rfl rfl rfl rfl rfl rfl))
  bt)))))))
  (az (bh (aj (gq (af (av 2) (af (av 4) (af (dS bB d3 B.tuple (by decide +kernel) (aJ (aN (i:=7)) aP)) (af (av 5) aE))))))))))))))))
 (λg ds hl=>(by obtain⟨gaE,rfl⟩:=ln1 (Nat.succ.inj hl);kernel_rfl)),hmg,Fn.kp,(nP Fn λ_ _ _ _ _ _ _ _=>rfl)⟩
abbrev fT:Stmt:=top 23
abbrev qQ:List Str:=["_law_rule_here", "_law_crowd_here", "_law_found", "_law_number", "_law_meeting", "_law_left", "_law_room"]
theorem sc__law_steps:FnScope qQ ["_law_rule_here", "_law_crowd_here"] (au fT):=⟨rfl,rfl,rfl,by decide +kernel,rfl,by decide +kernel,by decide +kernel⟩
def kQ(gab:D)(gaa:List D):M D :=
 .ret (PyData.list gaa)
def dq(kn3:D×List D×Unit->M D)(gab:D)(gaa:List D)(gaB:D)(gaA:List D):M D :=
 bd (bd (oM (ez [(PyData.list gaA)])) λx15=>.ret (.tuple [gaB,x15])) λx16=>bd (oM (nL gaa [x16])) λl17=>kn3 (gab,l17,())
def dk(kn3:D×List D×Unit->M D)(gab:D)(gaa:List D)(gaB:D)(gaA:List D)(d_:D)(kn18:D×List D×D×List D×Unit->M D):M D :=
 bd (bd (oM (aD (PyData.list gaA) d_)) λx19=>oM (bF x19 (.int 1))) λx20=>bd (oM (putD gaA d_ x20)) λl21=>kn18 (gab,gaa,gaB,l21,())
def dw(kn3:D×List D×Unit->M D)(gab:D)(gaa:List D)(gaB:D)(ga1:D)(gaA:List D):M D :=
 bd (bd (oM (wF [(PyData.list gaA)])) λx10=>oM (xH x10 (.int 0))) λb11=>if b11 then
  bd (bd (bd (asI (.int 2)) λlo12=>oM (iO ga1 lo12 none)) λx13=>oM (cG x13)) λl14=>dg (λs22 d23 kn=>dk kn3 s22.1 s22.2.1 s22.2.2.1 s22.2.2.2.1 d23 kn) l14 (gab,gaa,gaB,gaA,()) (λs22=>dq kn3 s22.1 s22.2.1 s22.2.2.1 s22.2.2.2.1)
  else
  kn3 (gab,gaa,())
def dm(kn3:D×List D×Unit->M D)(gab:D)(gaa:List D)(gaB:D)(ga1:D)(gaA:List D)(d_:D)(kn24:D×List D×D×D×List D×Unit->M D):M D :=
 bd (bd (oM (aD (PyData.list gaA) d_)) λx25=>oM (md x25 (.int 1))) λx26=>bd (oM (putD gaA d_ x26)) λl27=>kn24 (gab,gaa,gaB,ga1,l27,())
def dn(gab:D)(gaa:List D)(d_:D)(kn3:D×List D×Unit->M D):M D :=
 un2 d_ λy4 y5=>bd (oM (hV [gab])) λl6=>bd (bd (bd (asI (.int 2)) λhi7=>oM (iO y5 none hi7)) λx8=>oM (cG x8)) λl9=>dg (λs28 d29 kn=>dm kn3 s28.1 s28.2.1 s28.2.2.1 s28.2.2.2.1 s28.2.2.2.2.1 d29 kn) l9 (gab,gaa,y4,y5,l6,()) (λs28=>dw kn3 s28.1 s28.2.1 s28.2.2.1 s28.2.2.2.1 s28.2.2.2.2.1)
def dL(gae:D)(gad:D):M D :=
 bd (bd (oM (aD gae (.int 2))) λx1=>oM (iX [x1])) λl2=>dg (λs30 d31 kn=>dn s30.1 s30.2.1 d31 kn) l2 (gad,[],()) (λs30=>kQ s30.1 s30.2.1)
def iR:List D->M D:=λl=>match l with
 | [gae,gad]=>dL gae gad
 | _=>.bad
theorem nH(Fn:Fun K "_law_steps" "_law_steps" fT f fd)(hmg:mg "_law_steps" = some (.ref f))(B:BN mg)(Kx:KX K mg):CF P w K mg base "_law_steps" 1 (spD K 2 iR) :=
 ⟨f,fd,["_law_rule_here", "_law_crowd_here"],cA (k:=0) Fn sc__law_steps (λcdv A outer s H E hr =>
  (aa (aG (sh:=[.f,.f,.o,.dead,.dead,.dead,.dead]) (cE (i:=2) sc__law_steps.nd (cP (cO aE))))
  (aa (bv (sh:=[.dead,.f,.o,.dead,.dead,.dead,.dead]) PassesOwn.leaving rfl (bH (qK rfl B.enumerate (af (aS (aI (aq hr)) aH (ao (av 0)) (ao ak)) aE) rfl)) (iM rfl (bp (aK (i:=3) (bi _) sc__law_steps.nd) (bp (aK (i:=4) (bi _) sc__law_steps.nd) gu rfl) rfl) rfl rfl)
  (aa (aG (sh:=[.dead,.f,.o,.f,.f,.o,.dead]) (cE (i:=5) sc__law_steps.nd (cP (pH (nj rfl) rM B.list (by decide +kernel) (aJ (ao (av 1)) aP)))))
  (aa (bv (sh:=[.dead,.f,.o,.f,.f,.o,.dead]) PassesOwn.leaving rfl (bH (dz (fP (ao (av 4)) fO (fN ak)))) (aK (i:=6) (bi _) sc__law_steps.nd)
  (az (j8 (i:=5) rfl (vi rfl) (aj (av 6)) (aj (aW zL zP (ao (aS (aI (aq hr)) aH (aN (i:=5)) (ao (av 6)))) (ao ak))) (λ_=>rfl) rfl rfl rfl)))
  (az (cF (bq (bn vR vW (ao (bc (yu rfl) Cc B.min (by decide +kernel) (aJ (aN (i:=5)) aP))) (ao ak)))
  (aa (bv (sh:=[.dead,.f,.o,.f,.dead,.o,.dead]) PassesOwn.leaving rfl (bH (dz (fP (ao (av 4)) (fN ak) fO))) (aK (i:=6) (bi _) sc__law_steps.nd)
  (az (j8 (i:=5) rfl (vi rfl) (aj (av 6)) (aj (aW bJ ci (ao (aS (aI (aq hr)) aH (aN (i:=5)) (ao (av 6)))) (ao ak))) (λ_=>rfl) rfl rfl rfl)))
  (az (jq (i:=2) rfl (vi rfl) (aM (aj (gq (af (av 3) (af (dS bB d3 B.tuple (by decide +kernel) (aJ (aN (i:=5)) aP)) aE)))) aU) rfl rfl rfl rfl rfl rfl)))
  bt)))))
  (az (iw (i:=2) (bh (aj (av 2))))))))
 (λds hl=>(by obtain⟨gae,gad,rfl⟩:=ln2 hl;kernel_rfl)),hmg,Fn.kp,(nP Fn λ_ _ _ _ _ _ _ _=>rfl)⟩
abbrev jf:Stmt:=top 24
abbrev vm:List Str:=["_law_rule_here", "_law_crowd_here", "_law_found", "_law_line", "_law_here"]
theorem sc__law_all:FnScope vm ["_law_rule_here", "_law_crowd_here"] (au jf):=⟨rfl,rfl,rfl,by decide +kernel,rfl,by decide +kernel,by decide +kernel⟩
abbrev N__law_all_0:List Str:=["_law_rule_here", "_law_crowd_here", "_law_found", "_law_line", "_law_here", "_law_number", "_law_later"]
theorem gx:N__law_all_0.Nodup:=by decide +kernel
def i6(gac:D)(gaa:List (D×D))(gam:List D):M D :=
 .ret (PyData.dict gaa)
def cU(gac:D)(gaa:List (D×D))(gam:List D)(kn1:D×List (D×D)×List D×Unit->M D):M D :=
 bd (oM (fc (PyData.list gam) (PyData.list []))) λb2=>if b2 then
  zO gam λx3=>bd (oM (bx x3 (PyData.dict gaa))) λb4=>if b4 then
  bd (dL gac x3) λx5=>bd (oM (gI true gaa x3 x5)) λl6=>bd (bd (bd (oM (aD (PyData.dict l6) x3)) λx7=>oM (cG x7)) λl11=>bd (bM (λd8=>un2 d8 λy9 y10=>.ret (some y10)) l11) gH) λl12=>bd (oM (Co (List.dropLast gam) l12)) λl13=>kn1 (gac,l6,l13,())
  else
  kn1 (gac,gaa,(List.dropLast gam),())
  else i6 gac gaa gam
def gk(gae:D)(gad:D):M D :=
 i7 (λs14 kn=>cU s14.1 s14.2.1 s14.2.2.1 kn) 10000 (gae,[],[gad],())
def ku:List D->M D:=λl=>match l with
 | [gae,gad]=>gk gae gad
 | _=>.bad
theorem rR(Fn:Fun K "_law_all" "_law_all" jf f fd)(hmg:mg "_law_all" = some (.ref f))(B:BN mg)(Kx:KX K mg)(ga6:CF P w K mg base "_law_steps" 1 (spD K 2 iR)):CF P w K mg base "_law_all" 2 (spD K 2 ku) :=
 ⟨f,fd,["_law_rule_here", "_law_crowd_here"],cA (k:=1) Fn sc__law_all (λcdv A outer s H E hr =>
  (aa (aG (sh:=[.f,.f,.t,.dead,.dead]) (qH true (i:=2) sc__law_all.nd rfl (lo rfl) rfl (.inl rfl)))
  (aa (aG (sh:=[.f,.dead,.t,.o,.dead]) (cE (i:=3) sc__law_all.nd (cP (cO (af (av 1) aE)))))
  (aa (fL (sh:=[.f,.dead,.t,.o,.dead]) (fuel:=10000) PassesOwn.leaving (bq (bn (lY (aq hr)) eM (aN (i:=3)) (ao (tf (cO aE)))))
  (aa (aG (sh:=[.f,.dead,.t,.o,.f]) (C9 (i:=3) (j:=4) rfl (vi rfl) sc__law_all.nd rfl (lo rfl) (by decide) rfl rfl rfl (.inl rfl)))
  (az (cF (bq (bn (bS (aq hr)) cn (ao (av 4)) (aN (i:=2))))
  (aa (aG (sh:=[.f,.dead,.t,.o,.f]) (iL (aq hr) (i:=2) rfl (vi rfl) (aj (av 4)) (aj (eV ga6 hr.m (af (av 0) (af (av 4) aE)))) rfl))
  (az (Da (i:=3) rfl (vi rfl) (cP (wR (N':=N__law_all_0) (k:=2) rfl (cp (by kernel_rfl) rfl rfl) (dz (aS (aI (aq hr)) aH (aN (i:=2)) (ao (av 4)))) (λ_ _ _ _ _=>(iM rfl (bp (aK (i:=5) (show 5<=5 by decide) gx) (bp (aK (i:=6) (show 5<=6 by decide) gx) gu rfl) rfl) rfl rfl)) (λ_ _ _ _ _=>gp) (λ_ _ _ _ _=>(av 6)))) rfl rfl rfl rfl rfl rfl)))
  bt))))
  (az (iw (i:=2) (bh (aj (av 2)))))))))
 (λds hl=>(by obtain⟨gae,gad,rfl⟩:=ln2 hl;kernel_rfl)),hmg,Fn.kp,(nP Fn λ_ _ _ _ _ _ _ _=>rfl)⟩
abbrev fV:Stmt:=top 25
abbrev qS:List Str:=["_law_feed_here", "_law_rule_here", "_law_most", "_law_found", "_law_hand", "_law_room"]
theorem sc__law_crowd:FnScope qS ["_law_feed_here", "_law_rule_here", "_law_most"] (au fV):=⟨rfl,rfl,rfl,by decide +kernel,rfl,by decide +kernel,by decide +kernel⟩
abbrev N__law_crowd_0:List Str:=["_law_feed_here", "_law_rule_here", "_law_most", "_law_found", "_law_hand", "_law_room ", "_law_room"]
theorem jA:N__law_crowd_0.Nodup:=by decide +kernel
def gC(gai:List D)(gac:D)(gaa:List D):M (D×List D) :=
 bd (oM (ez [(PyData.list gaa)])) λx8=>.ret (x8,gai)
def gB(gai:List D)(gac:D)(gaa:List D)(d_:D)(kn9:List D×D×List D×Unit->M (D×List D)):M (D×List D) :=
 bd (oM (aD gac (.int 0))) λx10=>bd (aF gai x10) λr11=>bd (bd (oM (aD (PyData.list gaa) r11.1)) λx12=>oM (bF x12 (.int 1))) λx13=>bd (oM (putD gaa r11.1 x13)) λl14=>kn9 (r11.2,gac,l14,())
def dN(gah:List D)(gae:D)(gaE:D):M (D×List D) :=
 bd (bd (bd (oM (aD gae (.int 0))) λx1=>oM (bA [x1])) λl3=>bd (bM (λd2=>.ret (some (.int 0))) l3) gH) λl4=>bd (aF gah gaE) λr5=>bd (oM (bF (.int 1) r5.1)) λx6=>bd (oM (bA [x6])) λl7=>dg (λs15 d16 kn=>gB s15.1 s15.2.1 s15.2.2.1 d16 kn) l7 (r5.2,gae,l4,()) (λs15=>gC s15.1 s15.2.1 s15.2.2.1)
def iT:List D->List D->M (D×List D):=λgah l=>match l with
 | [gae,gaE]=>dN gah gae gaE
 | _=>.bad
theorem nJ(Fn:Fun K "_law_crowd" "_law_crowd" fV f fd)(hmg:mg "_law_crowd" = some (.ref f))(B:BN mg)(Kx:KX K mg)(gaj:CF P w K mg base "_law_draw" 1 (sp1 K 2 cz)):CF P w K mg base "_law_crowd" 2 (sp1 K 3 iT) :=
 ⟨f,fd,["_law_feed_here", "_law_rule_here", "_law_most"],qx (k:=1) Fn sc__law_crowd (λcdv A outer s H E hr =>
  (aa (aG (sh:=[.p,.f,.f,.o,.dead,.dead]) (kD (i:=3) sc__law_crowd.nd rfl (lo rfl) (.inl rfl) (N':=N__law_crowd_0) (k:=1) rfl (cp (by kernel_rfl) rfl rfl) (cw rfl B.range (af (aS (aI (aq hr)) aH (ao (av 1)) (ao ak)) aE) rfl) (λ_ _ _ _ _=>(aK (i:=6) (show 6<=6 by decide) jA)) (λ_ _ _ _ _=>gp) (λ_ _ _ _ _=>ak) rfl (λ_=>rfl)))
  (aa (bv (sh:=[.p,.f,.dead,.o,.dead,.dead]) PassesOwn.leaving rfl (va rfl B.range (aM (qM bJ ci (aj ak) (cj (i:=0) gaj hr.m (aM (aj (av 2)) aU))) aU) rfl) (aK (i:=4) (bi _) sc__law_crowd.nd)
  (aa (aG (sh:=[.p,.f,.dead,.o,.dead,.f]) (aO (i:=5) sc__law_crowd.nd (cj (i:=0) gaj hr.m (aM (aj (aS (aI (aq hr)) aH (ao (av 1)) (ao ak))) aU))))
  (az (j8 (i:=3) rfl (vi rfl) (aj (av 5)) (aj (aW bJ ci (ao (aS (aI (aq hr)) aH (aN (i:=3)) (ao (av 5)))) (ao ak))) (λ_=>rfl) rfl rfl rfl))))
  (az (bh (aj (dS bB d3 B.tuple (by decide +kernel) (aJ (aN (i:=3)) aP))))))))
 (λg ds hl=>(by obtain⟨gae,gaE,rfl⟩:=ln2 (Nat.succ.inj hl);kernel_rfl)),hmg,Fn.kp,(AY Fn λ_ _ _ _ _ _ _ _ _=>rfl)⟩
abbrev jd:Stmt:=top 30
abbrev vk:List Str:=["_law_things", "_law_rule_here", "_law_crowd_here", "_law_goal", "_law_limit"]
theorem sc__law_ask:FnScope vk ["_law_things"] (au jd):=⟨rfl,rfl,rfl,by decide +kernel,rfl,by decide +kernel,by decide +kernel⟩
def cN(gau:D):M D :=
 un4 gau λy1 y2 y3 y4=>bd (bU y1 y2 y3 y4) λx5=>.ret x5
def kq:List D->M D:=λl=>match l with
 | [gau]=>cN gau
 | _=>.bad
theorem rQ(Fn:Fun K "_law_ask" "_law_ask" jd f fd)(hmg:mg "_law_ask" = some (.ref f))(B:BN mg)(Kx:KX K mg)(gbc:CF P w K mg base "way_to" 4 (spD K 4 dQ)):CF P w K mg base "_law_ask" 5 (spD K 1 kq) :=
 ⟨f,fd,["_law_things"],cA (k:=4) Fn sc__law_ask (λcdv A outer s H E hr =>
  (aa (aG (sh:=[.dead,.f,.f,.f,.f]) (Gp (aj (av 0)) (Dg rfl (bp (aK (i:=1) (bi _) sc__law_ask.nd) (bp (aK (i:=2) (bi _) sc__law_ask.nd) (bp (aK (i:=3) (bi _) sc__law_ask.nd) (bp (aK (i:=4) (bi _) sc__law_ask.nd) gu rfl) rfl) rfl) rfl) rfl rfl) rfl rfl rfl))
  (az (bh (aj (eV gbc hr.m (af (av 1) (af (av 2) (af (av 3) (af (av 4) aE))))))))))
 (λds hl=>(by obtain⟨gau,rfl⟩:=ln1 hl;kernel_rfl)),hmg,Fn.kp,(Ge Fn λ_ _ _ _ _ _ _=>rfl)⟩
abbrev cZ:Stmt:=top 26
abbrev kR:List Str:=["_law_ask_here", "_law_things", "_law_found", "e", "_law_strange"]
theorem sc__law_too_many:FnScope kR ["_law_ask_here", "_law_things"] (au cZ):=⟨rfl,rfl,rfl,by decide +kernel,rfl,by decide +kernel,by decide +kernel⟩
def eG(gaa:D):M D :=
 .ret gaa
def bN(gaQ:D)(gau:D):M D :=
 Eg (A:=D×Unit) (B:=Unit) (onX (λe_=>.ret (.inr (e_,(())))) (E8 gaQ "_law_ask" (cN gau)) λx1=>.ret (.inl ((.bool false),()))) (λs4=>eG s4.1) (λe2 s3=>oE ["TooMany"] e2.cls (onX (λ_=>.bad) (bd (oM (g9 [("TooMany",false)] (mV e2))) λb5=>.ret (.bool b5)) λx6=>onX (λ_=>.bad) (bd (bd (oM (g9 [("TooMany",true)] (mV e2))) λb9=>if b9 then bd (oM (g9 [("TooMany",true)] (mV e2))) λb8=>if b8 then bd (oM (lq x6)) λb7=>.ret (!b7)else .ret false else .ret false) λb10=>.ret (.bool b10)) λx11=>eG x11))
def fE:List D->M D:=λl=>match l with
 | [gaQ,gau]=>bN gaQ gau
 | _=>.bad
theorem j1(Fn:Fun K "_law_too_many" "_law_too_many" cZ f fd)(hmg:mg "_law_too_many" = some (.ref f))(B:BN mg)(Kx:KX K mg)(gbl:CF P w K mg base "_law_ask" 5 (spD K 1 kq)):CF P w K mg base "_law_too_many" 6 (spD K 2 fE) :=
 ⟨f,fd,["_law_ask_here", "_law_things"],cA (k:=5) Fn sc__law_too_many (λcdv A outer s H E hr =>
  (aa (aG (sh:=[.f,.f,.f,.dead,.dead]) (aO (i:=2) sc__law_too_many.nd (aj gE)))
  (aa (aG (sh:=[.dead,.dead,.f,.dead,.dead]) (C7 (j:=3) (sh:=[.dead,.dead,.f,.dead,.dead]) (shx:=[.dead,.dead,.dead,.dead,.dead]) Kx.h_PassError rfl (λ_ _=>(az (Dc (aj (Gw (i:=0) (f := "_law_ask") gbl hr.m rfl (vi rfl) (af (av 1) aE) rfl rfl rfl)) rfl))) (λ_=>(aa (aG (sh:=[.dead,.dead,.dead,.f,.f]) (aO (i:=4) sc__law_too_many.nd (aj (A6 (yF Kx.t_NoCrowd_NoLine_NoMeeting_NoPaper_NoRule_NoText (.cons rfl (by decide) (dD rfl) (.cons rfl (by decide) (dD rfl) (.cons rfl (by decide) (dD rfl) (.cons rfl (by decide) (dD rfl) (.cons rfl (by decide) (dD rfl) (.cons rfl (by decide) (dD rfl) .nil)))))) (by decide) B.isinstance rfl (av 3) rfl rfl rfl)))))
  (az (aO (i:=2) sc__law_too_many.nd (aj (A6 (vd (Bg Kx.i_TooMany rfl B.isinstance rfl (av 3) rfl rfl rfl (by decide)) (vd (Be Kx.i_ValueError rfl B.ValueError (by decide +kernel) B.isinstance rfl (av 3) rfl rfl rfl (by decide) (by decide)) (Bc (Dn (ao (av 4)))))))))))) (by decide) sc__law_too_many.nd rfl rfl rfl rfl (by decide)))
  (az (bh (aj (av 2)))))))
 (λds hl=>(by obtain⟨gaQ,gau,rfl⟩:=ln2 hl;kernel_rfl)),hmg,Fn.kp,(nP Fn λ_ _ _ _ _ _ _ _=>rfl)⟩
abbrev jc:Stmt:=top 27
abbrev vj:List Str:=["_law_found", "_law_crowd_here", "_law_far_here", "_law_line", "_law_at", "_law_number", "_law_later"]
theorem sc__law_far:FnScope vj ["_law_found", "_law_crowd_here"] (au jc):=⟨rfl,rfl,rfl,by decide +kernel,rfl,by decide +kernel,by decide +kernel⟩
def i5(gaa:D)(gaf:List (D×D))(gam:List D)(gaL:D):M D :=
 .ret (PyData.dict gaf)
def i4(kn1:D×List (D×D)×List D×D×Unit->M D)(gaa:D)(gaf:List (D×D))(gam:List D)(gaL:D):M D :=
 bd (oM (bF gaL (.int 1))) λx7=>kn1 (gaa,gaf,gam,x7,())
def fk(kn1:D×List (D×D)×List D×D×Unit->M D)(gaa:D)(gaf:List (D×D))(gam:List D)(gaL:D)(d_:D)(kn8:D×List (D×D)×List D×D×Unit->M D):M D :=
 un2 d_ λy9 y10=>bd (oM (bx y10 (PyData.dict gaf))) λb11=>if b11 then
  bd (bd (bd (oM (aD (PyData.list gam) gaL)) λx12=>oM (aD (PyData.dict gaf) x12)) λx13=>oM (bF x13 (.int 1))) λx14=>bd (oM (gI true gaf y10 x14)) λl15=>bd (oM (nL gam [y10])) λl16=>kn8 (gaa,l15,l16,gaL,())
  else
  kn8 (gaa,gaf,gam,gaL,())
def cS(gaa:D)(gaf:List (D×D))(gam:List D)(gaL:D)(kn1:D×List (D×D)×List D×D×Unit->M D):M D :=
 bd (bd (oM (dI [(PyData.list gam)])) λx2=>oM (ki gaL x2)) λb3=>if b3 then
  bd (bd (bd (oM (aD (PyData.list gam) gaL)) λx4=>oM (aD gaa x4)) λx5=>oM (cG x5)) λl6=>dg (λs17 d18 kn=>fk kn1 s17.1 s17.2.1 s17.2.2.1 s17.2.2.2.1 d18 kn) l6 (gaa,gaf,gam,gaL,()) (λs17=>i4 kn1 s17.1 s17.2.1 s17.2.2.1 s17.2.2.2.1)
  else i5 gaa gaf gam gaL
def gj(gaz:D)(gad:D):M D :=
 dA gad (i7 (λs19 kn=>cS s19.1 s19.2.1 s19.2.2.1 s19.2.2.2.1 kn) 10000 (gaz,[(gad,(.int 0))],[gad],(.int 0),()))
def ko:List D->M D:=λl=>match l with
 | [gaz,gad]=>gj gaz gad
 | _=>.bad
theorem rP(Fn:Fun K "_law_far" "_law_far" jc f fd)(hmg:mg "_law_far" = some (.ref f))(B:BN mg)(Kx:KX K mg):CF P w K mg base "_law_far" 1 (spD K 2 ko) :=
 ⟨f,fd,["_law_found", "_law_crowd_here"],cA (k:=0) Fn sc__law_far (λcdv A outer s H E hr =>
  (aa (aG (sh:=[.f,.f,.t,.dead,.dead,.dead,.dead]) (qI (i:=2) (aq hr) sc__law_far.nd rfl (lo rfl) (av 1) ak rfl (.inl rfl)))
  (aa (aG (sh:=[.f,.dead,.t,.o,.dead,.dead,.dead]) (cE (i:=3) sc__law_far.nd (cP (cO (af (av 1) aE)))))
  (aa (aG (sh:=[.f,.dead,.t,.o,.f,.dead,.dead]) (aO (i:=4) sc__law_far.nd (aj ak)))
  (aa (fL (sh:=[.f,.dead,.t,.o,.f,.dead,.dead]) (fuel:=10000) PassesOwn.leaving (bq (bn (zM (aq hr)) zQ (ao (av 4)) (ao (bc bw df B.len si (aJ (aN (i:=3)) aP)))))
  (aa (bv (sh:=[.f,.dead,.t,.o,.f,.dead,.dead]) PassesOwn.leaving rfl (bH (dz (aS (aI (aq hr)) aH (ao (av 0)) (ao (aS (aI (aq hr)) aH (aN (i:=3)) (ao (av 4))))))) (iM rfl (bp (aK (i:=5) (bi _) sc__law_far.nd) (bp (aK (i:=6) (bi _) sc__law_far.nd) gu rfl) rfl) rfl rfl)
  (az (cF (bq (bn (bS (aq hr)) cn (ao (av 6)) (aN (i:=2))))
  (aa (aG (sh:=[.f,.dead,.t,.o,.f,.dead,.f]) (iL (aq hr) (i:=2) rfl (vi rfl) (aj (av 6)) (aj (aW bJ ci (ao (aS (aI (aq hr)) aH (aN (i:=2)) (ao (aS (aI (aq hr)) aH (aN (i:=3)) (ao (av 4)))))) (ao ak))) rfl))
  (az (jq (i:=3) rfl (vi rfl) (aM (aj (av 6)) aU) rfl rfl rfl rfl rfl rfl)))
  bt)))
  (az (aO (i:=4) sc__law_far.nd (aj (aW bJ ci (ao (av 4)) (ao ak)))))))
  (az (iw (i:=2) (bh (aj (av 2))))))))))
 (λds hl=>(by obtain⟨gaz,gad,rfl⟩:=ln2 hl;kernel_rfl)),hmg,Fn.kp,(nP Fn λ_ _ _ _ _ _ _ _=>rfl)⟩
abbrev fU:Stmt:=top 28
abbrev qR:List Str:=["_law_found", "_law_crowd_here", "_law_numbers", "_law_goal", "_law_number", "_law_steps_here"]
theorem sc__law_leads:FnScope qR ["_law_found", "_law_crowd_here", "_law_numbers", "_law_goal"] (au fU):=⟨rfl,rfl,rfl,by decide +kernel,rfl,by decide +kernel,by decide +kernel⟩
def gA(gaa:D)(gab:D)(gaO:D):M D :=
 bd (bd (oM (gV gab gaO)) λb4=>.ret (.bool b4)) λx5=>.ret x5
def gz(gaa:D)(gab:D)(gaO:D)(d_:D)(kn6:D×D×D×Unit->M D):M D :=
 bd (oM (aD gaa gab)) λx7=>bd (oM (wK false x7)) λl8=>bd (bd (bd (oM (sA "int" d_)) λb9=>.ret (!b9)) λb11=>if b11 then .ret true else bd (oM (sA "bool" d_)) λb10=>if b10 then .ret true else oM (bx d_ (PyData.dict l8))) λb12=>if b12 then
  .ret (.bool false)
  else
  bd (oM (aD (PyData.dict l8) d_)) λx13=>kn6 (gaa,x13,gaO,())
def dM(gaz:D)(gad:D)(gaM:D)(gbd:D):M D :=
 bd (bd (oM (sA "list" gaM)) λb1=>.ret (!b1)) λb2=>if b2 then
  .ret (.bool false)
  else
  bd (oM (cG gaM)) λl3=>dg (λs14 d15 kn=>gz s14.1 s14.2.1 s14.2.2.1 d15 kn) l3 (gaz,gad,gbd,()) (λs14=>gA s14.1 s14.2.1 s14.2.2.1)
def iS:List D->M D:=λl=>match l with
 | [gaz,gad,gaM,gbd]=>dM gaz gad gaM gbd
 | _=>.bad
theorem nI(Fn:Fun K "_law_leads" "_law_leads" fU f fd)(hmg:mg "_law_leads" = some (.ref f))(B:BN mg)(Kx:KX K mg):CF P w K mg base "_law_leads" 1 (spD K 4 iS) :=
 ⟨f,fd,["_law_found", "_law_crowd_here", "_law_numbers", "_law_goal"],cA (k:=0) Fn sc__law_leads (λcdv A outer s H E hr =>
  (aa (cF (bq (qF (u5 (Bd (T := "list") (by decide) rfl B.isinstance rfl B.list (by decide +kernel) (ao (av 2)) rfl rfl rfl) (λ_=>rfl))))
  (az (bh (aj gE)))
  bt)
  (aa (bv (sh:=[.f,.f,.dead,.f,.dead,.dead]) PassesOwn.leaving rfl (bH (dz (av 2))) (aK (i:=4) (bi _) sc__law_leads.nd)
  (aa (aG (sh:=[.f,.dead,.dead,.f,.f,.k]) (Gm false (i:=5) rfl (aq hr) rfl B.dict sc__law_leads.nd rfl (lo rfl) (aj (aS (aI (aq hr)) aH (ao (av 0)) (ao (av 1)))) rfl rfl (.inl rfl)))
  (aa (cF (bq (sZ (A1 (qF (u5 (Bd (T := "int") (by decide) rfl B.isinstance rfl B.int (by decide +kernel) (ao (av 4)) rfl rfl rfl) (λ_=>rfl))) (A1 (u5 (Bd (T := "bool") (by decide) rfl B.isinstance rfl B.bool (by decide +kernel) (ao (av 4)) rfl rfl rfl) (λ_=>rfl)) (A0 (bn (bS (aq hr)) cn (ao (av 4)) (aN (i:=5))))))))
  (az (bh (aj gE)))
  bt)
  (az (aO (i:=1) sc__law_leads.nd (aj (aS (aI (aq hr)) aH (aN (i:=5)) (ao (av 4)))))))))
  (az (bh (aj (A6 (qN (lZ (aq hr)) eM (ao (av 1)) (ao (av 3))))))))))
 (λds hl=>(by obtain⟨gaz,gad,gaM,gbd,rfl⟩:=ln4 hl;kernel_rfl)),hmg,Fn.kp,(Jr Fn λ_ _ _ _ _ _ _ _ _ _=>rfl)⟩
abbrev eX:Stmt:=top 29
abbrev nQ:List Str:=["_law_feed_here", "_law_rule_here", "_law_hands", "_law_found", "_law_hand", "_law_room"]
theorem sc__law_spread:FnScope nQ ["_law_feed_here", "_law_rule_here", "_law_hands"] (au eX):=⟨rfl,rfl,rfl,by decide +kernel,rfl,by decide +kernel,by decide +kernel⟩
abbrev N__law_spread_0:List Str:=["_law_feed_here", "_law_rule_here", "_law_hands", "_law_found", "_law_hand", "_law_room ", "_law_room"]
theorem jj:N__law_spread_0.Nodup:=by decide +kernel
def fJ(gai:List D)(gac:D)(gaa:List D):M (D×List D) :=
 bd (oM (ez [(PyData.list gaa)])) λx6=>.ret (x6,gai)
def fH(gai:List D)(gac:D)(gaa:List D)(d_:D)(kn7:List D×D×List D×Unit->M (D×List D)):M (D×List D) :=
 bd (oM (aD gac (.int 0))) λx8=>bd (aF gai x8) λr9=>bd (bd (oM (aD (PyData.list gaa) r9.1)) λx10=>oM (bF x10 (.int 1))) λx11=>bd (oM (putD gaa r9.1 x11)) λl12=>kn7 (r9.2,gac,l12,())
def cR(gah:List D)(gae:D)(ga2:D):M (D×List D) :=
 bd (bd (bd (oM (aD gae (.int 0))) λx1=>oM (bA [x1])) λl3=>bd (bM (λd2=>.ret (some (.int 0))) l3) gH) λl4=>bd (oM (bA [ga2])) λl5=>dg (λs13 d14 kn=>fH s13.1 s13.2.1 s13.2.2.1 d14 kn) l5 (gah,gae,l4,()) (λs13=>fJ s13.1 s13.2.1 s13.2.2.1)
def gY:List D->List D->M (D×List D):=λgah l=>match l with
 | [gae,ga2]=>cR gah gae ga2
 | _=>.bad
theorem mw(Fn:Fun K "_law_spread" "_law_spread" eX f fd)(hmg:mg "_law_spread" = some (.ref f))(B:BN mg)(Kx:KX K mg)(gaj:CF P w K mg base "_law_draw" 1 (sp1 K 2 cz)):CF P w K mg base "_law_spread" 2 (sp1 K 3 gY) :=
 ⟨f,fd,["_law_feed_here", "_law_rule_here", "_law_hands"],qx (k:=1) Fn sc__law_spread (λcdv A outer s H E hr =>
  (aa (aG (sh:=[.p,.f,.f,.o,.dead,.dead]) (kD (i:=3) sc__law_spread.nd rfl (lo rfl) (.inl rfl) (N':=N__law_spread_0) (k:=1) rfl (cp (by kernel_rfl) rfl rfl) (cw rfl B.range (af (aS (aI (aq hr)) aH (ao (av 1)) (ao ak)) aE) rfl) (λ_ _ _ _ _=>(aK (i:=6) (show 6<=6 by decide) jj)) (λ_ _ _ _ _=>gp) (λ_ _ _ _ _=>ak) rfl (λ_=>rfl)))
  (aa (bv (sh:=[.p,.f,.dead,.o,.dead,.dead]) PassesOwn.leaving rfl (bH (cw rfl B.range (af (av 2) aE) rfl)) (aK (i:=4) (bi _) sc__law_spread.nd)
  (aa (aG (sh:=[.p,.f,.dead,.o,.dead,.f]) (aO (i:=5) sc__law_spread.nd (cj (i:=0) gaj hr.m (aM (aj (aS (aI (aq hr)) aH (ao (av 1)) (ao ak))) aU))))
  (az (j8 (i:=3) rfl (vi rfl) (aj (av 5)) (aj (aW bJ ci (ao (aS (aI (aq hr)) aH (aN (i:=3)) (ao (av 5)))) (ao ak))) (λ_=>rfl) rfl rfl rfl))))
  (az (bh (aj (dS bB d3 B.tuple (by decide +kernel) (aJ (aN (i:=3)) aP))))))))
 (λg ds hl=>(by obtain⟨gae,ga2,rfl⟩:=ln2 (Nat.succ.inj hl);kernel_rfl)),hmg,Fn.kp,(AY Fn λ_ _ _ _ _ _ _ _ _=>rfl)⟩
abbrev y7:Stmt:=top 31
abbrev Iv:List Str:=["_law_script", "_law_k", "_law_feed_here", "_law_rule_here", "_law_crowd_here", "_law_wrote", "_law_found", "_law_far_here", "_law_some", "_law_goals", "_law_goal", "_law_told"]
theorem sc_law:FnScope Iv ["_law_script"] (au y7):=⟨rfl,rfl,rfl,by decide +kernel,rfl,by decide +kernel,by decide +kernel⟩
abbrev N_law_0:List Str:=["_law_script", "_law_k", "_law_feed_here", "_law_rule_here", "_law_crowd_here", "_law_wrote", "_law_found", "_law_far_here", "_law_some", "_law_goals", "_law_goal", "_law_told", "_law_j"]
theorem t5:N_law_0.Nodup:=by decide +kernel
def AX(gaq:D):M D :=
 .ret (.bool true)
def sX(kn2:D×Unit->M D)(gaq:D)(gac:D)(gab:D)(gaP:D)(gaa:D)(gaf:D)(gaI:D):M D :=
 bd (bd (oM (iW [(.tuple [gac,gab])])) λx23=>oM (fc x23 gaP)) λb24=>if b24 then
  .ret (.bool false)
  else
  kn2 (gaq,())
def jP(kn2:D×Unit->M D)(kn25:D×D×D×D×D×D×D×Unit->M D)(gaq:D)(gac:D)(gab:D)(gaP:D)(gaa:D)(gaf:D)(gaI:D)(gaO:D):M D :=
 bd (bd (bd (bd (bd (oM (dI [gaI])) λx29=>bU gac gab gaO x29) λx30=>oM (iW [x30])) λx31=>oM (gV x31 (.str "[]"))) λb32=>if b32 then oM (fc gaO gab)else .ret false) λb33=>if b33 then
  .ret (.bool false)
  else
  bd (bd (bd (oM (dI [gaI])) λx34=>oM (kH x34 (.int 1))) λb40=>if b40 then bd (bd (bd (bd (bd (oM (dI [gaI])) λx35=>oM (md x35 (.int 1))) λx36=>.ret (.tuple [gac,gab,gaO,x36])) λx37=>bN (fnD "_law_ask") x37) λx38=>oM (lq x38)) λb39=>.ret (!b39)else .ret false) λb41=>if b41 then
  .ret (.bool false)
  else
  kn25 (gaq,gac,gab,gaP,gaa,gaf,gaI,())
def nk(kn2:D×Unit->M D)(gaq:D)(gac:D)(gab:D)(gaP:D)(gaa:D)(gaf:D)(gaI:D)(d_:D)(kn25:D×D×D×D×D×D×D×Unit->M D):M D :=
 bd (bU gac gab d_ (.int 1000)) λx26=>bd (oM (bx d_ gaf)) λb27=>if b27 then
  bd (oM (db x26 .none)) λb28=>if b28 then
  .ret (.bool false)
  else
  jP kn2 kn25 gaq gac gab gaP gaa gaf gaI d_
  else
  bd (bd (bd (bd (dM gaa gab x26 d_) λx42=>oM (lq x42)) λb43=>.ret (!b43)) λb46=>if b46 then .ret true else bd (oM (dI [x26])) λx44=>bd (oM (aD gaf d_)) λx45=>oM (fc x44 x45)) λb47=>if b47 then
  .ret (.bool false)
  else
  jP kn2 kn25 gaq gac gab gaP gaa gaf gaI d_
def nq(gaq:D)(d_:D)(kn2:D×Unit->M D):M D :=
 bd (eU gaq d_) λl3=>bd (eS l3 (.int 5)) λr4=>bd (dN r4.2 r4.1 (.int 5)) λr5=>bd (oM (iW [(.tuple [r4.1,r5.1])])) λx6=>bd (gk r4.1 r5.1) λx7=>bd (gj x7 r5.1) λx8=>bd (bd (oM (hU [x7])) λl9=>.ret (PyData.list l9)) λx10=>bd (oM (bA [(.int 4)])) λl11=>bd (cC (λs12 d13=>bd (oM (dI [s12.2.2.2.2.2.2.2.1])) λx14=>bd (aF s12.2.1 x14) λr15=>bd (oM (aD s12.2.2.2.2.2.2.2.1 r15.1)) λx16=>.ret (some x16,(s12.1,r15.2,s12.2.2.1,s12.2.2.2.1,s12.2.2.2.2.1,s12.2.2.2.2.2.1,s12.2.2.2.2.2.2.1,s12.2.2.2.2.2.2.2.1,()))) l11 (gaq,r5.2,r4.1,r5.1,x6,x7,x8,x10,())) λr17=>bd (gH r17.1) λl18=>bd (oM (sH [r17.2.2.2.2.1])) λx19=>bd (cR r17.2.2.1 r17.2.2.2.1 x19) λr20=>bd (oM (bF (PyData.list l18) (.list [r17.2.2.2.2.1,r20.1]))) λx21=>bd (oM (cG x21)) λl22=>dg (λs48 d49 kn=>nk kn2 s48.1 s48.2.1 s48.2.2.1 s48.2.2.2.1 s48.2.2.2.2.1 s48.2.2.2.2.2.1 s48.2.2.2.2.2.2.1 d49 kn) l22 (r17.2.1,r17.2.2.2.1,r17.2.2.2.2.1,r17.2.2.2.2.2.1,r17.2.2.2.2.2.2.1,r17.2.2.2.2.2.2.2.1,r17.2.2.2.2.2.2.2.2.1,()) (λs48=>sX kn2 s48.1 s48.2.1 s48.2.2.1 s48.2.2.2.1 s48.2.2.2.2.1 s48.2.2.2.2.2.1 s48.2.2.2.2.2.2.1)
def wO(gao:D):M D :=
 bd (oM (bA [(.int 5)])) λl1=>dg (λs50 d51 kn=>nq s50.1 d51 kn) l1 (gao,()) (λs50=>AX s50.1)
def qc:List D->M D:=λl=>match l with
 | [gao]=>wO gao
 | _=>.bad
theorem FK(Fn:Fun K "law" "law" y7 f fd)(B:BN mg)(Kx:KX K mg)(gbe:CF P w K mg base "_law_feed" 1 (spL K 2 jD))(gbf:CF P w K mg base "_law_rule" 2 (sp1 K 2 jC))(ga7:CF P w K mg base "_law_crowd" 2 (sp1 K 3 iT))(gbm:CF P w K mg base "_law_all" 2 (spD K 2 ku))(gbn:CF P w K mg base "_law_far" 1 (spD K 2 ko))(gbc:CF P w K mg base "way_to" 4 (spD K 4 dQ))(ga3:CF P w K mg base "_law_spread" 2 (sp1 K 3 gY))(gaj:CF P w K mg base "_law_draw" 1 (sp1 K 2 cz))(gaT:CF P w K mg base "_law_too_many" 6 (spD K 2 fE))(ga8:CF P w K mg base "_law_leads" 1 (spD K 4 iS))(D_way_to:CFd P w K mg base "way_to" 4 (spD K 4 dQ) 1000):FnOk P w K mg base (CX1 P w) 7 f fd ["_law_script"] (spD K 1 qc) :=
 cA (k:=6) Fn sc_law (λcdv A outer s H E hr =>
  (aa (bv (sh:=[.f,.dead,.dead,.dead,.dead,.dead,.dead,.dead,.dead,.dead,.dead,.dead]) PassesOwn.leaving rfl (bH (cw rfl B.range (af ak aE) rfl)) (aK (i:=1) (bi _) sc_law.nd)
  (aa (aG (sh:=[.f,.dead,.o,.dead,.dead,.dead,.dead,.dead,.dead,.dead,.dead,.dead]) (cE (i:=2) sc_law.nd (cP (Ir gbe hr.m (af (av 0) (af (av 1) aE))))))
  (aa (aG (sh:=[.f,.dead,.o,.f,.dead,.dead,.dead,.dead,.dead,.dead,.dead,.dead]) (aO (i:=3) sc_law.nd (cj (i:=2) gbf hr.m (aM (aj ak) aU))))
  (aa (aG (sh:=[.f,.dead,.o,.f,.f,.dead,.dead,.dead,.dead,.dead,.dead,.dead]) (aO (i:=4) sc_law.nd (cj (i:=2) ga7 hr.m (aM (aj (av 3)) (aM (aj ak) aU)))))
  (aa (aG (sh:=[.f,.dead,.o,.f,.f,.f,.dead,.dead,.dead,.dead,.dead,.dead]) (aO (i:=5) sc_law.nd (aj (bc (j7 (aq hr) hr.gd) pW B.repr (by decide +kernel) (aJ (ao (gq (af (av 3) (af (av 4) aE)))) aP)))))
  (aa (aG (sh:=[.f,.dead,.o,.f,.f,.f,.f,.dead,.dead,.dead,.dead,.dead]) (aO (i:=6) sc_law.nd (aj (eV gbm hr.m (af (av 3) (af (av 4) aE))))))
  (aa (aG (sh:=[.f,.dead,.o,.f,.f,.f,.f,.f,.dead,.dead,.dead,.dead]) (aO (i:=7) sc_law.nd (aj (eV gbn hr.m (af (av 6) (af (av 4) aE))))))
  (aa (aG (sh:=[.f,.dead,.o,.f,.f,.f,.f,.f,.f,.dead,.dead,.dead]) (aO (i:=8) sc_law.nd (aj (tf (tj (m9 rfl) rJ B.sorted (by decide +kernel) (aJ (ao (av 6)) aP))))))
  (aa (aG (sh:=[.f,.dead,.dead,.f,.f,.f,.f,.f,.f,.f,.dead,.dead]) (aO (i:=9) sc_law.nd (qM bJ ci (Dl (nz (sh:=[.f,.dead,.o,.f,.f,.f,.f,.f,.f,.dead,.dead,.dead]) (N':=N_law_0) (k:=1) rfl (cp (by kernel_rfl) rfl rfl) (bH (cw rfl B.range (af ak aE) rfl)) (λ_ _ _ _ _=>(aK (i:=12) (show 12<=12 by decide) t5)) (λ_ _ _ _ _=>(qL gp)) (λ_ _ _ _ _=>(Ee (aI (aq hr)) aH (aj (av 8)) (cj (i:=2) gaj hr.m (aM (aj (bc bw df B.len si (aJ (ao (av 8)) aP))) aU)))))) (Dl (Dj (aM (aj (av 4)) (aM (cj (i:=2) ga3 hr.m (aM (aj (av 3)) (aM (aj (bc (yo rfl) Ca B.sum (by decide +kernel) (aJ (ao (av 4)) aP))) aU))) aU)))))))
  (aa (bv (sh:=[.f,.dead,.dead,.f,.f,.f,.f,.f,.f,.dead,.dead,.dead]) PassesOwn.leaving rfl (bH (dz (av 9))) (aK (i:=10) (bi _) sc_law.nd)
  (aa (aG (sh:=[.f,.dead,.dead,.f,.f,.f,.f,.f,.f,.dead,.f,.f]) (aO (i:=11) sc_law.nd (aj (Gv D_way_to hr.m (af (av 3) (af (av 4) (af (av 10) aE)))))))
  (aa (aG (sh:=[.f,.dead,.dead,.f,.f,.f,.f,.f,.f,.dead,.f,.dead]) (cF (bq (bn (bS (aq hr)) cn (ao (av 10)) (ao (av 7))))
  (az (cF (bq (bn lX eM (ao (av 11)) (ao nv)))
  (az (bh (aj gE)))
  bt))
  (az (cF (bq (sZ (A1 (qF (u4 (ao (eV ga8 hr.m (af (av 6) (af (av 4) (af (av 11) (af (av 10) aE)))))) (λ_=>rfl))) (A0 (bn (lY (aq hr)) eM (ao (bc bw df B.len si (aJ (ao (av 11)) aP))) (ao (aS (aI (aq hr)) aH (ao (av 7)) (ao (av 10)))))))))
  (az (bh (aj gE)))
  bt))))
  (aa (cF (bq (sZ (uZ (bn (lZ (aq hr)) eM (ao (bc (j7 (aq hr) hr.gd) pW B.repr (by decide +kernel) (aJ (ao (eV gbc hr.m (af (av 3) (af (av 4) (af (av 10) (af (bc bw df B.len si (aJ (ao (av 8)) aP)) aE)))))) aP))) (ao Gu)) (qE (bn (lY (aq hr)) eM (ao (av 10)) (ao (av 4)))))))
  (az (bh (aj gE)))
  bt)
  (az (cF (bq (sZ (uZ (bn rH rO (ao (bc bw df B.len si (aJ (ao (av 8)) aP))) (ao ak)) (qE (qF (u4 (ao (eV gaT hr.m (af (A4 Kx.f_law_ask rfl (by decide)) (af (gq (af (av 3) (af (av 4) (af (av 10) (af (aW zL zP (ao (bc bw df B.len si (aJ (ao (av 8)) aP))) (ao ak)) aE))))) aE)))) (λ_=>rfl)))))))
  (az (bh (aj gE)))
  bt))))))
  (az (cF (bq (bn (lY (aq hr)) eM (ao (bc (j7 (aq hr) hr.gd) pW B.repr (by decide +kernel) (aJ (ao (gq (af (av 3) (af (av 4) aE)))) aP))) (ao (av 5))))
  (az (bh (aj gE)))
  bt))))))))))))
  (az (bh (aj gE)))))
 (λds hl=>(by obtain⟨gao,rfl⟩:=ln1 hl;kernel_rfl))
end
end
end K31
namespace L4
open PySem PySem.Spec PyProof.Rows L2 L3
variable {n i:Nat}{S T ι:Type}{f:Nat->Nat}
theorem bdR(s:S)(k:S->M T):bd (.ret s) k=k s:=id rfl
theorem oMS(s:S):oM (some s)=.ret s:=id rfl
theorem wy{S T:Type}{step:T->D->(T->M S)->M S}{R:M S}{P:Nat->T->Prop}:∀(ds:List D) (i:Nat) (s:T) (k:T->M S),
  (∀(j:Nat) (s:T) (d:D),d∈ds->i<=j->j<i+ds.length->P j s->∀kn:T->M S,(∀s',P (j+1) s'->kn s'=R)->step s d kn=R) ->
  P i s->(∀s',P (i+ds.length) s'->k s'=R)->cx step ds s k=R
 | [],i,s,k,_,hp,hk=>hk s hp
 | d::r,i,s,k,h,hp,hk=>by
  show step s d _=R
  refine h i s d ce (ai _) (by simp) hp _ λs' hp'=>?_
  refine wy r (i+1) s' k (λj s d hd hj hl=>h j s d (zzg _ hd) (by lia) (by simp;lia)) hp' λs' hs=>hk s' ?_
  have:i+(d::r).length=i+1+r.length:=by simp;lia
  rw[this];exact hs
theorem wx{step:T->D->(T->M S)->M S}{R:M S}{P:Nat->T->Prop}(ds:List D)(i:Nat)(s:T)(k:T->M S)
  (h:∀(j:Nat) (s:T) (d:D),d∈ds->i<=j->j<i+ds.length->P j s->∀kn:T->M S,(∀s',P (j+1) s'->kn s'=R)->step s d kn=R)
  (hp:P i s) (hk:∀s',P (i+ds.length) s'->k s'=R):dg step ds s k=R:=by
 rw[eP]
 exact wy ds i s k h hp hk
theorem sP{T:Type}{step:T->D->M (Option D×T)}{P:Nat->T->Prop}{R:D->Prop}:∀(ds:List D) (i:Nat) (s:T),
  (∀(j:Nat) (s:T) (d:D),d∈ds->i<=j->j<i+ds.length->P j s->∃x s',step s d=.ret (some x,s')/\P (j+1) s'/\R x)->P i s ->
  ∃xs s',cC step ds s=.ret (xs,s')/\P (i+ds.length) s'/\xs.length=ds.length/\∀x∈xs,R x
 | [],i,s,_,hp=>⟨[],s,rfl,hp,rfl,λ_ h=>by cases h⟩
 | d::r,i,s,h,hp=>by
  obtain⟨x,s1,e1,p1,r1⟩:=h i s d ce (ai _) (by simp) hp
  obtain⟨xs,s2,e2,p2,l2,r2⟩:=sP r (i+1) s1 (λj s d hd hj hl=>h j s d (zzg _ hd) (by lia) (by simp;lia)) p1
  refine⟨x::xs,s2,?_,?_,by simp[l2],?_⟩
  ·rw[cC,e1];simp only[eO,gn];rw[e2];rfl
  ·have:i+(d::r).length=i+1+r.length:=by simp;lia
   rw[this];exact p2
  ·intro y hy
   cases hy with
   | head=>exact r1
   | tail _ h=>exact r2 y h
theorem iI{ds:List S}(h:ds.length<=1000):gH ds=.ret ds:=aw (mJ h)
theorem lb{α:Type}(xs:List α)(i:Nat)(h:i<xs.length):atI xs (i:Int)=some (xs[i]'h):=by
 unfold atI ixN
 rw[aw (Int.natCast_nonneg _),aw (by lia)]
 simp[h]
theorem Gi{α:Type}(xs:List α)(i:Int)(h0:0<=i)(h:i<xs.length):∃x∈xs,atI xs i=some x:=by
 obtain⟨n,rfl⟩:=Int.eq_ofNat_of_zero_le h0
 exact⟨_,io _,lb xs n (by lia)⟩
def jT(s:Str):Bool:=PyData.strOk s&&decide ((reprText s).length<=24)&&PyData.strOk (reprText s)
def Ok(k:Nat):Nat->D->Prop
 | 0,_=>False
 | _+1,.none=>True
 | _+1,.bool _=>True
 | _+1,.int i=>i.natAbs<10^(16+k)
 | _+1,.str s=>jT s=true
 | n+1,.list ds=>ds.length<=6+k/\∀d∈ds,Ok k n d
 | n+1,.tuple ds=>ds.length<=6+k/\∀d∈ds,Ok k n d
 | _+1,.dict _=>False
theorem qi:∀{ds:List D},(∀d∈ds,d.canLay0=true)->PyData.canLayAll0 ds=true
 | [],_=>by simp[PyData.canLayAll0]
 | d::r,h=>by
  simp only[PyData.canLayAll0,ax]
  exact⟨h d ce,qi λe he=>h e (zzg _ he)⟩
theorem m5{n:Nat}:∀{ds:List D},(∀d∈ds,d.depth<=n)->PyData.depthAll ds<=n
 | [],_=>by simp[PyData.depthAll]
 | d::r,h=>by
  simp only[PyData.depthAll]
  exact Nat.max_le.mpr ⟨h d ce,m5 λe he=>h e (zzg _ he)⟩
theorem Fl{m:Nat}(h:m<10^36):m.log2<1920:=by
 by_cases h0:m=0
 ·subst h0;decide
 ·exact(Nat.log2_lt h0).mpr (du h (by decide +kernel))
theorem strOk_iff{s:Str}:PyData.strOk s=true↔∀c∈s.cps.toList,c<1114112:=by
 unfold PyData.strOk
 rw[<-Array.all_toList,pd]
 simp
theorem bO(s:String):PyData.strOk (Str.ofString s)=true:=by
 rw[strOk_iff,signs_ofString]
 intro c hc
 obtain⟨ch,_,rfl⟩:=List.mem_map.mp hc
 have:=ch.valid
 have e:ch.toNat=ch.val.toNat:=rfl
 rw[e]
 rcases this with h|⟨_,h⟩
 ·have h':ch.val.toNat<0xd800:=h
  lia
 ·have h':ch.val.toNat<0x110000:=h
  lia
theorem iA{a b:Str}(ha:PyData.strOk a=true)(hb:PyData.strOk b=true):PyData.strOk (a++b)=true:=by
 rw[strOk_iff]at *
 intro c hc
 rcases mem_cps_append.mp hc with h|h
 ·exact ha c h
 ·exact hb c h
theorem ly{sep:Str}{ts:List Str}(hs:PyData.strOk sep=true)(h:∀t∈ts,PyData.strOk t=true):PyData.strOk (Str.join sep ts)=true:=by
 rw[strOk_iff]at *
 intro c hc
 rcases(mem_join sep c ts).mp hc with ⟨t,ht,hc⟩|⟨_,hc⟩
 ·exact strOk_iff.mp (h t ht) c hc
 ·exact hs c hc
theorem we{ts:List Str}:(Str.join ", " ts).length<=piled ts:=by
 by_cases h:ts=[]
 ·subst h;exact bi _
 ·have:=join_length_add ts h;lia
def lim:Nat->Nat
 | 0=>24
 | n+1=>4+9*(lim n+2)
theorem eqI(a b:Int):gV (.int a) (.int b)=some (a==b):=by
 unfold gV kN
 simp[PyData.canLay0,PyData.depth,PyData.eqv]
theorem neI(a b:Int):fc (.int a) (.int b)=some (!(a==b)):=by
 unfold fc kN
 simp[PyData.canLay0,PyData.depth,PyData.eqv]
theorem ltI(a b:Int):tZ (.int a) (.int b)=some (decide (a<b)):=id rfl
theorem gtI(a b:Int):kH (.int a) (.int b)=some (decide (b<a)):=id rfl
theorem geI(a b:Int):xH (.int a) (.int b)=some (decide (b<=a)):=id rfl
theorem addI(a b:Int):bF (.int a) (.int b)=some (.int (a+b)):=id rfl
theorem modI(i j:Int)(h:0<j):jy (.int i) (.int j)=some (.int (i % j)):=aw h
theorem divI(i j:Int)(h:0<j)(h2:j<1073741824):mn (.int i) (.int j)=some (.int (i / j)):=aw (by simp[h,h2])
theorem mulL(i j:Int)(h : -(2^64)<i)(h2:i<2^64):dc (.int i) (.int j)=some (.int (i*j)):=aw (by simp only[vZ,oC,ax,zzi];exact .inl ⟨h,h2⟩)
theorem mulR(i j:Int)(h : -(2^64)<j)(h2:j<2^64):dc (.int i) (.int j)=some (.int (i*j)):=aw (by simp only[vZ,oC,ax,zzi];exact .inr ⟨h,h2⟩)
theorem Jw(b:Bool):lq (.bool b)=some b:=id rfl
theorem lenL(ds:List D):dI [.list ds]=some (.int ds.length):=id rfl
theorem GU(ds:List D):cG (.tuple ds)=some ds:=id rfl
theorem JE(ds:List D):cG (.list ds)=some ds:=id rfl
theorem tM(ds:List D):ez [.list ds]=some (.tuple ds):=id rfl
theorem JC(ds:List D):ez [.tuple ds]=some (.tuple ds):=id rfl
theorem JF(ds:List D)(lo hi:Option Int):iO (.tuple ds) lo hi=some (.tuple (L4.cutD ds lo hi)):=id rfl
theorem JA(ds:List D)(lo hi:Option Int):iO (.list ds) lo hi=some (.list (L4.cutD ds lo hi)):=id rfl
theorem FC(ds:List D)(n:Nat)(h:n<ds.length):cH (.tuple ds) (.int n)=some ds[n]:=lb ds n h
theorem uB(a:D)(r:List D):cH (.tuple (a::r)) (.int 0)=some a:=FC (a::r) 0 (by simp)
theorem FE(a b:D)(r:List D):cH (.tuple (a::b::r)) (.int 1)=some b:=FC (a::b::r) 1 (by simp)
theorem FD(a b c:D)(r:List D):cH (.tuple (a::b::c::r)) (.int 2)=some c:=FC (a::b::c::r) 2 (by simp)
theorem ix3_0(a b c:D):cH (.list [a,b,c]) (.int 0)=some a:=id rfl
theorem ix3_1(a b c:D):cH (.list [a,b,c]) (.int 1)=some b:=id rfl
theorem ix3_2(a b c:D):cH (.list [a,b,c]) (.int 2)=some c:=id rfl
theorem put3_2(a b c d:D):putD [a,b,c] (.int 2) d=some [a,b,d]:=id rfl
theorem Jg(a b:Bool):(if a=true then(M.ret b)else .ret false)=.ret (a&&b):=by cases a<;>rfl
theorem C4(n m:Nat):((n:Int)==(m:Int))=decide (n=m):=by
 by_cases h:n=m
 ·simp[h]
 ·simp only[h,KR];rw[beq_eq_false_iff_ne];lia
def sW(lo hi:Int):D->Bool
 | .int i=>decide (lo<=i)&&decide (i<=hi)
 | _=>false
def sS(w:Str):D->Bool
 | .str s=>s==w
 | _=>false
def Ey(d:D):Prop:=d.canLay0=true/\d.depth<=1000
theorem sD{S T ι:Type}{step:T->D->(T->M S)->M S}{e:ι->D}{F:List ι->T}{k:T->M S}:∀(is pre:List ι),
  (∀p i q,is=p++i::q->∀kn:T->M S,step (F (pre++p)) (e i) kn=kn (F (pre++p++[i])))->cx step (is.map e) (F pre) k=k (F (pre++is))
 | [],pre,_=>by simp[cx]
 | i::r,pre,h=>by
  show step (F pre) (e i) _=_
  have h0:=h [] i r rfl (λs'=>cx step (r.map e) s' k)
  rw[ou]at h0
  rw[h0]
  have:=sD (step:=step) (e:=e) (F:=F) (k:=k) r (pre++[i]) λp j q hq kn=>by
   have:=h (i::p) j q (by rw[hq];rfl) kn
   simpa using this
  rw[this]
  simp
theorem hJ{step:T->D->(T->M S)->M S}{e:ι->D}{F:List ι->T}{k:T->M S}(is:List ι)
  (h:∀p i q,is=p++i::q->∀kn:T->M S,step (F p) (e i) kn=kn (F (p++[i]))):dg step (is.map e) (F []) k=k (F is):=by
 rw[eP]
 have:=sD (step:=step) (e:=e) (F:=F) (k:=k) is [] (by simpa using h)
 simpa using this
theorem wz{S T:Type}{step:T->D->(T->M S)->M S}{R:M S->Prop}{P:Nat->T->Prop}{k:T->M S}:∀(ds:List D) (i:Nat) (s:T),
  (∀(j:Nat) (s:T) (d:D),ds[j]? = some d->P (i+j) s->∀kn:T->M S,(∀s',P (i+j+1) s'->R (kn s'))->R (step s d kn)) ->
  P i s->(∀s',P (i+ds.length) s'->R (k s'))->R (cx step ds s k)
 | [],i,s,_,hp,hk=>hk s hp
 | d::r,i,s,h,hp,hk=>by
  show R (step s d _)
  refine h 0 s d rfl hp _ λs' hp'=>?_
  refine wz r (i+1) s' (λj s d hd hp kn hkn=>h (j+1) s d (by simpa using hd) (by rw[show i+(j+1)=i+1+j by lia];exact hp) kn λs' q=>hkn s' (by rw[show i+1+j+1=i+(j+1)+1 by lia];exact q)) hp' λs' hs=>hk s' ?_
  rw[show i+(d::r).length=i+1+r.length by simp;lia];exact hs
theorem gc{step:T->D->(T->M S)->M S}{R:M S->Prop}{P:Nat->T->Prop}{k:T->M S}(ds:List D)(s:T)
  (h:∀(j:Nat) (s:T) (d:D),ds[j]? = some d->P j s->∀kn:T->M S,(∀s',P (j+1) s'->R (kn s'))->R (step s d kn))
  (hp:P 0 s) (hk:∀s',P ds.length s'->R (k s')):R (dg step ds s k):=by
 rw[eP]
 exact wz ds 0 s (by simpa using h) hp (by simpa using hk)
theorem fG{ι:Type}{step:D->M (Option D)}{e g:ι->D}:∀(is:List ι),(∀i∈is,step (e i)=.ret (some (g i)))->bM step (is.map e)=.ret (is.map g)
 | [],_=>rfl
 | i::r,h=>by
  rw[bj,bM,h i ce,fG r λd hd=>h d (zzg _ hd)]
  rfl
theorem sU{ι:Type}{step:D->M (Option D)}{e:ι->D}{g:ι->Option D}:∀(is:List ι),(∀i∈is,step (e i)=.ret (g i))->bM step (is.map e)=.ret (is.filterMap g)
 | [],_=>rfl
 | i::r,h=>by
  rw[bj,bM,h i ce,sU r λd hd=>h d (zzg _ hd)]
  cases q:g i<;>simp[eO,bdR,JO,q]
theorem o9{T ι:Type}{step:T->D->M (Option D×T)}{P:Nat->T->Prop}{e:ι->D}{R:ι->Prop}:∀(ds:List D) (i:Nat) (s:T),
  (∀(j:Nat) (s:T) (d:D),ds[j]? = some d->P (i+j) s->∃x s',step s d=.ret (some (e x),s')/\P (i+j+1) s'/\R x)->P i s ->
  ∃xs s',cC step ds s=.ret (List.map e xs,s')/\P (i+ds.length) s'/\xs.length=ds.length/\∀x∈xs,R x
 | [],i,s,_,hp=>⟨[],s,rfl,hp,rfl,λ_ h=>by cases h⟩
 | d::r,i,s,h,hp=>by
  obtain⟨x,s1,e1,p1,r1⟩:=h 0 s d rfl hp
  obtain⟨xs,s2,e2,p2,l2,r2⟩:=o9 r (i+1) s1 (λj s d hd hp=>by
   have:=h (j+1) s d (by simpa using hd) (by rw[show i+(j+1)=i+1+j by lia];exact hp)
   rw[show i+(j+1)+1=i+1+j+1 by lia]at this
   exact this) p1
  refine⟨x::xs,s2,?_,?_,by simp[l2],?_⟩
  ·rw[cC,e1];simp only[eO,gn];rw[e2];rfl
  ·rw[show i+(d::r).length=i+1+r.length by simp;lia];exact p2
  ·intro y hy
   cases hy with
   | head=>exact r1
   | tail _ h=>exact r2 y h
theorem sR{step:T->D->M (Option D×T)}{P:Nat->T->Prop}{e:ι->D}{R:ι->Prop}(ds:List D)(s:T)
  (h:∀(j:Nat) (s:T) (d:D),ds[j]? = some d->P j s->∃x s',step s d=.ret (some (e x),s')/\P (j+1) s'/\R x) (hp:P 0 s) :
  ∃xs s',cC step ds s=.ret (List.map e xs,s')/\P ds.length s'/\xs.length=ds.length/\∀x∈xs,R x:=by
 have:=o9 (step:=step) (P:=P) (e:=e) (R:=R) ds 0 s (by simpa using h) hp
 simpa using this
abbrev iN(n:Nat):D:=.int (n:Int)
def rng(lo hi:Nat):List Nat:=(List.range (hi - lo)).map (lo + ·)
theorem lI(lo hi:Nat):(rng lo hi).length=hi - lo:=by simp[rng]
theorem lM(lo n:Nat):fW (lo:Int) n=((List.range n).map (lo + ·)).map iN:=by
 unfold fW
 rw[wP]
 apply Kh
 intro a _
 show PyData.int _=PyData.int _
 congr 1
theorem jV(h:n<=100000):fR (n:Int)=true:=by
 unfold fR
 simp only[ax,zzi]
 lia
theorem dE(n:Nat)(h:n<=100000):bA [.int (n:Int)]=some ((List.range n).map iN):=by
 unfold bA
 simp only[jV h,At]
 have:=lM 0 n
 simp only[J0]
 rw[show(0:Int)=((0:Nat):Int)from rfl,this]
 simp
theorem BK(lo hi:Nat)(h:lo<=100000)(h2:hi<=100000):iJ [.int (lo:Int),.int (hi:Int)]=some ((rng lo hi).map iN):=by
 unfold iJ
 simp only[jV h,jV h2,Bool.and_self,At]
 rw[show((hi:Int) - (lo:Int)).toNat=hi - lo by lia,lM]
 rfl
mutual
def sz:D->Nat
 | .list ds=>1+szs ds
 | .tuple ds=>1+szs ds
 | .none=>1
 | .bool _=>1
 | .int _=>1
 | .str _=>1
 | .dict _=>1
def szs:List D->Nat
 | []=>0
 | d::r=>sz d+szs r
end
mutual
def Sm:D->Prop
 | .list ds=>Sms ds
 | .tuple ds=>Sms ds
 | .none=>True
 | .bool _=>True
 | .int i=>i.natAbs<10^19
 | .str s=>jT s=true
 | .dict _=>False
def Sms:List D->Prop
 | []=>True
 | d::r=>Sm d/\Sms r
end
theorem nA:∀{ds:List D},(∀d∈ds,Sm d)->Sms ds
 | [],_=>by simp[Sms]
 | e::r,h=>by
  simp only[Sms]
  exact⟨h e ce,nA λd hd=>h d (zzg _ hd)⟩
mutual
theorem Sm.lay:∀{d:D},Sm d->d.canLay0=true
 | .none,h=>by simp[PyData.canLay0]
 | .bool _,h=>by simp[PyData.canLay0]
 | .int _,h=>by simp[PyData.canLay0]
 | .str s,h=>by
  have h':jT s=true:=by simpa[Sm]using h
  unfold jT at h'
  simp only[ax]at h'
  simp[PyData.canLay0,h'.1.1]
 | .list ds,h=>by simp only[PyData.canLay0];exact Sms.lay (by simpa[Sm]using h)
 | .tuple ds,h=>by simp only[PyData.canLay0];exact Sms.lay (by simpa[Sm]using h)
 | .dict _,h=>by simp[Sm]at h
theorem Sms.lay:∀{ds:List D},Sms ds->PyData.canLayAll0 ds=true
 | [],_=>by simp[PyData.canLayAll0]
 | d::r,h=>by
  simp only[Sms]at h
  simp only[PyData.canLayAll0,ax]
  exact⟨Sm.lay h.1,Sms.lay h.2⟩
end
mutual
theorem Sm.show:∀{d:D},Sm d->d.showable=true
 | .none,h=>by simp[PyData.showable]
 | .bool _,h=>by simp[PyData.showable]
 | .int i,h=>by
  have h':i.natAbs<10^19:=by simpa[Sm]using h
  simp only[PyData.showable,zzi]
  exact Fl (du h' (Nat.pow_le_pow_right (by decide) (by decide)))
 | .str s,h=>by simp[PyData.showable]
 | .list ds,h=>by simp only[PyData.showable];exact Sms.show (by simpa[Sm]using h)
 | .tuple ds,h=>by simp only[PyData.showable];exact Sms.show (by simpa[Sm]using h)
 | .dict _,h=>by simp[Sm]at h
theorem Sms.show:∀{ds:List D},Sms ds->PyData.showableAll ds=true
 | [],_=>by simp[PyData.showableAll]
 | d::r,h=>by
  simp only[Sms]at h
  simp only[PyData.showableAll,ax]
  exact⟨Sm.show h.1,Sms.show h.2⟩
end
mutual
theorem Sm.text:∀{d:D},Sm d->d.shown.length+2<=30*sz d/\PyData.strOk d.shown=true
 | .none,h=>by refine⟨?_,by simp only[PyData.shown];exact bO _⟩;simp only[PyData.shown,sz];decide
 | .bool b,h=>by
  refine⟨?_,by cases b<;>simp only[PyData.shown]<;>exact bO _⟩
  cases b<;>simp only[PyData.shown,sz]<;>decide
 | .int i,h=>by
  have h':i.natAbs<10^19:=by simpa[Sm]using h
  refine⟨?_,by simp only[PyData.shown];exact bO _⟩
  simp only[PyData.shown,sz]
  have h1:=int_text_length_le10 (a:=i) (k:=19) (by decide) h'
  have h2:(Str.ofString (toString i)).length=(toString i).length:=by
   show(Str.ofString (toString i)).cps.size=_
   rw[<-fu,signs_ofString,zzd,String.length_toList]
  lia
 | .str s,h=>by
  have h':jT s=true:=by simpa[Sm]using h
  unfold jT at h'
  simp only[ax,zzi]at h'
  simp only[PyData.shown,sz]
  exact⟨by lia,h'.2⟩
 | .list ds,h=>by
  obtain⟨h1,h2⟩:=Sms.text (ds:=ds) (by simpa[Sm]using h)
  have h5:(Str.join ", " (PyData.shownAll ds)).length<=piled (PyData.shownAll ds):=we
  have h6:PyData.strOk (Str.join ", " (PyData.shownAll ds))=true:=ly (bO _) h2
  simp only[PyData.shown,listText_eq_join,sz]
  refine⟨?_,iA (iA (bO _) h6) (bO _)⟩
  rw[J7,J7]
  have e1:((("[" : String):Str)).length=1:=rfl
  have e2:((("]" : String):Str)).length=1:=rfl
  rw[e1,e2];lia
 | .tuple ds,h=>by
  obtain⟨h1,h2⟩:=Sms.text (ds:=ds) (by simpa[Sm]using h)
  have h5:(Str.join ", " (PyData.shownAll ds)).length<=piled (PyData.shownAll ds):=we
  have h6:PyData.strOk (Str.join ", " (PyData.shownAll ds))=true:=ly (bO _) h2
  simp only[PyData.shown,tupleText,sz]
  refine⟨?_,iA (iA (bO _) h6) (bO _)⟩
  rw[J7,J7]
  have e1:((("(" : String):Str)).length=1:=rfl
  have e3:(((if(PyData.shownAll ds).length==1 then ",)" else ")" : String):Str)).length<=2:=by split<;>decide
  rw[e1];lia
 | .dict _,h=>by simp[Sm]at h
theorem Sms.text:∀{ds:List D},Sms ds->piled (PyData.shownAll ds)<=30*szs ds/\∀t∈PyData.shownAll ds,PyData.strOk t=true
 | [],_=>by simp[PyData.shownAll,piled,szs]
 | d::r,h=>by
  simp only[Sms]at h
  obtain⟨h1,h2⟩:=Sm.text h.1
  obtain⟨h3,h4⟩:=Sms.text h.2
  simp only[PyData.shownAll,szs]
  refine⟨?_,λt ht=>?_⟩
  ·rw[piled_cons];lia
  ·rcases List.mem_cons.mp ht with rfl|ht
   ·exact h2
   ·exact h4 t ht
end
theorem DE{d:D}(h:Sm d)(hs:sz d<=30000)(hd:d.depth<=60):iW [d]=some (.str d.shown):=by
 obtain⟨t1,t2⟩:=h.text
 show(if lJ d then some (PyData.str d.shown)else none)=_
 unfold lJ
 rw[aw]
 simp only[ax,zzi]
 exact⟨⟨⟨h.show,h.lay⟩,by lia⟩,ir (show d.shown.length<=1000000 by lia) (by decide)⟩
theorem Fi{d:D}(h:Sm d):fc (.str d.shown) (.str d.shown)=some false:=by
 obtain⟨t1,t2⟩:=h.text
 unfold fc kN
 rw[aw]
 ·simp[PyData.eqv]
 ·simp[PyData.canLay0,t2,PyData.depth]
theorem g8(ds:List D)(k:D):aD (.list ds) k=cH (.list ds) k:=id rfl
theorem dC(ds:List D)(k:D):aD (.tuple ds) k=cH (.tuple ds) k:=id rfl
theorem HE(d:D)(ds:List D):bx d (.list ds)=iD d (.list ds):=id rfl
theorem HD(d:D)(ds:List D):bx d (.tuple ds)=iD d (.tuple ds):=id rfl
theorem jJ(e:ι->D)(is:List ι)(n:Nat)(h:n<is.length):cH (.list (is.map e)) (.int (n:Int))=some (e is[n]):=by
 have:=lb (is.map e) n (by simpa using h)
 rw[List.getElem_map]at this
 exact this
theorem HP(e:ι->D)(is:List ι)(n:Nat)(h:n<is.length):cH (.tuple (is.map e)) (.int (n:Int))=some (e is[n]):=by
 have:=lb (is.map e) n (by simpa using h)
 rw[List.getElem_map]at this
 exact this
theorem jr(ds:List D)(d:D)(h:ds.length<=100000):nL ds [d]=some (ds++[d]):=aw (Is h (by decide))
theorem sF{ds:List S}(h:ds.length<=100000):gH ds=.ret ds:=aw (ir h (by decide))
abbrev pD(p:Nat×Nat):D:=.tuple [iN p.1,iN p.2]
theorem zT(a b:Nat):((a:Int)==(b:Int))=decide (a=b):=C4 a b
theorem Ax(p q:Nat×Nat):PyData.eqv (pD p) (pD q)=decide (p=q):=by
 simp only[pD,iN,PyData.eqv,PyData.eqvAll,zT,Bool.and_true]
 rw[K7]
 simp[Prod.ext_iff]
theorem eqN(a b:Nat):gV (iN a) (iN b)=some (decide (a=b)):=by
 show gV (.int a) (.int b)=_
 rw[eqI,zT]
theorem Dm(a b:Nat):bF (iN a) (iN b)=some (iN (a+b)):=by
 show some (PyData.int ((a:Int)+(b:Int)))=_
 rw[<-K5]
abbrev Mt:=Nat×Nat×Nat×Nat
abbrev mD(m:Mt):D:=.tuple [iN m.1,iN m.2.1,iN m.2.2.1,iN m.2.2.2]
structure Rl where
 n:Nat
 st:List Nat
 ms:List Mt
 sy:List Bool
abbrev Rl.d(r:Rl):D:=.tuple [iN r.n,.tuple (r.st.map iN),.tuple (r.ms.map mD),.tuple (r.sy.map PyData.bool)]
def plt(p q:Nat×Nat):Prop:=p.1<q.1\/p.1=q.1/\p.2<q.2
structure MtOk(n:Nat)(m:Mt):Prop where
 ab:m.1<=m.2.1
 b:m.2.1<n
 c:m.2.2.1<n
 d:m.2.2.2<n
 ne:m.2.2≠(m.1,m.2.1)
 ne':m.2.2≠(m.2.1,m.1)
structure Wf(r:Rl):Prop where
 n1:1<=r.n
 st:∀s∈r.st,s<r.n
 sy:r.sy.length=r.n
 ms:∀m∈r.ms,MtOk r.n m
 so:r.ms.Pairwise λm m'=>plt (m.1,m.2.1) (m'.1,m'.2.1)
def look(ms:List Mt)(p:Nat×Nat):Option (Nat×Nat):=(ms.find? λm=>decide (m.1=p.1)&&decide (m.2.1=p.2)).map (·.2.2)
def turn(ms:List Mt)(i j:Nat):Nat×Nat:=if i<=j then(look ms (i,j)).getD (i,j)else let t:=(look ms (j,i)).getD (j,i);(t.2,t.1)
theorem jW(h:n<=1000000000):Sm (iN n):=by
 simp only[iN,Sm,Int.natAbs_natCast]
 exact Is h (by decide)
theorem vB{l:List Nat}(h:∀s∈l,s<=1000000000):Sm (.tuple (l.map iN)):=by
 simp only[Sm]
 refine nA λd hd=>?_
 obtain⟨s,hs,rfl⟩:=List.mem_map.mp hd
 exact jW (h s hs)
theorem yW(l:List Bool):Sm (.tuple (l.map PyData.bool)):=by
 simp only[Sm]
 refine nA λd hd=>?_
 obtain⟨s,hs,rfl⟩:=List.mem_map.mp hd
 simp[Sm]
theorem GT{m:Mt}(h:m.1<=1000000000/\m.2.1<=1000000000/\m.2.2.1<=1000000000/\m.2.2.2<=1000000000):Sm (mD m):=by
 simp only[mD,Sm,Sms]
 exact⟨by simpa[iN,Sm]using jW h.1,by simpa[iN,Sm]using jW h.2.1,by simpa[iN,Sm]using jW h.2.2.1,by simpa[iN,Sm]using jW h.2.2.2,trivial⟩
theorem iy{ι:Type}{e:ι->D}{B:Nat}(h:∀i,sz (e i)=B):∀l:List ι,szs (l.map e)=l.length*B
 | []=>by simp[szs]
 | i::r=>by rw[bj,szs,iy h r,h i,qu,Nat.succ_mul];lia
theorem cY{ds:List D}(h:∀d∈ds,d.depth<=n):(PyData.tuple ds).depth<=n+1:=by
 have:=m5 h
 simp only[PyData.depth];lia
theorem G9{r:Rl}(w:Wf r)(hn:r.n<=100000):Sm r.d:=by
 simp only[Rl.d,Sm,Sms]
 refine⟨by simpa[iN,Sm]using jW (n:=r.n) (by lia),?_,?_,?_,trivial⟩
 ·simpa[Sm]using vB λs hs=>by have:=w.st s hs;lia
 ·refine nA λd hd=>?_
  obtain⟨m,hm,rfl⟩:=List.mem_map.mp hd
  have o:=w.ms m hm
  have:=o.ab;have:=o.b;have:=o.c;have:=o.d
  exact GT ⟨by lia,by lia,by lia,by lia⟩
 ·simpa[Sm]using yW r.sy
theorem G8(r:Rl):sz r.d=5+r.st.length+5*r.ms.length+r.sy.length:=by
 simp only[Rl.d,sz,szs]
 rw[iy (B:=1) (λi=>by simp[sz]),iy (B:=5) (λi=>by simp[sz,szs]),iy (B:=1) (λi=>by simp[sz])]
 lia
abbrev kvM(m:Mt):D×D:=(pD (m.1,m.2.1),pD m.2.2)
theorem v9(p q:Nat×Nat):eK (pD p) (pD q)=decide (p=q):=by
 show(decide ((p.1:Int)=q.1)&&(decide ((p.2:Int)=q.2)&&true))=_
 rw[K7]
 simp[Prod.ext_iff]
 lia
theorem mO(p:Nat×Nat):bX (pD p)=true:=id rfl
theorem GF(p:Nat×Nat):cM (pD p)=false:=id rfl
theorem lQ{es:List (D×D)}{k d:D}(h:∀p∈es,eK p.1 k=false):rm es k d=es++[(k,d)]:=by
 unfold rm
 rw[am]
 rw[Bool.not_eq_true,List.any_eq_false]
 intro p hp
 rw[h p hp]
 decide
theorem eh{α β:Type}{g:α->List β}{B:Nat}(h:∀a,(g a).length<=B):∀l:List α,(l.flatMap g).length<=l.length*B
 | []=>by simp
 | a::r=>by
  rw[List.flatMap_cons,zzf,qu,Nat.succ_mul]
  have:=eh h r
  have:=h a
  lia
theorem Bb(a:Nat):bF (.int 1) (iN a)=some (iN (a+1)):=by
 show some (PyData.int (1+(a:Int)))=some (PyData.int ((a+1:Nat):Int))
 rw[K5,Int.add_comm]
 rfl
theorem EF{lo hi j:Nat}{d:D}(h:((rng lo hi).map iN)[j]? = some d):d=iN (lo+j)/\lo+j<hi:=by
 rw[nu]at h
 obtain⟨x,hx,rfl⟩:=Option.map_eq_some_iff.mp h
 have hl:=(List.getElem?_eq_some_iff.mp hx).1
 rw[lI]at hl
 unfold rng at hx
 rw[nu,Ki hl]at hx
 cases hx
 exact⟨rfl,by lia⟩
theorem gR{j:Nat}{d:D}(h:((List.range n).map iN)[j]? = some d):d=iN j/\j<n:=by
 rw[nu]at h
 obtain⟨x,hx,rfl⟩:=Option.map_eq_some_iff.mp h
 have hl:=(List.getElem?_eq_some_iff.mp hx).1
 rw[ua]at hl
 rw[Ki hl]at hx
 cases hx
 exact⟨rfl,hl⟩
structure Ahd(n a b:Nat)(ms:List Mt):Prop where
 ok:∀m∈ms,MtOk n m
 so:ms.Pairwise λm m'=>plt (m.1,m.2.1) (m'.1,m'.2.1)
 ah:∀m∈ms,plt (m.1,m.2.1) (a,b)
 le:ms.length<=a*n+b
theorem Ahd.next{a b:Nat}{ms:List Mt}(h:Ahd n a b ms):Ahd n a (b+1) ms :=
 ⟨h.ok,h.so,λm hm=>by rcases h.ah m hm with q|⟨q,q2⟩<;>simp only[plt]at * <;> lia,by have:=h.le;lia⟩
theorem Ahd.add{a b:Nat}{ms:List Mt}{c d:Nat}(h:Ahd n a b ms)(hm:MtOk n (a,b,c,d)):Ahd n a (b+1) (ms++[(a,b,c,d)]):=by
 refine⟨λm hm'=>?_,?_,λm hm'=>?_,by have:=h.le;simp;lia⟩
 ·rcases List.mem_append.mp hm' with q|q
  ·exact h.ok m q
  ·rw[List.mem_singleton.mp q];exact hm
 ·rw[List.pairwise_append]
  refine⟨h.so,List.pairwise_singleton _ _,λm hm x hx=>?_⟩
  rw[List.mem_singleton.mp hx]
  exact h.ah m hm
 ·rcases List.mem_append.mp hm' with q|q
  ·rcases h.ah m q with q|⟨q,q2⟩<;>simp only[plt]at * <;> lia
  ·rw[List.mem_singleton.mp q];exact .inr ⟨rfl,J5 _⟩
theorem Ahd.row{a b:Nat}{ms:List Mt}(h:Ahd n a b ms)(hb:b<=n):Ahd n (a+1) (a+1) ms :=
 ⟨h.ok,h.so,λm hm=>by rcases h.ah m hm with q|⟨q,q2⟩<;>simp only[plt]at * <;> lia,by have:=h.le;rw[Nat.succ_mul];lia⟩
theorem Iz(p:Nat×Nat)(k:D->D->M S):un2 (pD p) k=k (iN p.1) (iN p.2):=id rfl
def tab(n:Nat)(f:Nat->Nat):List Nat:=(List.range n).map f
abbrev gG(n:Nat)(f:Nat->Nat):List D:=(tab n f).map iN
def up(f:Nat->Nat)(i v:Nat):Nat->Nat:=λr=>if r=i then v else f r
theorem cK(n:Nat)(f:Nat->Nat):(tab n f).length=n:=by simp[tab]
theorem tO(h:i<n):(tab n f)[i]? = some (f i):=by
 unfold tab
 rw[nu,Ki h]
 rfl
theorem Bx(n:Nat)(f:Nat->Nat)(i v:Nat):(tab n f).set i v=tab n (up f i v):=by
 apply JZ
 intro r
 by_cases hr:r<n
 ·rw[tO hr]
  by_cases h:i=r
  ·subst h
   rw[nc (by rw[cK];exact hr)]
   simp[up]
  ·rw[je h,tO hr]
   unfold up
   rw[am (λz=>h z.symm)]
 ·rw[List.getElem?_eq_none_iff.mpr (by rw[List.length_set,cK];lia),List.getElem?_eq_none_iff.mpr (by rw[cK];lia)]
theorem pL(h:i<n):cH (.list (gG n f)) (.int (i:Int))=some (iN (f i)):=by
 have h':i<(tab n f).length:=by rw[cK];exact h
 have:=jJ iN (tab n f) i h'
 have e:(tab n f)[i]'h' = f i:=by
  have:=tO (f:=f) h
  rw[ic h']at this
  exact Option.some.inj this
 rw[this,e]
theorem vw(h:i<n):cH (.tuple (gG n f)) (.int (i:Int))=some (iN (f i)):=pL (f:=f) h
theorem ql(h:i<n):L2.ixN n (i:Int)=some i:=by
 unfold L2.ixN
 rw[aw (by lia),aw (by lia)]
 rfl
theorem vv(v:Nat)(h:i<n):putD (gG n f) (.int (i:Int)) (iN v)=some (gG n (up f i v)):=by
 show(L2.ixN _ (i:Int)).map _=_
 rw[zzd,cK,ql h]
 show some ((gG n f).set i (iN v))=_
 rw[gG,<-List.map_set,Bx]
theorem rT{l:List Nat}(v:Nat)(h:i<l.length):putD (l.map iN) (.int (i:Int)) (iN v)=some ((l.set i v).map iN):=by
 show(L2.ixN _ (i:Int)).map _=_
 rw[zzd,ql h]
 show some ((l.map iN).set i (iN v))=_
 rw[<-List.map_set]
theorem Ef(a:Nat):mq (iN a) (.int 1)=some (iN (a+1)):=by
 show some (PyData.int ((a:Int)+1))=some (PyData.int ((a+1:Nat):Int))
 rw[K5];rfl
theorem Dv(a:Nat)(h:1<=a):md (iN a) (.int 1)=some (iN (a - 1)):=by
 show some (PyData.int ((a:Int) - 1))=some (PyData.int ((a - 1:Nat):Int))
 congr 2
 lia
def cnt(hs:List Nat)(r:Nat):Nat:=hs.count r
def eD(f:Nat->Nat)(m:Mt):Bool:=let w:=if m.1=m.2.1 then 2 else 1;decide (w<=f m.1)&&decide (w<=f m.2.1)
def ledF(f:Nat->Nat)(m:Mt):Nat->Nat :=
 let f1:=up f m.1 (f m.1 - 1)
 let f2:=up f1 m.2.1 (f1 m.2.1 - 1)
 let f3:=up f2 m.2.2.1 (f2 m.2.2.1+1)
 up f3 m.2.2.2 (f3 m.2.2.2+1)
theorem m8{m:Mt}(h:eD f m=true):1<=f m.1/\1<=up f m.1 (f m.1 - 1) m.2.1:=by
 unfold eD at h
 simp only[ax,zzi]at h
 unfold up
 by_cases e:m.1=m.2.1
 ·rw[aw e]at h
  rw[aw e.symm]
  lia
 ·rw[am e]at h
  rw[am (λz=>e z.symm)]
  lia
def Jx(bs:List Bool):D:=if bs.all id then .str "yes" else if bs.any id then .str "both" else .str "no"
theorem iV{α β:Type}(p:α->Bool)(g:α->β):∀l:List α,(l.filterMap λk=>if p k=true then some (g k)else none)=(l.filter p).map g
 | []=>rfl
 | a::r=>by
  rw[JO,List.filter_cons,iV p g r]
  cases p a<;>rfl
theorem Cv{m:Mt}(h:eD f m=true)(r:Nat):ledF f m r+(if m.1=r then 1 else 0)+(if m.2.1=r then 1 else 0)=f r+(if m.2.2.1=r then 1 else 0)+(if m.2.2.2=r then 1 else 0):=by
 obtain⟨p1,p2⟩:=m8 h
 have u:∀(g:Nat->Nat) (i v:Nat),up g i v r=if i=r then v else g r:=λg i v=>by
  unfold up
  by_cases e:r=i
  ·subst e;simp
  ·rw[am e,am (λz=>e z.symm)]
 have s1:∀g:Nat->Nat,∀i,1<=g i->up g i (g i - 1) r+(if i=r then 1 else 0)=g r:=λg i hg=>by
  rw[u]
  by_cases e:i=r
  ·subst e;rw[aw rfl,aw rfl];lia
  ·rw[am e,am e];rfl
 have s2:∀g:Nat->Nat,∀i,up g i (g i+1) r=g r+(if i=r then 1 else 0):=λg i=>by
  rw[u]
  by_cases e:i=r
  ·subst e;rw[aw rfl,aw rfl]
  ·rw[am e,am e];rfl
 unfold ledF
 rw[s2,s2]
 have h1:=s1 f m.1 p1
 have h2:=s1 (up f m.1 (f m.1 - 1)) m.2.1 p2
 lia
def Et(l:List (Nat×Nat)):List Nat:=l.flatMap λp=>List.replicate p.2 p.1
def JB(f:Nat->Nat)(ms:List Mt):List Nat:=(ms.zipIdx.filter λp=>eD f p.1).map (·.2)
theorem FS(as bs:List D)(h:as.length+bs.length<=100000):Co as bs=some (as++bs):=aw (eT (ir h (by decide)))
theorem Em(cs:List Nat)(h:∀c∈cs,c<=1000)(hl:cs.length<=10):sH [.tuple (cs.map iN)]=some (iN cs.sum):=by
 have e1:intsOf (cs.map iN)=some (cs.map λ(n:Nat)=>(n:Int)):=by
  have:=jk (cs.map λ(n:Nat)=>(n:Int))
  rw[wP]at this
  exact this
 have e2:lx (cs.map λ(n:Nat)=>(n:Int))=true:=by
  unfold lx
  rw[ax,pd,zzi]
  refine⟨λx hx=>?_,by rw[zzd];exact ir hl (by decide)⟩
  obtain⟨c,hc,rfl⟩:=List.mem_map.mp hx
  have:=h c hc
  rw[zzi,Int.natAbs_natCast]
  exact ir this (by decide)
 have e3:∀l:List Nat,(l.map λ(n:Nat)=>(n:Int)).sum=((l.sum:Nat):Int):=by
  intro l
  induction l with
  | nil=>rfl
  | cons a l ih=>rw[bj,J8,J8,ih,K5]
 unfold sH
 dsimp only
 rw[e1]
 dsimp only
 rw[aw e2,e3]
def Jz(r:Rl)(hs:List Nat)(i j:Nat):List Nat:=(hs.set i (turn r.ms (hs.getD i 0) (hs.getD j 0)).1).set j (turn r.ms (hs.getD i 0) (hs.getD j 0)).2
def C2(r q:Rl)(i j:Nat):Nat×Nat:=((turn r.ms (i / q.n) (j / q.n)).1*q.n+(turn q.ms (i % q.n) (j % q.n)).1,(turn r.ms (i / q.n) (j / q.n)).2*q.n+(turn q.ms (i % q.n) (j % q.n)).2)
def cell(r q:Rl)(i j:Nat):List Mt:=if C2 r q i j=(i,j)then[]else[(i,j,C2 r q i j)]
def G7(r q:Rl)(i:Nat):List Mt:=(rng i (r.n*q.n)).flatMap (cell r q i)
def Ep(r q:Rl):List Mt:=(List.range (r.n*q.n)).flatMap (G7 r q)
structure Two(r q:Rl):Prop where
 wr:Wf r
 wq:Wf q
 rn:r.n<=40
 qn:q.n<=40
 R:r.n*q.n<=40
 st:r.st.length=q.st.length
 s4:q.st.length<=4
def GW(both a b:Bool):Bool:=if both then a&&b else a||b
def Eu(r q:Rl)(both:Bool)(p:Nat):Bool:=GW both (r.sy.getD (p / q.n) false) (q.sy.getD (p % q.n) false)
def q9(r q:Rl):List Nat:=(List.range r.st.length).map λk=>r.st.getD k 0*q.n+q.st.getD k 0
def JD(r q:Rl)(both:Bool):Rl:=⟨r.n*q.n,q9 r q,Ep r q,(List.range (r.n*q.n)).map (Eu r q both)⟩
def Jv(both:Bool):D:=if both then .str "both" else .str "either"
abbrev cT(l:List Nat):D:=.tuple (l.map iN)
theorem mT:∀l l':List Nat,PyData.eqvAll (l.map iN) (l'.map iN)=decide (l=l')
 | [],[]=>rfl
 | [],_::_=>rfl
 | _::_,[]=>rfl
 | a::l,b::l'=>by
  simp only[bj,PyData.eqvAll,PyData.eqv,zT,mT l l']
  rw[K7]
  simp
theorem Ay(l l':List Nat):PyData.eqv (cT l) (cT l')=decide (l=l'):=by
 rw[<-mT]
 rfl
theorem z7(l:List Nat):PyData.canLayAll0 (l.map iN)=true:=qi λd hd=>by
 obtain⟨x,_,rfl⟩:=List.mem_map.mp hd
 simp[iN,PyData.canLay0]
theorem uw(l:List Nat):(cT l).canLay0=true/\(cT l).depth<=1000:=by
 refine⟨by simp only[PyData.canLay0];exact z7 l,?_⟩
 have hd:PyData.depthAll (l.map iN)<=1:=m5 λd hd=>by
  obtain⟨x,_,rfl⟩:=List.mem_map.mp hd
  simp[iN,PyData.depth]
 simp only[PyData.depth]
 lia
theorem neT(l l':List Nat):fc (cT l) (cT l')=some (!decide (l=l')):=by
 unfold fc kN
 rw[aw (by simp[uw]),Ay]
theorem eqT(l l':List Nat):gV (cT l) (cT l')=some (decide (l=l')):=by
 unfold gV kN
 rw[aw (by simp[uw]),Ay]
def Jy(n:Nat)(g f:Nat->Nat):Nat->Nat:=cnt (Et ((List.range n).map λp=>(g p,f p)))
structure Sd(r q:Rl)(g:Nat->Nat)(R:Rl):Prop where
 wf:Wf R
 lt:∀{a},a<r.n*q.n->g a<R.n
 tn:∀{a b},a<r.n*q.n->b<r.n*q.n->(g (C2 r q a b).1,g (C2 r q a b).2)=turn R.ms (g a) (g b)
 st:(q9 r q).map g=R.st
end L4
namespace K31
open PySem PySem.Spec PyProof.Rows L2 L3 L4
variable {r:Rl}{c c0 l ks c':List Nat}{n T x i limit:Nat}{F:List (List Nat)}{f:Nat->Nat}{g:Nat->Int}{δ:List Nat->Nat}{ps:List (Nat×List Nat)}
def Fd(T:Nat)(f:List D):Prop:=∃a b t:Int,f=[.int a,.int b,.int t]/\0<=t/\t<=T
theorem Fd.le{T':Nat}{f:List D}(h:Fd T f)(hl:T<=T'):Fd T' f:=by
 obtain⟨a,b,t,e,h0,h1⟩:=h
 exact⟨a,b,t,e,h0,by lia⟩
theorem AK{f:List D}{m:Int}(h:Fd T f)(hT:T<=1000000)(hm:0<m)(hm2:m<1073741824) :
  ∃(r:Int) (f':List D),aF f (.int m)=.ret (.int r,f')/\0<=r/\r<m/\Fd (T+1) f':=by
 obtain⟨a,b,t,rfl,h0,h1⟩:=h
 unfold aF
 simp only[g8]
 rw[L4.ix3_2,oMS,bdR,L4.addI,oMS,bdR,L4.put3_2,oMS,bdR,L4.ix3_1,oMS,bdR,L4.gtI,oMS,bdR]
 by_cases ha:0<b
 ·simp only[ha,decide_true,At]
  have p1:putD [PyData.int a,.int b,.int (t+1)] (.int 1) (.int (b / m))=some [.int a,.int (b / m),.int (t+1)]:=id rfl
  rw[L4.divI _ _ hm hm2,oMS,bdR,p1,oMS,bdR,L4.modI _ _ hm,oMS,bdR]
  exact⟨_,_,rfl,K6 _ (by lia),Km _ hm,_,_,_,rfl,by lia,by lia⟩
 ·simp only[ha,KR]
  rw[am (by decide)]
  have g1:=K6 a (b:=(2147483647:Int)) (by decide)
  have g2:=Km a (b:=(2147483647:Int)) (by decide)
  rw[L4.ix3_0,oMS,bdR,L4.modI _ _ (by decide),oMS,bdR,L4.mulL _ _ (by decide) (by decide),oMS,bdR,L4.mulR _ t (by lia) (by lia),oMS,bdR,L4.addI,oMS,bdR,L4.addI,oMS,bdR]
  rw[L4.mulL _ _ (by decide) (by decide),oMS,bdR,L4.addI,oMS,bdR,L4.mulR _ (48271+40*t) (by lia) (by lia),oMS,bdR,L4.modI _ _ (by decide),oMS,bdR]
  rw[L4.divI _ _ (by decide) (by decide),oMS,bdR,L4.mulR _ _ (by decide) (by decide),oMS,bdR,L4.addI,oMS,bdR,L4.modI _ _ (by decide),oMS,bdR,L4.divI _ _ (by decide) (by decide),oMS,bdR,L4.modI _ _ hm,oMS,bdR]
  exact⟨_,_,rfl,K6 _ (by lia),Km _ hm,_,_,_,rfl,by lia,by lia⟩
theorem cb{f:List D}{m:Nat}(h:Fd T f)(hT:T<=1000000)(hm:0<m)(hm2:m<=1000000000) :
  ∃(r:Nat) (f':List D),aF f (.int (m:Int))=.ret (iN r,f')/\r<m/\Fd (T+1) f':=by
 obtain⟨r,f',e,h1,h2,h3⟩:=AK h hT (m:=(m:Int)) (by lia) (by lia)
 obtain⟨n,rfl⟩:=Int.eq_ofNat_of_zero_le h1
 exact⟨n,f',e,by lia,h3⟩
theorem wA(c:Int):∃f,cD (.int c)=.ret f/\Fd 0 f:=by
 unfold cD
 have m1:wG [.int 0,.int c]=some (.int (if c>0 then c else 0)):=id rfl
 have p18:vU (.int 10) (.int 18)=some (.int 1000000000000000000):=id rfl
 rw[m1,oMS,bdR,p18,oMS,bdR,L4.geI,oMS,bdR,bdR]
 generalize decide ((1000000000000000000:Int)<=c)=B
 have e:CQ [.bool B]=some (.int (if B then 1 else 0)):=by cases B<;>rfl
 rw[e,oMS,bdR,L4.mulR _ _ (by split<;>lia) (by split<;>lia),oMS,bdR,bdR]
 exact⟨_,rfl,_,_,_,rfl,wT _,wT _⟩
theorem CP(ns:List Int)(k:Nat)(hk:k<=1000)(hn:ns.length<=63):∃f,eU (.list (ns.map PyData.int)) (.int (k:Int))=.ret f/\Fd 0 f:=by
 unfold eU
 simp only[g8]
 have e1:dI [.list (ns.map PyData.int)]=some (.int ns.length):=by rw[L4.lenL,zzd]
 rw[L4.mulL _ _ (by decide) (by decide),oMS,bdR,e1,oMS,bdR,L4.gtI,oMS,bdR]
 by_cases h:0<(ns.length:Int)
 ·simp only[h,decide_true,At]
  rw[bdR,L4.modI _ _ h,oMS,bdR]
  have m1:=K6 (k:Int) (b:=(ns.length:Int)) (by lia)
  have m2:=Km (k:Int) h
  obtain⟨x,hx,e⟩:=Gi (ns.map PyData.int) (k % ns.length) m1 (by rw[zzd];exact m2)
  obtain⟨i,hi,rfl⟩:=List.mem_map.mp hx
  have e2:cH (.list (ns.map PyData.int)) (.int (k % ns.length))=some (.int i):=e
  rw[e2,oMS,bdR,bdR,L4.divI _ _ h (by lia),oMS,bdR,L4.mulL _ _ (by decide) (by decide),oMS,bdR,L4.addI,oMS,bdR]
  exact wA _
 ·simp only[h,KR]
  rw[am (by decide)]
  exact wA _
theorem Fm(a b:Int):HT.lexLt [a] [b]=decide (a<b):=by
 rw[HT.lexLt_cons]
 by_cases h:a=b
 ·rw[aw h,h];simp[HT.lexLt]
 ·rw[am h]
theorem Eo(a b:Nat):hU [.list [iN a,iN b]]=some [iN (min a b),iN (max a b)]:=by
 have ok:bQ [iN a,iN b]=true:=rfl
 show(if bQ [iN a,iN b]then some (bE [iN a,iN b])else none)=_
 rw[aw ok]
 congr 1
 refine(rf ok ?_ ?_).symm
 ·by_cases h:a<=b
  ·rw[Nat.min_eq_left h,Nat.max_eq_right h]
  ·rw[Nat.min_eq_right (by lia),Nat.max_eq_left (by lia)]
   exact List.Perm.swap _ _ _
 ·rw[List.pairwise_cons]
  refine⟨λx hx=>?_,List.pairwise_singleton _ _⟩
  have:x=iN (max a b):=by simpa using hx
  subst this
  unfold leK
  show(!HT.lexLt [((max a b:Nat):Int)] [((min a b:Nat):Int)])=true
  rw[Fm,cr (by lia)]
  rfl
theorem Jd(p q:Nat×Nat):fc (.list [iN p.1,iN p.2]) (.list [iN q.1,iN q.2])=some (!decide (p=q)):=by
 have h1:(PyData.list [iN p.1,iN p.2]).canLay0=true:=by simp[PyData.canLay0,PyData.canLayAll0]
 have h2:(PyData.list [iN q.1,iN q.2]).canLay0=true:=by simp[PyData.canLay0,PyData.canLayAll0]
 have h3:(PyData.list [iN p.1,iN p.2]).depth<=1000:=by simp[PyData.depth,PyData.depthAll]
 unfold fc kN
 rw[aw (by simp[h1,h2,h3])]
 congr 2
 have e:PyData.eqv (.list [iN p.1,iN p.2]) (.list [iN q.1,iN q.2])=PyData.eqv (pD p) (pD q):=by simp[PyData.eqv]
 rw[e,Ax]
def Dq(T most:Nat)(m:M (D×List D)):Prop:=∃(r:Rl) (f':List D),m=.ret (r.d,f')/\Wf r/\r.n<=most/\r.st.length<=4/\r.ms.length<=r.n*r.n+r.n/\Fd (T+7000) f'
theorem BH{R:M (D×List D)->Prop}{a often:Nat}{f:List D}{ms:List Mt}{st sy:D}{kn:List D×D×D×D×D×List D×Unit->M (D×List D)}(hf:Fd T f)(hT:T<=990000)(hn:n<=40)(ha:a<n)(ho:1<=often)(ho2:often<=3)(hA:Ahd n a a ms)
  (k:∀f' ms',Fd (T+4*n) f'->Ahd n (a+1) (a+1) ms'->R (kn (f',iN n,st,sy,iN often,ms'.map mD,()))):R (eI f (iN n) st sy (iN often) (ms.map mD) (iN a) kn):=by
 unfold eI
 rw[BK a n (by lia) (by lia),oMS,bdR]
 refine gc (P:=λi s=>∃f ms,s=(f,iN n,st,sy,iN often,List.map mD ms,iN a,())/\Fd (T+4*i) f/\Ahd n a (a+i) ms) _ _ ?_ ⟨f,ms,rfl,hf,hA⟩ ?_
 ·rintro i s d hd ⟨f,ms,rfl,hf,hA⟩ kn hkn
  obtain⟨rfl,hi⟩:=EF hd
  unfold il
  dsimp only
  obtain⟨c,f1,e1,hc,hf1⟩:=cb (m:=n) hf (by lia) (by lia) (by lia)
  obtain⟨e,f2,e2,he,hf2⟩:=cb (m:=n) hf1 (by lia) (by lia) (by lia)
  obtain⟨x',f4,e4,_,hf4⟩:=cb (m:=often) hf2 (by lia) (by lia) (by lia)
  rw[e1,bdR];dsimp only
  rw[e2,bdR];dsimp only
  rw[e4,bdR];dsimp only
  rw[eqI,oMS,bdR]
  have skip:R (kn (f4,iN n,st,sy,iN often,List.map mD ms,iN a,())):=hkn _ ⟨f4,ms,rfl,hf4.le (by lia),hA.next⟩
  split
  ·rw[Eo,oMS,bdR,bdR,Jd (min c e,max c e) (a,a+i),oMS,bdR]
   split
   ·rename_i hne
    have hle:=hA.le
    have hlen:(ms.map mD).length<=100000:=by
     rw[zzd]
     have:a*n<=40*40:=Nat.mul_le_mul (by lia) hn
     lia
    rw[jr _ _ hlen,oMS,bdR]
    have hne':¬ ((min c e,max c e)=(a,a+i)):=by
     rw[Kv,ur]at hne
     exact hne
    have:=hkn (f4,iN n,st,sy,iN often,List.map mD (ms++[(a,a+i,c,e)]),iN a,()) ⟨f4,_,rfl,hf4.le (by lia),hA.add ⟨by simp,hi,hc,he,λz=>hne' (by
     have z1:c=a:=congrArg Prod.fst z
     have z2:e=a+i:=congrArg Prod.snd z
     rw[z1,z2,Nat.min_eq_left (by lia),Nat.max_eq_right (by lia)]),λz=>hne' (by
     have z1:c=a+i:=congrArg Prod.fst z
     have z2:e=a:=congrArg Prod.snd z
     rw[z1,z2,Nat.min_eq_right (by lia),Nat.max_eq_left (by lia)])⟩⟩
    rw[ls]at this
    exact this
   ·exact skip
  ·exact skip
 ·rintro s ⟨f,ms,rfl,hf,hA⟩
  rw[zzd,lI]at hf hA
  unfold iq
  exact k f ms (hf.le (by lia)) (hA.row (by lia))
theorem BG{f:List D}{most:Nat}(h:Fd T f)(hT:T<=900000)(hm:1<=most)(hm2:most<=40):Dq T most (eS f (iN most)):=by
 unfold eS
 obtain⟨n0,f1,e1,h1,hf1⟩:=cb (m:=most) h (by lia) (by lia) (by lia)
 obtain⟨s0,f2,e2,h2,hf2⟩:=cb (m:=5) hf1 (by lia) (by lia) (by lia)
 have e2':aF f1 (.int 5)=.ret (iN s0,f2):=e2
 have es:∃sorts,sorts<=4/\aD (.list [.int 1,.int 2,.int 2,.int 3,.int 4]) (iN s0)=some (iN sorts):=by
  rcases(by lia:s0=0\/s0=1\/s0=2\/s0=3\/s0=4)with rfl|rfl|rfl|rfl|rfl
  ·exact⟨1,by lia,rfl⟩
  ·exact⟨2,by lia,rfl⟩
  ·exact⟨2,by lia,rfl⟩
  ·exact⟨3,by lia,rfl⟩
  ·exact⟨4,by lia,rfl⟩
 obtain⟨sorts,hs4,es⟩:=es
 rw[e1,bdR];dsimp only
 rw[Bb,oMS,bdR,e2',bdR];dsimp only
 rw[es,oMS,bdR,dE _ (by lia),oMS,bdR]
 generalize hn:n0+1=n
 have hn40:n<=40:=by lia
 obtain⟨st,s1,c1,⟨f3,hs1,hf3⟩,l1,r1⟩:=sR (P:=λj (s:List D×D×D×Unit)=>∃f,s=(f,iN n,iN sorts,())/\Fd (T+2+j) f) (e:=iN) (R:=λx=>x<n)
   (step:=λs6 d7=>bd (aF s6.1 s6.2.1) λr8=>.ret (some r8.1,(r8.2,s6.2.1,s6.2.2.1,()))) ((List.range sorts).map iN) (f2,iN n,iN sorts,())
   (by
    rintro j s d hd ⟨f,rfl,hf⟩
    obtain⟨rfl,hj⟩:=gR hd
    obtain⟨x,f',e,hx,hf'⟩:=cb (m:=n) hf (by lia) (by lia) (by lia)
    dsimp only
    rw[e,bdR]
    exact⟨x,_,rfl,⟨f',rfl,hf'⟩,hx⟩) ⟨f2,rfl,hf2.le (by lia)⟩
 subst hs1
 rw[zzd,ua]at hf3 l1
 rw[c1,bdR];dsimp only
 rw[iI (by rw[zzd];lia),bdR,tM,oMS,bdR,dE n (by lia),oMS,bdR]
 obtain⟨sy,s2,c2,⟨f4,hs2,hf4⟩,l2,_⟩:=sR (P:=λj (s:List D×D×D×Unit)=>∃f,s=(f,iN n,.tuple (st.map iN),())/\Fd (T+2+sorts+j) f) (e:=PyData.bool) (R:=λ_=>True)
   (step:=λs13 d14=>bd (aF s13.1 (.int 2)) λr15=>bd (oM (gV r15.1 (.int 1))) λb16=>.ret (some (.bool b16),(r15.2,s13.2.1,s13.2.2.1,()))) ((List.range n).map iN) (f3,iN n,.tuple (st.map iN),())
   (by
    rintro j s d hd ⟨f,rfl,hf⟩
    obtain⟨rfl,hj⟩:=gR hd
    obtain⟨x,f',e,hx,hf'⟩:=cb (m:=2) hf (by lia) (by lia) (by lia)
    have e':aF f (.int 2)=.ret (iN x,f'):=e
    dsimp only
    rw[e',bdR];dsimp only
    rw[eqI,oMS,bdR]
    exact⟨_,_,rfl,⟨f',rfl,hf'⟩,trivial⟩) ⟨f3,rfl,hf3⟩
 subst hs2
 rw[zzd,ua]at hf4 l2
 rw[c2,bdR];dsimp only
 rw[iI (by rw[zzd];lia),bdR,tM,oMS,bdR]
 obtain⟨o0,f5,e5,h5,hf5⟩:=cb (m:=3) hf4 (by lia) (by lia) (by lia)
 have e5':aF f4 (.int 3)=.ret (iN o0,f5):=e5
 rw[e5',bdR];dsimp only
 rw[Bb,oMS,bdR,dE n (by lia),oMS,bdR]
 have hb:∀j,j<=n->4*n*j<=6400:=λj hj=>by
  have:n*j<=40*40:=Nat.mul_le_mul hn40 (by lia)
  have e:4*n*j=4*(n*j):=Nat.mul_assoc _ _ _
  lia
 refine gc (P:=λj s=>∃f ms,s=(f,iN n,.tuple (st.map iN),.tuple (sy.map PyData.bool),iN (o0+1),List.map mD ms,())/\Fd (T+100+4*n*j) f/\Ahd n j j ms) _ _ ?_ ⟨f5,[],rfl,hf5.le (by lia),⟨λ_ h=>(nomatch h),.nil,λ_ h=>(nomatch h),bi _⟩⟩ ?_
 ·rintro j s d hd ⟨f,ms,rfl,hf,hA⟩ kn hkn
  obtain⟨rfl,hj⟩:=gR hd
  dsimp only
  refine BH hf (by have:=hb j (by lia);lia) hn40 hj (by lia) (by lia) hA λf' ms' hf' hA'=>hkn _ ⟨f',ms',rfl,hf'.le ?_,hA'⟩
  rw[Nat.mul_succ];lia
 ·rintro s ⟨f,ms,rfl,hf,hA⟩
  rw[zzd,ua]at hf hA
  dsimp only
  unfold iu
  have hfb:=hb n (ai _)
  rw[tM,oMS,bdR,bdR]
  exact⟨⟨n,st,ms,sy⟩,f,rfl,⟨(show 1<=n by lia),r1,l2,hA.ok,hA.so⟩,(show n<=most by lia),(show st.length<=4 by lia),hA.le,hf.le (by lia)⟩
theorem AU{m:Mt}(h:MtOk n m):ik (.tuple (gG n f)) (mD m)=.ret (.bool (eD f m)):=by
 have hb:=h.b;have hab:=h.ab
 unfold ik
 have e1:(if decide (m.1=m.2.1)=true then(M.ret (PyData.int 2):M D)else .ret (.int 1))=.ret (iN (if m.1=m.2.1 then 2 else 1)):=by
  by_cases e:m.1=m.2.1
  ·rw[aw (eT e),aw e];rfl
  ·rw[am (by simpa using e),am e];rfl
 rw[dC,uB,oMS,bdR,dC,FE,oMS,bdR,eqN,oMS,bdR,e1,bdR,bdR,dC,vw (show m.1<n by omega),oMS,bdR,geI,oMS,bdR,bdR,dC,vw hb]
 simp only[oMS,bdR,geI,Jg,eD]
 congr 3<;>(rw[K7,zzi,zzi];omega)
theorem zZ(d:D)(hx:x<n)(h:1<=f x)(kn:D×List D×Unit->M D):h8 d (gG n f) (iN x) kn=kn (d,gG n (up f x (f x - 1)),()):=by
 unfold h8
 rw[pL hx,oMS,bdR,Dv _ h,oMS,bdR,vv _ hx,oMS,bdR]
theorem zY(hx:x<n)(kn:List D×Unit->M D):h7 (gG n f) (iN x) kn=kn (gG n (up f x (f x+1)),()):=by
 unfold h7
 rw[pL hx,oMS,bdR,Ef,oMS,bdR,vv _ hx,oMS,bdR]
theorem z4{m:Mt}(h:MtOk n m)(hc:eD f m=true):ii (.tuple (gG n f)) (mD m)=.ret (.tuple (gG n (ledF f m))):=by
 have hb:=h.b;have hab:=h.ab;have hcc:=h.c;have hd:=h.d
 obtain⟨p1,p2⟩:=m8 hc
 have e1:iO (mD m) (some 2) none=some (.tuple [iN m.2.2.1,iN m.2.2.2]):=rfl
 have e2:iO (mD m) none (some 2)=some (.tuple [iN m.1,iN m.2.1]):=rfl
 have a2:asI (.int 2)=.ret (some 2):=id rfl
 have l1:hV [.tuple (gG n f)]=some (gG n f):=id rfl
 unfold ii
 rw[l1,oMS,bdR,a2,bdR,e2,oMS,bdR,GU,oMS,bdR,eP,cx]
 refine(zZ (mD m) (show m.1<n by omega) p1 _).trans ?_
 rw[cx]
 refine(zZ (mD m) hb p2 _).trans ?_
 rw[cx]
 show ig _ _=_
 unfold ig
 rw[a2,bdR,e1,oMS,bdR,GU,oMS,bdR,eP,cx]
 refine(zY hcc _).trans ?_
 rw[cx]
 refine(zY hd _).trans ?_
 rw[cx]
 show ie _=_
 unfold ie
 rw[tM,oMS,bdR]
 rfl
def fl(l:List Nat):Nat->Nat:=λi=>l.getD i 0
theorem yQ(h:l.length=n):tab n (fl l)=l:=by
 subst h
 unfold tab fl
 apply JN
 ·simp
 ·intro i h1 h2
  simp[la,ic h2]
theorem uX(h:l.length=n):cT l=.tuple (gG n (fl l)):=by
 show cT l=cT (tab n (fl l))
 rw[yQ h]
def led(n:Nat)(l:List Nat)(m:Mt):List Nat:=tab n (ledF (fl l) m)
theorem uq(n:Nat)(l:List Nat)(m:Mt):(led n l m).length=n:=cK n _
def Goes(r:Rl)(l:List Nat)(k:Nat)(l':List Nat):Prop:=∃m,r.ms[k]? = some m/\eD (fl l) m=true/\l'=led r.n l m
theorem Gc{m:Mt}(hl:l.length=r.n)(h:MtOk r.n m):ik (cT l) (mD m)=.ret (.bool (eD (fl l) m)):=by
 rw[uX hl];exact AU h
theorem Fo{m:Mt}(hl:l.length=r.n)(h:MtOk r.n m)(hc:eD (fl l) m=true):ii (cT l) (mD m)=.ret (cT (led r.n l m)):=by
 rw[uX hl];exact z4 h hc
def kvN(p:Mt×Nat):D×D:=(pD (p.1.1,p.1.2.1),iN p.2)
def idx(ms:List Mt)(p:Nat×Nat):Option Nat:=(ms.zipIdx.find? λq=>decide ((q.1.1,q.1.2.1)=p)).map (·.2)
theorem sB(p:Nat×Nat):∀l:List (Mt×Nat),gb (l.map kvN) (pD p)=((l.find? λq=>decide ((q.1.1,q.1.2.1)=p)).map (·.2)).map iN
 | []=>rfl
 | q::r=>by
  unfold gb
  rw[bj,ss,ss]
  rw[show eK (kvN q).1 (pD p)=decide ((q.1.1,q.1.2.1)=p)from v9 _ _]
  cases h:decide ((q.1.1,q.1.2.1)=p)with
  | true=>rfl
  | false=>exact sB p r
theorem xU(l:List (Mt×Nat))(p:Nat×Nat):keyOk (l.map kvN) (pD p)=true:=by
 unfold keyOk
 rw[oC]
 left
 rw[ax,pd]
 refine⟨mO p,λx hx=>?_⟩
 obtain⟨q,_,rfl⟩:=List.mem_map.mp hx
 exact mO _
theorem AN(ms:List Mt)(a b:Nat):sN (.dict (ms.zipIdx.map kvN)) (.tuple [iN a,iN b])=some (((idx ms (a,b)).map iN).getD .none):=by
 show(if keyOk (ms.zipIdx.map kvN) (pD (a,b))then some ((gb (ms.zipIdx.map kvN) (pD (a,b))).getD .none)else none)=_
 rw[aw (xU _ _),sB]
 rfl
theorem Ak{ms:List Mt}{p:Nat×Nat}{k:Nat}(h:idx ms p=some k):∃m,ms[k]? = some m/\(m.1,m.2.1)=p:=by
 unfold idx at h
 obtain⟨q,hq,rfl⟩:=Option.map_eq_some_iff.mp h
 have h1:=List.mem_of_find?_eq_some hq
 have h2:=List.find?_some hq
 exact⟨q.1,List.mem_zipIdx_iff_getElem?.mp h1,by simpa using h2⟩
theorem uG(w:Wf r){k:Nat}{m:Mt}(h:r.ms[k]? = some m):idx r.ms (m.1,m.2.1)=some k:=by
 have hm:(m,k)∈r.ms.zipIdx:=List.mem_zipIdx_iff_getElem?.mpr h
 unfold idx
 cases e:r.ms.zipIdx.find? λq=>decide ((q.1.1,q.1.2.1)=(m.1,m.2.1))with
 | none =>
  have:=List.find?_eq_none.mp e (m,k) hm
  simp at this
 | some q =>
  have h1:=List.mem_zipIdx_iff_getElem?.mp (List.mem_of_find?_eq_some e)
  have h2:(q.1.1,q.1.2.1)=(m.1,m.2.1):=by simpa using List.find?_some e
  show some q.2=some k
  congr 1
  rcases Nat.lt_trichotomy q.2 k with lt|eq|gt
  ·exfalso
   obtain⟨g1,e1⟩:=List.getElem?_eq_some_iff.mp h1
   obtain⟨g2,e2⟩:=List.getElem?_eq_some_iff.mp h
   have:=List.pairwise_iff_getElem.mp w.so q.2 k g1 g2 lt
   rw[e1,e2,h2]at this
   rcases this with z|⟨_,z⟩<;>exact absurd z (pr _)
  ·exact eq
  ·exfalso
   obtain⟨g1,e1⟩:=List.getElem?_eq_some_iff.mp h1
   obtain⟨g2,e2⟩:=List.getElem?_eq_some_iff.mp h
   have:=List.pairwise_iff_getElem.mp w.so k q.2 g2 g1 gt
   rw[e1,e2,h2]at this
   rcases this with z|⟨_,z⟩<;>exact absurd z (pr _)
theorem iK{ι:Type}(e:ι->D)(is:List ι):eC (is.map e)=is.zipIdx.map λp=>.tuple [iN p.2,e p.1]:=by
 apply JN
 ·simp[eC]
 ·intro i h1 h2
  simp[eC]
theorem zI(w:Wf r)(hl:r.ms.length<=90000):gh r.d=.ret (.dict (r.ms.zipIdx.map kvN)):=by
 unfold gh
 have e1:iX [.tuple (r.ms.map mD)]=some (r.ms.zipIdx.map λp=>.tuple [iN p.2,mD p.1]):=by
  show some (eC _)=_
  rw[iK]
 rw[dC,FD,oMS,bdR,e1,oMS,bdR]
 refine(hJ (e:=λp:Mt×Nat=>.tuple [iN p.2,mD p.1]) (F:=λl=>(l.map kvN,())) r.ms.zipIdx ?_).trans rfl
 intro p x t hpt kn
 dsimp only
 unfold iY
 have c1:(bd (asI (.int 2)) λhi6=>oM (iO (mD x.1) none hi6))=.ret (pD (x.1.1,x.1.2.1)):=by kernel_rfl
 have np:∀q∈p.map kvN,eK q.1 (pD (x.1.1,x.1.2.1))=false:=λq hq=>by
  obtain⟨y,hy,rfl⟩:=List.mem_map.mp hq
  rw[show eK (kvN y).1 _=_ from v9 _ _,ur]
  intro z
  have hx':=List.mem_zipIdx_iff_getElem?.mp (show x∈r.ms.zipIdx by rw[hpt];simp)
  have hy':=List.mem_zipIdx_iff_getElem?.mp (show y∈r.ms.zipIdx by rw[hpt];simp[hy])
  have i1:=uG w hx'
  have i2:=uG w hy'
  rw[z,i1]at i2
  have hk:x.2=y.2:=by injection i2
  have nd:(r.ms.zipIdx.map (·.2)).Nodup:=by
   rw[List.zipIdx_map_snd]
   exact List.nodup_range'
  rw[hpt,ls,bj]at nd
  rw[JY]at nd
  exact nd.2.2 y.2 (List.mem_map.mpr ⟨y,hy,rfl⟩) x.2 (by simp) hk.symm
 show un2 (.tuple [iN x.2,mD x.1]) _=_
 unfold un2
 dsimp only
 have hlen:p.length<r.ms.zipIdx.length:=by rw[hpt];simp
 rw[Ix]at hlen
 have dp:gI true (p.map kvN) (pD (x.1.1,x.1.2.1)) (iN x.2)=some ((p++[x]).map kvN):=by
  unfold gI
  rw[aw,lQ np,ls]
  ·rfl
  ·rw[ax,zzi,zzd]
   exact⟨mO (x.1.1,x.1.2.1),du hlen (ir hl (by decide))⟩
 rw[c1,bdR,dp,oMS,bdR]
abbrev ld(p:Nat×List Nat):D:=.tuple [iN p.1,cT p.2]
def rooms(l:List Nat):List Nat:=(List.range l.length).filter λi=>decide (0<fl l i)
def cell(r:Rl)(l:List Nat)(a b:Nat):List (Nat×List Nat):=match idx r.ms (a,b)with
 | some k=>match r.ms[k]? with
  | some m=>if eD (fl l) m then[(k,led r.n l m)]else[]
  | none=>[]
 | none=>[]
def bC(r:Rl)(l:List Nat):List (Nat×List Nat):=(rooms l).zipIdx.flatMap λp=>((rooms l).drop p.2).flatMap (cell r l p.1)
theorem m7(r:Rl)(l:List Nat)(a b:Nat):(cell r l a b).length<=1:=by
 unfold cell
 split
 ·split
  ·split<;>simp
  ·simp
 ·simp
theorem zV{a b:Nat}{p:Nat×List Nat}(h:p∈cell r l a b):Goes r l p.1 p.2:=by
 unfold cell at h
 cases e:idx r.ms (a,b)with
 | none=>rw[e]at h;cases h
 | some k =>
  rw[e]at h
  dsimp only at h
  cases e2:r.ms[k]? with
  | none=>rw[e2]at h;cases h
  | some m =>
   rw[e2]at h
   dsimp only at h
   split at h
   ·rename_i hc
    have:p=(k,led r.n l m):=by simpa using h
    subst this
    exact⟨m,e2,hc,rfl⟩
   ·cases h
theorem iF(w:Wf r)(hl:l.length=r.n){k:Nat}:(k,c)∈bC r l↔Goes r l k c:=by
 constructor
 ·intro h
  obtain⟨p,_,h⟩:=List.mem_flatMap.mp h
  obtain⟨b,_,h⟩:=List.mem_flatMap.mp h
  exact zV h
 ·rintro⟨m,hm,hc,rfl⟩
  have ok:=w.ms m (ut hm)
  have hab:=ok.ab
  have hb:=ok.b
  have pos:1<=fl l m.1/\1<=fl l m.2.1:=by
   unfold eD at hc
   simp only[ax,zzi]at hc
   split at hc<;>lia
  have ra:m.1∈rooms l:=List.mem_filter.mpr ⟨List.mem_range.mpr (by lia),by simpa using(show 0<fl l m.1 by lia)⟩
  have rb:m.2.1∈rooms l:=List.mem_filter.mpr ⟨List.mem_range.mpr (by lia),by simpa using(show 0<fl l m.2.1 by lia)⟩
  obtain⟨i,hi,ei⟩:=rg ra
  obtain⟨j,hj,ej⟩:=rg rb
  have so:(rooms l).Pairwise (· < ·):=List.pairwise_lt_range.filter _
  have hij:i<=j:=by
   rcases JW j i with lt|ge
   ·have:=List.pairwise_iff_getElem.mp so j i hj hi lt
    rw[ei,ej]at this
    lia
   ·exact ge
  refine List.mem_flatMap.mpr ⟨(m.1,i),List.mem_zipIdx_iff_getElem?.mpr (by rw[ic hi,ei]),List.mem_flatMap.mpr ⟨m.2.1,?_,?_⟩⟩
  ·refine List.mem_iff_getElem?.mpr ⟨j - i,?_⟩
   rw[List.getElem?_drop,show i+(j - i)=j by lia,ic hj,ej]
  ·unfold cell
   rw[uG w hm]
   dsimp only
   rw[hm]
   dsimp only
   rw[aw hc]
   exact List.mem_singleton.mpr rfl
theorem uK(l:List Nat):iX [cT l]=some ((List.range l.length).map λi=>.tuple [iN i,iN (fl l i)]):=by
 show some (eC (l.map iN))=_
 congr 1
 rw[iK]
 apply JN
 ·simp
 ·intro i h1 h2
  simp[fl,la,ic (show i<l.length by simpa using h1)]
theorem zd(l:List Nat)(hl:l.length<=1000):(bd (bd (oM (iX [cT l])) λl6=>bd (bM (λd2=>un2 d2 λy3 y4=>bd (oM (kH y4 (.int 0))) λb5=>if b5 then .ret (some y3)else .ret none) l6) gH) λl7=>M.ret (PyData.list l7))=.ret (.list ((rooms l).map iN)):=by
 rw[uK,oMS,bdR,sU (e:=λi=>.tuple [iN i,iN (fl l i)]) (g:=λi=>if decide (0<fl l i)=true then some (iN i)else none) (List.range l.length) (λi _=>by
  show(bd (oM (kH (iN (fl l i)) (.int 0))) λb5=>if b5=true then M.ret (some (iN i))else .ret none)=_
  rw[L4.gtI,oMS,bdR]
  have e:decide ((0:Int)<(fl l i:Int))=decide (0<fl l i):=decide_eq_decide.mpr (by lia)
  rw[e]
  split<;>rfl),bdR,iV,iI,bdR]
 ·rfl
 ·rw[zzd]
  exact ir (List.length_filter_le _ _) (by simpa using hl)
theorem n8(l:List Nat):(rooms l).length<=l.length:=by
 have:=List.length_filter_le (λi=>decide (0<fl l i)) (List.range l.length)
 rw[ua]at this
 exact this
section
variable (w:Wf r) (hl:l.length=r.n) (hn:r.n<=40)
include w hl hn
theorem G6{a b:Nat}{acc:List (Nat×List Nat)}(ha:acc.length<=90000)(R:D)(kn10:D×D×D×D×List D×Unit->M D)(kn16:D×D×D×D×List D×D×Unit->M D) :
  fj kn10 (.dict (r.ms.zipIdx.map kvN)) (cT l) (.tuple (r.ms.map mD)) R (acc.map ld) (iN a) (iN b) kn16=kn16 (.dict (r.ms.zipIdx.map kvN),cT l,.tuple (r.ms.map mD),R,(acc++cell r l a b).map ld,iN a,()):=by
 unfold fj
 rw[AN,oMS,bdR]
 unfold cell
 cases e:idx r.ms (a,b)with
 | none =>
  show bd (bd (oM (db .none .none)) _) _=_
  rw[show db .none .none=some false from rfl,oMS,bdR,am (by decide),bdR,am (by decide),ou]
 | some k =>
  obtain⟨m,hm,_⟩:=Ak e
  have hk:k<r.ms.length:=(List.getElem?_eq_some_iff.mp hm).1
  have em:r.ms[k]=m:=(List.getElem?_eq_some_iff.mp hm).2
  have ok:=w.ms m (ut hm)
  have e2:aD (.tuple (r.ms.map mD)) (iN k)=some (mD m):=by
   rw[dC,show cH (.tuple (r.ms.map mD)) (iN k)=_ from HP mD r.ms k hk,em]
  show bd (bd (oM (db (iN k) .none)) _) _=_
  dsimp only
  rw[hm]
  dsimp only
  rw[show db (iN k) .none=some true from rfl,oMS,bdR,aw rfl,show(((some k).map iN).getD PyData.none)=iN k from rfl,e2,oMS,bdR,Gc hl ok,bdR,show lq (.bool (eD (fl l) m))=some (eD (fl l) m)from rfl,oMS,bdR]
  by_cases hc:eD (fl l) m=true
  ·rw[aw hc,bdR,Fo hl ok hc,bdR,bdR,jr _ _ (by rw[zzd];lia),oMS,bdR,aw hc,ls]
   rfl
  ·rw[am hc,am hc,ou]
theorem uv(hm:r.ms.length<=90000):gi r.d (.dict (r.ms.zipIdx.map kvN)) (cT l)=.ret (.list ((bC r l).map ld)):=by
 unfold gi
 have rl:=n8 l
 have e1:mS [.list ((rooms l).map iN)]=some ((rooms l).zipIdx.map λp=>.tuple [iN p.2,iN p.1]):=by
  show some (eC _)=_
  rw[iK]
 rw[dC,FD,oMS,bdR,zd l (by lia),bdR,e1,oMS,bdR]
 refine(hJ (e:=λp:Nat×Nat=>.tuple [iN p.2,iN p.1]) (F:=λps=>(PyData.dict (r.ms.zipIdx.map kvN),cT l,PyData.tuple (r.ms.map mD),PyData.list ((rooms l).map iN),(ps.flatMap λp=>((rooms l).drop p.2).flatMap (cell r l p.1)).map ld,())) (rooms l).zipIdx ?_).trans rfl
 intro p x t hpt kn
 dsimp only
 unfold iZ
 show un2 (.tuple [iN x.2,iN x.1]) _=_
 unfold un2
 dsimp only
 have cut:(bd (bd (asI (iN x.2)) λlo13=>oM (iO (.list ((rooms l).map iN)) lo13 none)) λx14=>oM (cG x14))=.ret (((rooms l).drop x.2).map iN):=by
  have hx:x.2<(rooms l).length:=by
   have:=List.mem_zipIdx_iff_getElem?.mp (show x∈(rooms l).zipIdx by rw[hpt];simp)
   exact(List.getElem?_eq_some_iff.mp this).1
  rw[show asI (iN x.2)=.ret (some (x.2:Int))from rfl,bdR]
  have:iO (.list ((rooms l).map iN)) (some (x.2:Int)) none=some (.list (((rooms l).drop x.2).map iN)):=by
   show some (PyData.list (L4.cutD _ _ _))=_
   unfold L4.cutD
   have s1:HT.sIx ((rooms l).map iN).length 0 (some (x.2:Int))=x.2:=by
    unfold HT.sIx
    simp only[zzd]
    have h0:¬ ((x.2:Int)<0):=by lia
    simp[h0]
    lia
   have s2:HT.sIx ((rooms l).map iN).length ((rooms l).map iN).length none=((rooms l).map iN).length:=rfl
   rw[s1,s2,<-List.map_drop,u8 (by simp)]
  rw[this,oMS,bdR]
  rfl
 rw[cut,bdR]
 have pl:p.length<=40:=by
  have:p.length<(rooms l).zipIdx.length:=by rw[hpt];simp
  rw[Ix]at this
  lia
 have accl:(p.flatMap λq=>((rooms l).drop q.2).flatMap (cell r l q.1)).length<=40*40:=by
  have h1:=eh (g:=λq:Nat×Nat=>((rooms l).drop q.2).flatMap (cell r l q.1)) (B:=40) (λq=>by
   have h2:=eh (g:=cell r l q.1) (B:=1) (m7 r l q.1) ((rooms l).drop q.2)
   rw[Db]at h2
   lia) p
  exact ir h1 (Kc _ pl)
 rw[show(p.flatMap λq=>((rooms l).drop q.2).flatMap (cell r l q.1)).map ld=((p.flatMap λq=>((rooms l).drop q.2).flatMap (cell r l q.1))++([]:List Nat).flatMap (cell r l x.1)).map ld from by simp]
 refine(hJ (e:=iN) (F:=λds=>(PyData.dict (r.ms.zipIdx.map kvN),cT l,PyData.tuple (r.ms.map mD),PyData.list ((rooms l).map iN),((p.flatMap λq=>((rooms l).drop q.2).flatMap (cell r l q.1))++ds.flatMap (cell r l x.1)).map ld,iN x.1,())) ((rooms l).drop x.2) ?_).trans ?_
 ·intro p2 b t2 hpt2 kn2
  dsimp only
  refine(G6 w hl hn ?_ _ kn kn2).trans ?_
  ·rw[zzf]
   have h2:=eh (g:=cell r l x.1) (B:=1) (m7 r l x.1) p2
   have h3:p2.length<((rooms l).drop x.2).length:=by rw[hpt2];simp
   rw[Db]at h3
   lia
  ·rw[List.flatMap_append,Ba]
   simp
 ·dsimp only
  unfold i3
  rw[List.flatMap_append]
  simp
end
abbrev gF(n:Nat)(g:Nat->Int):List D:=(List.range n).map λi=>.int (g i)
def upI(g:Nat->Int)(i:Nat)(v:Int):Nat->Int:=λx=>if x=i then v else g x
theorem qY(n:Nat)(f:Nat->Nat):gF n (λi=>(f i:Int))=gG n f:=by
 unfold gF gG tab
 rw[wP]
 rfl
theorem vx(h:i<n):cH (.list (gF n g)) (iN i)=some (.int (g i)):=by
 have e:=jJ (λi=>PyData.int (g i)) (List.range n) i (by simpa using h)
 rw[List.getElem_range]at e
 exact e
theorem yR(n:Nat)(g:Nat->Int)(i:Nat)(v:Int):(gF n g).set i (.int v)=gF n (upI g i v):=by
 apply JN
 ·simp
 ·intro j h1 h2
  rw[List.getElem_set]
  simp only[List.getElem_map,List.getElem_range]
  unfold upI
  by_cases e:i=j
  ·rw[aw e,aw e.symm]
  ·rw[am e,am (λz=>e z.symm)]
theorem qX(v:Int)(h:i<n):putD (gF n g) (iN i) (.int v)=some (gF n (upI g i v)):=by
 show(L2.ixN _ (i:Int)).map _=_
 rw[zzd,ua,ql h]
 show some ((gF n g).set i (.int v))=_
 rw[yR]
theorem q8(hx:x<n)(kn3:D×List D×Unit->M D)(c:D)(fs:List D)(k m:D)(kn:D×List D×D×D×List D×Unit->M D) :
  dm kn3 c fs k m (gF n g) (iN x) kn=kn (c,fs,k,m,gF n (upI g x (g x - 1)),()):=by
 unfold dm
 rw[g8,vx hx,oMS,bdR,show md (.int (g x)) (.int 1)=some (.int (g x - 1))from rfl,oMS,bdR,qX _ hx,oMS,bdR]
theorem qZ(hx:x<n)(kn3:D×List D×Unit->M D)(c:D)(fs:List D)(k:D)(kn:D×List D×D×List D×Unit->M D) :
  dk kn3 c fs k (gF n g) (iN x) kn=kn (c,fs,k,gF n (upI g x (g x+1)),()):=by
 unfold dk
 rw[g8,vx hx,oMS,bdR,L4.addI,oMS,bdR,qX _ hx,oMS,bdR]
theorem xZ(n:Nat)(g:Nat->Int):intsOf (gF n g)=some ((List.range n).map g):=by
 have:∀l:List Nat,intsOf (l.map λi=>PyData.int (g i))=some (l.map g):=by
  intro l
  induction l with
  | nil=>rfl
  | cons a l ih=>rw[bj,intsOf,ih];rfl
 exact this _
theorem zU(h:0<n):∃i,wF [.list (gF n g)]=some (.int i)/\(0<=i↔∀x,x<n->0<=g x):=by
 have e:∃i,uH ((List.range n).map g)=some i:=by
  cases n with
  | zero=>lia
  | succ n=>rw[List.range_succ_eq_map];exact⟨_,rfl⟩
 obtain⟨i,e⟩:=e
 obtain⟨s1,s2⟩:=oV e
 refine⟨i,?_,λhi x hx=>Int.le_trans hi (s1 _ (List.mem_map.mpr ⟨x,List.mem_range.mpr hx,rfl⟩)),λhx=>?_⟩
 ·show(match intsOf (gF n g)with|some ns=>(uH ns).map PyData.int|none=>none)=_
  rw[xZ]
  show(uH _).map PyData.int=_
  rw[e]
  rfl
 ·obtain⟨x,hx',rfl⟩:=List.mem_map.mp s2
  exact hx x (List.mem_range.mp hx')
def outI(f:Nat->Nat)(m:Mt):Nat->Int:=let g1:=upI (λi=>(f i:Int)) m.1 ((f m.1:Int) - 1);upI g1 m.2.1 (g1 m.2.1 - 1)
theorem vQ{m:Mt}(h:MtOk n m):(∀x,x<n->0<=outI f m x)↔eD f m=true:=by
 have hab:=h.ab
 have hb:=h.b
 unfold eD
 simp only[ax,zzi]
 constructor
 ·intro q
  have q1:=q m.1 (by lia)
  have q2:=q m.2.1 hb
  unfold outI upI at q1 q2
  dsimp only at q1 q2
  by_cases e:m.1=m.2.1
  ·rw[aw e]at q1
   simp only[e,At]at q1 q2 ⊢
   lia
  ·rw[am e]at q1
   rw[am e]
   simp only[At,am (λz=>e (Eq.symm z))]at q1 q2
   lia
 ·intro q x hx
  unfold outI upI
  dsimp only
  by_cases e:m.1=m.2.1
  ·rw[aw e]at q
   split
   ·simp only[e,At]
    rw[<-e];lia
   ·split<;>lia
  ·rw[am e]at q
   split
   ·rw[am (λz=>e (Eq.symm z))]
    lia
   ·split<;>lia
theorem B6{m:Mt}(hc:eD f m=true):(λi=>((ledF f m i:Nat):Int))=upI (upI (outI f m) m.2.2.1 (outI f m m.2.2.1+1)) m.2.2.2 (upI (outI f m) m.2.2.1 (outI f m m.2.2.1+1) m.2.2.2+1):=by
 obtain⟨p1,p2⟩:=m8 hc
 have g1:(λi=>((up f m.1 (f m.1 - 1) i:Nat):Int))=upI (λi=>(f i:Int)) m.1 ((f m.1:Int) - 1):=by
  funext i
  unfold up upI
  split
  ·lia
  ·rfl
 have g2:(λi=>((up (up f m.1 (f m.1 - 1)) m.2.1 (up f m.1 (f m.1 - 1) m.2.1 - 1) i:Nat):Int))=outI f m:=by
  unfold outI
  dsimp only
  rw[<-g1]
  funext i
  unfold upI
  show((if i=m.2.1 then _ else _:Nat):Int)=_
  split
  ·dsimp only;lia
  ·rfl
 rw[<-g2]
 funext i
 unfold ledF
 dsimp only
 generalize up (up f m.1 (f m.1 - 1)) m.2.1 (up f m.1 (f m.1 - 1) m.2.1 - 1)=f2
 unfold up upI
 by_cases e1:i=m.2.2.2
 ·simp only[e1,At]
  by_cases e2:m.2.2.2=m.2.2.1
  ·simp only[e2,At];lia
  ·simp only[am e2];lia
 ·simp only[am e1]
  by_cases e2:i=m.2.2.1
  ·simp only[e2,At];lia
  ·simp only[am e2]
def bg(r:Rl)(l:List Nat)(ps:List (Mt×Nat)):List (Nat×List Nat):=ps.flatMap λp=>if eD (fl l) p.1 then[(p.2,led r.n l p.1)]else[]
theorem mem_steps{k:Nat}:(k,c)∈bg r l r.ms.zipIdx↔Goes r l k c:=by
 unfold bg
 rw[List.mem_flatMap]
 constructor
 ·rintro⟨p,hp,h⟩
  split at h
  ·rename_i hc
   have:(k,c)=(p.2,led r.n l p.1):=by simpa using h
   injection this with h1 h2
   subst h1 h2
   exact⟨p.1,List.mem_zipIdx_iff_getElem?.mp hp,hc,rfl⟩
  ·cases h
 ·rintro⟨m,hm,hc,rfl⟩
  exact⟨(m,k),List.mem_zipIdx_iff_getElem?.mpr hm,by rw[aw hc];exact List.mem_singleton.mpr rfl⟩
theorem jU(r:Rl)(l:List Nat)(ps:List (Mt×Nat)):(bg r l ps).length<=ps.length:=by
 have:=eh (g:=λp:Mt×Nat=>if eD (fl l) p.1 then[(p.2,led r.n l p.1)]else[]) (B:=1) (λp=>by split<;>simp) ps
 unfold bg
 lia
theorem yU(w:Wf r)(hl:l.length=r.n){acc:List (Nat×List Nat)}(ha:acc.length<=90000){p:Mt×Nat}(ok:MtOk r.n p.1)(kn3:D×List D×Unit->M D) :
  dn (cT l) (acc.map ld) (.tuple [iN p.2,mD p.1]) kn3=kn3 (cT l,(acc++if eD (fl l) p.1 then[(p.2,led r.n l p.1)]else[]).map ld,()):=by
 obtain⟨m,k⟩:=p
 have ok:MtOk r.n m:=ok
 have hab:=ok.ab;have hb:=ok.b;have hcc:=ok.c;have hd:=ok.d
 unfold dn
 show un2 (.tuple [iN k,mD m]) _=_
 unfold un2
 dsimp only
 have l1:hV [cT l]=some (gF r.n λi=>(fl l i:Int)):=by
  rw[qY,uX hl]
  rfl
 have c1:(bd (bd (asI (.int 2)) λhi7=>oM (iO (mD m) none hi7)) λx8=>oM (cG x8))=.ret [iN m.1,iN m.2.1]:=by kernel_rfl
 have c2:(bd (bd (asI (.int 2)) λlo12=>oM (iO (mD m) lo12 none)) λx13=>oM (cG x13))=.ret [iN m.2.2.1,iN m.2.2.2]:=by kernel_rfl
 rw[l1,oMS,bdR,c1,bdR,eP,cx]
 refine(q8 (show m.1<r.n by lia) kn3 _ _ _ _ _).trans ?_
 rw[cx]
 refine(q8 hb kn3 _ _ _ _ _).trans ?_
 rw[cx]
 show dw kn3 (cT l) (acc.map ld) (iN k) (mD m) (gF r.n (outI (fl l) m))=_
 unfold dw
 obtain⟨i,e1,e2⟩:=zU (g:=outI (fl l) m) (show 0<r.n by have:=w.n1;lia)
 rw[e1,oMS,bdR,L4.geI,oMS,bdR]
 by_cases hc:eD (fl l) m=true
 ·have hi:0<=i:=e2.mpr ((vQ ok).mpr hc)
  rw[aw (by simpa using hi),aw hc,c2,bdR,eP,cx]
  refine(qZ hcc kn3 _ _ _ _).trans ?_
  rw[cx]
  refine(qZ hd kn3 _ _ _ _).trans ?_
  rw[cx]
  show dq kn3 _ _ _ (gF r.n (upI (upI (outI (fl l) m) m.2.2.1 (outI (fl l) m m.2.2.1+1)) m.2.2.2 (upI (outI (fl l) m) m.2.2.1 (outI (fl l) m m.2.2.1+1) m.2.2.2+1)))=_
  rw[<-B6 hc,qY]
  unfold dq
  rw[tM,oMS,bdR,bdR,jr _ _ (by rw[zzd];lia),oMS,bdR,ls]
  rfl
 ·have hi:¬ 0<=i:=λz=>hc ((vQ ok).mp (e2.mp z))
  rw[am (by simpa using hi),am hc,ou]
theorem yV(w:Wf r)(hl:l.length=r.n)(hm:r.ms.length<=90000):dL r.d (cT l)=.ret (.list ((bg r l r.ms.zipIdx).map ld)):=by
 unfold dL
 have e1:iX [.tuple (r.ms.map mD)]=some (r.ms.zipIdx.map λp=>.tuple [iN p.2,mD p.1]):=by
  show some (eC _)=_
  rw[iK]
 rw[dC,FD,oMS,bdR,e1,oMS,bdR]
 refine(hJ (e:=λp:Mt×Nat=>.tuple [iN p.2,mD p.1]) (F:=λps=>(cT l,(bg r l ps).map ld,())) r.ms.zipIdx ?_).trans rfl
 intro p x t hpt kn
 dsimp only
 have hx:=List.mem_zipIdx_iff_getElem?.mp (show x∈r.ms.zipIdx by rw[hpt];simp)
 have hlen:p.length<r.ms.zipIdx.length:=by rw[hpt];simp
 rw[Ix]at hlen
 have:=jU r l p
 refine(yU w hl (by lia) (w.ms x.1 (ut hx)) kn).trans ?_
 unfold bg
 rw[List.flatMap_append]
 simp
inductive Rch(r:Rl)(s:List Nat):List Nat->Prop
 | refl:Rch r s s
 | step {c:List Nat} {k:Nat} {c':List Nat}:Rch r s c->Goes r c k c'->Rch r s c'
def sumF(n:Nat)(f:Nat->Nat):Nat:=((List.range n).map f).sum
theorem iz(n:Nat)(f:Nat->Nat):sumF (n+1) f=sumF n f+f n:=by
 unfold sumF
 rw[List.range_succ,ls,List.sum_append]
 simp
theorem gK(f g:Nat->Nat):∀n,sumF n (λi=>f i+g i)=sumF n f+sumF n g
 | 0=>rfl
 | n+1=>by rw[iz,iz,iz,gK f g n];lia
theorem gJ(x:Nat):∀n,sumF n (λi=>if x=i then 1 else 0)=if x<n then 1 else 0
 | 0=>rfl
 | n+1=>by
  rw[iz,gJ x n]
  by_cases h:x<n
  ·rw[aw h,am (by lia),aw (by lia)]
  ·by_cases e:x=n
   ·rw[am h,aw e,aw (by lia)]
   ·rw[am h,am e,am (by lia)]
theorem vq(n:Nat)(f:Nat->Nat):(tab n f).sum=sumF n f:=rfl
theorem Ct{m:Mt}(hl:l.length=n)(ok:MtOk n m)(hc:eD (fl l) m=true):(led n l m).sum=l.sum:=by
 have hab:=ok.ab;have hb:=ok.b;have hcc:=ok.c;have hd:=ok.d
 have e:l.sum=sumF n (fl l):=by rw[<-vq,yQ hl]
 rw[e]
 unfold led
 rw[vq]
 have k:=congrArg (sumF n) (funext λi=>Cv hc i)
 rw[gK (λi=>ledF (fl l) m i+if m.1=i then 1 else 0),gK (ledF (fl l) m),gK (λi=>fl l i+if m.2.2.1=i then 1 else 0),gK (fl l),gJ,gJ,gJ,gJ,aw (by lia),aw hb,aw hcc,aw hd]at k
 lia
theorem Goes.fit(w:Wf r){k:Nat}(g:Goes r c k c')(hl:c.length=r.n):c'.length=r.n/\c'.sum=c.sum:=by
 obtain⟨m,hm,hc,rfl⟩:=g
 exact⟨uq _ _ _,Ct hl (w.ms m (ut hm)) hc⟩
theorem Rch.fit(w:Wf r){s:List Nat}(hl:s.length=r.n)(h:Rch r s c):c.length=r.n/\c.sum=s.sum:=by
 induction h with
 | refl=>exact⟨hl,rfl⟩
 | step _ g ih =>
  obtain⟨h1,h2⟩:=g.fit w ih.1
  exact⟨h1,h2.trans ih.2⟩
def comps:Nat->Nat->List (List Nat)
 | 0,h=>if h=0 then[[]]else[]
 | n+1,h=>(List.range (h+1)).flatMap λa=>(comps n (h - a)).map (a :: ·)
theorem oJ:∀(n h:Nat) (l:List Nat),l.length=n->l.sum=h->l∈comps n h
 | 0,h,[],_,e=>by
  have:h=0:=by simpa using e.symm
  subst this
  exact List.mem_singleton.mpr rfl
 | n+1,h,a::l,e1,e2=>by
  have e2:a+l.sum=h:=by simpa using e2
  refine List.mem_flatMap.mpr ⟨a,List.mem_range.mpr (by lia),List.mem_map.mpr ⟨l,oJ n (h - a) l (by simpa using e1) (by lia),rfl⟩⟩
theorem FZ:∀n,n<6->∀h,h<6->(comps n h).length<=126:=by decide +kernel
theorem bZ{α:Type}[DecidableEq α]:∀{l m:List α},l.Nodup->(∀x∈l,x∈m)->l.length<=m.length
 | [],m,_,_=>bi _
 | a::l,m,hn,hs=>by
  rw[List.nodup_cons]at hn
  have ha:=hs a ce
  have h:=bZ (m:=m.erase a) hn.2 λx hx=>by
   have:x≠a:=λz=>hn.1 (z▸hx)
   exact(List.mem_erase_of_ne this).mpr (hs x (zzg _ hx))
  rw[List.length_erase_of_mem ha]at h
  have:0<m.length:=List.length_pos_of_mem ha
  rw[qu]
  lia
def aY(F cs:List (List Nat)):List (List Nat):=cs.foldl (λacc c=>if c∈acc then acc else acc++[c]) F
theorem eW(F cs:List (List Nat))(c:List Nat):aY F (c::cs)=aY (if c∈F then F else F++[c]) cs:=rfl
theorem js:∀(cs F:List (List Nat)),∃E,aY F cs=F++E
 | [],F=>⟨[],(ou _).symm⟩
 | c::cs,F=>by
  rw[eW]
  obtain⟨E,e⟩:=js cs (if c∈F then F else F++[c])
  rw[e]
  split
  ·exact⟨E,rfl⟩
  ·exact⟨c::E,by simp⟩
theorem jQ:∀(cs F:List (List Nat)),F.Nodup->(aY F cs).Nodup
 | [],F,h=>h
 | c::cs,F,h=>by
  rw[eW]
  refine jQ cs _ ?_
  split
  ·exact h
  ·rename_i hc
   rw[JY]
   exact⟨h,by simp,λa ha b hb=>by rw[List.mem_singleton.mp hb];exact λz=>hc (z▸ha)⟩
theorem d4:∀(cs F:List (List Nat)) (x:List Nat),x∈aY F cs↔x∈F\/x∈cs
 | [],F,x=>by simp[aY]
 | c::cs,F,x=>by
  rw[eW,d4 cs]
  split
  ·rename_i hc
   rw[List.mem_cons]
   constructor
   ·rintro(h|h)
    ·exact .inl h
    ·exact .inr (.inr h)
   ·rintro(h|h|h)
    ·exact .inl h
    ·exact .inl (h▸hc)
    ·exact .inr h
  ·rw[List.mem_append,List.mem_singleton,List.mem_cons]
   constructor
   ·rintro((h|h)|h)
    ·exact .inl h
    ·exact .inr (.inl h)
    ·exact .inr (.inr h)
   ·rintro(h|h|h)
    ·exact .inl (.inl h)
    ·exact .inl (.inr h)
    ·exact .inr h
def kyT(l:List Nat):List Key:=l.map λn:Nat=>.inl (n:Int)
theorem uY(l:List Nat):cT l=g7 (kyT l):=by
 unfold g7 kyT
 rw[wP]
 rfl
theorem v8:∀{l l':List Nat},kyT l=kyT l'↔l=l'
 | [],[]=>by simp
 | [],_::_=>by simp[kyT]
 | _::_,[]=>by simp[kyT]
 | a::l,b::l'=>by
  have ih:=v8 (l:=l) (l':=l')
  unfold kyT at ih ⊢
  rw[bj,bj,List.cons.injEq,List.cons.injEq,ih]
  constructor
  ·rintro⟨h,h2⟩
   injection h with h
   exact⟨by lia,h2⟩
  ·rintro⟨rfl,h2⟩
   exact⟨rfl,h2⟩
theorem wb(l l':List Nat):eK (cT l) (cT l')=decide (l=l'):=by
 rw[uY,uY,qj]
 exact decide_eq_decide.mpr v8
theorem eg(l:List Nat):bX (cT l)=true:=by rw[uY];exact Ae _
abbrev kE(v:List Nat->D)(c:List Nat):D×D:=(cT c,v c)
section
variable (v:List Nat->D)
theorem sq(F:List (List Nat))(c:List Nat):keyOk (F.map (kE v)) (cT c)=true:=by
 unfold keyOk
 rw[oC]
 left
 rw[ax,pd]
 refine⟨eg c,λx hx=>?_⟩
 obtain⟨q,_,rfl⟩:=List.mem_map.mp hx
 exact eg _
theorem qv(c:List Nat):∀F:List (List Nat),gb (F.map (kE v)) (cT c)=if c∈F then some (v c)else none
 | []=>rfl
 | q::F=>by
  have ih:=qv c F
  unfold gb at ih ⊢
  rw[bj,ss,show eK (kE v q).1 (cT c)=_ from wb q c]
  by_cases e:q=c
  ·subst e
   rw[eT rfl,aw ce]
   rfl
  ·rw[cr e]
   dsimp only
   rw[ih]
   by_cases h:c∈F
   ·rw[aw h,aw (zzg _ h)]
   ·rw[am h,am (λz=>by rcases List.mem_cons.mp z with z|z;exact e z.symm;exact h z)]
theorem cW(F:List (List Nat))(c:List Nat):bx (cT c) (.dict (F.map (kE v)))=some (!decide (c∈F)):=by
 show(if keyOk (F.map (kE v)) (cT c)then some (!(gb (F.map (kE v)) (cT c)).isSome)else none)=_
 rw[aw (sq v F c),qv]
 by_cases h:c∈F
 ·rw[aw h,eT h];rfl
 ·rw[am h,cr h];rfl
theorem lP(h:c∉F)(hl:F.length<=90000):gI true (F.map (kE v)) (cT c) (v c)=some ((F++[c]).map (kE v)):=by
 unfold gI
 rw[aw,lQ,ls]
 ·rfl
 ·intro p hp
  obtain⟨q,hq,rfl⟩:=List.mem_map.mp hp
  rw[show eK (kE v q).1 (cT c)=_ from wb q c,ur]
  exact λz=>h (z▸hq)
 ·rw[ax,zzi,zzd]
  exact⟨eg c,Is hl (by decide)⟩
theorem jI(h:c∈F):aD (.dict (F.map (kE v))) (cT c)=some (v c):=by
 show(if keyOk (F.map (kE v)) (cT c)then gb (F.map (kE v)) (cT c)else none)=_
 rw[aw (sq v F c),qv,aw h]
theorem wj(F:List (List Nat)):d9 (F.map (kE v))=false:=by cases F<;>rfl
theorem CC(F:List (List Nat)):(F.map (kE v)).map (·.1)=F.map cT:=by rw[wP];rfl
theorem qh(F:List (List Nat)):sI [.dict (F.map (kE v))]=some (iN F.length):=by
 show(if d9 (F.map (kE v))then none else some (PyData.int ((F.map (kE v)).length:Int)))=_
 rw[wj,am (by decide),zzd]
end
theorem w4(h:∀l∈F,l≠[]):bQ (F.map cT)=true:=by
 unfold bQ
 rw[oC]
 right
 rw[pd]
 intro d hd
 obtain⟨l,hl,rfl⟩:=List.mem_map.mp hd
 have:∀l:List Nat,intsOf (l.map iN)=some (l.map λn:Nat=>(n:Int)):=by
  intro l
  induction l with
  | nil=>rfl
  | cons a l ih=>rw[bj,intsOf,ih];rfl
 have hne:=h l hl
 unfold qp
 dsimp only
 rw[this]
 cases l with
 | nil=>exact absurd rfl hne
 | cons a l=>rfl
abbrev tooMany:Ex:=⟨"TooMany",[]⟩
abbrev vT:List Nat->D:=λ_=>.bool true
abbrev vL(r:Rl):List Nat->D:=λc=>.list ((bC r c).map ld)
abbrev prs(r:Rl):D:=.dict (r.ms.zipIdx.map kvN)
theorem ld1(p:Nat×List Nat):aD (ld p) (.int 1)=some (cT p.2):=by rw[dC,FE]
theorem CM(hl:F.length<=90000)(R lim P:D)(L:List (D×D))(p:Nat×List Nat)(kn2 kn:D×D×D×List (D×D)×List (D×D)×List D×Unit->M D) :
  dh kn2 R lim P L (F.map (kE vT)) (F.map cT) (ld p) kn=kn (R,lim,P,L,(aY F [p.2]).map (kE vT),(aY F [p.2]).map cT,()):=by
 unfold dh
 rw[ld1,oMS,bdR,cW,oMS,bdR]
 have e:aY F [p.2]=if p.2∈F then F else F++[p.2]:=rfl
 by_cases h:p.2∈F
 ·rw[eT h,am (by decide),e,aw h]
 ·rw[cr h,aw (show(!false)=true from rfl),bdR,lP vT h hl,oMS,bdR,bdR,jr _ _ (by rw[zzd];lia),oMS,bdR,e,am h,ls,ls]
  rfl
noncomputable abbrev n4(r:Rl):D×D×D×List (D×D)×List (D×D)×List D×Unit->(D×D×D×List (D×D)×List (D×D)×List D×Unit->M D)->M D:=λs23 kn=>bf s23.1 s23.2.1 s23.2.2.1 s23.2.2.2.1 s23.2.2.2.2.1 s23.2.2.2.2.2.1 kn
section
variable (w:Wf r) (hn:r.n<=40) (hm:r.ms.length<=2000)
include w hn hm
theorem Bv(hi:i<F.length)(hF:F.length<=1000)(hlim:F.length<=limit)(nd:F.Nodup)(fit:∀c∈F,c.length=r.n)(kn:D×D×D×List (D×D)×List (D×D)×List D×Unit->M D) :
  bf r.d (iN limit) (prs r) ((F.take i).map (kE (vL r))) (F.map (kE vT)) (F.map cT) kn=kn (r.d,iN limit,prs r,(F.take (i+1)).map (kE (vL r)),(aY F ((bC r F[i]).map (·.2))).map (kE vT),(aY F ((bC r F[i]).map (·.2))).map cT,()):=by
 have hc:=fit F[i] (io hi)
 have t1:(F.take i).length=i:=by rw[ng];lia
 have nin:F[i]∉F.take i:=λz=>by
  obtain⟨j,hj,e⟩:=rg z
  rw[List.getElem_take]at e
  have hj':j<i:=by rw[t1]at hj;exact hj
  exact absurd (List.pairwise_iff_getElem.mp nd j i (by lia) hi hj') (by rw[e];exact λz=>z rfl)
 have tk:F.take i++[F[i]]=F.take (i+1):=List.take_append_getElem hi
 have ll:dI [.list (F.map cT)]=some (iN F.length):=by rw[L4.lenL,zzd]
 have g1:ki (iN (F.take i).length) (iN F.length)=some true:=by
  show tZ (.int _) (.int _)=_
  rw[L4.ltI,eT (by rw[t1];lia)]
 have g2:kH (iN F.length) (iN limit)=some false:=by rw[L4.gtI,cr (by lia)]
 have ix:aD (.list (F.map cT)) (iN (F.take i).length)=some (cT F[i]):=by
  rw[t1,g8,show cH (.list (F.map cT)) (iN i)=_ from jJ cT F i hi]
 unfold bf
 rw[qh,ll,oMS,oMS,bdR,bdR,g1,oMS,bdR,aw rfl,bdR,g2,oMS,bdR,am (by decide),bdR,ix,oMS,bdR,uv w hc hn (by lia),bdR,lP (vL r) nin (by lia),oMS,bdR,tk,jI (vL r) (tk▸ib _ (List.mem_singleton.mpr rfl)),oMS,bdR,show cG (vL r F[i])=some ((bC r F[i]).map ld)from rfl,oMS,bdR]
 have h0:aY F (([]:List (Nat×List Nat)).map (·.2))=F:=rfl
 refine(hJ (e:=ld) (F:=λps=>(r.d,iN limit,prs r,(F.take (i+1)).map (kE (vL r)),(aY F (ps.map (·.2))).map (kE vT),(aY F (ps.map (·.2))).map cT,())) (bC r F[i]) ?_).trans rfl
 intro p x t hpt kn'
 dsimp only
 have hlen:(aY F (p.map (·.2))).length<=90000:=by
  have h1:∀(cs G:List (List Nat)),(aY G cs).length<=G.length+cs.length:=by
   intro cs
   induction cs with
   | nil=>intro G;simp[aY]
   | cons c cs ih =>
    intro G
    rw[eW]
    refine ir (ih _) ?_
    split<;>simp<;>lia
  have h2:=h1 (p.map (·.2)) F
  have h3:p.length<=(bC r F[i]).length:=by rw[hpt];simp
  have h4:(bC r F[i]).length<=40*40:=by
   have rl:=n8 F[i]
   unfold bC
   refine ir (eh (g:=λq:Nat×Nat=>((rooms F[i]).drop q.2).flatMap (cell r F[i] q.1)) (B:=40) (λq=>?_) _) (Kc _ (by rw[Ix];lia))
   have h5:=eh (g:=cell r F[i] q.1) (B:=1) (m7 r F[i] q.1) ((rooms F[i]).drop q.2)
   rw[Db]at h5
   lia
  rw[zzd]at h2
  lia
 refine(CM hlen _ _ _ _ x _ _).trans ?_
 rw[ls,show aY F (p.map (·.2)++[x].map (·.2))=aY (aY F (p.map (·.2))) [x.2]from by unfold aY;rw[List.foldl_append];rfl]
theorem y6{c0:List Nat}{R:List (List Nat)}(hc0:c0.length=r.n)(hR:R.Nodup)(mem:∀c,c∈R↔Rch r c0 c)(hB:R.length<=900)(limit:Nat) :
  ∀(fuel i:Nat) (F:List (List Nat)),F.Nodup->(∀c∈F,c∈R)->c0∈F->i<=F.length->(∀(j:Nat) (h:j<F.length),j<i->∀k c,Goes r F[j] k c->c∈F)->(F.length<=limit\/i<F.length)->R.length<fuel+i ->
   (R.length<=limit/\∃F':List (List Nat),F'.Perm R/\aV (n4 r) fuel (r.d,iN limit,prs r,(F.take i).map (kE (vL r)),F.map (kE vT),F.map cT,())=.ret (.dict (F'.map (kE (vL r))))) \/
   (limit<R.length/\aV (n4 r) fuel (r.d,iN limit,prs r,(F.take i).map (kE (vL r)),F.map (kE vT),F.map cT,())=.exc tooMany)
 | 0,i,F,nd,sub,_,hi,_,_,hf=>by
  have:=bZ nd sub
  lia
 | fuel+1,i,F,nd,sub,h0,hi,cl,hj,hf=>by
  have hle:=bZ nd sub
  have fit:∀c∈F,c.length=r.n:=λc hc=>(((mem c).mp (sub c hc)).fit w hc0).1
  rw[aV]
  by_cases hlt:i<F.length
  ·by_cases hlim:F.length<=limit
   ·have st:n4 r (r.d,iN limit,prs r,(F.take i).map (kE (vL r)),F.map (kE vT),F.map cT,()) (λs'=>aV (n4 r) fuel s')=aV (n4 r) fuel (r.d,iN limit,prs r,((aY F ((bC r F[i]).map (·.2))).take (i+1)).map (kE (vL r)),(aY F ((bC r F[i]).map (·.2))).map (kE vT),(aY F ((bC r F[i]).map (·.2))).map cT,()):=by
     refine(Bv w hn hm hlt (by lia) hlim nd fit _).trans ?_
     obtain⟨E,e⟩:=js ((bC r F[i]).map (·.2)) F
     have:(aY F ((bC r F[i]).map (·.2))).take (i+1)=F.take (i+1):=by rw[e,List.take_append_of_le_length (by lia)]
     rw[this]
    rw[st]
    have rF:∀c∈F,Rch r c0 c:=λc hc=>(mem c).mp (sub c hc)
    have sub':∀c∈aY F ((bC r F[i]).map (·.2)),c∈R:=λc hc=>by
     rcases(d4 _ _ _).mp hc with h|h
     ·exact sub c h
     ·obtain⟨p,hp,rfl⟩:=List.mem_map.mp h
      exact(mem _).mpr (.step (rF F[i] (io hlt)) ((iF w (fit _ (io hlt))).mp hp))
    obtain⟨E,e⟩:=js ((bC r F[i]).map (·.2)) F
    have len':F.length<=(aY F ((bC r F[i]).map (·.2))).length:=by rw[e,zzf];lia
    have at':∀(j:Nat) (h:j<F.length) (h':j<(aY F ((bC r F[i]).map (·.2))).length),(aY F ((bC r F[i]).map (·.2)))[j]=F[j]:=λj h h'=>by
     simp only[e]
     exact wS h
    refine y6 hc0 hR mem hB limit fuel (i+1) _ (jQ _ _ nd) sub' ((d4 _ _ _).mpr (.inl h0)) (by lia) (λj h hji k c g=>?_) ?_ (by lia)
    ·rw[at' j (by lia) h]at g
     rcases JW j i with lt|ge
     ·exact(d4 _ _ _).mpr (.inl (cl j (by lia) lt k c g))
     ·have:j=i:=by lia
      subst this
      exact(d4 _ _ _).mpr (.inr (List.mem_map.mpr ⟨(k,c),(iF w (fit _ (io hlt))).mpr g,rfl⟩))
    ·by_cases z:(aY F ((bC r F[i]).map (·.2))).length<=limit
     ·exact .inl z
     ·exact .inr (by lia)
   ·right
    have ll:dI [.list (F.map cT)]=some (iN F.length):=by rw[L4.lenL,zzd]
    have g1:ki (iN (F.take i).length) (iN F.length)=some true:=by
     show tZ (.int _) (.int _)=_
     rw[L4.ltI,eT (by rw[ng];lia)]
    have g2:kH (iN F.length) (iN limit)=some true:=by rw[L4.gtI,eT (by lia)]
    refine⟨by lia,?_⟩
    show bf r.d (iN limit) (prs r) ((F.take i).map (kE (vL r))) (F.map (kE vT)) (F.map cT) _=_
    unfold bf
    rw[qh,ll,oMS,oMS,bdR,bdR,g1,oMS,bdR,aw rfl,bdR,g2,oMS,bdR,aw rfl]
  ·left
   have hiF:i=F.length:=by lia
   have all:∀c,Rch r c0 c->c∈F:=λc hc=>by
    induction hc with
    | refl=>exact h0
    | step _ g ih =>
     obtain⟨j,hj,e⟩:=rg ih
     exact cl j hj (by lia) _ _ (e▸g)
   have pm:F.Perm R:=(List.perm_ext_iff_of_nodup nd hR).mpr λc=>⟨sub c,λh=>all c ((mem c).mp h)⟩
   have ll:dI [.list (F.map cT)]=some (iN F.length):=by rw[L4.lenL,zzd]
   have g1:ki (iN (F.take i).length) (iN F.length)=some false:=by
    show tZ (.int _) (.int _)=_
    rw[L4.ltI,cr (by rw[ng];lia)]
   refine⟨by have:=pm.length_eq;lia,F,pm,?_⟩
   show bf r.d (iN limit) (prs r) ((F.take i).map (kE (vL r))) (F.map (kE vT)) (F.map cT) _=_
   unfold bf
   rw[qh,ll,oMS,oMS,bdR,bdR,g1,oMS,bdR,am (by decide)]
   unfold gy
   rw[hiF,List.take_length]
theorem ww{R:List (List Nat)}(hc0:c0.length=r.n)(hR:R.Nodup)(mem:∀c,c∈R↔Rch r c0 c)(hB:R.length<=900)(limit:Nat) :
  (R.length<=limit/\∃F:List (List Nat),F.Perm R/\bW r.d (cT c0) (iN limit)=.ret (.dict (F.map (kE (vL r)))))\/(limit<R.length/\bW r.d (cT c0) (iN limit)=.exc tooMany):=by
 have e:bW r.d (cT c0) (iN limit)=aV (n4 r) 10000 (r.d,iN limit,prs r,(([c0]:List (List Nat)).take 0).map (kE (vL r)),([c0]:List (List Nat)).map (kE vT),([c0]:List (List Nat)).map cT,()):=by
  unfold bW
  rw[zI w (by lia),bdR]
  unfold dA
  rw[eg]
  dsimp only
  rw[dO]
  rfl
 rw[e]
 refine y6 w hn hm hc0 hR mem hB limit 10000 0 [c0] (by simp) (λc hc=>?_) (List.mem_singleton.mpr rfl) (bi _) (λj h z=>absurd z (Nat.not_lt_zero _)) (.inr (by simp)) (by lia)
 rw[List.mem_singleton.mp hc]
 exact(mem _).mpr .refl
end
abbrev vS(r:Rl):List Nat->D:=λc=>.list ((bg r c r.ms.zipIdx).map ld)
noncomputable abbrev Dx:D×List (D×D)×List D×Unit->(D×List (D×D)×List D×Unit->M D)->M D:=λs14 kn=>cU s14.1 s14.2.1 s14.2.2.1 kn
theorem Fj(L:List (List Nat)):fc (.list (L.map cT)) (.list [])=some (!L.isEmpty):=by
 have hd:(PyData.list (L.map cT)).depth<=1000:=by
  have:∀l:List (List Nat),PyData.depthAll (l.map cT)<=10:=by
   intro l
   induction l with
   | nil=>simp[PyData.depthAll]
   | cons a l ih =>
    have h1:(cT a).depth<=10:=by
     have:∀l:List Nat,PyData.depthAll (l.map iN)<=1:=by
      intro l
      induction l with
      | nil=>simp[PyData.depthAll]
      | cons a l ih=>simp only[bj,PyData.depthAll,PyData.depth];lia
     have h2:=this a
     simp only[PyData.depth]
     lia
    simp only[bj,PyData.depthAll]
    lia
  have h:=this L
  simp only[PyData.depth]
  lia
 have lay:(PyData.list (L.map cT)).canLay0=true:=by
  simp only[PyData.canLay0]
  exact qi λd hd=>by
   obtain⟨l,_,rfl⟩:=List.mem_map.mp hd
   exact(uw l).1
 unfold fc kN
 rw[aw (by rw[lay,eT hd];rfl)]
 cases L with
 | nil=>rfl
 | cons a L=>rfl
theorem EZ(ps:List (Nat×List Nat)):bM (λd8=>un2 d8 λy9 y10=>M.ret (some y10)) (ps.map ld)=.ret ((ps.map (·.2)).map cT):=by
 rw[fG (e:=ld) (g:=λp=>cT p.2) ps (λp _=>rfl),wP]
 rfl
section
variable (w:Wf r) (hm:r.ms.length<=30)
include w hm
theorem pP{c0:List Nat}(hc0:c0.length=r.n)(B:Nat)(hB:B<=200)(bound:∀F:List (List Nat),F.Nodup->(∀c∈F,c.length=r.n/\c.sum=c0.sum)->F.length<=B) :
  ∀(fuel:Nat) (F L:List (List Nat)),F.Nodup->(∀c∈F,Rch r c0 c)->(∀c∈L,Rch r c0 c)->(c0∈F\/c0∈L)->(∀c∈F,∀k c',Goes r c k c'->c'∈F\/c'∈L)->L.length+31*(B - F.length)<fuel->fuel<=10000 ->
   ∃F':List (List Nat),F'.Nodup/\(∀c,c∈F'↔Rch r c0 c)/\aV Dx fuel (r.d,F.map (kE (vS r)),L.map cT,())=.ret (.dict (F'.map (kE (vS r))))
 | 0,F,L,_,_,_,_,_,hf,_=>by lia
 | fuel+1,F,L,nd,rF,rL,h0,cl,hf,hfu=>by
  rw[aV]
  show ∃F':List (List Nat),_/\_/\cU r.d (F.map (kE (vS r))) (L.map cT) (λs'=>aV Dx fuel s')=_
  unfold cU
  rw[Fj,oMS,bdR]
  rcases List.eq_nil_or_concat L with rfl|⟨L',x,rfl⟩
  ·rw[am (by decide)]
   unfold i6
   refine⟨F,nd,λc=>⟨rF c,λh=>?_⟩,rfl⟩
   induction h with
   | refl=>exact h0.resolve_right (by simp)
   | step _ g ih=>exact(cl _ ih _ _ g).resolve_right (by simp)
  ·rw[List.concat_eq_append]at *
   rw[aw (show(!(L'++[x]).isEmpty)=true by simp)]
   have gl:(List.map cT (L'++[x])).getLast? = some (cT x):=by simp
   have dl:List.dropLast (List.map cT (L'++[x]))=L'.map cT:=by rw[ls];simp
   unfold zO
   rw[gl,dl]
   dsimp only
   have fitF:∀c∈F,c.length=r.n/\c.sum=c0.sum:=λc hc=>(rF c hc).fit w hc0
   have hFB:=bound F nd fitF
   have hx:Rch r c0 x:=rL x (by simp)
   rw[zzf,ny]at hf
   rw[cW,oMS,bdR]
   by_cases hin:x∈F
   ·rw[eT hin,am (by decide)]
    refine pP hc0 B hB bound fuel F L' nd rF (λc hc=>rL c (by simp[hc])) ?_ (λc hc k c' g=>?_) (by lia) (by lia)
    ·rcases h0 with h|h
     ·exact .inl h
     ·rcases List.mem_append.mp h with h|h
      ·exact .inr h
      ·rw[List.mem_singleton.mp h];exact .inl hin
    ·rcases cl c hc k c' g with h|h
     ·exact .inl h
     ·rcases List.mem_append.mp h with h|h
      ·exact .inr h
      ·rw[List.mem_singleton.mp h];exact .inl hin
   ·have hxf:=hx.fit w hc0
    have nd':(F++[x]).Nodup:=by
     rw[JY]
     exact⟨nd,by simp,λa ha b hb=>by rw[List.mem_singleton.mp hb];exact λz=>hin (z▸ha)⟩
    have hFB':=bound (F++[x]) nd' (λc hc=>by
     rcases List.mem_append.mp hc with h|h
     ·exact fitF c h
     ·rw[List.mem_singleton.mp h];exact hxf)
    rw[zzf,ny]at hFB'
    have sl:=jU r x r.ms.zipIdx
    rw[Ix]at sl
    rw[cr hin,aw (show(!false)=true from rfl),yV w hxf.1 (by lia),bdR,lP (vS r) hin (by lia),oMS,bdR,jI (vS r) (ib _ (List.mem_singleton.mpr rfl)),oMS,bdR,show cG (vS r x)=some ((bg r x r.ms.zipIdx).map ld)from rfl,oMS,bdR,EZ,bdR,sF (by rw[zzd,zzd];lia),bdR,FS _ _ (by rw[zzd,zzd,zzd];lia),oMS,bdR,<-ls]
    refine pP hc0 B hB bound fuel (F++[x]) (L'++(bg r x r.ms.zipIdx).map (·.2)) nd' (λc hc=>?_) (λc hc=>?_) ?_ (λc hc k c' g=>?_) ?_ ?_
    ·rcases List.mem_append.mp hc with h|h
     ·exact rF c h
     ·rw[List.mem_singleton.mp h];exact hx
    ·rcases List.mem_append.mp hc with h|h
     ·exact rL c (by simp[h])
     ·obtain⟨p,hp,rfl⟩:=List.mem_map.mp h
      exact .step hx (mem_steps.mp hp)
    ·rcases h0 with h|h
     ·exact .inl (zzh _ h)
     ·rcases List.mem_append.mp h with h|h
      ·exact .inr (zzh _ h)
      ·exact .inl (ib _ h)
    ·rcases List.mem_append.mp hc with h|h
     ·rcases cl c h k c' g with h|h
      ·exact .inl (zzh _ h)
      ·rcases List.mem_append.mp h with h|h
       ·exact .inr (zzh _ h)
       ·exact .inl (ib _ h)
     ·rw[List.mem_singleton.mp h]at g
      exact .inr (ib _ (List.mem_map.mpr ⟨(k,c'),mem_steps.mpr g,rfl⟩))
    ·rw[zzf,zzf,zzd,ny]
     have:31*(B - F.length)=31*(B - (F.length+1))+31:=by
      have:B - F.length=(B - (F.length+1))+1:=by lia
      rw[this,Nat.mul_add]
     lia
    ·lia
theorem Gx(hc0:c0.length=r.n)(B:Nat)(hB:B<=200)(bound:∀F:List (List Nat),F.Nodup->(∀c∈F,c.length=r.n/\c.sum=c0.sum)->F.length<=B) :
  ∃F:List (List Nat),F.Nodup/\(∀c,c∈F↔Rch r c0 c)/\F.length<=B/\gk r.d (cT c0)=.ret (.dict (F.map (kE (vS r)))):=by
 obtain⟨F,h1,h2,h3⟩:=pP w hm hc0 B hB bound 10000 [] [c0] JX (λc hc=>(nomatch hc)) (λc hc=>by rw[List.mem_singleton.mp hc];exact .refl) (.inr (List.mem_singleton.mpr rfl)) (λc hc=>(nomatch hc)) (by simp;lia) (ai _)
 refine⟨F,h1,h2,bound F h1 (λc hc=>((h2 c).mp hc).fit w hc0),?_⟩
 unfold gk
 rw[dO]
 exact h3
end
theorem AQ{f:List D}{most:Nat}(hf:Fd T f)(hT:T<=900000)(w:Wf r)(hn:r.n<=40)(h1:1<=most)(h2:most<=60):∃(c:List Nat) (f':List D),dN f r.d (iN most)=.ret (cT c,f')/\c.length=r.n/\c.sum<=most/\Fd (T+100) f':=by
 have n1:=w.n1
 unfold dN
 have z0:bM (λd2=>M.ret (some (.int 0))) ((List.range r.n).map iN)=.ret ((List.replicate r.n 0).map iN):=by
  rw[fG (e:=iN) (g:=λ_=>.int 0) (List.range r.n) (λ_ _=>rfl)]
  congr 1
  rw[List.map_replicate]
  apply JN
  ·simp
  ·intro i h1 h2;simp
 rw[dC,uB,oMS,bdR,dE _ (by lia),oMS,bdR,z0,bdR,iI (by simp;lia),bdR]
 obtain⟨h0,f1,e1,hh,hf1⟩:=cb (m:=most) hf (by lia) (by lia) (by lia)
 rw[e1,bdR];dsimp only
 rw[Bb,oMS,bdR,dE _ (by lia),oMS,bdR]
 let R:M (D×List D)->Prop:=λm=>∃(c:List Nat) (f':List D),m=.ret (cT c,f')/\c.length=r.n/\c.sum<=most/\Fd (T+100) f'
 refine gc (R:=R) (P:=λi s=>∃(c:List Nat) (f:List D),s=(f,r.d,c.map iN,())/\c.length=r.n/\c.sum<=i/\Fd (T+1+i) f) _ _ ?_ ⟨List.replicate r.n 0,f1,rfl,by simp,by simp,hf1⟩ ?_
 ·rintro i s d hd ⟨c,f,rfl,hc,hs,hf⟩ kn hkn
  obtain⟨rfl,hi⟩:=gR hd
  dsimp only
  unfold gB
  obtain⟨x,f2,e2,hx,hf2⟩:=cb (m:=r.n) hf (by lia) (by lia) (by lia)
  have hxl:x<c.length:=by lia
  have ix:aD (.list (c.map iN)) (iN x)=some (iN c[x]):=by rw[g8,show cH (.list (c.map iN)) (iN x)=_ from jJ iN c x hxl]
  have ad:bF (iN c[x]) (.int 1)=some (iN (c[x]+1)):=Dm c[x] 1
  rw[dC,uB,oMS,bdR,e2,bdR];dsimp only
  rw[ix,oMS,bdR,ad,oMS,bdR,show putD (c.map iN) (iN x) (iN (c[x]+1))=_ from rT (c[x]+1) hxl,oMS,bdR]
  refine hkn _ ⟨c.set x (c[x]+1),f2,rfl,by simp[hc],?_,hf2.le (by lia)⟩
  have:∀(c:List Nat) (x:Nat) (h:x<c.length),(c.set x (c[x]+1)).sum=c.sum+1:=by
   intro c
   induction c with
   | nil=>intro x h;simp at h
   | cons a c ih =>
    intro x h
    cases x with
    | zero=>simp;lia
    | succ x =>
     have:=ih x (by simpa using h)
     simp only[List.set_cons_succ,List.getElem_cons_succ,J8]
     lia
  rw[this c x hxl]
  lia
 ·rintro s ⟨c,f,rfl,hc,hs,hf⟩
  rw[zzd,ua]at hs hf
  dsimp only
  unfold gC
  rw[tM,oMS,bdR]
  exact⟨c,f,rfl,hc,by lia,hf.le (by lia)⟩
inductive Pth(r:Rl):List Nat->List Nat->List Nat->Prop
 | nil (c:List Nat):Pth r c [] c
 | cons {c c1 c':List Nat} {k:Nat} {ks:List Nat}:Goes r c k c1->Pth r c1 ks c'->Pth r c (k::ks) c'
theorem Pth.snoc{c1:List Nat}{k:Nat}(h:Pth r c ks c1)(g:Goes r c1 k c'):Pth r c (ks++[k]) c':=by
 induction h with
 | nil c=>exact .cons g (.nil _)
 | cons a _ ih=>exact .cons a (ih g)
structure Bfs(r:Rl)(c0:List Nat)(F:List (List Nat))(i:Nat)(δ:List Nat->Nat):Prop where
 nd:F.Nodup
 h0:c0∈F
 d0:δ c0=0
 mono:∀(j k:Nat) (hk:k<F.length) (hj:j<F.length),j<=k->δ F[j]<=δ F[k]
 top:∀(hi:i<F.length),∀c∈F,δ c<=δ F[i]+1
 cl:∀(j:Nat) (h:j<F.length),j<i->∀k c,Goes r F[j] k c->c∈F/\δ c<=δ F[j]+1
section
theorem Bfs.go(b:Bfs r c0 F i δ)(p:Pth r c ks c'):∀n:Nat,((c∈F/\δ c<=n)\/∃hi:i<F.length,δ F[i]+1<=n)->(c'∈F/\δ c'<=n+ks.length)\/∃hi:i<F.length,δ F[i]+1<=n+ks.length:=by
 induction p with
 | nil c=>exact λn h=>h
 | @cons c c1 c' k ks g p ih =>
  intro n h
  have h1:(c1∈F/\δ c1<=n+1)\/∃hi:i<F.length,δ F[i]+1<=n+1:=by
   rcases h with ⟨hc,hd⟩|⟨hi,hd⟩
   ·obtain⟨j,hj,rfl⟩:=rg hc
    rcases JW j i with lt|ge
    ·obtain⟨m,d⟩:=b.cl j hj lt k c1 g
     exact .inl ⟨m,by lia⟩
    ·have:=b.mono i j hj (by lia) ge
     exact .inr ⟨by lia,by lia⟩
   ·exact .inr ⟨hi,by lia⟩
  have:=ih (n+1) h1
  rw[qu]
  rcases this with ⟨m,d⟩|⟨hi,d⟩
  ·exact .inl ⟨m,by lia⟩
  ·exact .inr ⟨hi,by lia⟩
theorem Bfs.least(b:Bfs r c0 F i δ)(hc:c∈F)(p:Pth r c0 ks c):δ c<=ks.length:=by
 rcases b.go p 0 (.inl ⟨b.h0,by rw[b.d0];exact bi _⟩)with ⟨_,d⟩|⟨hi,d⟩
 ·lia
 ·have:=b.top hi c hc
  lia
theorem Bfs.add(b:Bfs r c0 F i δ)(hi:i<F.length)(hc:c∉F):Bfs r c0 (F++[c]) i (λx=>if x=c then δ F[i]+1 else δ x)/\(∀x∈F,(if x=c then δ F[i]+1 else δ x)=δ x):=by
 have ag:∀x∈F,(if x=c then δ F[i]+1 else δ x)=δ x:=λx hx=>am λ(z:x=c)=>hc (z▸hx)
 have a1:∀(j:Nat) (h:j<F.length) (h':j<(F++[c]).length),(F++[c])[j]=F[j]:=λj h h'=>wS h
 have gm:∀(j:Nat) (h:j<F.length),(if F[j]=c then δ F[i]+1 else δ F[j])=δ F[j]:=λj h=>ag _ (io h)
 refine⟨⟨?_,zzh _ b.h0,(ag _ b.h0).trans b.d0,λj k hk hj hjk=>?_,λh x hx=>?_,λj h hji k x g=>?_⟩,ag⟩
 ·rw[JY]
  exact⟨b.nd,by simp,λa ha b hb=>by rw[List.mem_singleton.mp hb];exact λz=>hc (z▸ha)⟩
 ·rw[zzf,ny]at hk hj
  by_cases h1:k<F.length
  ·rw[a1 j (by lia),a1 k h1]
   rw[gm j (by lia),gm k h1]
   exact b.mono j k h1 (by lia) hjk
  ·have ek:(F++[c])[k]=c:=by
    have:k=F.length:=by lia
    subst this
    simp
   rw[ek]
   rw[aw rfl]
   by_cases h2:j<F.length
   ·rw[a1 j h2,gm j h2]
    exact b.top hi _ (io h2)
   ·have ej:(F++[c])[j]=c:=by
     have:j=F.length:=by lia
     subst this
     simp
    rw[ej,aw rfl]
    exact ai _
 ·rw[a1 i hi]
  rw[gm i hi]
  rcases List.mem_append.mp hx with hx|hx
  ·rw[ag x hx];exact b.top hi x hx
  ·rw[List.mem_singleton.mp hx,aw rfl];exact ai _
 ·rw[zzf,ny]at h
  have hj:j<F.length:=by lia
  rw[a1 j hj]at g ⊢
  rw[gm j hj]
  obtain⟨m,d⟩:=b.cl j hj hji k x g
  exact⟨zzh _ m,by rw[ag x m];exact d⟩
theorem Bfs.next(b:Bfs r c0 F i δ)(hi:i<F.length)(al:∀k c,Goes r F[i] k c->c∈F):Bfs r c0 F (i+1) δ where
 nd:=b.nd
 h0:=b.h0
 d0:=b.d0
 mono:=b.mono
 top:=λh c hc=>by
  have h1:=b.top hi c hc
  have h2:=b.mono i (i+1) h hi (by lia)
  lia
 cl:=λj h hji k c g=>by
  rcases JW j i with lt|ge
  ·exact b.cl j h lt k c g
  ·have:j=i:=by lia
   subst this
   exact⟨al k c g,b.top hi c (al k c g)⟩
theorem Bfs.start(r:Rl)(c0:List Nat):Bfs r c0 [c0] 0 (λ_=>0) where
 nd:=by simp
 h0:=List.mem_singleton.mpr rfl
 d0:=rfl
 mono:=λj k _ _ _=>ai _
 top:=λ_ c _=>bi _
 cl:=λj h z=>absurd z (Nat.not_lt_zero _)
theorem Bfs.all(b:Bfs r c0 F F.length δ)(h:Rch r c0 c):c∈F:=by
 induction h with
 | refl=>exact b.h0
 | step _ g ih =>
  obtain⟨j,hj,rfl⟩:=rg ih
  exact(b.cl j hj hj _ _ g).1
end
inductive Bk(r:Rl)(v:List Nat->D)(c0:List Nat)(F:List (List Nat)):List Nat->List (Nat×List Nat)->Prop
 | nil:v c0=.none->Bk r v c0 F c0 []
 | snoc {h c:List Nat} {k:Nat} {ps:List (Nat×List Nat)}:Bk r v c0 F h ps->h∈F->Goes r h k c->v c=.tuple [cT h,ld (k,c)]->Bk r v c0 F c (ps++[(k,c)])
theorem Bk.mono{v v':List Nat->D}{F':List (List Nat)}(hv:∀x∈F,v' x=v x)(hF:∀x∈F,x∈F')(b:Bk r v c0 F c ps):c∈F->Bk r v' c0 F' c ps:=by
 induction b with
 | nil e=>exact λhc=>.nil ((hv _ hc).trans e)
 | snoc b hh g e ih=>exact λhc=>.snoc (ih hh) (hF _ hh) g ((hv _ hc).trans e)
theorem Bk.pth{v:List Nat->D}(b:Bk r v c0 F c ps):Pth r c0 (ps.map (·.1)) c:=by
 induction b with
 | nil e=>exact .nil _
 | snoc b hh g e ih=>rw[ls];exact ih.snoc g
noncomputable abbrev GS:D×List D×D×Unit->(D×List D×D×Unit->M D)->M D:=λs10 kn=>cu s10.1 s10.2.1 s10.2.2.1 kn
theorem EE{v:List Nat->D}(b:Bk r v c0 F c ps):∀(acc:List (Nat×List Nat)) (fuel:Nat),ps.length<fuel->acc.length+ps.length<=90000 ->
  aV GS fuel (.dict (F.map (kE v)),acc.map ld,v c,())=.ret (.list (ps.map ld++acc.reverse.map ld)):=by
 induction b with
 | nil e =>
  intro acc fuel hf hl
  obtain⟨fuel,rfl⟩:∃n,fuel=n+1:=⟨fuel - 1,by simp at hf;lia⟩
  rw[aV,e]
  show cu _ (acc.map ld) .none _=_
  unfold cu
  rw[show db .none .none=some false from rfl,oMS,bdR,am (by decide)]
  unfold kC
  rw[show wD [.list (acc.map ld)]=some (acc.map ld).reverse from rfl,oMS,bdR,bdR,<-List.map_reverse]
  rfl
 | @snoc h c k ps b hh g e ih =>
  intro acc fuel hf hl
  rw[zzf,ny]at hf hl
  obtain⟨fuel,rfl⟩:∃n,fuel=n+1:=⟨fuel - 1,by lia⟩
  have:=ih (acc++[(k,c)]) fuel (by lia) (by rw[zzf,ny];lia)
  rw[aV,e]
  show cu (.dict (F.map (kE v))) (acc.map ld) (.tuple [cT h,ld (k,c)]) _=_
  unfold cu
  have i1:aD (.tuple [cT h,ld (k,c)]) (.int 1)=some (ld (k,c)):=by rw[dC,FE]
  have i0:aD (.tuple [cT h,ld (k,c)]) (.int 0)=some (cT h):=by rw[dC,uB]
  rw[show db (.tuple [cT h,ld (k,c)]) .none=some true from rfl,oMS,bdR,aw rfl,i1,oMS,bdR,jr _ _ (by rw[zzd];lia),oMS,bdR,i0,oMS,bdR,jI v hh,oMS,bdR]
  rw[ls]at this
  refine Eq.trans this ?_
  simp
theorem zc{v:List Nat->D}(b:Bk r v c0 F c ps)(hc:c∈F)(hl:ps.length<=900):jO (.dict (F.map (kE v))) (cT c)=.ret (.list (ps.map ld)):=by
 unfold jO
 rw[jI v hc,oMS,bdR,dO]
 have:=EE b [] 10000 (by lia) (by simp;lia)
 simpa using this
def Good(r:Rl)(c0:List Nat)(F:List (List Nat))(v:List Nat->D)(δ:List Nat->Nat):Prop:=∀c∈F,∃ps,Bk r v c0 F c ps/\ps.length<F.length/\ps.length=δ c
theorem Good.add{v:List Nat->D}{h:List Nat}{k:Nat}(al:Good r c0 F v δ)(hh:h∈F)(g:Goes r h k c)(hc:c∉F):Good r c0 (F++[c]) (λx=>if x=c then .tuple [cT h,ld (k,c)]else v x) (λx=>if x=c then δ h+1 else δ x)/\F.map (kE v)=F.map (kE λx=>if x=c then .tuple [cT h,ld (k,c)]else v x):=by
 have ag:∀x∈F,(if x=c then PyData.tuple [cT h,ld (k,c)]else v x)=v x:=λx hx=>am (λ(z:x=c)=>hc (z▸hx))
 have mono:∀x∈F,∀ps,Bk r v c0 F x ps->Bk r (λx=>if x=c then .tuple [cT h,ld (k,c)]else v x) c0 (F++[c]) x ps:=λx hx ps b=>b.mono ag (λy hy=>zzh _ hy) hx
 refine⟨λx hx=>?_,?_⟩
 ·rw[zzf,ny]
  rcases List.mem_append.mp hx with hx|hx
  ·obtain⟨ps,b,l,e⟩:=al x hx
   exact⟨ps,mono x hx ps b,by lia,e.trans (am λ(z:x=c)=>hc (z▸hx)).symm⟩
  ·rw[List.mem_singleton.mp hx]
   obtain⟨ps,b,l,e⟩:=al h hh
   exact⟨ps++[(k,c)],.snoc (mono h hh ps b) (zzh _ hh) g (aw rfl),by rw[zzf,ny];lia,by rw[zzf,ny,e];exact(aw rfl).symm⟩
 ·refine Kh λx hx=>?_
  show(cT x,v x)=(cT x,if x=c then _ else v x)
  rw[ag x hx]
section
variable (w:Wf r) (hc0:c0.length=r.n) {Rs:List (List Nat)} (mem:∀c,c∈Rs↔Rch r c0 c) (hB:Rs.length<=900)
include w hc0 mem hB
theorem Bs{R:M D->Prop}{v:List Nat->D}(q:Good r c0 F v δ)(b:Bfs r c0 F n δ)(sub:∀c∈F,c∈Rs)(hn:n<F.length)(L G:D)(i:D)(kn3:D×D×List (D×D)×List D×D×Unit->M D)(k:D×D×List (D×D)×List D×D×D×Unit->M D)
  (hk:∀F' v' δ',Good r c0 F' v' δ'->Bfs r c0 F' n δ'->(∃E,F'=F++E)->(∀c∈F',c∈Rs)->(∀p∈bC r F[n],p.2∈F')->R (k (L,G,F'.map (kE v'),F'.map cT,i,cT F[n],()))) :
  R (dg (λs17 d18 kn=>hZ kn3 s17.1 s17.2.1 s17.2.2.1 s17.2.2.2.1 s17.2.2.2.2.1 s17.2.2.2.2.2.1 d18 kn) ((bC r F[n]).map ld) (L,G,F.map (kE v),F.map cT,i,cT F[n],()) k):=by
 have hh:F[n]∈F:=io hn
 have hhl:F[n].length=r.n:=(((mem _).mp (sub _ hh)).fit w hc0).1
 refine gc (R:=R) (P:=λj s=>∃F' v' δ',s=(L,G,F'.map (kE v'),F'.map cT,i,cT F[n],())/\Good r c0 F' v' δ'/\Bfs r c0 F' n δ'/\(∃E,F'=F++E)/\(∀c∈F',c∈Rs)/\(∀p∈(bC r F[n]).take j,p.2∈F')) _ _ ?_ ⟨F,v,δ,rfl,q,b,⟨[],(ou _).symm⟩,sub,λp hp=>by simp at hp⟩ ?_
 ·rintro j s d hd ⟨F',v',δ',rfl,q',b',⟨E,hE⟩,sub',all'⟩ kn hkn
  rw[nu]at hd
  obtain⟨p,hp,rfl⟩:=Option.map_eq_some_iff.mp hd
  have pm:p∈bC r F[n]:=ut hp
  have g:Goes r F[n] p.1 p.2:=(iF w hhl).mp pm
  have tk:(bC r F[n]).take (j+1)=(bC r F[n]).take j++[p]:=by
   rw[List.take_add_one,hp]
   rfl
  have hle:=bZ b'.nd sub'
  have hn':n<F'.length:=by rw[hE,zzf];lia
  have en:F'[n]=F[n]:=by simp only[hE];exact wS hn
  dsimp only
  unfold hZ
  rw[ld1,oMS,bdR,cW,oMS,bdR]
  by_cases hin:p.2∈F'
  ·rw[eT hin,am (by decide)]
   refine hkn _ ⟨F',v',δ',rfl,q',b',⟨E,hE⟩,sub',λx hx=>?_⟩
   rw[tk]at hx
   rcases List.mem_append.mp hx with hx|hx
   ·exact all' x hx
   ·rw[List.mem_singleton.mp hx];exact hin
  ·obtain⟨q2,e2⟩:=q'.add (h:=F'[n]) (k:=p.1) (c:=p.2) (io hn') (en▸g) hin
   have b2:=(b'.add hn' hin).1
   have pt:=lP (λx=>if x=p.2 then .tuple [cT F'[n],ld p]else v' x) hin (by lia)
   rw[aw rfl,en]at pt
   rw[en]at e2
   rw[cr hin,aw (show(!false)=true from rfl),bdR,e2,pt,oMS,bdR,bdR,jr _ _ (by rw[zzd];lia),oMS,bdR]
   have:=hkn (L,G,(F'++[p.2]).map (kE λx=>if x=p.2 then .tuple [cT F[n],ld p]else v' x),(F'++[p.2]).map cT,i,cT F[n],()) ⟨F'++[p.2],_,_,rfl,en▸q2,en▸b2,⟨E++[p.2],by rw[hE,Ba]⟩,λx hx=>?_,λx hx=>?_⟩
   ·rw[ls (f:=cT)]at this
    exact this
   ·rcases List.mem_append.mp hx with hx|hx
    ·exact sub' x hx
    ·rw[List.mem_singleton.mp hx]
     exact(mem _).mpr (.step ((mem _).mp (sub _ hh)) g)
   ·rw[tk]at hx
    rcases List.mem_append.mp hx with hx|hx
    ·exact zzh _ (all' x hx)
    ·rw[List.mem_singleton.mp hx];simp
 ·rintro s ⟨F',v',δ',rfl,q',b',hE,sub',all'⟩
  rw[zzd,List.take_length]at all'
  exact hk F' v' δ' q' b' hE sub' all'
def vf(r:Rl)(c0 goal:List Nat)(m:M D):Prop:=∃ps:List (Nat×List Nat),m=.ret (.list (ps.map ld))/\Pth r c0 (ps.map (·.1)) goal/\ps.length<=900/\∀ks,Pth r c0 ks goal->ps.length<=ks.length
noncomputable abbrev Dw:D×D×List (D×D)×List D×D×Unit->(D×D×List (D×D)×List D×D×Unit->M D)->M D:=λs19 kn=>eR s19.1 s19.2.1 s19.2.2.1 s19.2.2.2.1 s19.2.2.2.2.1 kn
theorem yJ{F0:List (List Nat)}(h0:∀c,c∈F0↔c∈Rs){goal:List Nat}(hg:Rch r c0 goal):∀(fuel i:Nat) (F:List (List Nat)) (v:List Nat->D) (δ:List Nat->Nat),Good r c0 F v δ->Bfs r c0 F i δ->(∀c∈F,c∈Rs)->i<=F.length ->
  (∀(j:Nat) (h:j<F.length),j<i->F[j]≠goal)->Rs.length<fuel+i ->
  vf r c0 goal (aV Dw fuel (.dict (F0.map (kE (vL r))),.dict ([goal].map (kE vT)),F.map (kE v),F.map cT,iN i,()))
 | 0,i,F,v,δ,q,b,sub,hi,_,hf=>by
  have:=bZ b.nd sub
  lia
 | fuel+1,i,F,v,δ,q,b,sub,hi,cl,hf=>by
  have hle:=bZ b.nd sub
  have hlt:i<F.length:=by
   rcases JW i F.length with h|h
   ·exact h
   ·have hiF:i=F.length:=by lia
    subst hiF
    obtain⟨j,hj,e⟩:=rg (b.all hg)
    exact absurd e (cl j hj hj)
  have ix:aD (.list (F.map cT)) (iN i)=some (cT F[i]):=by
   rw[g8,show cH (.list (F.map cT)) (iN i)=_ from jJ cT F i hlt]
  rw[aV]
  show vf r c0 goal (eR _ _ (F.map (kE v)) (F.map cT) (iN i) (λs'=>aV Dw fuel s'))
  unfold eR
  rw[ix,oMS,bdR,cW vT,oMS,bdR]
  by_cases hgo:F[i]=goal
  ·rw[eT (by rw[hgo];exact List.mem_singleton.mpr rfl),am (by decide)]
   unfold kB
   obtain⟨ps,bk,l,el⟩:=q F[i] (io hlt)
   rw[ix,oMS,bdR,zc bk (io hlt) (by lia),bdR]
   exact⟨ps,rfl,hgo▸bk.pth,by lia,λks p=>by rw[el];exact b.least (io hlt) (hgo▸p)⟩
  ·have hin:F[i]∈F0:=(h0 _).mpr (sub _ (io hlt))
   rw[cr (λz=>hgo (List.mem_singleton.mp z)),aw (show(!false)=true from rfl),bdR,jI (vL r) hin,oMS,bdR,show cG (vL r F[i])=some ((bC r F[i]).map ld)from rfl,oMS,bdR]
   refine Bs w hc0 mem hB q b sub hlt _ _ _ _ _ λF' v' δ' q' b' hE sub' all'=>?_
   obtain⟨E,hE⟩:=hE
   dsimp only
   unfold kA
   rw[show mq (iN i) (.int 1)=some (iN (i+1))from Ef i,oMS,bdR]
   have hfl:F[i].length=r.n:=(((mem _).mp (sub _ (io hlt))).fit w hc0).1
   have hlt':i<F'.length:=by rw[hE,zzf];lia
   have at':∀(j:Nat) (h':j<F.length) (h:j<F'.length),F'[j]=F[j]:=λj h' h=>by
    simp only[hE]
    exact wS h'
   refine yJ h0 hg fuel (i+1) F' v' δ' q' (b'.next hlt' λk c g=>all' (k,c) ((iF w hfl).mpr (at' i hlt hlt'▸g))) sub' (by lia) (λj h hji=>?_) (by lia)
   rw[at' j (by lia) h]
   rcases JW j i with lt|ge
   ·exact cl j (by lia) lt
   ·have:j=i:=by lia
    subst this
    exact hgo
theorem yK{F0:List (List Nat)}(h0:∀c,c∈F0↔c∈Rs){goal:List Nat}(hg:Rch r c0 goal):vf r c0 goal (jN (.dict (F0.map (kE (vL r)))) (cT c0) (.dict [(cT goal,.bool true)])):=by
 unfold jN dA
 rw[eg]
 dsimp only
 rw[dO]
 refine yJ w hc0 mem hB h0 hg 10000 0 [c0] (λ_=>.none) (λ_=>0) (λc hc=>?_) (Bfs.start r c0) (λc hc=>?_) (bi _) (λj h z=>absurd z (Nat.not_lt_zero _)) (by lia)
 ·rw[List.mem_singleton.mp hc]
  exact⟨[],.nil rfl,by simp,rfl⟩
 ·rw[List.mem_singleton.mp hc]
  exact(mem _).mpr .refl
end
def Bi(r:Rl)(c0 goal ks:List Nat):Prop:=Pth r c0 ks goal/\ks.length<=900/\∀ks',Pth r c0 ks' goal->ks.length<=ks'.length
theorem Jm(ps:List (Nat×List Nat)):bM (λd5=>bd (oM (aD d5 (.int 0))) λx6=>M.ret (some x6)) (ps.map ld)=.ret ((ps.map (·.1)).map iN):=by
 rw[fG (e:=ld) (g:=λp=>iN p.1) ps (λp _=>by rw[dC,uB,oMS,bdR]),wP]
 rfl
section
variable (w:Wf r) (hn:r.n<=40) (hm:r.ms.length<=2000) {R:List (List Nat)} (hc0:c0.length=r.n) (hR:R.Nodup) (mem:∀c,c∈R↔Rch r c0 c) (hB:R.length<=900)
include w hn hm hc0 hR mem hB
theorem qU(goal:List Nat)(hl:R.length<=limit):(goal∉R/\bU r.d (cT c0) (cT goal) (iN limit)=.ret .none)\/(goal∈R/\∃ks,bU r.d (cT c0) (cT goal) (iN limit)=.ret (.list (ks.map iN))/\Bi r c0 goal ks):=by
 obtain⟨_,F,pm,e⟩:=(ww w hn hm hc0 hR mem hB limit).resolve_right (λh=>by lia)
 unfold bU
 rw[e,bdR,cW,oMS,bdR]
 by_cases hg:goal∈R
 ·right
  refine⟨hg,?_⟩
  rw[eT (pm.mem_iff.mpr hg),am (by decide)]
  obtain⟨ps,e2,p,l,sh⟩:=yK w hc0 mem hB (F0:=F) (λc=>pm.mem_iff) ((mem goal).mp hg)
  have ok:dA (cT goal) (M.ret (PyData.dict [(cT goal,PyData.bool true)]))=.ret (.dict [(cT goal,.bool true)]):=by unfold dA;rw[eg]
  refine⟨ps.map (·.1),?_,p,by rw[zzd];exact l,λks hk=>by rw[zzd];exact sh ks hk⟩
  rw[ok,bdR,e2,bdR,show cG (PyData.list (ps.map ld))=some (ps.map ld)from rfl,oMS,bdR,Jm,bdR,sF (by rw[zzd,zzd];lia),bdR,bdR]
 ·left
  exact⟨hg,by rw[cr (λz=>hg (pm.mem_iff.mp z)),aw (show(!false)=true from rfl)]⟩
theorem tG(goal:D)(hl:limit<R.length):bU r.d (cT c0) goal (iN limit)=.exc tooMany:=by
 obtain⟨_,e⟩:=(ww w hn hm hc0 hR mem hB limit).resolve_left (λh=>by lia)
 unfold bU
 rw[e]
 rfl
end
theorem tN{g:D}(h:bU r.d (cT c) g (iN n)=.exc tooMany):bN (fnD "_law_ask") (.tuple [r.d,cT c,g,iN n])=.ret (.bool true):=by
 have e:cN (.tuple [r.d,cT c,g,iN n])=.exc tooMany:=by
  unfold cN un4
  dsimp only
  rw[h]
  rfl
 unfold bN
 rw[show E8 (fnD "_law_ask") "_law_ask" (cN (.tuple [r.d,cT c,g,iN n]))=cN (.tuple [r.d,cT c,g,iN n])from by unfold E8;rw[show fnQ (fnD "_law_ask") "_law_ask" = true from by decide +kernel],e]
 show oE ["TooMany"] tooMany.cls _=_
 kernel_rfl
abbrev vF(δ:List Nat->Nat):List Nat->D:=λc=>iN (δ c)
noncomputable abbrev vA:D×List (D×D)×List D×D×Unit->(D×List (D×D)×List D×D×Unit->M D)->M D:=λs19 kn=>cS s19.1 s19.2.1 s19.2.2.1 s19.2.2.2.1 kn
def Dp(r:Rl)(c0:List Nat)(F:List (List Nat))(δ:List Nat->Nat):Prop:=∀c∈F,∃ks,Pth r c0 ks c/\ks.length=δ c
def vn(r:Rl)(c0:List Nat)(m:M D):Prop:=∃(F:List (List Nat)) (δ:List Nat->Nat),m=.ret (.dict (F.map (kE (vF δ))))/\(∀c,c∈F↔Rch r c0 c)/\∀c∈F,(∃ks,Pth r c0 ks c/\ks.length=δ c)/\∀ks,Pth r c0 ks c->δ c<=ks.length
section
variable (w:Wf r) (hc0:c0.length=r.n) {Rs:List (List Nat)} (mem:∀c,c∈Rs↔Rch r c0 c) (hB:Rs.length<=900)
include w hc0 mem hB
theorem FP{S:M D->Prop}(q:Dp r c0 F δ)(b:Bfs r c0 F n δ)(sub:∀c∈F,c∈Rs)(hn:n<F.length)(L:D)(kn1:D×List (D×D)×List D×D×Unit->M D)(k:D×List (D×D)×List D×D×Unit->M D)
  (hk:∀F' δ',Dp r c0 F' δ'->Bfs r c0 F' n δ'->(∃E,F'=F++E)->(∀c∈F',c∈Rs)->(∀p∈bg r F[n] r.ms.zipIdx,p.2∈F')->S (k (L,F'.map (kE (vF δ')),F'.map cT,iN n,()))) :
  S (dg (λs17 d18 kn=>fk kn1 s17.1 s17.2.1 s17.2.2.1 s17.2.2.2.1 d18 kn) ((bg r F[n] r.ms.zipIdx).map ld) (L,F.map (kE (vF δ)),F.map cT,iN n,()) k):=by
 have hh:F[n]∈F:=io hn
 refine gc (R:=S) (P:=λj s=>∃F' δ',s=(L,F'.map (kE (vF δ')),F'.map cT,iN n,())/\Dp r c0 F' δ'/\Bfs r c0 F' n δ'/\(∃E,F'=F++E)/\(∀c∈F',c∈Rs)/\(∀p∈(bg r F[n] r.ms.zipIdx).take j,p.2∈F')) _ _ ?_ ⟨F,δ,rfl,q,b,⟨[],(ou _).symm⟩,sub,λp hp=>by simp at hp⟩ ?_
 ·rintro j s d hd ⟨F',δ',rfl,q',b',⟨E,hE⟩,sub',all'⟩ kn hkn
  rw[nu]at hd
  obtain⟨p,hp,rfl⟩:=Option.map_eq_some_iff.mp hd
  have pm:p∈bg r F[n] r.ms.zipIdx:=ut hp
  have g:Goes r F[n] p.1 p.2:=mem_steps.mp pm
  have tk:(bg r F[n] r.ms.zipIdx).take (j+1)=(bg r F[n] r.ms.zipIdx).take j++[p]:=by
   rw[List.take_add_one,hp]
   rfl
  have hle:=bZ b'.nd sub'
  have hn':n<F'.length:=by rw[hE,zzf];lia
  have en:F'[n]=F[n]:=by simp only[hE];exact wS hn
  have ix:aD (.list (F'.map cT)) (iN n)=some (cT F'[n]):=by
   rw[g8,show cH (.list (F'.map cT)) (iN n)=_ from jJ cT F' n hn']
  dsimp only
  unfold fk un2
  dsimp only
  rw[cW,oMS,bdR]
  by_cases hin:p.2∈F'
  ·rw[eT hin,am (by decide)]
   refine hkn _ ⟨F',δ',rfl,q',b',⟨E,hE⟩,sub',λx hx=>?_⟩
   rw[tk]at hx
   rcases List.mem_append.mp hx with hx|hx
   ·exact all' x hx
   ·rw[List.mem_singleton.mp hx];exact hin
  ·obtain⟨b2,ag⟩:=b'.add hn' hin
   have e2:F'.map (kE (vF δ'))=F'.map (kE (vF λx=>if x=p.2 then δ' F'[n]+1 else δ' x)):=Kh λx hx=>by
    exact congrArg (λi:Nat=>(cT x,iN i)) (ag x hx).symm
   have pt:=lP (vF λx=>if x=p.2 then δ' F'[n]+1 else δ' x) hin (by lia)
   rw[show vF (λx=>if x=p.2 then δ' F'[n]+1 else δ' x) p.2=iN (δ' F'[n]+1)from congrArg iN (aw rfl),<-e2]at pt
   rw[cr hin,aw (show(!false)=true from rfl),ix,oMS,bdR,jI (vF δ') (io hn'),oMS,bdR,show bF (vF δ' F'[n]) (.int 1)=some (iN (δ' F'[n]+1))from Dm _ 1,oMS,bdR,pt,oMS,bdR,jr _ _ (by rw[zzd];lia),oMS,bdR]
   have:=hkn (L,(F'++[p.2]).map (kE (vF λx=>if x=p.2 then δ' F'[n]+1 else δ' x)),(F'++[p.2]).map cT,iN n,()) ⟨F'++[p.2],_,rfl,λx hx=>?_,b2,⟨E++[p.2],by rw[hE,Ba]⟩,λx hx=>?_,λx hx=>?_⟩
   ·rw[ls (f:=cT)]at this
    exact this
   ·rcases List.mem_append.mp hx with hx|hx
    ·obtain⟨ks,p1,l1⟩:=q' x hx
     exact⟨ks,p1,l1.trans (ag x hx).symm⟩
    ·rw[List.mem_singleton.mp hx]
     obtain⟨ks,p1,l1⟩:=q' F'[n] (io hn')
     exact⟨ks++[p.1],p1.snoc (en▸g),by rw[zzf,ny,l1];exact(aw rfl).symm⟩
   ·rcases List.mem_append.mp hx with hx|hx
    ·exact sub' x hx
    ·rw[List.mem_singleton.mp hx]
     exact(mem _).mpr (.step ((mem _).mp (sub _ hh)) g)
   ·rw[tk]at hx
    rcases List.mem_append.mp hx with hx|hx
    ·exact zzh _ (all' x hx)
    ·rw[List.mem_singleton.mp hx];simp
 ·rintro s ⟨F',δ',rfl,q',b',hE,sub',all'⟩
  rw[zzd,List.take_length]at all'
  exact hk F' δ' q' b' hE sub' all'
theorem As{F0:List (List Nat)}(h0:∀c,c∈F0↔c∈Rs):∀(fuel i:Nat) (F:List (List Nat)) (δ:List Nat->Nat),Dp r c0 F δ->Bfs r c0 F i δ->(∀c∈F,c∈Rs)->i<=F.length->Rs.length<fuel+i ->
  vn r c0 (aV vA fuel (.dict (F0.map (kE (vS r))),F.map (kE (vF δ)),F.map cT,iN i,()))
 | 0,i,F,δ,q,b,sub,hi,hf=>by
  have:=bZ b.nd sub
  lia
 | fuel+1,i,F,δ,q,b,sub,hi,hf=>by
  have hle:=bZ b.nd sub
  have ll:dI [.list (F.map cT)]=some (iN F.length):=by rw[L4.lenL,zzd]
  have lt:ki (iN i) (iN F.length)=some (decide (i<F.length)):=by
   show tZ (.int _) (.int _)=_
   rw[L4.ltI]
   exact congrArg some (decide_eq_decide.mpr (by lia))
  rw[aV]
  show vn r c0 (cS _ (F.map (kE (vF δ))) (F.map cT) (iN i) (λs'=>aV vA fuel s'))
  unfold cS
  rw[ll,oMS,bdR,lt,oMS,bdR]
  by_cases hlt:i<F.length
  ·have ix:aD (.list (F.map cT)) (iN i)=some (cT F[i]):=by
    rw[g8,show cH (.list (F.map cT)) (iN i)=_ from jJ cT F i hlt]
   have hin:F[i]∈F0:=(h0 _).mpr (sub _ (io hlt))
   rw[aw (eT hlt),ix,oMS,bdR,jI (vS r) hin,oMS,bdR,show cG (vS r F[i])=some ((bg r F[i] r.ms.zipIdx).map ld)from rfl,oMS,bdR]
   refine FP w hc0 mem hB q b sub hlt _ _ _ λF' δ' q' b' hE sub' all'=>?_
   obtain⟨E,hE⟩:=hE
   dsimp only
   unfold i4
   rw[show bF (iN i) (.int 1)=some (iN (i+1))from Dm i 1,oMS,bdR]
   have hlt':i<F'.length:=by rw[hE,zzf];lia
   have at':F'[i]=F[i]:=by
    simp only[hE]
    exact wS hlt
   exact As h0 fuel (i+1) F' δ' q' (b'.next hlt' λk c g=>all' (k,c) (mem_steps.mpr (at'▸g))) sub' (by lia) (by lia)
  ·rw[am (by rw[zzi];exact hlt)]
   unfold i5
   have hiF:i=F.length:=by lia
   subst hiF
   exact⟨F,δ,rfl,λc=>⟨λhc=>(mem c).mp (sub c hc),b.all⟩,λc hc=>⟨q c hc,λks p=>b.least hc p⟩⟩
theorem FO{F0:List (List Nat)}(h0:∀c,c∈F0↔c∈Rs):vn r c0 (gj (.dict (F0.map (kE (vS r)))) (cT c0)):=by
 unfold gj dA
 rw[eg]
 dsimp only
 rw[dO]
 refine As w hc0 mem hB h0 10000 0 [c0] (λ_=>0) (λc hc=>?_) (Bfs.start r c0) (λc hc=>?_) (bi _) (by lia)
 ·rw[List.mem_singleton.mp hc]
  exact⟨[],.nil _,rfl⟩
 ·rw[List.mem_singleton.mp hc]
  exact(mem _).mpr .refl
end
abbrev sE(p:Nat×List Nat):D×D:=(iN p.1,cT p.2)
theorem Ad(a b:Nat):eK (iN a) (iN b)=decide (a=b):=by
 show decide ((a:Int)=(b:Int))=_
 exact decide_eq_decide.mpr (by lia)
theorem vE:∀(ps qs:List (Nat×List Nat)),((qs++ps).map (·.1)).Nodup->(qs++ps).length<=90000->oB false (qs.map sE) (ps.map ld)=some ((qs++ps).map sE)
 | [],qs,_,_=>by rw[ou];rfl
 | p::ps,qs,nd,hl=>by
  have e:qs++p::ps=(qs++[p])++ps:=by simp
  have h1:gI false (qs.map sE) (iN p.1) (cT p.2)=some ((qs++[p]).map sE):=by
   unfold gI
   rw[aw,lQ,ls]
   ·rfl
   ·intro x hx
    obtain⟨q,hq,rfl⟩:=List.mem_map.mp hx
    rw[show eK (sE q).1 (iN p.1)=_ from Ad q.1 p.1,ur]
    rw[ls,JY]at nd
    exact nd.2.2 q.1 (List.mem_map.mpr ⟨q,hq,rfl⟩) p.1 (by simp)
   ·rw[zzf]at hl
    rw[ax,zzi,zzd]
    exact⟨rfl,Is (show qs.length<=90000 by lia) (by decide)⟩
  show(gI false (qs.map sE) (iN p.1) (cT p.2)).bind (λes1=>oB false es1 (ps.map ld))=_
  rw[h1,e]
  exact vE ps (qs++[p]) (e▸nd) (e▸hl)
theorem lz(r:Rl)(l:List Nat):∀ps:List (Mt×Nat),List.Sublist ((bg r l ps).map (·.1)) (ps.map (·.2))
 | []=>.slnil
 | p::ps=>by
  have ih:=lz r l ps
  unfold bg at ih ⊢
  rw[List.flatMap_cons]
  split
  ·exact .cons_cons _ ih
  ·exact .cons _ ih
theorem ka(r:Rl)(l:List Nat):((bg r l r.ms.zipIdx).map (·.1)).Nodup:=by
 refine(lz r l _).nodup ?_
 rw[show r.ms.zipIdx.map (·.2)=List.range' 0 r.ms.length from List.zipIdx_map_snd 0 r.ms]
 exact List.nodup_range'
theorem FU(r:Rl)(l:List Nat)(hm:r.ms.length<=90000):wK false (vS r l)=some ((bg r l r.ms.zipIdx).map sE):=by
 have h:=jU r l r.ms.zipIdx
 rw[Ix]at h
 exact vE (bg r l r.ms.zipIdx) [] (ka r l) (by rw[List.nil_append];lia)
theorem sj(ps:List (Nat×List Nat))(k:Nat):keyOk (ps.map sE) (iN k)=true:=by
 unfold keyOk
 rw[oC]
 right
 rw[ax,pd]
 refine⟨rfl,λx hx=>?_⟩
 obtain⟨q,_,rfl⟩:=List.mem_map.mp hx
 rfl
theorem wv{k:Nat}{c:List Nat}:∀(ps:List (Nat×List Nat)),(ps.map (·.1)).Nodup->(k,c)∈ps->gb (ps.map sE) (iN k)=some (cT c)
 | [],_,h=>(nomatch h)
 | q::ps,nd,h=>by
  rw[bj,List.nodup_cons]at nd
  unfold gb
  rw[bj,ss,show eK (sE q).1 (iN k)=_ from Ad q.1 k]
  rcases List.mem_cons.mp h with rfl|h
  ·rw[eT rfl]
   rfl
  ·rw[cr (λ(z:q.1=k)=>nd.1 (z▸List.mem_map.mpr ⟨(k,c),h,rfl⟩))]
   exact wv ps nd.2 h
theorem z5(hm:r.ms.length<=90000){goal:List Nat}(mem:∀c,c∈F↔Rch r c0 c)(p:Pth r c0 ks goal):dM (.dict (F.map (kE (vS r)))) (cT c0) (.list (ks.map iN)) (cT goal)=.ret (.bool true):=by
 unfold dM
 rw[show sA "list" (PyData.list (ks.map iN))=some true from rfl,oMS,bdR,bdR,am (by decide),show cG (PyData.list (ks.map iN))=some (ks.map iN)from rfl,oMS,bdR]
 refine gc (R:=λm=>m=M.ret (PyData.bool true)) (P:=λj s=>∃c,s=(PyData.dict (F.map (kE (vS r))),cT c,cT goal,())/\Rch r c0 c/\Pth r c (ks.drop j) goal) _ _ ?_ ⟨c0,rfl,.refl,p⟩ ?_
 ·rintro j s d hd ⟨c,rfl,hr,hp⟩ kn hkn
  rw[nu]at hd
  obtain⟨k,hk,rfl⟩:=Option.map_eq_some_iff.mp hd
  have dr:ks.drop j=k::ks.drop (j+1):=by
   obtain⟨hj,e⟩:=List.getElem?_eq_some_iff.mp hk
   rw[su hj,e]
  rw[dr]at hp
  cases hp with
  | cons g hp =>
  rename_i c1
  have mm:=mem_steps.mpr g
  have ge:=wv _ (ka r c) mm
  have ni:bx (iN k) (.dict ((bg r c r.ms.zipIdx).map sE))=some false:=by
   show(if keyOk ((bg r c r.ms.zipIdx).map sE) (iN k)then some (!(gb ((bg r c r.ms.zipIdx).map sE) (iN k)).isSome)else none)=_
   rw[aw (sj _ k),ge]
   rfl
  have ix:aD (.dict ((bg r c r.ms.zipIdx).map sE)) (iN k)=some (cT c1):=by
   show(if keyOk ((bg r c r.ms.zipIdx).map sE) (iN k)then gb ((bg r c r.ms.zipIdx).map sE) (iN k)else none)=_
   rw[aw (sj _ k),ge]
  dsimp only
  unfold gz
  rw[jI (vS r) ((mem c).mpr hr),oMS,bdR,FU r c hm,oMS,bdR,show sA "int" (iN k)=some true from rfl,oMS,bdR,bdR,am (by decide),show sA "bool" (iN k)=some false from rfl,oMS,bdR,am (by decide),ni,oMS,bdR,am (by decide),ix,oMS,bdR]
  exact hkn _ ⟨c1,rfl,.step hr g,hp⟩
 ·rintro s ⟨c,rfl,hr,hp⟩
  rw[zzd,KN]at hp
  cases hp
  dsimp only
  unfold gA
  rw[L4.eqT,oMS,bdR,bdR,eT rfl]
theorem wZ{f:List D}{hands:Nat}(hf:Fd T f)(hT:T<=900000)(w:Wf r)(hn:r.n<=40)(h2:hands<=60):∃(c:List Nat) (f':List D),cR f r.d (iN hands)=.ret (cT c,f')/\Fd (T+100) f':=by
 have n1:=w.n1
 unfold cR
 have z0:bM (λd2=>M.ret (some (.int 0))) ((List.range r.n).map iN)=.ret ((List.replicate r.n 0).map iN):=by
  rw[fG (e:=iN) (g:=λ_=>.int 0) (List.range r.n) (λ_ _=>rfl)]
  congr 1
  rw[List.map_replicate]
  apply JN
  ·simp
  ·intro i h1 h2;simp
 rw[dC,uB,oMS,bdR,dE _ (by lia),oMS,bdR,z0,bdR,iI (by simp;lia),bdR,dE _ (by lia),oMS,bdR]
 let R:M (D×List D)->Prop:=λm=>∃(c:List Nat) (f':List D),m=.ret (cT c,f')/\Fd (T+100) f'
 refine gc (R:=R) (P:=λi s=>∃(c:List Nat) (f:List D),s=(f,r.d,c.map iN,())/\c.length=r.n/\Fd (T+i) f) _ _ ?_ ⟨List.replicate r.n 0,f,rfl,by simp,hf⟩ ?_
 ·rintro i s d hd ⟨c,f,rfl,hc,hf⟩ kn hkn
  obtain⟨rfl,hi⟩:=gR hd
  dsimp only
  unfold fH
  obtain⟨x,f2,e2,hx,hf2⟩:=cb (m:=r.n) hf (by lia) (by lia) (by lia)
  have hxl:x<c.length:=by lia
  have ix:aD (.list (c.map iN)) (iN x)=some (iN c[x]):=by rw[g8,show cH (.list (c.map iN)) (iN x)=_ from jJ iN c x hxl]
  have ad:bF (iN c[x]) (.int 1)=some (iN (c[x]+1)):=Dm c[x] 1
  rw[dC,uB,oMS,bdR,e2,bdR];dsimp only
  rw[ix,oMS,bdR,ad,oMS,bdR,show putD (c.map iN) (iN x) (iN (c[x]+1))=_ from rT (c[x]+1) hxl,oMS,bdR]
  exact hkn _ ⟨c.set x (c[x]+1),f2,rfl,by simp[hc],hf2.le (by lia)⟩
 ·rintro s ⟨c,f,rfl,hc,hf⟩
  rw[zzd,ua]at hf
  dsimp only
  unfold fJ
  rw[tM,oMS,bdR]
  exact⟨c,f,rfl,hf.le (by lia)⟩
theorem Ig{d:D}(h:L4.Sm d)(x:Str)(hx:PyData.strOk x=true):gV (.str d.shown) (.str x)=some (decide (d.shown=x)):=by
 obtain⟨t1,t2⟩:=h.text
 unfold gV kN
 rw[aw]
 ·exact congrArg some (Bool.eq_iff_iff.mpr (by rw[decide_eq_true_iff];exact KY))
 ·simp[PyData.canLay0,t2,hx,PyData.depth]
theorem yX(h:ks≠[]):(PyData.list (ks.map iN)).shown≠(("[]" : String):Str):=by
 obtain⟨k,r,rfl⟩:=List.exists_cons_of_ne_nil h
 intro z
 have z:=congrArg Str.length z
 simp only[PyData.shown,listText_eq_join]at z
 rw[J7,J7]at z
 have e1:((("[" : String):Str)).length=1:=rfl
 have e2:((("]" : String):Str)).length=1:=rfl
 have e3:((("[]" : String):Str)).length=2:=rfl
 rw[e1,e2,e3]at z
 have j:=join_length_add (PyData.shownAll ((k::r).map iN)) (by simp[PyData.shownAll])
 simp only[bj,PyData.shownAll]at z j
 rw[piled_cons]at j
 have l1:0<(PyData.shown (iN k)).length:=by
  simp only[PyData.shown]
  have h2:(Str.ofString (toString (k:Int))).length=(toString (k:Int)).length:=by
   show(Str.ofString (toString (k:Int))).cps.size=_
   rw[<-fu,signs_ofString,zzd,String.length_toList]
  rw[h2]
  exact Nat.length_repr_pos
 lia
theorem t6(hl:ks.length<=900)(h:∀k∈ks,k<=1000):L4.Sm (.list (ks.map iN))/\iW [.list (ks.map iN)]=some (.str (PyData.list (ks.map iN)).shown):=by
 have sm:L4.Sm (.list (ks.map iN)):=by
  simp only[L4.Sm]
  refine nA λd hd=>?_
  obtain⟨k,hk,rfl⟩:=List.mem_map.mp hd
  have:=h k hk
  simp only[L4.Sm]
  lia
 refine⟨sm,DE sm ?_ ?_⟩
 ·have:=iy (B:=1) (e:=iN) (λi=>by simp[sz]) ks
  simp only[sz]
  lia
 ·have:∀l:List Nat,PyData.depthAll (l.map iN)<=1:=by
   intro l
   induction l with
   | nil=>simp[PyData.depthAll]
   | cons a l ih=>simp only[bj,PyData.depthAll,PyData.depth];lia
  have h3:=this ks
  simp only[PyData.depth]
  lia
theorem Pth.lt(p:Pth r c ks c'):∀k∈ks,k<r.ms.length:=by
 induction p with
 | nil c=>intro k h;cases h
 | cons g p ih =>
  intro x hx
  rcases List.mem_cons.mp hx with rfl|hx
  ·obtain⟨m,hm,_⟩:=g
   exact(List.getElem?_eq_some_iff.mp hm).1
  ·exact ih x hx
theorem yC(w:Wf r)(hn:r.n<=40)(hs:r.st.length<=4)(hm:r.ms.length<=2000)(hc:c.length=r.n)(hh:c.sum<=1000) :
  iW [.tuple [r.d,cT c]]=some (.str (PyData.tuple [r.d,cT c]).shown)/\fc (.str (PyData.tuple [r.d,cT c]).shown) (.str (PyData.tuple [r.d,cT c]).shown)=some false:=by
 have le:∀s∈c,s<=1000000000:=λs hs=>by
  have:s<=c.sum:=by
   clear hh hc
   induction c with
   | nil=>cases hs
   | cons a c ih =>
    rw[J8]
    rcases List.mem_cons.mp hs with rfl|hs
    ·lia
    ·have:=ih hs;lia
  lia
 have sm:L4.Sm (.tuple [r.d,cT c]):=by
  simp only[L4.Sm,L4.Sms]
  exact⟨G9 w (by lia),vB le,trivial⟩
 refine⟨DE sm ?_ ?_,Fi sm⟩
 ·have h1:=G8 r
  have h2:sz (cT c)=c.length+1:=by
   show 1+szs (c.map iN)=_
   rw[iy (B:=1) (λi=>by simp[sz])]
   lia
  have h3:=w.sy
  simp only[sz,szs]at *
  lia
 ·have h1:(cT c).depth<=10:=by
   have:∀l:List Nat,PyData.depthAll (l.map iN)<=1:=by
    intro l
    induction l with
    | nil=>simp[PyData.depthAll]
    | cons a l ih=>simp only[bj,PyData.depthAll,PyData.depth];lia
   have h3:=this c
   simp only[PyData.depth]
   lia
  have h2:r.d.depth<=20:=by
   refine cY (n:=19) λd hd=>?_
   simp only[List.mem_cons,List.mem_nil_iff,or_false]at hd
   rcases hd with rfl|rfl|rfl|rfl
   ·simp[PyData.depth]
   ·exact ir (cY (n:=1) λd hd=>by obtain⟨i,_,rfl⟩:=List.mem_map.mp hd;simp[PyData.depth]) (by lia)
   ·exact ir (cY (n:=5) λd hd=>by obtain⟨i,_,rfl⟩:=List.mem_map.mp hd;simp[PyData.depth,PyData.depthAll]) (by lia)
   ·exact ir (cY (n:=1) λd hd=>by obtain⟨i,_,rfl⟩:=List.mem_map.mp hd;simp[PyData.depth]) (by lia)
  have:=cY (ds:=[r.d,cT c]) (n:=20) λd hd=>by
   simp only[List.mem_cons,List.mem_nil_iff,or_false]at hd
   rcases hd with rfl|rfl<;>lia
  lia
theorem shown_none:iW [.none]=some (.str "None"):=by kernel_rfl
section
variable (w:Wf r) (hn:r.n<=5) (hs:r.st.length<=4) (hm:r.ms.length<=30) (hc:c.length=r.n) (hsum:c.sum<=5) (nd:F.Nodup) (mem:∀x,x∈F↔Rch r c x) (hl:F.length<=126)
include w hn hs hm hc hsum nd mem hl
set_option maxHeartbeats 4000000 in
theorem Ft(goal:List Nat)(kn2:D×Unit->M D)(kn25:D×D×D×D×D×D×D×Unit->M D)(sc wr fd fr:D)
  (kk:kn25 (sc,r.d,cT c,wr,fd,fr,.list (bE (F.map cT)),())=.ret (.bool true)):jP kn2 kn25 sc r.d (cT c) wr fd fr (.list (bE (F.map cT))) (cT goal)=.ret (.bool true):=by
 have ll:dI [.list (bE (F.map cT))]=some (iN F.length):=by rw[L4.lenL,(cf _).length_eq,zzd]
 have g1:kH (iN F.length) (.int 1)=some (decide (1<F.length)):=(L4.gtI _ _).trans (congrArg some (decide_eq_decide.mpr (by lia)))
 have first:(bd (bd (bd (bd (oM (dI [.list (bE (F.map cT))])) λx29=>bU r.d (cT c) (cT goal) x29) λx30=>oM (iW [x30])) λx31=>oM (gV x31 (.str "[]"))) λb32=>if b32 then oM (fc (cT goal) (cT c))else M.ret false)=.ret false:=by
  rw[ll,oMS,bdR]
  rcases qU w (by lia) (by lia) hc nd mem (by lia) goal (ai F.length)with ⟨_,e⟩|⟨_,ks,e,p,l,_⟩
  ·rw[e,bdR,shown_none,oMS,bdR]
   kernel_rfl
  ·obtain⟨sm,rp⟩:=t6 l (λk hk=>by have:=p.lt k hk;lia)
   rw[e,bdR,rp,oMS,bdR,Ig sm _ (bO _),oMS,bdR]
   by_cases hk:ks=[]
   ·subst hk
    cases p
    rw[L4.neT,oMS,eT (rfl:c=c)]
    split<;>rfl
   ·rw[cr (yX hk),am (by decide)]
 unfold jP
 rw[first,bdR,am (by decide),ll,oMS,bdR,g1,oMS,bdR]
 by_cases h1:1<F.length
 ·have tm:bN (fnD "_law_ask") (.tuple [r.d,cT c,cT goal,iN (F.length - 1)])=.ret (.bool true):=tN (tG w (by lia) (by lia) hc nd mem (by lia) (cT goal) (by lia))
  rw[aw (by simpa using h1),bdR,Dv _ (by lia),oMS,bdR,bdR,tm,bdR,show lq (.bool true)=some true from rfl,oMS,bdR,bdR,am (by decide)]
  exact kk
 ·rw[am (by simpa using h1),bdR,am (by decide)]
  exact kk
set_option maxHeartbeats 4000000 in
theorem Fq{G:List (List Nat)}(memG:∀x,x∈G↔Rch r c x)(hG:∀x∈G,(∃ks,Pth r c ks x/\ks.length=δ x)/\∀ks,Pth r c ks x->δ x<=ks.length)(goal:List Nat)(kn2:D×Unit->M D)(kn25:D×D×D×D×D×D×D×Unit->M D)(sc wr:D)
  (kk:kn25 (sc,r.d,cT c,wr,.dict (F.map (kE (vS r))),.dict (G.map (kE (vF δ))),.list (bE (F.map cT)),())=.ret (.bool true)) :
  nk kn2 sc r.d (cT c) wr (.dict (F.map (kE (vS r)))) (.dict (G.map (kE (vF δ)))) (.list (bE (F.map cT))) (cT goal) kn25=.ret (.bool true):=by
 have j5:=Ft w hn hs hm hc hsum nd mem hl goal kn2 kn25 sc wr (.dict (F.map (kE (vS r)))) (.dict (G.map (kE (vF δ)))) kk
 unfold nk
 rw[show(PyData.int 1000)=iN 1000 from rfl]
 rcases qU w (by lia) (by lia) hc nd mem (by lia) goal (limit:=1000) (by lia)with ⟨hg,e⟩|⟨hg,ks,e,p,l,sh⟩
 ·rw[e,bdR,cW,oMS,bdR,cr (λz=>hg ((mem goal).mpr ((memG goal).mp z))),aw (show(!false)=true from rfl),show db .none .none=some false from rfl,oMS,bdR,am (by decide)]
  exact j5
 ·have hgG:goal∈G:=(memG goal).mpr ((mem goal).mp hg)
  obtain⟨⟨ks',p',l'⟩,sh'⟩:=hG goal hgG
  have el:ks.length=δ goal:=by
   have a:=sh ks' p'
   have b:=sh' ks p
   lia
  have ne:fc (iN ks.length) (iN (δ goal))=some false:=by
   rw[el]
   exact(neI _ _).trans (by simp)
  rw[e,bdR,cW,oMS,bdR,eT hgG,am (by decide),z5 (by lia) mem p,bdR,show lq (.bool true)=some true from rfl,oMS,bdR,bdR,am (by decide),L4.lenL,oMS,bdR,jI (vF δ) hgG,oMS,bdR,zzd,show fc (.int (ks.length:Int)) (vF δ goal)=some false from ne,oMS,bdR,am (by decide)]
  exact j5
end
theorem Fs(ns:List Int)(hns:ns.length<=63)(k:Nat)(hk:k<5)(kn2:D×Unit->M D)(kk:kn2 (.list (ns.map PyData.int),())=.ret (.bool true)):nq (.list (ns.map PyData.int)) (iN k) kn2=.ret (.bool true):=by
 obtain⟨f0,e0,hf0⟩:=CP ns k (by lia) hns
 obtain⟨r,f1,e1,w,hn,hs,hm,hf1⟩:=BG (most:=5) hf0 (by lia) (by lia) (by lia)
 have hm30:r.ms.length<=30:=by
  have h5:r.n*r.n<=5*5:=Nat.mul_le_mul hn hn
  lia
 obtain⟨c,f2,e2,hc,hsum,hf2⟩:=AQ (most:=5) hf1 (by lia) w (by lia) (by lia) (by lia)
 have bound:∀F:List (List Nat),F.Nodup->(∀x∈F,x.length=r.n/\x.sum=c.sum)->F.length<=126:=λF nd hF =>
  ir (bZ nd (m:=comps r.n c.sum) λx hx=>oJ _ _ x (hF x hx).1 (hF x hx).2) (FZ r.n (by lia) c.sum (by lia))
 obtain⟨F,nd,mem,hl,e3⟩:=Gx w hm30 hc 126 (by lia) bound
 obtain⟨G,δ,e4,memG,hG⟩:=FO w hc mem (by lia) (F0:=F) (λx=>Iff.rfl)
 have fit:∀x∈F,x.length=r.n/\x.sum=c.sum:=λx hx=>((mem x).mp hx).fit w hc
 have n1:=w.n1
 have ne:∀l∈F,l≠[]:=λl hl z=>by
  have:=(fit l hl).1
  rw[z]at this
  simp at this
  lia
 have e5:hU [.dict (F.map (kE (vS r)))]=some (bE (F.map cT)):=by
  show(if d9 (F.map (kE (vS r)))then none else if bQ ((F.map (kE (vS r))).map (·.1))then some (bE ((F.map (kE (vS r))).map (·.1)))else none)=_
  rw[wj,am (by decide),CC,aw (w4 ne)]
 obtain⟨r1,r2⟩:=yC w (by lia) hs (by lia) hc (by lia)
 have ll:dI [.list (bE (F.map cT))]=some (iN F.length):=by rw[L4.lenL,(cf _).length_eq,zzd]
 have hF0:0<F.length:=List.length_pos_of_mem ((mem c).mpr .refl)
 unfold nq
 rw[e0,bdR,show(PyData.int 5)=iN 5 from rfl,e1,bdR];dsimp only
 rw[e2,bdR];dsimp only
 rw[r1,oMS,bdR,e3,bdR,e4,bdR,e5,oMS,bdR,bdR,show bA [.int 4]=some ((List.range 4).map iN)from dE 4 (by lia),oMS,bdR]
 let St:=D×List D×D×D×D×D×D×D×Unit
 obtain⟨gs,s1,e6,⟨f3,rfl,hf3⟩,lg,hall⟩:=sP (T:=St) (P:=λj s=>∃f,s=(PyData.list (ns.map PyData.int),f,r.d,cT c,PyData.str (PyData.tuple [r.d,cT c]).shown,PyData.dict (F.map (kE (vS r))),PyData.dict (G.map (kE (vF δ))),PyData.list (bE (F.map cT)),())/\Fd (8000+j) f) (R:=λd=>∃x,d=cT x)
  (step:=λs12 d13=>bd (oM (dI [s12.2.2.2.2.2.2.2.1])) λx14=>bd (aF s12.2.1 x14) λr15=>bd (oM (aD s12.2.2.2.2.2.2.2.1 r15.1)) λx16=>.ret (some x16,(s12.1,r15.2,s12.2.2.1,s12.2.2.2.1,s12.2.2.2.2.1,s12.2.2.2.2.2.1,s12.2.2.2.2.2.2.1,s12.2.2.2.2.2.2.2.1,())))
  ((List.range 4).map iN) 0 (PyData.list (ns.map PyData.int),f2,r.d,cT c,PyData.str (PyData.tuple [r.d,cT c]).shown,PyData.dict (F.map (kE (vS r))),PyData.dict (G.map (kE (vF δ))),PyData.list (bE (F.map cT)),()) (by
   rintro j s d hd _ hj ⟨f,rfl,hf⟩
   rw[zzd,ua]at hj
   dsimp only
   obtain⟨x,f',e,hx,hf'⟩:=cb (m:=F.length) hf (by lia) hF0 (by lia)
   have hx':x<(bE (F.map cT)).length:=by rw[(cf _).length_eq,zzd];exact hx
   have ix:aD (.list (bE (F.map cT))) (iN x)=some (bE (F.map cT))[x]:=by
    have:=jJ id (bE (F.map cT)) x hx'
    rw[List.map_id]at this
    rw[g8]
    exact this
   obtain⟨y,_,ey⟩:=List.mem_map.mp ((cf _).mem_iff.mp (io hx'))
   rw[ll,oMS,bdR,e,bdR]
   dsimp only
   rw[ix,oMS,bdR]
   exact⟨_,_,rfl,⟨f',rfl,hf'.le (by lia)⟩,y,ey.symm⟩) ⟨f2,rfl,hf2.le (by lia)⟩
 rw[e6,bdR]
 dsimp only
 rw[zzd,ua]at lg hf3
 have le5:∀x∈c,x<=1000:=λx hx=>by
  have:∀(l:List Nat),x∈l->x<=l.sum:=by
   intro l
   induction l with
   | nil=>intro h;cases h
   | cons a l ih =>
    intro h
    rw[J8]
    rcases List.mem_cons.mp h with rfl|h
    ·lia
    ·have:=ih h;lia
  have:=this c hx
  lia
 obtain⟨g,f4,e7,hf4⟩:=wZ (hands:=c.sum) hf3 (by lia) w (by lia) (by lia)
 rw[iI (by lia),bdR,Em c le5 (by lia),oMS,bdR,e7,bdR]
 dsimp only
 rw[show bF (PyData.list gs) (.list [cT c,cT g])=some (.list (gs++[cT c,cT g]))from aw (ir (show(gs.length+2:Nat)<=1000 by lia) (by decide)),oMS,bdR,show cG (PyData.list (gs++[cT c,cT g]))=some (gs++[cT c,cT g])from rfl,oMS,bdR]
 have hgs:∀d∈gs++[cT c,cT g],∃x,d=cT x:=λd hd=>by
  rcases List.mem_append.mp hd with h|h
  ·exact hall d h
  ·rcases List.mem_cons.mp h with rfl|h
   ·exact⟨c,rfl⟩
   ·exact⟨g,List.mem_singleton.mp h⟩
 refine wx (P:=λi s=>s=(PyData.list (ns.map PyData.int),r.d,cT c,PyData.str (PyData.tuple [r.d,cT c]).shown,PyData.dict (F.map (kE (vS r))),PyData.dict (G.map (kE (vF δ))),PyData.list (bE (F.map cT)),())) _ 0 _ _ ?_ rfl ?_
 ·rintro j s d hd _ hj rfl kn hkn
  obtain⟨x,rfl⟩:=hgs d hd
  dsimp only
  exact Fq w hn hs hm30 hc hsum nd mem hl memG hG x kn2 kn _ _ (hkn _ rfl)
 ·rintro s rfl
  dsimp only
  unfold sX
  rw[r1,oMS,bdR,r2,oMS,bdR,am (by decide)]
  exact kk
theorem main:∀ns:List Int,ns.length<=63->wO (.list (ns.map PyData.int))=.ret (.bool true):=by
 intro ns hn
 unfold wO
 have r5:bA [.int 5]=some ((List.range 5).map iN):=dE 5 (by lia)
 rw[r5,oMS,bdR]
 refine wx (P:=λi s=>s=(PyData.list (ns.map PyData.int),())) _ 0 _ _ ?_ rfl ?_
 ·rintro j s d hd _ hj rfl kn hkn
  obtain⟨k,hk,rfl⟩:=List.mem_map.mp hd
  dsimp only
  exact Fs ns hn k (List.mem_range.mp hk) kn (hkn _ rfl)
 ·rintro s rfl
  rfl
end K31
namespace PySem.W.Fast
def tw47916454523928720:=()
def tw1103933505904577015:=()
def tw15484762210719696545:=()
def tw17435429838620599453:=()
def tw10165376679359764658:=()
def tw7527457210653286325:=()
def tw9339443185291414093:=()
def tw731117591379270936:=()
def tw4768164007683693472:=()
def tw1196333626585137236:=()
def tw15523018736490944374:=()
def tw9682944532914750944:=()
def tw5775825697265766400:=()
def tw14358450897334926779:=()
def tw15774374890510039149:=()
def tw10090045964370443756:=()
def tw11037045557190609406:=()
def tw879656148471283159:=()
def tw7651932352329999387:=()
def tw2555311365199390059:=()
def tw17450361377368686608:=()
def tw17826620730808860531:=()
def tw5227800232741534560:=()
def tw17934810178106855010:=()
def tw11456038328092208318:=()
def tw8580759334353597468:=()
def tw2535331184154027540:=()
def tw13637162959564678029:=()
def tw8654724489250128246:=()
def tw11971782653278224308:=()
def tw11434238596985747500:=()
def tw9262912173269274742:=()
def tw12178593300007308616:=()
def tw16459574356172145018:=()
def tw12678039562317599458:=()
def tw7961559401688159856:=()
def tw526987473986827004:=()
def tw9335247056583265961:=()
def tw8156984485427428991:=()
def tw4274334231375782125:=()
def tw5237222836424339745:=()
def tw5779647450549166963:=()
def tw2633610476250614891:=()
def tw8935099411708766326:=()
def tw7148584939933553040:=()
def tw15048437702720136541:=()
def tw16710720860978600488:=()
def tw10103034030304879291:=()
def tw8692206545284237375:=()
def tw4097899748562189980:=()
def tw8538059705881789506:=()
def tw12418709908090441357:=()
def tw10113009374319842178:=()
def tw10222131599225886210:=()
def tw17289643409866086283:=()
def tw12872513800032853889:=()
def tw10757798671783764369:=()
def tw7234544882206325611:=()
def tw942605270718749820:=()
def tw15603648247171984743:=()
def tw18387775499051771618:=()
def tw15376553736730557051:=()
def tw3828662289180621811:=()
def tw3512820244188620331:=()
def tw13906684473634827041:=()
def tw14740729026257158506:=()
def tw2675793402248524771:=()
def tw5896508324537390746:=()
def tw7092939811118669370:=()
def tw17887154368817572231:=()
def tw6930230484837757560:=()
def tw16742189716213441354:=()
def tw17289343663818285251:=()
def tw17946082853765281507:=()
def tw11314687823303480938:=()
def tw4100029801580301033:=()
def tw192427836543808075:=()
def tw5327199481496603222:=()
def tw9420813247870617671:=()
def tw5620474275202619150:=()
def tw4651361138392030398:=()
def tw9907452388305820279:=()
def tw13226342789409379823:=()
def tw16992368573734779867:=()
def tw11866023252113862650:=()
def tw7334788573607833538:=()
def tw7174459958782779851:=()
def tw14444895197090451708:=()
def tw17354907765972351276:=()
def tw12875821874742369004:=()
end PySem.W.Fast
namespace K31
open PySem PySem.Spec PyProof.Rows L2 L3 L4
theorem all_mk{l:PySem.W.OpenLaw}{w:World}{K:Fg}{h:Heap}{mg:zzl}{fa Cl_TooMany Cl_NoCrowd Cl_NoLine Cl_NoMeeting Cl_NoPaper Cl_NoRule Cl_NoText Cl_PassError:Addr}(X:K.In h)(G:h.Ns mainGlobals mg)(hfa:mg "law" = some (.ref fa))(p0:Fa K "can_be" lH)(p1:Fa K "led_to" lG)(p2:Fa K "pairs_of" i9)(p3:Fa K "leads_at" ja)(p4:Fa K "leads_from" fS)(p5:Fa K "row_to" lF)(p6:Fa K "way_in" lE)(p7:FaV K "way_to" gL 1000)(p8:Fa K "_law_feed" gN)(p9:Fa K "_law_draw" gO)(p10:Fa K "_law_rule" gM)(p11:Fa K "_law_steps" fT)(p12:Fa K "_law_all" jf)(p13:Fa K "_law_crowd" fV)(p14:Fa K "_law_ask" jd)(p15:Fa K "_law_too_many" cZ)(p16:Fa K "_law_far" jc)(p17:Fa K "_law_leads" fU)(p18:Fa K "_law_spread" eX)(p19:Fa K "law" y7)(q0:Xa K "TooMany" "TooMany.__init__" dX [])(gaJ:PySem.W.nsIn K mainGlobals "TooMany" = some (some (.ref Cl_TooMany)))(gbo:PySem.W.nsIn K mainGlobals "NoCrowd" = some (some (.ref Cl_NoCrowd)))(gbs:PySem.W.nsIn K mainGlobals "NoLine" = some (some (.ref Cl_NoLine)))(ga9:PySem.W.nsIn K mainGlobals "NoMeeting" = some (some (.ref Cl_NoMeeting)))(gbp:PySem.W.nsIn K mainGlobals "NoPaper" = some (some (.ref Cl_NoPaper)))(gbt:PySem.W.nsIn K mainGlobals "NoRule" = some (some (.ref Cl_NoRule)))(gbu:PySem.W.nsIn K mainGlobals "NoText" = some (some (.ref Cl_NoText)))(gba:PySem.W.nsIn K mainGlobals "PassError" = some (some (.ref Cl_PassError)))(gag:PySem.W.kitAny K (.ref Cl_TooMany) [.ref Cl_NoCrowd,.ref Cl_NoLine,.ref Cl_NoMeeting,.ref Cl_NoPaper,.ref Cl_NoRule,.ref Cl_NoText]=some false)(gaN:PySem.W.kitOne K (.ref Cl_TooMany) (.ref Cl_TooMany)=some true)(gaC:PySem.W.kitOne K (.ref Cl_TooMany) (.type "ValueError")=some true)(gaF:PySem.W.exmOne K (.ref Cl_TooMany) (.ref Cl_PassError)=some true)(bz:(BL.all λx=>HQ (PySem.W.nsIn K mainGlobals x))=true) :
  ∃fd:FuncData,(∀(s:Shared) (v:Value),BindsTo s fd ⟨[v],[]⟩ [("_law_script",v)])/\∀base:Heap,K.In base->base.Ns mainGlobals mg->FnOk l.prog w K mg base (CX1 l.prog w) 7 fa fd ["_law_script"] (spD K 1 qc):=by
 obtain⟨f0,fd0,a0,F0⟩:=p0
 obtain⟨f1,fd1,a1,F1⟩:=p1
 obtain⟨f2,fd2,a2,F2⟩:=p2
 obtain⟨f3,fd3,a3,F3⟩:=p3
 obtain⟨f4,fd4,a4,F4⟩:=p4
 obtain⟨f5,fd5,a5,F5⟩:=p5
 obtain⟨f6,fd6,a6,F6⟩:=p6
 obtain⟨f7,fd7,T7,a7,F7,t7⟩:=p7
 obtain⟨f8,fd8,a8,F8⟩:=p8
 obtain⟨f9,fd9,a9,F9⟩:=p9
 obtain⟨f10,fd10,a10,F10⟩:=p10
 obtain⟨f11,fd11,a11,F11⟩:=p11
 obtain⟨f12,fd12,a12,F12⟩:=p12
 obtain⟨f13,fd13,a13,F13⟩:=p13
 obtain⟨f14,fd14,a14,F14⟩:=p14
 obtain⟨f15,fd15,a15,F15⟩:=p15
 obtain⟨f16,fd16,a16,F16⟩:=p16
 obtain⟨f17,fd17,a17,F17⟩:=p17
 obtain⟨f18,fd18,a18,F18⟩:=p18
 obtain⟨f19,fd19,a19,F19⟩:=p19
 obtain⟨C0,D0,g0,gd0,b0,G0,x0,y0,z0,u0,v0⟩:=q0
 cases Ff b0 gaJ
 cases hfa.symm.trans (im X G a19)
 have B:BN mg:=Ip X G bz
 have Kx:KX K mg:=⟨⟨[Cl_NoCrowd,Cl_NoLine,Cl_NoMeeting,Cl_NoPaper,Cl_NoRule,Cl_NoText],⟨im X G gbo,im X G gbs,im X G ga9,im X G gbp,im X G gbt,im X G gbu,trivial⟩,⟨⟨_,gaJ,gag⟩,trivial⟩⟩,⟨_,im X G gaJ,⟨⟨_,gaJ,gaN⟩,trivial⟩⟩,⟨⟨_,gaJ,gaC⟩,trivial⟩,⟨_,im X G gba,⟨⟨_,gaJ,gaF⟩,trivial⟩⟩,⟨_,im X G a14,a14⟩⟩
 refine⟨fd19,λs v=>?_,λbase _ _=>?_⟩
 ·obtain⟨_,_,_,_,_,_,_,_,_,rfl,_⟩:=F19.ex
  exact .of_eq rfl
 have X_TooMany:=uO (P:=l.prog) (w:=w) (base:=base) G0 x0 (im X G b0) y0 z0 u0 v0
 have gbw:=xM (P:=l.prog) (w:=w) (base:=base) F0 (im X G a0) B Kx
 have gbx:=xL (P:=l.prog) (w:=w) (base:=base) F1 (im X G a1) B Kx
 have gbh:=rK (P:=l.prog) (w:=w) (base:=base) F2 (im X G a2) B Kx
 have gbi:=rN (P:=l.prog) (w:=w) (base:=base) F3 (im X G a3) B Kx gbw gbx
 have gaw:=nG (P:=l.prog) (w:=w) (base:=base) F4 (im X G a4) B Kx gbh gbi X_TooMany
 have gbA:=xK (P:=l.prog) (w:=w) (base:=base) F5 (im X G a5) B Kx
 have gaU:=xJ (P:=l.prog) (w:=w) (base:=base) F6 (im X G a6) B Kx gbA
 have gbc:=xI (P:=l.prog) (w:=w) (base:=base) F7 t7 (im X G a7) B Kx gaw gaU
 have D_way_to:=xO (P:=l.prog) (w:=w) (base:=base) F7 t7 (im X G a7) B Kx gaw gaU
 have gbe:=qa (P:=l.prog) (w:=w) (base:=base) F8 (im X G a8) B Kx
 have gaj:=qb (P:=l.prog) (w:=w) (base:=base) F9 (im X G a9) B Kx
 have gbf:=pY (P:=l.prog) (w:=w) (base:=base) F10 (im X G a10) B Kx gaj
 have ga6:=nH (P:=l.prog) (w:=w) (base:=base) F11 (im X G a11) B Kx
 have gbm:=rR (P:=l.prog) (w:=w) (base:=base) F12 (im X G a12) B Kx ga6
 have ga7:=nJ (P:=l.prog) (w:=w) (base:=base) F13 (im X G a13) B Kx gaj
 have gbl:=rQ (P:=l.prog) (w:=w) (base:=base) F14 (im X G a14) B Kx gbc
 have gaT:=j1 (P:=l.prog) (w:=w) (base:=base) F15 (im X G a15) B Kx gbl
 have gbn:=rP (P:=l.prog) (w:=w) (base:=base) F16 (im X G a16) B Kx
 have ga8:=nI (P:=l.prog) (w:=w) (base:=base) F17 (im X G a17) B Kx
 have ga3:=mw (P:=l.prog) (w:=w) (base:=base) F18 (im X G a18) B Kx gaj
 exact FK F19 B Kx gbe gbf ga7 gbm gbn gbc ga3 gaj gaT ga8 D_way_to
theorem walk{l:PySem.W.OpenLaw}{q:Program}{loose:List Str}{XP:(Str->Option Value)->Heap->Prop}{YP:World->Heap->Prop}{d:DefRec}{K:Params->Fg}(main:∀ns:List Int,ns.length<=63->wO (.list (ns.map PyData.int))=.ret (.bool true))(hn:l.most=some 63)(hdf:d.params.defaults=[])
  (hY:∀(w:World) (h:Heap),YP w h->(K w.params).In h)
  (F:∀(w:World) (mg:zzl) (fa:Addr) (h:Heap),(K w.params).In h->h.Ns mainGlobals mg->mg d.name=some (.ref fa) ->
   ∃fd:FuncData,(∀(s:Shared) (u:Value),BindsTo s fd ⟨[u],[]⟩ [("_law_script",u)])/\∀base:Heap,(K w.params).In base->base.Ns mainGlobals mg->FnOk l.prog w (K w.params) mg base (CX1 l.prog w) 7 fa fd ["_law_script"] (spD (K w.params) 1 qc)) :
  PySem.W.WalkO q loose XP YP l.row.toRowW d [] (λf vs=>PySem.call f vs) :=
 L2.walk_of (n:=63) (k:=7) (x := "_law_script") (CX:=λw=>CX1 l.prog w) (sp:=λw=>spD (K w.params) 1 qc) hn (by decide) hdf ⟨rfl,by decide,by decide,rfl⟩ hY F (λw H a ns hl _ hS=>xS hS (main ns hl)) λ_ _ _ _ _ ⟨_,_,_,_,_,_,_,_,_,_,z⟩=>z
end K31
open PySem PySem.W PyProof.Rows L4
set_option maxRecDepth 100000 in
set_option maxHeartbeats 0 in
theorem PySem.Challenge.cw_passersby_k31_ways_to_goals_holds : PySem.Challenge.rw_passersby_k31_ways_to_goals.Holds := by
 w_on;o_law;k_head;(case hw=>w_witness2)
 k_fill
 refine K31.walk (l:=PySem.Challenge.rw_passersby_k31_ways_to_goals) K31.main rfl rfl (λw h Y=>PySem.W.kIn_of Y) ?F
 case F =>
  intro w mg fa h KX G hmg
  refine' K31.all_mk KX G hmg (cB ?a0 ?l0 ?c0 ?k0) (cB ?a1 ?l1 ?c1 ?k1) (cB ?a2 ?l2 ?c2 ?k2) (cB ?a3 ?l3 ?c3 ?k3) (cB ?a4 ?l4 ?c4 ?k4) (cB ?a5 ?l5 ?c5 ?k5) (cB ?a6 ?l6 ?c6 ?k6) (FN ?a7 ?l7 ?c7 ?k7 ?d7 ?e7 ?r7) (cB ?a8 ?l8 ?c8 ?k8) (cB ?a9 ?l9 ?c9 ?k9) (cB ?a10 ?l10 ?c10 ?k10) (cB ?a11 ?l11 ?c11 ?k11) (cB ?a12 ?l12 ?c12 ?k12) (cB ?a13 ?l13 ?c13 ?k13) (cB ?a14 ?l14 ?c14 ?k14) (cB ?a15 ?l15 ?c15 ?k15) (cB ?a16 ?l16 ?c16 ?k16) (cB ?a17 ?l17 ?c17 ?k17) (cB ?a18 ?l18 ?c18 ?k18) (cB ?a19 ?l19 ?c19 ?k19) (GH ?xa0 ?xb0 ?xc0 ?xd0 ?xe0 ?xf0 ?xg0 ?xh0 ?xi0 ?xj0 ?xk0 ?xl0 ?xm0 ?xp0 ?xq0 ?xr0 ?xo0 na0) ?gaJ ?gbo ?gbs ?ga9 ?gbp ?gbt ?gbu ?gba ?gag ?gaN ?gaC ?gaF ?bz
  (case a0|l0|c0|k0|a1|l1|c1|k1|a2|l2|c2|k2|a3|l3|c3|k3|a4|l4|c4|k4|a5|l5|c5|k5|a6|l6|c6|k6|a7|l7|c7|k7|d7=>k_is)
  (case e7=>rfl)
  (case r7=>exact⟨_,rfl⟩)
  (case a8|l8|c8|k8|a9|l9|c9|k9|a10|l10|c10|k10|a11|l11|c11|k11|a12|l12|c12|k12|a13|l13|c13|k13|a14|l14|c14|k14|a15|l15|c15|k15|a16|l16|c16|k16|a17|l17|c17|k17|a18|l18|c18|k18|a19|l19|c19|k19|xa0|xb0|xc0|xd0|xe0|xf0|xg0=>k_is)
  (case xh0=>kernel_rfl)
  (case xi0|xj0|xk0|xl0=>k_is)
  (case xm0=>kernel_rfl)
  (case xp0|xq0|xr0=>k_is)
  (case xo0=>kernel_rfl)
  (case gaJ|gbo|gbs|ga9|gbp|gbt|gbu|gba=>k_is)
  (case gag|gaN|gaC|gaF|bz=>kernel_rfl)
