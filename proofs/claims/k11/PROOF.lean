import PyProof.Rows.All
import Wide.All
import OpenK.AllK
import Wide.FinOn
import Lean
import PyProof.EqAt
import PyProof.EqKinds
import PyProof.TupleCall
import PySem.Challenge.RW_passersby_k11_rows_that_write_no_rule
noncomputable section
set_option Elab.async false
set_option linter.all false
set_option maxRecDepth 100000
noncomputable def zza:=@PySem.wpAny_bind
noncomputable def zzb:=@PySem.wpAny_pure
noncomputable def zzc:=@PySem.Heap.get?_push_of_some
noncomputable def zzd:=@List.length_map
noncomputable def zze:=@PySem.Heap.get?_push_size
noncomputable def zzf:=@List.length_append
noncomputable def zzg:=@List.mem_cons_of_mem
noncomputable def zzi:=@decide_eq_true_eq
abbrev zzj:=PySem.Value->PySem.Shared->Prop
abbrev zzk:=List (PySem.Addr×PySem.Obj)
abbrev zzl:=PySem.Str->Option PySem.Value
section
open PySem PySem.Spec PyProof.Rows
def ac:=@if_neg
def ai:=@Bool.and_eq_true
def ak:=@if_pos
def am:=@List.mem_cons_self
def au:=@Nat.le_refl
def aw:=@decide_eq_false
def ax:=@Heap.lt_size
def ay:=@decide_eq_true
def ba:=@List.map_cons
def be:=@List.size_toArray
def bi:=@List.length_cons
def bj:=@Nat.ne_of_lt
def bo:=@Nat.lt_of_lt_of_le
def bu:=@List.mem_of_getElem?
def ce:=@Array.length_toList
def ci:=@Array.getElem?_eq_getElem
def cr:=@Nat.le_trans
def da:=@List.length_take
def de:=@List.getElem?_append_left
def di:=@Nat.zero_le
def dr:=@PySem.boot_len
def eg:=@PySem.W.mg_of
def eE:=@List.getElem?_set_ne
def fi:=@List.length_drop
def ge:=@decide_eq_false_iff_not
def gh:=@List.all_eq_true
def gi:=@Array.getElem?_toList
def gn:=@List.getElem?_set_self
def gt:=@List.length_singleton
def gu:=@List.getElem?_take_of_lt
def ib:=@List.lookup_cons
def ic:=@List.mem_append_right
def ig:=@List.append_nil
def ii:=@Bool.or_eq_true
def io:=@Array.getD_eq_getD_getElem?
def ir:=@Obj.data_mapFields
def je:=@List.filterMap_cons
def jo:=@List.map_append
def ke:=@List.length_range
def ku:=@List.getElem?_map
def kv:=@wpS_bind
def la:=@List.replicate_succ
def lf:=@List.getElem?_append_right
def li:=@wpAny_mono
def ls:=@Bool.false_eq_true
def mo:=@List.mem_cons
def nc:=@List.getElem?_eq_getElem
def ng:=@Heap.get?_update_self
def ni:=@wpAny_newObj_type
def ny:=@Bool.not_eq_true'
def om:=@wpAny_holding
def ot:=@PySem.F.plainAttrs_str
def ou:=@Heap.get?_update_other
def oz:=@List.drop_eq_getElem_cons
def pi:=@Nat.lt_succ_of_lt
def pr:=@List.append_assoc
def pI:=@Nat.lt_irrefl
def re:=@Int.le_refl
def r0:=@wpS_pure
def sd:=@List.mem_nil_iff
def si:=@Heap.size_update
def sk:=@List.map_map
def ss:=@List.mem_of_mem_take
def sw:=@List.mem_of_mem_drop
def sE:=@wpAny_setState_of
def tt:=@Heap.get?_push_ne
def tu:=@PySem.mem_of_lookup
def ue:=@Array.getElem?_eq_none
def ug:=@Bool.false_ne_true
def ul:=@Obj.isFreed_of_fields
def um:=@codeAny_builtin
def ur:=@List.length_nil
def ut:=@wpAny_field
def u8:=@Nat.ne_of_gt
def ve:=@Nat.lt_trichotomy
def wa:=@List.flatten_cons
def we:=@Int.toNat_natCast
def wo:=@Bool.not_true
def wE:=@PyProof.Rows.slot_tuple_getitem
def wP:=@wpAny_call_entry
def wS:=@Option.bind_some
def wT:=@Nat.lt_succ_self
def xt:=@Heap.size_push
def xv:=@wpAny_Call_Name_kw
def xz:=@assignInOrder_cons
def ye:=@wpAny_passesOwn
def yi:=@if_false
def yp:=@Nat.min_eq_left
def ze:=@List.foldl_cons
def zi:=@Bool.eq_iff_iff
def Ba:=@wpAny_standAt
def Ch:=@PySem.F.type_str_join
def Db:=@PySem.F.slot_str_join
def Er:=@List.take_append_drop
def ES:=@wpAny_truthy_bool
def FI:=@PyProof.Rows.callWith_type1
def Go:=@List.pairwise_map
def GU:=@wpAny_setField
def Ix:=@codeAny_call_builtin
def IG:=@beq_iff_eq
def KT:=@Nat.mul_le_mul_right
def K0:=@List.getD_eq_getElem?_getD
def K2:=@Around.under_plainId
def K3:=@List.map_nil
def K4:=@List.getElem?_eq_none_iff
def K5:=@List.map_congr_left
def K6:=@List.getElem?_range
def K8:=@Code.quiet_builtin
def K9:=@wpAny_callSpecial?_slot
def La:=@wpAny_typeOf
def Lb:=@wpAny_loadPart_at
def Lc:=@wpAny_bindName
def Lf:=@codeAny_mono
def Lg:=@Bool.false_and
def Lh:=@plainObj_wpAny_Assign_Attribute
def Li:=@Nat.min_le_right
def Lj:=@Nat.min_eq_right
def Ll:=@or_false
def Lm:=@Nat.pow_le_pow_right
def Ln:=@List.mem_append_left
def Lo:=@wpAny_execs_nil
def Lp:=@Heap.get?_update_ne
def Lq:=@wpS_forRange
def Lr:=@if_true
def Ls:=@Nat.zero_add
def Lu:=@Nat.le_of_lt
def Lw:=@PySem.W.callWith_K
def Lx:=@List.pairwise_cons
def Lz:=@List.map_inj_right
def LA:=@List.getElem?_drop
def LD:=@Int.emod_lt_of_pos
def LF:=@of_decide_eq_true
def LG:=@Obj.cls_mapFields
def LH:=@Nat.le_succ
def LJ:=@Array.size_append
def LK:=@listUpdate_at
def LL:=@SetTable.toList_insertAt
def LN:=@PySem.F.args_tuple_add_2
def LO:=@List.map_drop
def LP:=@List.all_cons
def LQ:=@beq_self_eq_true
def LR:=@PySem.F.entry_tuple_add
def LS:=@List.getElem?_replicate
def LU:=@wpAny_rule
def LV:=@typeIs_str
def LW:=@size_push'
def LX:=@listItems_at
def LY:=@call_meets
def LZ:=@SetTable.insertAt_perm
def L5:=@PySem.F.type_str_split
def L6:=@PySem.F.slot_tuple_add
def L7:=@PySem.F.slot_str_split
def L8:=@List.take_of_length_le
def L9:=@List.drop_of_length_le
def Mb:=@get?_update_seq
def Mc:=@SeqAt.readOf_eq
def Md:=@Int.emod_nonneg
def Me:=@List.length_replicate
def Mg:=@List.getElem?_toArray
def Mh:=@Bool.and_eq_false_iff
end
namespace L2
open PySem PySem.Spec PyProof.Rows
variable {pos p:Pos}{pins:zzk}{A:Around}{x:Str}{u:Value}{w:World}{a C b dx:Addr}{h h' base:Heap}{P:Program}{E:zzj}{e tg c:Expr}{us:List Value}{t' i k j:Nat}{o:Obj}{Q:Unit->Shared->Prop}{es:List Expr}{f:Value->Value->Sem Value}{body:List Stmt}{fp:List Addr}{op:CmpOp}{mA mg:zzl}{kw:List (Str×Value)}{ps:List Str}
abbrev Key:=Sum Int Str
def E3:Key->Value->Bool
 | .inl k,v=>Value.isInt k v
 | .inr x,v=>Value.isStrOf x v
def J4(w:World):Key->Int
 | .inl k=>hashInt k
 | .inr x=>hashStr w x
def cf:∀{k:Key} {v:Value},E3 k v=true->(∃i t,k=Sum.inl i/\v=Value.int i t)\/(∃x t,k=Sum.inr x/\v=Value.str x t)
 | .inl i,v,h=>by
  obtain⟨t,e⟩:=Value.isInt_shape (k:=i) (v:=v) h;exact .inl ⟨i,t,rfl,e⟩
 | .inr x,v,h=>by
  obtain⟨t,e⟩:=Value.isStrOf_shape (x:=x) (v:=v) h;exact .inr ⟨x,t,rfl,e⟩
def GG(a b:Int):decide ((Sum.inl a:Key)=Sum.inl b)=(a==b):=by
 by_cases e:a=b
 ·subst e;simp
 ·have h:¬ (Sum.inl a:Key)=Sum.inl b:=λq=>e (Sum.inl.inj q)
  rw[aw h];exact(beq_eq_false_iff_ne.mpr e).symm
def GD(a b:Str):decide ((Sum.inr a:Key)=Sum.inr b)=decide (a=b):=by
 by_cases e:a=b
 ·subst e;simp
 ·have h:¬ (Sum.inr a:Key)=Sum.inr b:=λq=>e (Sum.inr.inj q)
  rw[aw h,aw e]
def GF(a:Int)(b:Str):decide ((Sum.inl a:Key)=Sum.inr b)=false:=aw (λq=>nomatch q)
def GE(a:Str)(b:Int):decide ((Sum.inr a:Key)=Sum.inl b)=false:=aw (λq=>nomatch q)
def sY(prog:Program)(w:World):PySem.KeyKind prog w Key where
 is:=E3
 hash:=J4 w
 inj:=λv a b ha hb=>by
  rcases cf ha with ⟨i,t,rfl,rfl⟩|⟨x,t,rfl,rfl⟩
  ·rcases cf hb with ⟨j,u,rfl,e⟩|⟨y,u,rfl,e⟩
   ·injection e with e1 _;rw[e1]
   ·exact nomatch e
  ·rcases cf hb with ⟨j,u,rfl,e⟩|⟨y,u,rfl,e⟩
   ·exact nomatch e
   ·injection e with e1 _;rw[e1]
 byValue:=λk v h=>by
  rcases cf h with ⟨i,t,rfl,rfl⟩|⟨x,t,rfl,rfl⟩<;>rfl
 pyHash:=λhv h=>by
  rcases cf hv with ⟨i,t,rfl,rfl⟩|⟨x,t,rfl,rfl⟩
  ·exact wpAny_pyHash_int h
  ·exact wpAny_pyHash_str h
 eqBool:=λhu hv h=>by
  rcases cf hu with ⟨i,t,rfl,rfl⟩|⟨x,t,rfl,rfl⟩
  ·rcases cf hv with ⟨j,u,rfl,rfl⟩|⟨y,u,rfl,rfl⟩
   ·rw[GG]at h;exact wpAny_eqBool_int h
   ·rw[GF]at h;exact SeqAt.EqAt.int_str i t y u _ _ _ _ h
  ·rcases cf hv with ⟨j,u,rfl,rfl⟩|⟨y,u,rfl,rfl⟩
   ·rw[GE]at h;exact SeqAt.EqAt.str_int x t j u _ _ _ _ h
   ·rw[GD]at h;exact wpAny_eqBool_str h
 «strs»:=λk x t v h=>by
  rcases cf h with ⟨i,u,rfl,e⟩|⟨y,u,rfl,e⟩
  ·exact nomatch e
  ·injection e with e1 _;subst e1
   cases v<;>rfl
inductive V where
 | non|bl (b:Bool)|int (i:Int)|str (x:Str)|byt (b:Array UInt8)|flt (b:UInt64)|ref (a:Addr)|ty (n:String)
 deriving DecidableEq
def RelV:V->Value->Prop
 | .non,u=>u=Value.none
 | .bl b,u=>u=Value.bool b
 | .int i,u=>∃t,u=Value.int i t
 | .str x,u=>∃t,u=Value.str x t
 | .byt b,u=>∃t,u=Value.bytes b t
 | .flt b,u=>∃t,u=Value.float b t
 | .ref a,u=>u=Value.ref a
 | .ty n,u=>u=Value.type n
abbrev Vals:List V->List Value->Prop:=Paired RelV
def Vals.length{xs:List V}(r:Vals xs us):xs.length=us.length:=Paired.length r
def Vals.get:∀{xs:List V} {us:List Value} {i:Nat} {x:V},Vals xs us->xs[i]? = some x->∃u,us[i]? = some u/\RelV x u
 | _,_,_,_,.nil,e=>by simp at e
 | _,_,0,_,.cons r _,e=>by simp at e;subst e;exact⟨_,rfl,r⟩
 | _,_,i+1,x,.cons _ t,e=>by
  obtain⟨u,h1,h2⟩:=Vals.get (i:=i) (x:=x) t (by simpa using e);exact⟨u,by simpa using h1,h2⟩
def Vals.set{x:V}(r:RelV x u):∀{xs:List V} {us:List Value} (i:Nat),Vals xs us->Vals (xs.set i x) (us.set i u)
 | _,_,_,.nil=>.nil
 | _,_,0,.cons _ t=>.cons r t
 | _,_,i+1,.cons q t=>.cons q (Vals.set r i t)
def Vals.append:∀{xs ys:List V} {us ws:List Value},Vals xs us->Vals ys ws->Vals (xs++ys) (us++ws):=by
 intro xs ys us ws h s
 induction h with
 | nil=>exact s
 | cons r _ ih=>exact .cons r ih
def Vals.take:∀{xs:List V} {us:List Value} (n:Nat),Vals xs us->Vals (xs.take n) (us.take n)
 | _,_,0,_=>.nil
 | _,_,_+1,.nil=>.nil
 | _,_,n+1,.cons r t=>.cons r (Vals.take n t)
def Vals.drop:∀{xs:List V} {us:List Value} (n:Nat),Vals xs us->Vals (xs.drop n) (us.drop n)
 | _,_,0,r=>r
 | _,_,_+1,.nil=>.nil
 | _,_,n+1,.cons _ t=>Vals.drop n t
def RelO:Option V->Option Value->Prop
 | some v,some u=>RelV v u
 | none,none=>True
 | _,_=>False
def KV{κ:Type}:List (κ×V)->List (κ×Value)->Prop:=Paired λ(p:κ×V) (q:κ×Value)=>p.1=q.1/\RelV p.2 q.2
def kV:Key->V
 | .inl i=>.int i
 | .inr x=>.str x
inductive HO where
 | lst (xs:List V)
 | tup (xs:List V)
 | dK (kvs:List (Key×V))|dT (kvs:List (List Key×V))
 | set (S:Int->Bool) (n:Nat)
 | ins (C dx:Addr) (fs:List (Str×V))
 | own (x:Addr)
 | xd (fs:List (Str×V))
 | met (f x:Addr)
 | rng (lo hi:Int)
 | frz (o:Obj) (u:HO)
 | tbl (ps:Array Value)
 | ext (φ:Heap->Prop)
abbrev Hp:=Addr->Option HO
def upd(H:Hp)(a:Addr)(o:HO):Hp:=λb=>if b=a then some o else H b
def aT{H:Hp}{o:HO}:upd H a o a=some o:=by unfold upd;rw[ak rfl]
def aI{H:Hp}{o:HO}(h:b≠a):upd H a o b=H b:=by unfold upd;rw[ac h]
def aY{H:Hp}{o:HO}(h:H a=some o)(h':H b=none):a≠b:=by
 intro e;subst e;rw[h]at h';cases h'
section
variable (P:Program) (w:World)
def _root_.L2.TupN(h:Heap)(a:Addr):Prop:=∃o,h.get? a=some o/\o.dict=none
def _root_.L2.TupN.new(h:Heap)(items:Array Value):TupN (h.push { cls:=.type "tuple",data:=.seq items }) h.objs.size:=⟨_,zze _ rfl,rfl⟩
def ObjOk(H:Hp)(h:Heap)(a:Addr):HO->Prop
 | .lst xs=>xs.length<=sizeLine/\∃(its:List Value) (n:Nat),Vals xs its/\h.get? a=some { cls:=.type "list",data:=.seq its.toArray n }
 | .tup xs=>xs.length<=sizeLine/\∃its:List Value,Vals xs its/\IsTup h a its.toArray/\TupN h a
 | .dK kvs=>kvs.length<=sizeLine/\(a==sysModules)=false/\∃vs,KV kvs vs/\h.DictOf (sY P w) a vs
 | .dT kvs=>kvs.length<=sizeLine/\(a==sysModules)=false/\∃xs:List (List Key×Addr×Value),
   Paired (λ(p:List Key×V) (q:List Key×Addr×Value)=>p.1=q.1/\H q.2.1=some (.tup (p.1.map kV))/\RelV p.2 q.2.2) kvs xs /\
   ∃o es ep,h.get? a=some o/\o.ExactDict/\o.data=.dict es ep/\es.toList=xs.map (entryOfKey (tupleKind (sY P w)))/\(xs.map (·.1)).Nodup
 | .set S n=>h.SetOf (intKind P w) a S n
 | .ins C dx fs=>H dx=some (.own a)/\fs.length<=1000/\dx≠a/\h.get? a=some (PySem.W.instObj C dx) /\
   ∃mA,h.Ns1 dx mA/\(∀f,RelO (fs.lookup f) (mA f))/\PySem.Within mA (fs.map (·.1))
 | .own _=>∃o,h.get? a=some o
 | .xd fs=>∃mA,h.Ns1 a mA/\∀f,RelO (fs.lookup f) (mA f)
 | .rng lo hi=>∃t u v,h.get? a=some { cls:=.type "range",data:=.fields #[.int lo t,.int hi u,.int 1 v] }
 | .frz o u=>h.get? a=some o/\ObjOk H h a u
 | .tbl ps=>h.get? a=some { cls:=.none,data:=.fields ps }
 | .met f x=>h.get? a=some (PySem.W.methodObj (.ref f) (.ref x))
 | .ext φ=>φ h/\(∃o,h.get? a=some o)/\∀h1 h2:Heap,φ h1->(∀o,h1.get? a=some o->h2.get? a=some o)->φ h2
def HOk(H:Hp)(h:Heap):Prop:=∀a o,H a=some o->ObjOk P w H h a o
end
section
variable {H H':Hp} {o:HO}
def ObjOk.lt(x:ObjOk P w H h a o):a<h.objs.size:=by
 cases o with
 | lst xs=>obtain⟨_,_,_,_,e⟩:=x;exact ax e
 | tup xs=>obtain⟨_,_,_,p⟩:=x;exact p.1.lt
 | dK kvs=>obtain⟨_,_,_,_,o,_,_,e,_⟩:=x;exact ax e
 | dT kvs=>obtain⟨_,_,_,_,o,_,_,e,_⟩:=x;exact ax e
 | set S n=>obtain⟨o,_,_,_,e,_⟩:=x;exact ax e
 | ins C dx fs=>obtain⟨_,_,_,e,_⟩:=x;exact ax e
 | own y=>obtain⟨_,e⟩:=x;exact ax e
 | xd fs=>obtain⟨_,⟨_,_,_,e,_⟩,_⟩:=x;exact ax e
 | rng lo hi=>obtain⟨_,_,_,e⟩:=x;exact ax e
 | frz ob u=>obtain⟨e,_⟩:=x;exact ax e
 | tbl ps=>exact ax (show h.get? a=some _ from x)
 | met f y=>exact ax (show h.get? a=some _ from x)
 | ext φ=>obtain⟨_,⟨_,e⟩,_⟩:=x;exact ax e
def Paired.mapP{α β:Type}{F G:α->β->Prop}:∀{l₁:List α} {l₂:List β},Paired F l₁ l₂->(∀a b,F a b->G a b)->Paired G l₁ l₂:=by
 intro l₁ l₂ h f
 induction h with
 | nil=>exact .nil
 | cons r _ ih=>exact .cons (f _ _ r) ih
def ObjOk.stay(x:ObjOk P w H h a o)(k:∀b u,(b=a\/H b=some (.own a))->h.get? b=some u->h'.get? b=some u)
  (ho:∀b,H b=some (.own a)->H' b=some (.own a)) (ht:∀b xs,H b=some (.tup xs)->H' b=some (.tup xs)):ObjOk P w H' h' a o:=by
 induction o with
 | lst xs=>obtain⟨z,its,n,r,e⟩:=x;exact⟨z,its,n,r,k _ _ (.inl rfl) e⟩
 | tup xs=>obtain⟨z,its,r,⟨ob,e,c⟩,ob2,e2,c2⟩:=x;exact⟨z,its,r,⟨ob,k _ _ (.inl rfl) e,c⟩,ob2,k _ _ (.inl rfl) e2,c2⟩
 | dK kvs=>obtain⟨z,y,vs,r,ob,es,ep,e,c⟩:=x;exact⟨z,y,vs,r,ob,es,ep,k _ _ (.inl rfl) e,c⟩
 | dT kvs =>
  obtain⟨z,y,xs,r,ob,es,ep,e,c⟩:=x;exact⟨z,y,xs,Paired.mapP r λp q z=>⟨z.1,ht _ _ z.2.1,z.2.2⟩,ob,es,ep,k _ _ (.inl rfl) e,c⟩
 | set S n=>obtain⟨ob,es,ep,t,e,c⟩:=x;exact⟨ob,es,ep,t,k _ _ (.inl rfl) e,c⟩
 | ins C dx fs =>
  obtain⟨d,z,ne,e,mA,⟨od,es,ep,e2,c⟩,r⟩:=x;exact⟨ho _ d,z,ne,k _ _ (.inl rfl) e,mA,⟨od,es,ep,k _ _ (.inr d) e2,c⟩,r⟩
 | own y=>obtain⟨ob,e⟩:=x;exact⟨ob,k _ _ (.inl rfl) e⟩
 | xd fs=>obtain⟨mA,⟨od,es,ep,e,c⟩,r⟩:=x;exact⟨mA,⟨od,es,ep,k _ _ (.inl rfl) e,c⟩,r⟩
 | rng lo hi=>obtain⟨t,u,v,e⟩:=x;exact⟨t,u,v,k _ _ (.inl rfl) e⟩
 | frz ob u ih=>obtain⟨e,q⟩:=x;exact⟨k _ _ (.inl rfl) e,ih q⟩
 | tbl ps =>
  have e:h.get? a=some { cls:=.none,data:=.fields ps }:=x;show h'.get? a=some { cls:=.none,data:=.fields ps };exact k a _ (.inl rfl) e
 | met f y =>
  have e:h.get? a=some (PySem.W.methodObj (.ref f) (.ref y)):=x;show h'.get? a=some (PySem.W.methodObj (.ref f) (.ref y));exact k a _ (.inl rfl) e
 | ext φ=>obtain⟨p,⟨o,e⟩,st⟩:=x;exact⟨st _ _ p λo q=>k _ _ (.inl rfl) q,⟨o,k _ _ (.inl rfl) e⟩,st⟩
def HOk.lt(x:HOk P w H h)(e:H a=some o):a<h.objs.size:=(x a o e).lt
def HOk.fresh(x:HOk P w H h)(e:h.objs.size<=a):H a=none:=by
 cases q:H a with
 | none=>rfl
 | some u=>exact absurd (bo (x.lt q) e) (pI _)
def HOk.kept(x:HOk P w H h)(k:∀b u,h.get? b=some u->h'.get? b=some u):HOk P w H h':=λa o e =>
 (x a o e).stay (λb u _ q=>k b u q) (λ_ q=>q) λ_ _ q=>q
def HOk.laid(x:HOk P w H h)(k:∀b u,h.get? b=some u->h'.get? b=some u)(hp:h.objs.size<=a)(new:ObjOk P w (upd H a o) h' a o):HOk P w (upd H a o) h':=λb u e=>by
 have hn:=x.fresh hp;by_cases hb:b=a
 ·subst hb;rw[aT]at e;cases e;exact new
 ·rw[aI hb]at e;exact(x b u e).stay (λc v _ q=>k c v q) (λc q=>by rw[aI (aY q hn)];exact q) λc xs q=>by rw[aI (aY q hn)];exact q
end
def Rd(H:Hp)(a:Addr)(u:HO):Prop:=H a=some u\/∃o,H a=some (.frz o u)
def Rd.ok{H:Hp}{u:HO}(r:Rd H a u)(x:HOk P w H h):ObjOk P w H h a u:=by
 rcases r with r|⟨o,r⟩
 ·exact x a u r
 ·obtain⟨_,q⟩:=x a _ r;exact q
def Mut:Option HO->Prop
 | some (.lst _)=>True
 | some (.dK _)=>True
 | some (.dT _)=>True
 | some (.set _ _)=>True
 | some (.ins _ _ _)=>True
 | some (.ext _)=>True
 | _=>False
section
variable {H:Hp} {x e:Addr} {o':HO}
def HOk.write(ok:HOk P w H h)(mu:Mut (H x))(he:e=x\/H e=some (.own x))(k:∀b u,b≠e->h.get? b=some u->h'.get? b=some u)(heo:∃u,h'.get? e=some u)
  (new:ObjOk P w (upd H x o') h' x o'):HOk P w (upd H x o') h':=λb u q=>by
 have nown:∀c y,H c=some (.own y)->c≠x:=λc y r z=>by subst z;rw[r]at mu;exact mu
 have ntup:∀c xs,H c=some (.tup xs)->c≠x:=λc xs r z=>by subst z;rw[r]at mu;exact mu
 by_cases hb:b=x
 ·subst hb;rw[aT]at q;cases q;exact new
 ·rw[aI hb]at q;by_cases hbe:b=e
  ·have q':H b=some (.own x):=by
    rcases he with z|z
    ·exact absurd (hbe.trans z) hb
    ·rw[hbe];exact z
   rw[q]at q';cases q';obtain⟨v,hv⟩:=heo;exact⟨v,by rw[hbe];exact hv⟩
  ·refine(ok b u q).stay (λc v hc r=>k c v ?_ r) (λc r=>by rw[aI (nown c b r)];exact r) λc xs r=>by rw[aI (ntup c xs r)];exact r
   rcases hc with rfl|hc
   ·exact hbe
   ·rintro rfl;rcases he with z|z
    ·exact nown c b hc z
    ·rw[hc]at z;cases z;exact hb rfl
end
structure Un(fs ex:List Addr)(H H':Hp)(h h':Heap):Prop where
 keep:∀b o,h.get? b=some o->H b=none->b∉fs->b∉ex->h'.get? b=some o
 slot:∀b o,h.get? b=some o->H b=none->b∈fs->b∉ex->∃sl,h'.get? b=some { o with slots:=sl }
 free:∀b o,h.get? b=some o->H b=none->b∉ex->H' b=none
 there:∀b o,h.get? b=some o->b∉ex->∃o',h'.get? b=some o'
 tups:∀b xs,H b=some (.tup xs)->H' b=some (.tup xs)
 frzs:∀b o u,H b=some (.frz o u)->H' b=some (.frz o u)
 tbls:∀b ps,H b=some (.tbl ps)->∃more,H' b=some (.tbl (ps++more))
section
variable {fs fs' ex ex':List Addr} {H H1 H2:Hp} {h1 h2:Heap} {x e:Addr} {o:HO}
def Un.any(u:Un fs ex H H1 h h1){ob:Obj}(q:h.get? b=some ob)(n:H b=none)(hx:b∉ex):∃sl,h1.get? b=some { ob with slots:=sl }:=by
 by_cases hb:b∈fs
 ·exact u.slot b ob q n hb hx
 ·exact⟨ob.slots,u.keep b ob q n hb hx⟩
def Un.kept(k:∀b u,h.get? b=some u->h'.get? b=some u):Un fs ex H H h h' :=
 ⟨λb ob q _ _ _=>k b ob q,λb ob q _ _ _=>⟨ob.slots,k b ob q⟩,λ_ _ _ n _=>n,λb ob q _=>⟨ob,k b ob q⟩,λ_ _ q=>q,λ_ _ _ q=>q,λ_ ps q=>⟨#[],by rw[q];simp⟩⟩
def Un.refl:Un fs ex H H h h:=Un.kept λ_ _ q=>q
def Un.laid(k:∀b u,h.get? b=some u->h'.get? b=some u)(hp:h.objs.size<=a)(hn:H a=none):Un fs ex H (upd H a o) h h' where
 keep:=λb u q _ _ _=>k b u q
 slot:=λb u q _ _ _=>⟨u.slots,k b u q⟩
 free:=λb u q n _=>by rw[aI (bj (bo (ax q) hp))];exact n
 there:=λb u q _=>⟨u,k b u q⟩
 tups:=λb xs q=>by rw[aI (aY q hn)];exact q
 frzs:=λb u xs q=>by rw[aI (aY q hn)];exact q
 tbls:=λb ps q=>⟨#[],by rw[aI (aY q hn),q];simp⟩
def Un.write(mu:Mut (H x))(he:e=x\/H e=some (.own x))(k:∀b u,b≠e->h.get? b=some u->h'.get? b=some u)(heo:∃u,h'.get? e=some u):Un fs ex H (upd H x o) h h':=by
 have hx:∀b,H b=none->b≠x:=λb n z=>by subst z;rw[n]at mu;exact mu
 have hb:∀b,H b=none->b≠e:=λb n z=>by
  subst z;rcases he with r|r
  ·exact hx b n r
  ·rw[n]at r;cases r
 have hm:∀b u,H b=some u->¬ Mut (some u)->b≠x:=λb u q nm z=>by subst z;rw[q]at mu;exact nm mu
 refine⟨λb u q n _ _=>k b u (hb b n) q,λb u q n _ _=>⟨u.slots,k b u (hb b n) q⟩,λb u q n _=>by rw[aI (hx b n)];exact n,λb u q _=>?_,
  λb xs q=>by rw[aI (hm b _ q λz=>z)];exact q,λb u xs q=>by rw[aI (hm b _ q λz=>z)];exact q,λb ps q=>⟨#[],by rw[aI (hm b _ q λz=>z),q];simp⟩⟩
 by_cases hbe:b=e
 ·subst hbe;exact heo
 ·exact⟨u,k b u hbe q⟩
end
def trk(h:Heap)(H:Hp):List Addr:=(List.range h.objs.size).filter λa=>(H a).isSome
def tB(h:Heap)(H:Hp):Heap:=PySem.W.hideAll h (trk h H)
def Ab(h:Heap)(H:Hp):(tB h H).objs.size=h.objs.size:=PySem.W.hideAll_size _ _
def BY{H:Hp}(e:h.get? b=some o)(n:H b=none):(tB h H).get? b=some o :=
 PySem.W.hideAll_get _ e λhm=>by
  have q:(H b).isSome=true:=(List.mem_filter.mp hm).2;rw[n]at q;simp at q
def Dt{H:Hp}(e:(tB h H).get? b=some o):h.get? b=some o/\H b=none:=by
 have e':h.get? b=some o:=PySem.W.of_hideAll (trk h H) e;refine⟨e',?_⟩
 cases q:H b with
 | none=>rfl
 | some x =>
  have hm:b∈trk h H:=List.mem_filter.mpr ⟨List.mem_range.mpr (ax e'),by simp[q]⟩;have z:(tB h H).get? b=none:=PySem.W.hideAll_none (trk h H) hm;rw[z]at e;cases e
structure Mod(K:PySem.W.Frag)(mg:zzl)(base:Heap):Prop where
 kin:K.In base
 glob:base.Ns mainGlobals mg
 blt:∃mb,base.Ns builtinsNs mb/\∀x:Str,x ≠ "__name__" -> mb x=bootBuiltins x
 nolimit:base.NoLimit
structure Cx where
 prog:Program
 w:World
 K:PySem.W.Frag
 mg:Str->Option Value
 base:Heap
 A:Around
 N:List Str
 s₀:Shared
 H₀:Hp
 env:Env
 outer:List Env
 stack:List Env
 ex:List Addr
 fn:Str->Bool
 calm:Bool
 pn:List (Addr×Obj)
 xe:Value->Shared->Prop
def frs(l:List Env):List Addr:=l.filterMap (·.frame)
abbrev Cx.fs(X:Cx):List Addr:=frs X.outer
def Vis(sc:Scope)(x:Str):Prop:=sc.names.lookup x=some .local\/sc.names.lookup x=some .cell\/sc.names.lookup x=some .free
def Loc(sc:Scope)(x:Str):Prop:=sc.names.lookup x=some .local\/sc.names.lookup x=some .cell
def Look(env:Env)(h:Heap)(m:zzl)(x:Str)(u:Value):Prop :=
 (env.kindOf x=some .local/\m x=some u)\/((env.kindOf x=some .cell\/env.kindOf x=some .free)/\∃c,env.cells.lookup x=some c/\h.IsCell c (some u))
structure Cx.Ok(X:Cx):Prop where
 mod:Mod X.K X.mg X.base
 kind:X.env.scope.kind=.function
 glob:X.env.globals=mainGlobals
 blt:X.env.builtins=builtinsNs
 above:X.s₀.heap.objs.size<=X.env.locals
 inj:∀x y c,X.env.cells.lookup x=some c->X.env.cells.lookup y=some c->x=y
 has:∀x,(X.env.kindOf x=some .cell\/X.env.kindOf x=some .free)->∃c,X.env.cells.lookup x=some c
 cab:∀x c,X.fn x=true->X.env.cells.lookup x=some c->X.s₀.heap.objs.size<=c
 hd:X.calm=true->X.A.handled=none
 frames:X.A.frames=some X.stack
 stk:X.stack=X.outer\/(X.stack=X.env::X.outer/\X.env.frame=some X.env.locals)
 exf:∀b∈X.ex,b≠X.env.locals/\∀x c,X.env.cells.lookup x=some c->c≠b
 bs:∀b o,X.base.get? b=some o->X.s₀.heap.get? b=some o/\X.H₀ b=none
 bsz:X.base.objs.size<=X.s₀.heap.objs.size
 noex:∀b o,X.base.get? b=some o->b∉X.ex
 exfs:∀b∈X.ex,b∉X.fs
 funs:X.s₀.heap.FunFrames X.base X.outer
 frf:∀b∈X.fs,X.H₀ b=none
structure Inv(X:Cx)(pins:zzk)(Z:List (Option V))(H:Hp)(s:Shared):Prop where
 ok:X.Ok
 os:s.os=X.s₀.os
 bare:AllBare s.gens
 base:Un X.fs X.ex X.H₀ H X.s₀.heap s.heap
 loc:∃m,s.heap.Ns X.env.locals m/\∀(i:Nat) (x:Str) (v:V),X.N[i]? = some x->Z[i]? = some (some v)->Vis X.env.scope x->∃u,RelV v u/\Look X.env s.heap m x u
 cell:∀x c,X.env.cells.lookup x=some c->∃v,s.heap.IsCell c v
 free:H X.env.locals=none
 freeC:∀x c,X.env.cells.lookup x=some c->H c=none
 pin:∀p∈X.pn++pins,s.heap.get? p.1=some p.2/\H p.1=none/\p.1≠X.env.locals/\p.1∉X.fs/\∀v,p.2.data≠.cell v
 hok:HOk X.prog X.w H s.heap
 len:Z.length=X.N.length
section
variable {X:Cx} {Z:List (Option V)} {H H':Hp} {s:Shared}
def Cx.Ok.nofr(ok:X.Ok)(e:X.base.get? b=some o):b∉X.fs:=λhb=>by
 have:=(ok.funs.mem hb).1;rw[e]at this;cases this
def Inv.bs(I:Inv X pins Z H s):∀b o,X.base.get? b=some o->s.heap.get? b=some o/\H b=none:=λb o e =>
 ⟨I.base.keep b o (I.ok.bs b o e).1 (I.ok.bs b o e).2 (I.ok.nofr e) (I.ok.noex b o e),I.base.free b o (I.ok.bs b o e).1 (I.ok.bs b o e).2 (I.ok.noex b o e)⟩
def Inv.bk(I:Inv X pins Z H s):∀b o,X.base.get? b=some o->s.heap.get? b=some o:=λb o e=>(I.bs b o e).1
def Inv.mod(I:Inv X pins Z H s):Mod X.K X.mg X.base:=I.ok.mod
def Inv.kIn(I:Inv X pins Z H s):X.K.In s.heap:=I.ok.mod.kin.keeps I.bk
def Inv.lt(I:Inv X pins Z H s):X.env.locals<s.heap.objs.size:=let ⟨_,hn,_⟩:=I.loc;hn.lt
def Inv.sz(I:Inv X pins Z H s):X.s₀.heap.objs.size<=s.heap.objs.size:=cr I.ok.above (Lu I.lt)
def Inv.nofs(I:Inv X pins Z H s)(h:s.heap.objs.size<=a):a∉X.fs:=λhb=>by
 obtain⟨_,o,ho,_⟩:=I.ok.funs.mem hb;exact absurd (bo (ax ho) (cr I.sz h)) (pI _)
def Inv.cne(I:Inv X pins Z H s):∀x c,X.env.cells.lookup x=some c->c≠X.env.locals:=λx c e z=>by
 obtain⟨v,o,ho,hd⟩:=I.cell x c e;obtain⟨m,⟨o',es,ep,ho',hd',_⟩,_⟩:=I.loc;rw[z,ho']at ho;cases ho;rw[hd']at hd;cases hd
def Inv.funs(I:Inv X pins Z H s):s.heap.FunFrames X.base X.outer:=by
 have all:∀(l:List Env),(∀b∈frs l,b∈X.fs)->X.s₀.heap.FunFrames X.base l->s.heap.FunFrames X.base l:=by
  intro l
  induction l with
  | nil=>intro _ _;trivial
  | cons env r ih =>
   intro hs hl;obtain⟨hk,⟨L,o,hf,hn,ho,hd⟩,hr⟩:=hl;have hL:L∈X.fs:=hs L (by unfold frs;rw[je,hf];exact am);obtain⟨sl,e⟩:=I.base.slot L o ho (I.ok.frf L hL) hL λz=>I.ok.exfs L z hL
   exact⟨hk,⟨L,_,hf,hn,e,hd⟩,ih (λb hb=>hs b (by unfold frs;rw[je,hf];exact zzg _ hb)) hr⟩
 exact all X.outer (λ_ hb=>hb) I.ok.funs
def Inv.stack(I:Inv X pins Z H s):s.heap.FunFrames X.base X.stack:=by
 rcases I.ok.stk with e|⟨e,hf⟩
 ·rw[e];exact I.funs
 ·rw[e];obtain⟨m,hn,_⟩:=I.loc;refine .cons (by rw[I.ok.kind];decide) hf hn ?_ I.funs;exact Heap.get?_none_of_le (cr I.ok.bsz I.ok.above)
def Inv.stkSub(I:Inv X pins Z H s):∀b∈frs X.stack,b∈X.env.locals::X.fs:=λb hb=>by
 rcases I.ok.stk with e|⟨e,hf⟩
 ·rw[e]at hb;exact zzg _ hb
 ·rw[e]at hb;unfold frs at hb;rw[je,hf]at hb;exact hb
def Inv.stkFree(I:Inv X pins Z H s):∀b∈frs X.stack,H b=none:=λb hb=>by
 rcases List.mem_cons.mp (I.stkSub b hb)with e|hb
 ·rw[e];exact I.free
 ·obtain⟨_,o,ho,_⟩:=I.ok.funs.mem hb;exact I.base.free b o ho (I.ok.frf b hb) λz=>I.ok.exfs b z hb
theorem Inv.step{g':Array GenState}{d':Drawn}{ch:List Addr}(I:Inv X pins Z H s)
  (hch:∀b∈ch,(b∈X.ex\/X.s₀.heap.objs.size<=b)/\b≠X.env.locals/\(∀x c,X.env.cells.lookup x=some c->c≠b)/\∀p∈X.pn++pins,p.1≠b)
  (keep:∀b o,b≠X.env.locals->b∉X.fs->b∉ch->s.heap.get? b=some o->H b=none->h'.get? b=some o)
  (slot:∀b o,b≠X.env.locals->b∈X.fs->b∉ch->s.heap.get? b=some o->H b=none->∃sl,h'.get? b=some { o with slots:=sl }) (free:∀b o,b∉ch->s.heap.get? b=some o->H b=none->H' b=none)
  (there:∀b o,b∉ch->s.heap.get? b=some o->∃o',h'.get? b=some o')
  (tups:∀b xs,H b=some (.tup xs)->H' b=some (.tup xs)) (frzs:∀b o u,H b=some (.frz o u)->H' b=some (.frz o u)) (tbls:∀b ps,H b=some (.tbl ps)->∃more,H' b=some (.tbl (ps++more)))
  (ns:∀m,s.heap.Ns X.env.locals m->h'.Ns X.env.locals m) (hok:HOk X.prog X.w H' h') (hg:AllBare g') :
  Inv X pins Z H' { s with heap:=h',gens:=g',drawn:=d',toks:=t' }:=by
 have neL:∀b o,X.s₀.heap.get? b=some o->b≠X.env.locals:=λb o e=>bj (bo (ax e) I.ok.above)
 have neC:∀b o,X.s₀.heap.get? b=some o->b∉X.ex->b∉ch:=λb o e hx hb=>by
  rcases(hch b hb).1 with z|z
  ·exact hx z
  ·exact absurd (bo (ax e) z) (pI _)
 have cellK:∀x c,X.env.cells.lookup x=some c->∀v,s.heap.IsCell c v->h'.IsCell c v:=λx c e v ⟨o,ho,hd⟩=>by
  have nch:c∉ch:=λz=>(hch c z).2.2.1 x c e rfl
  by_cases hc:c∈X.fs
  ·obtain⟨sl,q⟩:=slot c o (I.cne x c e) hc nch ho (I.freeC x c e);exact⟨_,q,hd⟩
  ·exact⟨o,keep c o (I.cne x c e) hc nch ho (I.freeC x c e),hd⟩
 refine⟨I.ok,I.os,hg,⟨λb o e n hb hx=>?_,λb o e n hb hx=>?_,λb o e n hx=>?_,λb o e hx=>?_,λb xs e=>tups b xs (I.base.tups b xs e),λb o xs e=>frzs b o xs (I.base.frzs b o xs e),λb ps e=>?_⟩,?_,λx c e=>?_,?_,λx c e=>?_,λp hp=>?_,hok,I.len⟩
 ·exact keep b o (neL b o e) hb (neC b o e hx) (I.base.keep b o e n hb hx) (I.base.free b o e n hx)
 ·obtain⟨sl,e1⟩:=I.base.slot b o e n hb hx;obtain⟨sl',e2⟩:=slot b _ (neL b o e) hb (neC b o e hx) e1 (I.base.free b o e n hx);exact⟨sl',e2⟩
 ·obtain⟨o',e1⟩:=I.base.there b o e hx;exact free b o' (neC b o e hx) e1 (I.base.free b o e n hx)
 ·obtain⟨o',e1⟩:=I.base.there b o e hx;exact there b o' (neC b o e hx) e1
 ·obtain⟨m1,e1⟩:=I.base.tbls b ps e;obtain⟨m2,e2⟩:=tbls b _ e1;exact⟨m1++m2,by rw[e2,Array.append_assoc]⟩
 ·obtain⟨m,hn,hl⟩:=I.loc;refine⟨m,ns m hn,λi x v e1 e2 e3=>?_⟩;obtain⟨u,r,l⟩:=hl i x v e1 e2 e3;refine⟨u,r,?_⟩;rcases l with l|⟨k,c,e,z⟩
  ·exact .inl l
  ·exact .inr ⟨k,c,e,cellK x c e _ z⟩
 ·obtain⟨v,z⟩:=I.cell x c e;exact⟨v,cellK x c e v z⟩
 ·obtain⟨m,⟨o,_,_,ho,_⟩,_⟩:=I.loc;exact free _ o (λz=>(hch _ z).2.1 rfl) ho I.free
 ·obtain⟨v,o,ho,hd⟩:=I.cell x c e;exact free c o (λz=>(hch c z).2.2.1 x c e rfl) ho (I.freeC x c e)
 ·obtain⟨e,n,ne,nf,d⟩:=I.pin p hp;have nch:p.1∉ch:=λz=>(hch p.1 z).2.2.2 p hp rfl
  exact⟨keep p.1 p.2 ne nf nch e n,free p.1 p.2 nch e n,ne,nf,d⟩
theorem Inv.un(I:Inv X pins Z H s)(u:Un X.fs [] H H' s.heap h')(hok:HOk X.prog X.w H' h'):Inv X pins Z H' { s with heap:=h',toks:=t' }:=by
 obtain⟨m,⟨o,es,ep,ho,r⟩,_⟩:=id I.loc;obtain⟨sl,hL⟩:=u.any ho I.free (by simp)
 exact I.step (g':=s.gens) (d':=s.drawn) (ch:=[]) (λ_ z=>nomatch z) (λb o _ hb _ e n=>u.keep b o e n hb (by simp)) (λb o _ hb _ e n=>u.slot b o e n hb (by simp)) (λb o _ e n=>u.free b o e n (by simp)) (λb o _ e=>u.there b o e (by simp)) u.tups u.frzs u.tbls (λm' hm=>by
  obtain⟨o',es',ep',ho',r'⟩:=hm;rw[ho]at ho';cases ho'
  exact⟨_,es',ep',hL,r'⟩) hok I.bare
theorem Inv.call{g':Array GenState}{d':Drawn}{ch:List Addr}(I:Inv X pins Z H s)(u:Un (frs X.stack) ch H H' s.heap h')(hok:HOk X.prog X.w H' h')(hg:AllBare g')
  (hch:∀b∈ch,(b∈X.ex\/X.s₀.heap.objs.size<=b)/\b≠X.env.locals/\(∀x c,X.env.cells.lookup x=some c->c≠b)/\∀p∈X.pn++pins,p.1≠b) :
  Inv X pins Z H' { s with heap:=h',gens:=g',drawn:=d',toks:=t' }:=by
 obtain⟨m,⟨o,es,ep,ho,r⟩,_⟩:=id I.loc;obtain⟨sl,hL⟩:=u.any ho I.free λz=>(hch _ z).2.1 rfl
 exact I.step (ch:=ch) hch (λb o hL hb hc e n=>u.keep b o e n (λz=>(List.mem_cons.mp (I.stkSub b z)).elim hL hb) hc) (λb o _ _ hc e n=>u.any e n hc) (λb o hc e n=>u.free b o e n hc) (λb o hc e=>u.there b o e hc) u.tups u.frzs u.tbls (λm' hm=>by
  obtain⟨o',es',ep',ho',r'⟩:=hm;rw[ho]at ho';cases ho'
  exact⟨_,es',ep',hL,r'⟩) hok hg
theorem Inv.turned{it:Addr}(I:Inv X pins Z H s)(k:∀b o,b≠it->s.heap.get? b=some o->h'.get? b=some o)(hn:H it=none)(hL:it≠X.env.locals)
  (h1:it∈X.ex\/X.s₀.heap.objs.size<=it) (h2:∀x c,X.env.cells.lookup x=some c->c≠it) (h3:∀p∈X.pn++pins,p.1≠it):Inv X pins Z H { s with heap:=h',toks:=t' }:=by
 have nit:∀b u,H b=some u->b≠it:=λb u e z=>by rw[z,hn]at e;cases e
 refine I.step (g':=s.gens) (d':=s.drawn) (ch:=[it]) (λb hb=>?_) (λb o _ _ hc e _=>k b o (λz=>hc (by simp[z])) e) (λb o _ _ hc e _=>⟨o.slots,k b o (λz=>hc (by simp[z])) e⟩) (λ_ _ _ _ n=>n)
  (λb o hc e=>⟨o,k b o (λz=>hc (by simp[z])) e⟩) (λ_ _ e=>e) (λ_ _ _ e=>e) (λb ps e=>⟨#[],by rw[e];simp⟩) (λm hm=>?_) (λb u e=>?_) I.bare
 ·have e:b=it:=by simpa using hb
  subst e;exact⟨h1,hL,h2,h3⟩
 ·obtain⟨o,es,ep,ho,r⟩:=hm;exact⟨o,es,ep,k _ o (Ne.symm hL) ho,r⟩
 ·refine(I.hok b u e).stay (λc v hc q=>k c v ?_ q) (λ_ q=>q) λ_ _ q=>q
  rcases hc with z|z
  ·rw[z];exact nit b u e
  ·exact nit c _ z
theorem Inv.tok(I:Inv X pins Z H s)(t:Nat):Inv X pins Z H { s with toks:=t }:=I.un (h':=s.heap) (t':=t) Un.refl I.hok
theorem Inv.kept(I:Inv X pins Z H s)(k:∀b u,s.heap.get? b=some u->h'.get? b=some u):Inv X pins Z H { s with heap:=h',toks:=t' }:=I.un (Un.kept k) (I.hok.kept k)
theorem Inv.laid{o:HO}(I:Inv X pins Z H s)(k:∀b u,s.heap.get? b=some u->h'.get? b=some u)(hp:s.heap.objs.size<=a)(new:ObjOk X.prog X.w (upd H a o) h' a o) :
  Inv X pins Z (upd H a o) { s with heap:=h',toks:=t' }:=I.un (Un.laid k hp (I.hok.fresh hp)) (I.hok.laid k hp new)
theorem Inv.write{x e:Addr}{o:HO}(I:Inv X pins Z H s)(mu:Mut (H x))(he:e=x\/H e=some (.own x))(k:∀b u,b≠e->s.heap.get? b=some u->h'.get? b=some u)(heo:∃u,h'.get? e=some u)
  (new:ObjOk X.prog X.w (upd H x o) h' x o):Inv X pins Z (upd H x o) { s with heap:=h',toks:=t' }:=I.un (Un.write mu he k heo) (I.hok.write mu he k heo new)
def Inv.pins_of{pins':zzk}(I:Inv X pins Z H s)(h:∀p∈pins',s.heap.get? p.1=some p.2/\H p.1=none/\p.1≠X.env.locals/\p.1∉X.fs/\∀v,p.2.data≠.cell v):Inv X pins' Z H s :=
 ⟨I.ok,I.os,I.bare,I.base,I.loc,I.cell,I.free,I.freeC,λp hp=>(List.mem_append.mp hp).elim (λz=>I.pin p (Ln _ z)) (h p),I.hok,I.len⟩
def oW{N:List Str}(hN:N.Nodup)(a:N[i]? = some x)(b:N[j]? = some x):i=j:=by
 obtain⟨h1,e1⟩:=List.getElem?_eq_some_iff.mp a;obtain⟨h2,e2⟩:=List.getElem?_eq_some_iff.mp b;exact(List.getElem_inj hN).mp (e1.trans e2.symm)
def qL{M:Model}{v:V}(I:Inv X pins Z H s)(hN:X.N.Nodup)(hi:X.N[i]? = some x)(hx:Loc X.env.scope x)(r:RelV v u)
  (h:∀s',Inv X pins (Z.set i (some v)) H s'->(∃a,Heap.SameBut a s.heap s'.heap/\(a=X.env.locals\/X.env.cells.lookup x=some a))->Q () s') (hf:X.fn x=true\/X.env.scope.names.lookup x=some .local:=by first|exact .inl rfl|exact .inr rfl|assumption):wpAny M A (storeName X.env x u) Q E s:=by
 obtain⟨m,hn,hl⟩:=id I.loc;have hcls:(X.env.scope.kind==.class||(X.env.scope.kind==.module&&X.env.locals != X.env.globals))=false:=by rw[I.ok.kind];rfl
 have hiσ:i<Z.length:=by rw[I.len];exact(List.getElem?_eq_some_iff.mp hi).1
 have cne:=I.cne;have tracked:∀{a:Addr} {h':Heap},(∃o,s.heap.get? a=some o/\H a=none)->Heap.SameBut a s.heap h'->HOk X.prog X.w H h':=λ{a h'} ha hs b ob e=>by
  obtain⟨_,_,hfree⟩:=ha;refine(I.hok b ob e).stay (λc w' hc q=>(hs.2 c ?_).trans q) (λ_ q=>q) λ_ _ q=>q
  rintro rfl;rcases hc with rfl|hc
  ·rw[hfree]at e;cases e
  ·rw[hfree]at hc;cases hc
 rcases hx with hk|hk
 ·refine wpAny_storeName_local hk hn (λh' hn' hs=>?_) hcls;obtain⟨oL,_,_,hoL,_⟩:=id hn;refine h _ ⟨I.ok,I.os,I.bare,⟨λb o e n hb hx=>?_,λb o e n hb hx=>?_,I.base.free,λb o e hx=>?_,I.base.tups,I.base.frzs,I.base.tbls⟩,⟨_,hn',λj y v' e1 e2 e3=>?_⟩,λy c e=>?_,I.free,I.freeC,λp hp=>?_,tracked ⟨oL,hoL,I.free⟩ hs,by simpa using I.len⟩ ⟨_,hs,.inl rfl⟩
  ·exact(hs.2 b (bj (bo (ax e) I.ok.above))).trans (I.base.keep b o e n hb hx)
  ·obtain⟨sl,e1⟩:=I.base.slot b o e n hb hx;exact⟨sl,(hs.2 b (bj (bo (ax e) I.ok.above))).trans e1⟩
  ·obtain⟨o',e1⟩:=I.base.there b o e hx;exact⟨o',(hs.2 b (bj (bo (ax e) I.ok.above))).trans e1⟩
  ·by_cases hj:j=i
   ·subst hj;rw[hi]at e1;cases e1;rw[gn hiσ]at e2
    cases e2
    exact⟨u,r,.inl ⟨hk,by simp⟩⟩
   ·rw[eE (Ne.symm hj)]at e2;obtain⟨u',r',q⟩:=hl j y v' e1 e2 e3;refine⟨u',r',?_⟩;rcases q with ⟨k,e⟩|⟨k,c,e,z⟩
    ·refine .inl ⟨k,?_⟩;have:y≠x:=λe=>hj (oW hN e1 (e▸hi))
     simp[this,e]
    ·exact .inr ⟨k,c,e,z.sameBut hs (cne y c e)⟩
  ·obtain⟨w',z⟩:=I.cell y c e;exact⟨w',z.sameBut hs (cne y c e)⟩
  ·obtain⟨e,n,ne,nf,d⟩:=I.pin p hp;exact⟨(hs.2 p.1 ne).trans e,n,ne,nf,d⟩
 ·have hfn:X.fn x=true:=by
   rcases hf with z|z
   ·exact z
   ·rw[z]at hk;cases hk
  obtain⟨c,hc⟩:=I.ok.has x (.inl hk);obtain⟨w',z⟩:=I.cell x c hc;refine wpAny_storeName_cell I.ok.kind hk hc z (λh' hc' hs=>?_);obtain⟨oc,hoc,hocd⟩:=id z;refine h { s with heap:=h' } ⟨I.ok,I.os,I.bare,⟨λb o e n hb hx=>?_,λb o e n hb hx=>?_,I.base.free,λb o e hx=>?_,I.base.tups,I.base.frzs,I.base.tbls⟩,⟨m,hn.sameBut hs (Ne.symm (cne x c hc)),λj y v' e1 e2 e3=>?_⟩,λy c' e=>?_,I.free,I.freeC,λp hp=>?_,tracked ⟨oc,hoc,I.freeC x c hc⟩ hs,by simpa using I.len⟩ ⟨c,hs,.inr hc⟩
  ·exact(hs.2 b (bj (bo (ax e) (I.ok.cab x c hfn hc)))).trans (I.base.keep b o e n hb hx)
  ·obtain⟨sl,e1⟩:=I.base.slot b o e n hb hx;exact⟨sl,(hs.2 b (bj (bo (ax e) (I.ok.cab x c hfn hc)))).trans e1⟩
  ·obtain⟨o',e1⟩:=I.base.there b o e hx;exact⟨o',(hs.2 b (bj (bo (ax e) (I.ok.cab x c hfn hc)))).trans e1⟩
  ·by_cases hj:j=i
   ·subst hj;rw[hi]at e1;cases e1;rw[gn hiσ]at e2
    cases e2
    exact⟨u,r,.inr ⟨.inl hk,c,hc,hc'⟩⟩
   ·rw[eE (Ne.symm hj)]at e2;obtain⟨u',r',q⟩:=hl j y v' e1 e2 e3;refine⟨u',r',?_⟩;rcases q with q|⟨k,c',e,z'⟩
    ·exact .inl q
    ·refine .inr ⟨k,c',e,z'.sameBut hs ?_⟩;rintro rfl;exact hj (oW hN e1 (I.ok.inj _ _ _ e hc▸hi))
  ·by_cases hcc:c'=c
   ·subst hcc;exact⟨_,hc'⟩
   ·obtain⟨w2,z2⟩:=I.cell y c' e;exact⟨w2,z2.sameBut hs hcc⟩
  ·obtain⟨e,n,ne,nf,d⟩:=I.pin p hp;refine⟨(hs.2 p.1 ?_).trans e,n,ne,nf,d⟩;intro q;rw[q,hoc]at e;have q':oc=p.2:=Option.some.inj e;exact d w' (by rw[<-q'];exact hocd)
def eN{M:Model}{v:V}(I:Inv X pins Z H s)(hN:X.N.Nodup)(hi:X.N[i]? = some x)(hx:Loc X.env.scope x)(r:RelV v u)
  (h:∀s',Inv X pins (Z.set i (some v)) H s'->Q () s') (hf:X.fn x=true\/X.env.scope.names.lookup x=some .local:=by first|exact .inl rfl|exact .inr rfl|assumption):wpAny M A (storeName X.env x u) Q E s :=
 qL I hN hi hx r (λs' I' _=>h s' I') hf
def Inv.call'{s':Shared}{ch:List Addr}(I:Inv X pins Z H s)(ho:s'.os=s.os)(u:Un (frs X.stack) ch H H' s.heap s'.heap)(hok:HOk X.prog X.w H' s'.heap)(hg:AllBare s'.gens)
  (hch:∀b∈ch,(b∈X.ex\/X.s₀.heap.objs.size<=b)/\b≠X.env.locals/\(∀x c,X.env.cells.lookup x=some c->c≠b)/\∀p∈X.pn++pins,p.1≠b):Inv X pins Z H' s':=by
 obtain⟨h',g',d',t',o'⟩:=s';have e:o'=s.os:=ho;subst e;exact I.call (g':=g') (t':=t') (d':=d') u hok hg hch
end
abbrev XK:=Value->Option Addr->Hp->Prop
abbrev St:=List (Option V)
abbrev VK:=V->Hp->Prop
abbrev TE:=St->Hp->VK->Prop
abbrev TT:=St->Hp->(Bool->Hp->Prop)->Prop
abbrev TA:=St->Hp->(List V->Hp->Prop)->Prop
structure Ends where
 nx:St->Hp->Prop
 rt:VK
 bk:St->Hp->Prop:=λ_ _=>False
 ct:St->Hp->Prop:=λ_ _=>False
abbrev TS:=Ends->St->Hp->Prop
def EP(X:Cx)(pins:zzk)(Z:St)(Q:VK)(u:Value)(s':Shared):Prop:=∃v H',Inv X pins Z H' s'/\RelV v u/\Q v H'
def TP(X:Cx)(pins:zzk)(Z:St)(Q:Bool->Hp->Prop)(b:Bool)(s':Shared):Prop:=∃H',Inv X pins Z H' s'/\Q b H'
def AP(X:Cx)(pins:zzk)(Z:St)(Q:List V->Hp->Prop)(us:List Value)(s':Shared):Prop:=∃vs H',Inv X pins Z H' s'/\Vals vs us/\Q vs H'
def SP(X:Cx)(pins:zzk)(D:Ends)(f:Flow)(s':Shared):Prop :=
 match f with
 | .next=>∃σ' H',Inv X pins σ' H' s'/\D.nx σ' H'
 | .brk=>∃σ' H',Inv X pins σ' H' s'/\D.bk σ' H'
 | .cont=>∃σ' H',Inv X pins σ' H' s'/\D.ct σ' H'
 | .ret u=>∃v σ' H',Inv X pins σ' H' s'/\RelV v u/\D.rt v H'
def PE(X:Cx)(e:Expr)(t:TE):Prop :=
 ∀(pins:zzk) (s:Shared) (Z:St) (H:Hp) (Q:VK),Inv X pins Z H s->t Z H Q->wpAny (model X.prog X.w) X.A (eval e X.env) (EP X pins Z Q) X.xe s
def PT(X:Cx)(e:Expr)(t:TT):Prop :=
 ∀(pins:zzk) (s:Shared) (Z:St) (H:Hp) (Q:Bool->Hp->Prop),Inv X pins Z H s->t Z H Q->wpAny (model X.prog X.w) X.A (isTrue e X.env (eval e X.env)) (TP X pins Z Q) X.xe s
def PW(X:Cx)(e:Expr)(t:TT):Prop :=
 ∀(whole:Sem Value) (pins:zzk) (s:Shared) (Z:St) (H:Hp) (Q:Bool->Hp->Prop),Inv X pins Z H s->t Z H Q->wpAny (model X.prog X.w) X.A (isTrue e X.env whole) (TP X pins Z Q) X.xe s
def PA(X:Cx)(es:List Expr)(t:TA):Prop :=
 ∀(pos:Pos) (pins:zzk) (s:Shared) (Z:St) (H:Hp) (Q:List V->Hp->Prop),Inv X pins Z H s->t Z H Q->wpAny (model X.prog X.w) X.A (spliced (backTo pos (starEach es X.env))) (AP X pins Z Q) X.xe s
def PS(X:Cx)(st:Stmt)(t:TS):Prop :=
 ∀(pins:zzk) (s:Shared) (Z:St) (H:Hp) (D:Ends),Inv X pins Z H s->t D Z H->wpAny (model X.prog X.w) X.A (exec st X.env) (SP X pins D) X.xe s
def PSs(X:Cx)(st:List Stmt)(t:TS):Prop :=
 ∀(pins:zzk) (s:Shared) (Z:St) (H:Hp) (D:Ends),Inv X pins Z H s->t D Z H->wpAny (model X.prog X.w) X.A (execs st X.env) (SP X pins D) X.xe s
def thn{α:Type}{t:Sem α}{Q Q':α->Shared->Prop}{M:Model}{s:Shared}(h:wpAny M A t Q E s)(hQ:∀a s,Q a s->Q' a s):wpAny M A t Q' E s:=li h hQ λ_ _ x=>x
section
variable {X:Cx}
def zy(i:Nat):TE:=λZ H Q=>∃v,Z[i]? = some (some v)/\Q v H
def tC(v:V):TE:=λ_ H Q=>Q v H
theorem dh(hN:X.N[i]? = some x)(hv:Vis X.env.scope x)(hd:(x==("__debug__" : Str))=false:=by decide)(hcd:(x==("__classdict__" : Str))=false:=by decide):PE X (.Name x pos) (zy i):=by
 intro pins s Z H Q I h;obtain⟨v,e,h⟩:=h;obtain⟨m,hn,hl⟩:=I.loc;obtain⟨u,r,l⟩:=hl i x v hN e hv;have fin:EP X pins Z Q u s:=⟨v,H,I,r,h⟩;rcases l with ⟨hk,hm⟩|⟨hk,c,hc,hcell⟩
 ·exact wpAny_Name (wpAny_loadName_local I.ok.kind hk hn hm fin) hd
 ·rcases hk with hk|hk
  ·exact wpAny_Name (wpAny_loadName_cell I.ok.kind hk hc hcell fin) hd
  ·exact wpAny_Name (wpAny_loadName_free I.ok.kind hk hc hcell fin hcd) hd
def Bp{i j pos}:PE X (.Constant (.int i) j pos) (tC (.int i)):=λ_ _ _ H _ I h=>wpAny_Constant_int ⟨.int i,H,I.tok _,⟨_,rfl⟩,h⟩
def Ij{b j pos}:PE X (.Constant (.bool b) j pos) (tC (.bl b)):=λ_ _ _ H _ I h=>Constant_bool ⟨.bl b,H,I,rfl,h⟩
def FZ{j pos}:PE X (.Constant .none j pos) (tC .non):=λ_ _ _ H _ I h=>Constant_none ⟨.non,H,I,rfl,h⟩
def Bm{x j pos}:PE X (.Constant (.str x) j pos) (tC (.str x)):=λ_ _ _ H _ I h=>Calls.Constant_str ⟨.str x,H,I.tok _,⟨_,rfl⟩,h⟩
def Gl(X:Cx)(x:Str):Prop:=X.env.kindOf x=some .globalImplicit
theorem kQ{s:Shared}{Z:St}{H:Hp}{Q:zzj}(I:Inv X pins Z H s)(hg:Gl X x)(hm:X.mg x=some u)(h:Q u s)
  (hd:(x==("__debug__" : Str))=false:=by decide):wpAny (model X.prog X.w) X.A (eval (.Name x pos) X.env) Q E s :=
 Calls.Name_function_global I.ok.kind hg (Calls.loadGlobal_global (by rw[I.ok.glob];exact I.mod.glob.keeps I.bk) hm h) hd
theorem o7{s:Shared}{Z:St}{H:Hp}{Q:zzj}(I:Inv X pins Z H s)(hg:Gl X x)(hm:X.mg x=none)(hv:bootBuiltins x=some u)(h:Q u s)
  (hn:x ≠ "__name__":=by decide) (hd:(x==("__debug__" : Str))=false:=by decide):wpAny (model X.prog X.w) X.A (eval (.Name x pos) X.env) Q E s:=by
 obtain⟨mb,h1,h2⟩:=I.mod.blt;exact Calls.Name_function_global I.ok.kind hg (Calls.loadGlobal_builtin (by rw[I.ok.glob];exact I.mod.glob.keeps I.bk) hm (by rw[I.ok.blt];exact h1.keeps I.bk) ((h2 x hn).trans hv) h) hd
theorem yr{v:V}(hg:Gl X x)(hm:X.mg x=some u)(r:RelV v u)(hd:(x==("__debug__" : Str))=false:=by decide):PE X (.Name x pos) (tC v) :=
 λ_ _ _ H _ I h=>kQ I hg hm ⟨v,H,I,r,h⟩ hd
variable {a b:Expr} {ta tb:TE}
variable {tA tB':TT} {rest:List Expr}
def JC(t u:TT):TT:=λZ H Q=>t Z H λc H1=>if c=true then u Z H1 Q else Q false H1
def tOr(t u:TT):TT:=λZ H Q=>t Z H λc H1=>if c=true then Q true H1 else u Z H1 Q
def Jw(t:TT):TT:=λZ H Q=>t Z H λc H1=>Q (!c) H1
def yf(ha:PT X a tA):PW X (.BoolOp .And [a] pos) tA:=by
 intro wh pins s Z H Q I h;refine isTrue_and (thn (ha pins s Z H Q I h) λc s1 e=>?_)
 cases c with
 | true=>exact isTrue_and_nil e
 | false=>exact e
def FO(ha:PT X a tA):PW X (.BoolOp .Or [a] pos) tA:=by
 intro wh pins s Z H Q I h;refine isTrue_or (thn (ha pins s Z H Q I h) λc s1 e=>?_)
 cases c with
 | false=>exact isTrue_or_nil e
 | true=>exact e
def Bb(ha:PT X a tA)(hb:PW X (.BoolOp .And (b::rest) pos) tB'):PW X (.BoolOp .And (a::b::rest) pos) (JC tA tB'):=by
 intro wh pins s Z H Q I h;refine isTrue_and (thn (ha pins s Z H _ I h) λc s1 ⟨H1,I1,q1⟩=>?_)
 cases c with
 | true=>exact hb wh pins s1 Z H1 Q I1 q1
 | false=>exact⟨H1,I1,q1⟩
def Ia(ha:PT X a tA)(hb:PW X (.BoolOp .Or (b::rest) pos) tB'):PW X (.BoolOp .Or (a::b::rest) pos) (tOr tA tB'):=by
 intro wh pins s Z H Q I h;refine isTrue_or (thn (ha pins s Z H _ I h) λc s1 ⟨H1,I1,q1⟩=>?_)
 cases c with
 | true=>exact⟨H1,I1,q1⟩
 | false=>exact hb wh pins s1 Z H1 Q I1 q1
def Bc(ha:PT X a tA):PT X (.UnaryOp .Not a pos) (Jw tA):=by
 intro pins s Z H Q I h;exact isTrue_not (ha pins s Z H (λc H1=>Q (!c) H1) I h)
def Hx(ta tb:TE):TE:=λZ H Q=>ta Z H λx H1=>∃c,x=.bl c/\if c=true then tb Z H1 Q else Q (.bl false) H1
def FY{op}{t:TE}(h:PE X a t):PE X (.BoolOp op [a] pos) t:=λpins s Z H Q I hw=>BoolOp_one (h pins s Z H Q I hw)
def Gb(ha:PE X a ta)(hb:PE X (.BoolOp .And (b::rest) pos) tb):PE X (.BoolOp .And (a::b::rest) pos) (Hx ta tb):=by
 intro pins s Z H Q I h;refine BoolOp_and (thn (ha pins s Z H _ I h) λv s1 ⟨x,H1,I1,r1,q1⟩=>?_);obtain⟨c,rfl,q1⟩:=q1
 cases r1
 refine ES ?_
 cases c with
 | true=>exact hb pins s1 Z H1 Q I1 q1
 | false=>exact⟨.bl false,H1,I1,rfl,q1⟩
def tIf(t:TT)(ta tb:TE):TE:=λZ H Q=>t Z H λc H1=>if c=true then ta Z H1 Q else tb Z H1 Q
def uC(hc:PT X c tA)(ha:PE X a ta)(hb:PE X b tb):PE X (.IfExp c a b pos) (tIf tA ta tb):=by
 intro pins s Z H Q I h;refine wpAny_IfExp (thn (hc pins s Z H _ I h) λd s1 ⟨H1,I1,q1⟩=>?_)
 cases d with
 | true=>exact ha pins s1 Z H1 Q I1 q1
 | false=>exact hb pins s1 Z H1 Q I1 q1
end
def SqL(K:PySem.W.Frag)(H:Hp)(a:Addr)(xs:List V):Prop :=
 Rd H a (.lst xs) \/
  ∃(o:Obj) (its:Array Value) (n:Nat),K.lookup a=some o/\o.cls=.type "list" /\ o.dict=none/\o.data=.seq its n/\its.size<=sizeLine/\Vals xs its.toList
def SqT(K:PySem.W.Frag)(H:Hp)(a:Addr)(xs:List V):Prop :=
 Rd H a (.tup xs) \/
  ∃(o:Obj) (its:Array Value) (n:Nat),K.lookup a=some o/\o.cls=.type "tuple" /\ o.data=.seq its n/\its.size<=sizeLine/\Vals xs its.toList
def Kz:Value->Option V
 | .none=>some .non
 | .bool b=>some (.bl b)
 | .int i _=>some (.int i)
 | .str x _=>some (.str x)
 | .bytes b _=>some (.byt b)
 | .float b _=>some (.flt b)
 | .ref a=>some (.ref a)
 | .type n=>some (.ty n)
 | _=>none
def RelV.abs{x:V}(r:RelV x u):Kz u=some x:=by
 cases x with
 | non=>cases r;rfl
 | bl _=>cases r;rfl
 | int _=>obtain⟨t,rfl⟩:=r;rfl
 | str _=>obtain⟨t,rfl⟩:=r;rfl
 | byt _=>obtain⟨t,rfl⟩:=r;rfl
 | flt _=>obtain⟨t,rfl⟩:=r;rfl
 | ref _=>cases r;rfl
 | ty _=>cases r;rfl
def RelV.inj{x y:V}(r:RelV x u)(q:RelV y u):x=y:=Option.some.inj (r.abs.symm.trans q.abs)
def Vals.inj:∀{xs ys:List V} {us:List Value},Vals xs us->Vals ys us->xs=ys:=by
 intro xs ys us h
 induction h generalizing ys with
 | nil=>intro h2;cases h2;rfl
 | cons r _ ih =>
  intro h2
  cases h2 with
  | cons r' t'=>rw[r.inj r',ih t']
section
variable {X:Cx} {Z:St} {H:Hp} {s:Shared} {xs ys:List V}
def SqT.of{K:PySem.W.Frag}(h:H a=some (.tup xs)):SqT K H a xs:=.inl (.inl h)
theorem Inv.list(I:Inv X pins Z H s)(h:SqL X.K H a xs):∃its:List Value,Vals xs its/\PlainL s.heap a its.toArray/\xs.length<=sizeLine:=by
 rcases h with h|⟨o,its,n,hk,hc,hd,hs,hz,r⟩
 ·obtain⟨z,its,n,r,e⟩:=h.ok I.hok;exact⟨its,r,⟨_,n,e,rfl,rfl,rfl⟩,z⟩
 ·refine⟨its.toList,r,⟨o,n,I.kIn a o hk,hc,hd,by simpa using hs⟩,?_⟩;have e:=r.length;simp only[ce]at e;lia
theorem Inv.tuple(I:Inv X pins Z H s)(h:SqT X.K H a xs):∃its:List Value,Vals xs its/\IsTup s.heap a its.toArray/\xs.length<=sizeLine:=by
 rcases h with h|⟨o,its,n,hk,hc,hs,hz,r⟩
 ·obtain⟨z,its,r,p⟩:=h.ok I.hok;exact⟨its,r,p.1,z⟩
 ·refine⟨its.toList,r,⟨o,I.kIn a o hk,hc,n,by simpa using hs⟩,?_⟩;have e:=r.length;simp only[ce]at e;lia
def Inv.list_inj(I:Inv X pins Z H s)(h:SqL X.K H a xs)(h':SqL X.K H a ys):xs=ys:=by
 obtain⟨its,r,⟨o,n,e,_,_,d⟩,_⟩:=I.list h;obtain⟨its',r',⟨o',n',e',_,_,d'⟩,_⟩:=I.list h';rw[e]at e';cases e';rw[d]at d';injection d' with d1 _;have:its=its':=by simpa using congrArg Array.toList d1
 subst this;exact r.inj r'
def Inv.tuple_inj(I:Inv X pins Z H s)(h:SqT X.K H a xs)(h':SqT X.K H a ys):xs=ys:=by
 obtain⟨its,r,⟨o,e,_,n,d⟩,_⟩:=I.tuple h;obtain⟨its',r',⟨o',e',_,n',d'⟩,_⟩:=I.tuple h';rw[e]at e';cases e';rw[d]at d';injection d' with d1 _;have:its=its':=by simpa using congrArg Array.toList d1
 subst this;exact r.inj r'
end
section
variable {X:Cx} {st:Stmt} {rest:List Stmt} {t u:TS} {te:TE}
def Eu:TS:=λD Z H=>D.nx Z H
def Jt(t u:TS):TS:=λD Z H=>t { D with nx:=u D } Z H
def yl:PSs X [] Eu:=λ_ _ Z H _ I h=>Lo ⟨Z,H,I,h⟩
def oC(h1:PS X st t)(h2:PSs X rest u):PSs X (st::rest) (Jt t u):=by
 intro pins s Z H D I h;refine wpAny_execs_cons (thn (h1 pins s Z H { D with nx:=u D } I h) λf s1 q=>?_)
 cases f with
 | next =>
  obtain⟨σ',H',I',q⟩:=q;exact h2 pins s1 σ' H' D I' q
 | ret v=>exact q
 | brk=>exact q
 | cont=>exact q
def Df(h1:PS X st t):PSs X [st] t:=by
 intro pins s Z H D I h;refine wpAny_execs_cons (thn (h1 pins s Z H D I h) λf s1 q=>?_)
 cases f with
 | next=>exact Lo q
 | ret v=>exact q
 | brk=>exact q
 | cont=>exact q
def Dg:PS X (.Pass pos) Eu:=λ_ _ Z H _ I h=>wpAny_Pass ⟨Z,H,I,h⟩
def Inv.quiet{Z:St}{H:Hp}{s:Shared}(I:Inv X pins Z H s):interactive X.env=false:=by simp[interactive,I.ok.kind]
def Hv(te:TE):TS:=λD Z H=>te Z H λ_ H1=>D.nx Z H1
def ym(he:PE X e te)(hs:swapsWith e none pos.line X.env=pure false:=by rfl):PS X (.Expr e pos) (Hv te):=by
 intro pins s Z H D I h;exact wpAny_Expr_any (thn (he pins s Z H _ I h) λv s1 ⟨x,H1,I1,r1,q1⟩=>⟨Z,H1,I1,q1⟩) I.quiet hs
def Ju(te:TE):TS:=λD Z H=>te Z H D.rt
def wu(he:PE X e te):PS X (.Return (some e) pos) (Ju te):=by
 intro pins s Z H D I h;exact wpAny_Return_some (thn (he pins s Z H _ I h) λv s1 ⟨x,H1,I1,r1,q1⟩=>⟨x,Z,H1,I1,r1,q1⟩)
def Jz(c:TT)(t u:TS):TS:=λD Z H=>c Z H λb H1=>if b=true then t D Z H1 else u D Z H1
def Ie{a b:List Stmt}{tc:TT}(hc:PT X c tc)(ha:PSs X a t)(hb:PSs X b u):PS X (.If c a b pos) (Jz tc t u):=by
 intro pins s Z H D I h;refine wpAny_If (thn (hc pins s Z H _ I h) λd s1 ⟨H1,I1,q1⟩=>?_)
 cases d with
 | true=>exact ha pins s1 Z H1 D I1 q1
 | false=>exact hb pins s1 Z H1 D I1 q1
end
abbrev TG:=V->St->Hp->(St->Hp->Prop)->Prop
abbrev TGs:=List V->St->Hp->(St->Hp->Prop)->Prop
def PG(X:Cx)(target:Expr)(t:TG):Prop :=
 ∀(pins:zzk) (s:Shared) (Z:St) (H:Hp) (v:V) (u:Value) (Q:St->Hp->Prop),Inv X pins Z H s->RelV v u->t v Z H Q ->
  wpAny (model X.prog X.w) X.A (assign target X.env u) (λ_ s'=>∃σ' H',Inv X pins σ' H' s'/\Q σ' H') X.xe s
def PGs(X:Cx)(ts:List Expr)(t:TGs):Prop :=
 ∀(pins:zzk) (s:Shared) (Z:St) (H:Hp) (vs:List V) (us:List Value) (Q:St->Hp->Prop),Inv X pins Z H s->Vals vs us->t vs Z H Q ->
  wpAny (model X.prog X.w) X.A (assignInOrder ((assignEach ts X.env).map (·.2)) us) (λ_ s'=>∃σ' H',Inv X pins σ' H' s'/\Q σ' H') X.xe s
abbrev Hg:=V->V->V->Hp->(Hp->Prop)->Prop
def Jk(X:Cx)(t:Hg):Prop :=
 ∀(pins:zzk) (s:Shared) (Z:St) (H:Hp) (o i v:V) (ov iv u:Value) (Q:Hp->Prop),Inv X pins Z H s->RelV o ov->RelV i iv->RelV v u->t o i v H Q ->
  wpAny (model X.prog X.w) X.A (setItem ov iv u) (λ_ s'=>∃H',Inv X pins Z H' s'/\Q H') X.xe s
section
variable {X:Cx}
def yX(i:Nat):TG:=λv Z H Q=>Q (Z.set i (some v)) H
def Dm(hN:X.N.Nodup)(hi:X.N[i]? = some x)(hx:Loc X.env.scope x)(hf:X.fn x=true\/X.env.scope.names.lookup x=some .local:=by first|exact .inl rfl|exact .inr rfl|assumption):PG X (.Name x pos) (yX i):=by
 intro pins s Z H v u Q I r h;exact wpAny_assign_Name (eN I hN hi hx r (λs' I'=>⟨_,H,I',h⟩) hf)
def Kb:TGs:=λvs Z H Q=>vs=[]/\Q Z H
def IX(t:TG)(u:TGs):TGs:=λvs Z H Q=>∃v r,vs=v::r/\t v Z H λσ' H'=>u r σ' H' Q
def Dl:PGs X [] Kb:=by
 intro pins s Z H vs us Q I r h;obtain⟨e,h⟩:=h;subst e
 cases r
 exact assignInOrder_nil ⟨Z,H,I,h⟩
def Bj{t:TG}{u:TGs}(h1:PG X e t)(h2:PGs X es u)
  (hs:(assignEach (e::es) X.env).map (·.2)=assign e X.env::(assignEach es X.env).map (·.2):=by rfl):PGs X (e::es) (IX t u):=by
 intro pins s Z H vs us Q I r h;obtain⟨v,vr,e1,h⟩:=h;subst e1
 cases r with
 | cons r rr =>
  rw[hs];refine xz (thn (h1 pins s Z H _ _ _ I r h) λ_ s1 ⟨σ1,H1,I1,q1⟩=>?_);exact h2 pins s1 σ1 H1 _ _ Q I1 rr q1
def J8(K:PySem.W.Frag)(n:Nat)(t:TGs):TG:=λv Z H Q=>∃a xs,v=.ref a/\SqT K H a xs/\xs.length=n/\t xs Z H Q
theorem FU{t:TGs}{n:Nat}(hc:X.calm=true)(h:PGs X es t)
  (hn:(assignEach es X.env).length=n:=by rfl) (hst:(assignEach es X.env).findIdx? (·.1)=none:=by rfl):PG X (.Tuple es k pos) (J8 X.K n t):=by
 intro pins s Z H v u Q I r hw;obtain⟨a,xs,e1,hq,hl,hw⟩:=hw;subst e1
 cases r
 obtain⟨its,rv,ht,hz⟩:=I.tuple hq;refine assign_Tuple_tuple (I.ok.hd hc) ht (by simp[hn,<-hl,rv.length]) hst λh' hx=>?_
 have I1:Inv X pins Z H { s with heap:=h' }:=I.kept (t':=s.toks) λb o e=>hx b o (bj (ax e)) e
 exact h pins _ Z H xs _ Q I1 (by simpa using rv) hw
def Ka(to ti:TE)(t:Hg):TG:=λv Z H Q=>to Z H λo H1=>ti Z H1 λi H2=>t o i v H2 λH3=>Q Z H3
def FV{o i:Expr}{to ti:TE}{t:Hg}(ho:PE X o to)(hi:PE X i ti)(hs:Jk X t)
  (ha:∀v,assign (.Subscript o i pos) X.env v=(do
   let ov <-holding [v] (eval o X.env)
   let iv <-holding [v,ov] (eval i X.env)
   standAt pos
   holding [v,ov,iv] (setItem ov iv v)
   release [v,ov,iv] []):=by intro _;rfl):PG X (.Subscript o i pos) (Ka to ti t):=by
 intro pins s Z H v u Q I r h;rw[ha];refine zza (om (thn (ho pins s Z H _ I h) λov s1 ⟨x,H1,I1,r1,q1⟩=>?_));refine zza (om (thn (hi pins s1 Z H1 _ I1 q1) λiv s2 ⟨y,H2,I2,r2,q2⟩=>?_));refine zza (Ba (zza (om (thn (hs pins s2 Z H2 x y v ov iv u _ I2 r1 r2 r q2) λ_ s3 ⟨H3,I3,q3⟩=>?_))));exact wpAny_release ⟨Z,H3,I3,q3⟩
def Fu(te:TE)(g:TG):TS:=λD Z H=>te Z H λx H1=>g x Z H1 D.nx
def FS{te:TE}{g:TG}(he:PE X e te)(hg:PG X tg g)(hs:swapsWithSole [tg] e pos.line X.env=pure false:=by rfl)(hw:swappedStores [tg] e X.env=pure none:=by rfl)
  (h1:(assignEach [tg] X.env).map (·.2)=[assign tg X.env]:=by rfl):PS X (.Assign [tg] e pos) (Fu te g):=by
 intro pins s Z H D I h;refine wpAny_Assign_stores (thn (he pins s Z H _ I h) λv s1 ⟨x,H1,I1,r1,q1⟩=>?_) hs hw;rw[h1];exact thn (hg pins s1 Z H1 x v _ I1 r1 q1) λ_ s2 q=>q
def sr{te:TE}{pos':Pos}(hN:X.N.Nodup)(hi:X.N[i]? = some x)(hx:Loc X.env.scope x)(he:PE X e te)(hs:swapsWith e (some (.Name x pos')) pos.line X.env=pure false:=by rfl)(hf:X.fn x=true\/X.env.scope.names.lookup x=some .local:=by first|exact .inl rfl|exact .inr rfl|assumption) :
  PS X (.Assign [.Name x pos'] e pos) (Fu te (yX i)):=by
 intro pins s Z H D I h;refine wpAny_Assign_Name (thn (he pins s Z H _ I h) λv s1 ⟨y,H1,I1,r1,q1⟩=>?_) hs;exact eN I1 hN hi hx r1 (λs2 I2=>⟨_,H1,I2,q1⟩) hf
def Jv(i j:Nat)(ta:TA):TS:=λD Z H=>ta Z H λvs H1=>∃v w,vs=[v,w]/\D.nx ((Z.set i (some v)).set j (some w)) H1
def FP{y:Str}{a b:Expr}{ta:TA}{px py pt:Pos}{kt k2 pt2}(hc:X.calm=true)(hN:X.N.Nodup)(hi:X.N[i]? = some x)(hj:X.N[j]? = some y)(hij:i≠j)
  (hx:X.env.scope.names.lookup x=some .local) (hy:X.env.scope.names.lookup y=some .local) (ha:PA X [a,b] ta)
  (hw:swappedStores [.Tuple [.Name x px,.Name y py] kt pt] (.Tuple [a,b] k2 pt2) X.env=pure (some [x,y]))
  (hs:swapsWithSole [.Tuple [.Name x px,.Name y py] kt pt] (.Tuple [a,b] k2 pt2) pos.line X.env=pure false:=by rfl) :
  PS X (.Assign [.Tuple [.Name x px,.Name y py] kt pt] (.Tuple [a,b] k2 pt2) pos) (Jv i j ta):=by
 intro pins s Z H D I h;rw[exec_Assign_arm];refine zza (Ba ?_);rw[hs];refine zza (zzb ?_);rw[ac (by decide)];refine zza (Tuple_ (thn (ha _ pins s Z H _ I h) λus s1 ⟨vs,H1,I1,r1,q1⟩=>?_));obtain⟨v,w,e1,q1⟩:=q1;subst e1;obtain⟨u1,u2,rfl,rv,rw'⟩:∃u1 u2,us=[u1,u2]/\RelV v u1/\RelV w u2:=by
  cases r1 with
  | cons p q =>
   cases q with
   | cons p' q' =>
    cases q'
    exact⟨_,_,rfl,p,p'⟩
 refine ni ?_ (by show 2<=sizeLine;decide);have I2:Inv X pins Z H1 { s1 with heap:=s1.heap.push { cls:=.type "tuple",data:=.seq [u1,u2].toArray } }:=I1.kept (t':=s1.toks) λb o e=>zzc _ e
 rw[hw];refine zza (zzb ?_);show wpAny (model X.prog X.w) X.A (do rule "assign.swapped-stores";let items <-unpackItems (.ref s1.heap.objs.size) 2 none;assignInOrder [λv=>bindName X.env y v,λv=>bindName X.env x v] items.reverse;pure Flow.next) _ _ _;refine zza (LU (zza (unpackItems_tuple (items:=#[u1,u2]) (I.ok.hd hc) (IsTup.new s1.heap _) λh' hx'=>?_)));have I3:=I2.kept (h':=h') (t':=s1.toks) λb o e=>hx' b o (bj (ax e)) e
 show wpAny _ _ (assignInOrder [λv=>bindName X.env y v,λv=>bindName X.env x v] [u2,u1] >>= λ_=>pure Flow.next) _ _ _;refine zza (xz (Lc (eN I3 hN hj (.inl hy) rw' (λs2 I4=>?_) (.inr hy))));refine xz (Lc (eN I4 hN hi (.inl hx) rv (λs3 I5=>assignInOrder_nil (zzb ?_)) (.inr hx)));rw[List.set_comm _ _ (Ne.symm hij)]at I5;exact⟨_,H1,I5,q1⟩
end
section
variable {X:Cx}
def Ft(c:TT)(tb:TS):TS:=λD Z H=>∃W:Nat->St->Hp->Prop,(∃m,W m Z H)/\∀m Z H,W m Z H ->
 c Z H λb H1=>if b=true then ∃N:St->Hp->Prop,(∀σ' H',N σ' H'->∃m',m'<m/\W m' σ' H')/\tb { D with nx:=N,ct:=N,bk:=D.nx } Z H1 else D.nx Z H1
def Be{tc:TT}{tb:TS}(hp:PassesOwn (model X.prog X.w) X.A X.env X.xe)(hc:PT X c tc)(hb:PSs X body tb):PS X (.While c body [] pos) (Ft tc tb):=by
 intro pins s Z H D I h;obtain⟨W,⟨m0,w0⟩,turn⟩:=h;refine wpAny_While (codeAny_whileLoop (λn s'=>∃σ' H',Inv X pins σ' H' s'/\W n σ' H') ?_ m0 ⟨Z,H,I,w0⟩);rintro n s1 ⟨σ1,H1,I1,w1⟩;refine ye hp (thn (hc pins s1 σ1 H1 _ I1 (turn n σ1 H1 w1)) λb s2 ⟨H2,I2,q2⟩=>?_)
 cases b with
 | true =>
  obtain⟨N,hN,q2⟩:=q2;rw[ak rfl];refine ye hp (thn (hb pins s2 σ1 H2 _ I2 q2) λf s3 q3=>?_)
  cases f with
  | next =>
   obtain⟨σ3,H3,I3,n3⟩:=q3;obtain⟨m',hm,w3⟩:=hN σ3 H3 n3;exact⟨m',hm,σ3,H3,I3,w3⟩
  | cont =>
   obtain⟨σ3,H3,I3,n3⟩:=q3;obtain⟨m',hm,w3⟩:=hN σ3 H3 n3;exact⟨m',hm,σ3,H3,I3,w3⟩
  | brk=>exact q3
  | ret v=>exact q3
 | false =>
  rw[ac ug];exact Lo ⟨σ1,H2,I2,q2⟩
end
structure It where
 go:Nat->Hp->Prop
 yld:Nat->Hp->V->Hp->Prop
 stop:Nat->Hp->Prop
def lB(X:Cx)(pins:zzk)(H:Hp)(b:Addr):Prop :=
 H b=none/\b≠X.env.locals/\b∉X.fs/\(b∈X.ex\/X.s₀.heap.objs.size<=b)/\(∀x c,X.env.cells.lookup x=some c->c≠b)/\∀p∈X.pn++pins,p.1≠b
def Inv.fpOk{X:Cx}{Z:St}{H H':Hp}{s:Shared}(I:Inv X pins Z H s)(hb:s.heap.objs.size<=b)(hn:H' b=none):lB X pins H' b:=by
 refine⟨hn,u8 (bo I.lt hb),I.nofs hb,.inr (cr I.sz hb),λx c e z=>?_,λp hp z=>?_⟩
 ·obtain⟨v,q⟩:=I.cell x c e;exact absurd (bo q.lt (by rw[z];exact hb)) (pI _)
 ·exact absurd (bo (ax (I.pin p hp).1) (by rw[z];exact hb)) (pI _)
structure Turn(P:Program)(w:World)(K:PySem.W.Frag)(tg:Expr)(J:It)(fp:List Addr)(it:Addr)(tn:Nat->Heap->Prop):Prop where
 mem:it∈fp
 obj:∀i h,tn i h->∀b∈fp,∃o,h.get? b=some o/\∀v,o.data≠.cell v
 keep:∀i h h',tn i h->(∀b∈fp,∀o,h.get? b=some o->h'.get? b=some o)->tn i h'
 item:∀(X:Cx),X.prog=P->X.w=w->X.K=K->X.calm=true->∀(i:Nat) (pins:zzk) (s:Shared) (Z:St) (H:Hp) (E:zzj),Inv X pins Z H s->(∀b∈fp,lB X pins H b)->tn i s.heap->J.go i H ->
  wpAny (model P w) X.A (pyNext (.ref it)) (λr s1=>∃u,r=some u /\
   wpAny (model P w) X.A (letOwnedTupleGo tg (.ref it) u) (λ_ s2=>∃x H',Inv X pins Z H' s2/\RelV x u/\J.yld i H x H'/\tn (i+1) s2.heap/\∀b∈fp,H' b=none) E s1) E s
 done:∀(X:Cx),X.prog=P->X.w=w->X.K=K->X.calm=true->∀(i:Nat) (pins:zzk) (s:Shared) (Z:St) (H:Hp) (E:zzj),Inv X pins Z H s->(∀b∈fp,lB X pins H b)->tn i s.heap->J.stop i H ->
  wpAny (model P w) X.A (pyNext (.ref it)) (λr s1=>r=none/\Inv X pins Z H s1) E s
 self:∀(A:Around) (i:Nat) (s:Shared) (Q:zzj) (E:zzj),tn i s.heap->Q (.ref it) s->wpAny (model P w) A (pyIter (.ref it)) Q E s
abbrev TI:=St->Hp->(It->Hp->Prop)->Prop
def PIE(X:Cx)(pins:zzk)(Z:St)(tg:Expr)(R:It->Hp->Prop)(itv:Value)(s2:Shared):Prop :=
 ∃(it:Addr) (fp:List Addr) (tn:Nat->Heap->Prop) (J:It) (H':Hp),itv=.ref it/\Inv X pins Z H' s2/\Turn X.prog X.w X.K tg J fp it tn/\tn 0 s2.heap/\(∀b∈fp,lB X pins H' b)/\R J H'
def PI(X:Cx)(tg iter:Expr)(wi:TI):Prop :=
 ∀(pins:zzk) (s:Shared) (Z:St) (H:Hp) (R:It->Hp->Prop),Inv X pins Z H s->wi Z H R ->
  wpAny (model X.prog X.w) X.A (eval iter X.env) (λv s1=>wpAny (model X.prog X.w) X.A (pyIter v) (PIE X pins Z tg R) X.xe s1) X.xe s
def yW{M:Model}{s:Shared}{it:Addr}{n:String}{vs:Array Value}(ho:s.heap.get? it=some o)(hc:o.cls=.type n)(hd:o.data=.fields vs)
  (hn:["enumerate", "zip", "dict_itemiterator", "dict_reverseitemiterator", "odict_iterator", "itertools.zip_longest", "itertools.pairwise"].contains n=false) (hQ:Q () s):wpAny M A (letOwnedTupleGo tg (.ref it) u) Q E s:=by
 unfold letOwnedTupleGo
 cases tg<;>first
  | exact zzb hQ
  | (cases u<;>first
     | exact zzb hQ
     | (refine zza (wpAny_load ho ?_)
        rw[hc,hd];show wpAny M A (if(["enumerate", "zip", "dict_itemiterator", "dict_reverseitemiterator", "odict_iterator", "itertools.zip_longest", "itertools.pairwise"].contains n&&vs[0]? == some (rawInt _))=true then _ else _) Q E s;rw[ac (by intro h;rw[hn,Lg]at h;cases h)]
        exact zzb hQ))
def Itl(K:PySem.W.Frag)(a:Addr):It :=
 ⟨λi H=>∃xs x,SqL K H a xs/\xs[i]? = some x,λi H x H'=>H'=H/\∀xs,SqL K H a xs->xs[i]? = some x,λi H=>∃xs,SqL K H a xs/\xs.length<=i⟩
def Itt(K:PySem.W.Frag)(a:Addr):It :=
 ⟨λi H=>∃xs x,SqT K H a xs/\xs[i]? = some x,λi H x H'=>H'=H/\∀xs,SqT K H a xs->xs[i]? = some x,λi H=>∃xs,SqT K H a xs/\xs.length<=i⟩
def Itr(lo:Int)(n:Nat):It:=⟨λi _=>i<n,λi H x H'=>H'=H/\x=.int (lo+i),λi _=>n<=i⟩
theorem zx{K:PySem.W.Frag}(a it:Addr):Turn P w K tg (Itl K a) [it] it (λi h=>h.IsListIter it a i) where
 mem:=by simp
 obj:=λi h st b hb=>by
  have e:b=it:=by simpa using hb
  subst e;obtain⟨o,e,c,d⟩:=st;exact⟨o,e,λv z=>by rw[d]at z;cases z⟩
 keep:=λi h h' st k=>st.at λo e=>k it (by simp) o e
 item:=by
  intro X hP hw hK hc i pins s Z H E I hf st hg;subst hP hw hK;obtain⟨xs,x,hq,hx⟩:=hg;obtain⟨its,rv,p,hz⟩:=I.list hq;obtain⟨u,hu,ru⟩:=rv.get hx;obtain⟨f0,f1,f2,f3,f4,f5⟩:=hf it (by simp);refine wpAny_pyNext_list_item st p.isList (x:=u) (by simpa using hu) λh' st' sb=>?_
  have I1:Inv X pins Z H { s with heap:=h' }:=I.turned (t':=s.toks) (λb o hb e=>(sb.2 b hb).trans e) f0 f1 f3 f4 f5;obtain⟨o,e,c,d⟩:=id st';exact⟨u,rfl,yW (s:={ s with heap:=h' }) e c d (by decide) ⟨x,H,I1,ru,⟨rfl,λys hy=>by rw[I.list_inj hy hq];exact hx⟩,st',λb hb=>(hf b hb).1⟩⟩
 done:=by
  intro X hP hw hK hc i pins s Z H E I hf st hg;subst hP hw hK;obtain⟨xs,hq,hx⟩:=hg;obtain⟨its,rv,p,hz⟩:=I.list hq;obtain⟨f0,f1,f2,f3,f4,f5⟩:=hf it (by simp);have hl:=rv.length;exact wpAny_pyNext_list_end (I.ok.hd hc) st p.isList (by simp;lia) λh' eb=>⟨rfl,I.turned (t':=s.toks) (λb o hb e=>eb b o hb e) f0 f1 f3 f4 f5⟩
 self:=λ_ _ _ _ _ st h=>wpAny_pyIter_listiter st h
theorem vV{K:PySem.W.Frag}(a it:Addr):Turn P w K tg (Itt K a) [it] it (λi h=>h.IsTupleIter it a i) where
 mem:=by simp
 obj:=λi h st b hb=>by
  have e:b=it:=by simpa using hb
  subst e;obtain⟨o,e,c,d⟩:=st;exact⟨o,e,λv z=>by rw[d]at z;cases z⟩
 keep:=λi h h' st k=>st.at λo e=>k it (by simp) o e
 item:=by
  intro X hP hw hK hc i pins s Z H E I hf st hg;subst hP hw hK;obtain⟨xs,x,hq,hx⟩:=hg;obtain⟨its,rv,p,hz⟩:=I.tuple hq;obtain⟨u,hu,ru⟩:=rv.get hx;obtain⟨f0,f1,f2,f3,f4,f5⟩:=hf it (by simp);refine wpAny_pyNext_tuple_item st (show s.heap.IsTuple a its.toArray from p) (x:=u) (by simpa using hu) λh' st' sb=>?_
  have I1:Inv X pins Z H { s with heap:=h' }:=I.turned (t':=s.toks) (λb o hb e=>(sb.2 b hb).trans e) f0 f1 f3 f4 f5;obtain⟨o,e,c,d⟩:=id st';exact⟨u,rfl,yW (s:={ s with heap:=h' }) e c d (by decide) ⟨x,H,I1,ru,⟨rfl,λys hy=>by rw[I.tuple_inj hy hq];exact hx⟩,st',λb hb=>(hf b hb).1⟩⟩
 done:=by
  intro X hP hw hK hc i pins s Z H E I hf st hg;subst hP hw hK;obtain⟨xs,hq,hx⟩:=hg;obtain⟨its,rv,p,hz⟩:=I.tuple hq;obtain⟨f0,f1,f2,f3,f4,f5⟩:=hf it (by simp);have hl:=rv.length;exact wpAny_pyNext_tuple_end (I.ok.hd hc) st (show s.heap.IsTuple a its.toArray from p) (by simp;lia) λh' eb=>⟨rfl,I.turned (t':=s.toks) (λb o hb e=>eb b o hb e) f0 f1 f3 f4 f5⟩
 self:=λ_ _ _ _ _ st h=>wpAny_pyIter_tupleiter st h
theorem vW{K:PySem.W.Frag}(it:Addr)(lo:Int)(n:Nat):Turn P w K tg (Itr lo n) [it] it (λi h=>IsRangeIter h it (lo+(i:Nat)*1) ((n:Int) - (i:Nat)) 1) where
 mem:=by simp
 obj:=λi h st b hb=>by
  have e:b=it:=by simpa using hb
  subst e
  exact⟨_,st,λv z=>by
   have z':Data.fields _=Data.cell v:=z
   cases z'⟩
 keep:=λi h h' st k=>k it (by simp) _ st
 item:=by
  intro X hP hw hK hc i pins s Z H E I hf st hg;subst hP hw hK;obtain⟨f0,f1,f2,f3,f4,f5⟩:=hf it (by simp);have W:=Walks.range (prog:=X.prog) (w:=X.w) (I.ok.hd hc) it lo 1 n;refine W.item i s _ _ hg st λv h' tk hv st' kk=>?_
  obtain⟨t,rfl⟩:=hv;have I1:Inv X pins Z H { s with heap:=h',toks:=tk }:=I.turned (λb o hb e=>kk b o (by simpa using hb) e) f0 f1 f3 f4 f5;refine⟨_,rfl,yW (s:={ s with heap:=h',toks:=tk }) (n := "range_iterator") st' rfl rfl (by decide) ⟨.int (lo+i),H,I1,⟨t,?_⟩,⟨rfl,rfl⟩,st',λb hb=>(hf b hb).1⟩⟩;rw[Int.mul_one]
 done:=by
  intro X hP hw hK hc i pins s Z H E I hf st hg;subst hP hw hK;obtain⟨f0,f1,f2,f3,f4,f5⟩:=hf it (by simp);exact wpAny_pyNext_range_end (I.ok.hd hc) st (by have:n<=i:=hg;lia) λh' eb=>⟨rfl,I.turned (t':=s.toks) (λb o hb e=>eb b o hb e) f0 f1 f3 f4 f5⟩
 self:=λ_ _ _ _ _ st h=>wpAny_pyIter_rangeiter st h
section
variable {X:Cx}
theorem uz{Z:St}{H:Hp}{s:Shared}{R:It->Hp->Prop}{lo hi:Int}{t u v:Tok}{tk:Nat}(I:Inv X pins Z H s)(h1 : -(2^62)<=lo)(h2:lo<2^62)(h3 : -(2^62)<=hi)(h4:hi<2^62)
  (q:R (Itr lo (hi - lo).toNat) H):wpAny (model X.prog X.w) X.A (pyIter (.ref s.heap.objs.size)) (PIE X pins Z tg R) E { s with heap:=s.heap.push { cls:=.type "range",data:=.fields #[.int lo t,.int hi u,.int 1 v] },toks:=tk }:=by
 refine wpAny_pyIter_range (IsRange.new ..) (small_one h1 h2 h3 h4) ?_;have I1:Inv X pins Z H { s with heap:=s.heap.push { cls:=.type "range",data:=.fields #[.int lo t,.int hi u,.int 1 v] },toks:=tk }:=I.kept λb o e=>zzc _ e
 refine⟨(s.heap.push { cls:=.type "range",data:=.fields #[.int lo t,.int hi u,.int 1 v] }).objs.size,[(s.heap.push { cls:=.type "range",data:=.fields #[.int lo t,.int hi u,.int 1 v] }).objs.size],_,_,H,rfl,
  I1.kept (t':=tk) λb o e=>zzc _ e,vW _ lo (hi - lo).toNat,?_,λb hb=>?_,q⟩
 ·have e1:lo+((0:Nat):Int)*1=lo:=by simp
  have e2:(((hi - lo).toNat:Nat):Int) - ((0:Nat):Int)=Builtin.Range.rangeSize lo hi 1:=by rw[rangeSize_one];split<;>lia
  show IsRangeIter _ _ (lo+((0:Nat):Int)*1) ((((hi - lo).toNat:Nat):Int) - ((0:Nat):Int)) 1;rw[e1,e2];exact zze _ rfl
 ·have e:b=(s.heap.push { cls:=.type "range",data:=.fields #[.int lo t,.int hi u,.int 1 v] }).objs.size:=by simpa using hb
  subst e;exact I1.fpOk (au _) (I1.hok.fresh (au _))
def IT(ta:TA):TI:=λZ H R=>ta Z H λvs H1=>∃j:Int,vs=[.int j] /\ -(2^62)<=j/\j<2^62/\R (Itr 0 j.toNat) H1
def IS(ta:TA):TI:=λZ H R=>ta Z H λvs H1=>∃i j:Int,vs=[.int i,.int j]/\(-(2^62)<=i/\i<2^62 /\ -(2^62)<=j/\j<2^62)/\R (Itr i (j - i).toNat) H1
theorem qU{a:Expr}{ta:TA}(hg:Gl X "range")(hm:X.mg "range" = none)(ha:PA X [a] ta)(hs:starEach [a] X.env=[(false,eval a X.env)]:=by rfl):PI X tg (.Call (.Name "range" p) [a] [] pos) (IT ta):=by
 intro pins s Z H R I h;refine Call_ (o7 I hg hm boot_range (FI (thn (ha pos pins s Z H _ I h) λus s1 ⟨vs,H1,I1,r1,q1⟩=>?_) hs rfl));obtain⟨j,e,q1,q2,q⟩:=q1;subst e
 cases r1 with
 | cons r rr =>
  cases rr
  obtain⟨t,rfl⟩:=r;exact call_range_1 (uz I1 (by lia) (by lia) q1 q2 (by simpa using q))
theorem zQ{a b:Expr}{ta:TA}(hg:Gl X "range")(hm:X.mg "range" = none)(ha:PA X [a,b] ta)(hs:starEach [a,b] X.env=[(false,eval a X.env),(false,eval b X.env)]:=by rfl)(hs2:starEach [b] X.env=[(false,eval b X.env)]:=by rfl) :
  PI X tg (.Call (.Name "range" p) [a,b] [] pos) (IS ta):=by
 intro pins s Z H R I h;refine Call_ (o7 I hg hm boot_range (FI (thn (ha pos pins s Z H _ I h) λus s1 ⟨vs,H1,I1,r1,q1⟩=>?_) (by rw[hs,hs2]) (by rw[hs2];rfl)));obtain⟨i,j,e,⟨q1,q2,q3,q4⟩,q⟩:=q1;subst e
 cases r1 with
 | cons r rr =>
  cases rr with
  | cons r' rr =>
   cases rr
   obtain⟨t,rfl⟩:=r;obtain⟨t',rfl⟩:=r';exact call_range_2 (uz I1 q1 q2 q3 q4 q)
def JA(wi:TI)(g:TG)(tb:TS):TS:=λD Z H=>wi Z H λJ H1=>∃W:Nat->Nat->St->Hp->Prop,(∃m,W 0 m Z H1)/\∀i m Z H,W i m Z H ->
 (J.stop i H/\D.nx Z H)\/(J.go i H/\∃N:St->Hp->Prop,(∀σ' H',N σ' H'->∃m',m'<m/\W (i+1) m' σ' H')/\∀x H',J.yld i H x H'->g x Z H' λσ2 H2=>tb { D with nx:=N,ct:=N,bk:=D.nx } σ2 H2)
def oE(fp:List Addr)(h:Heap):List (Addr×Obj):=fp.filterMap λb=>(h.get? b).map λo=>(b,o)
def hJ(hb:b∈fp)(e:h.get? b=some o):(b,o)∈oE fp h:=List.mem_filterMap.mpr ⟨b,hb,by rw[e];rfl⟩
def zT{p:Addr×Obj}(hp:p∈oE fp h):p.1∈fp/\h.get? p.1=some p.2:=by
 obtain⟨b,hb,e⟩:=List.mem_filterMap.mp hp
 cases q:h.get? b with
 | none=>rw[q]at e;cases e
 | some o =>
  rw[q]at e;have e':(b,o)=p:=Option.some.inj e;subst e';exact⟨hb,q⟩
def Inv.pinned{Z:St}{H:Hp}{s:Shared}(I:Inv X pins Z H s)(hf:∀b∈fp,lB X pins H b)(ho:∀b∈fp,∃o,s.heap.get? b=some o/\∀v,o.data≠.cell v):Inv X (pins++oE fp s.heap) Z H s :=
 I.pins_of λp hp=>(List.mem_append.mp hp).elim (λz=>I.pin p (ic _ z)) λz=>by
  obtain⟨hb,e⟩:=zT z;obtain⟨f0,f1,f2,_⟩:=hf p.1 hb;obtain⟨o,e',d⟩:=ho p.1 hb;rw[e]at e';cases e';exact⟨e,f0,f1,f2,d⟩
def Inv.unpinned{pl:zzk}{Z:St}{H:Hp}{s:Shared}(I:Inv X (pins++pl) Z H s):Inv X pins Z H s:=I.pins_of λp hp=>I.pin p (ic _ (Ln _ hp))
theorem FQ{iter:Expr}{wi:TI}{g:TG}{tb:TS}(hp:PassesOwn (model X.prog X.w) X.A X.env X.xe)(hc:X.calm=true)(hi:PI X tg iter wi)(hg:PG X tg g)(hb:PSs X body tb)
  (hs:∀x,foldedSetIterable iter X.env x=pure x:=by intro _;rfl):PS X (.For tg iter body [] pos) (JA wi g tb):=by
 intro pins s Z H D I h;refine wpAny_For (thn (hi pins s Z H _ I h) λv s1 h1=>thn h1 λitv s2 h2=>?_) hs;obtain⟨it,fp,tn,J,H2,e,I2,T,st2,f2,W,⟨m0,w0⟩,turn⟩:=h2;subst e;have stat:∀{H':Hp},(∀b∈fp,H' b=none)->∀b∈fp,lB X pins H' b:=λhn b hb=>⟨hn b hb,(f2 b hb).2⟩
 refine codeAny_forLoop_any (λn s'=>∃i σ' H',Inv X pins σ' H' s'/\tn i s'.heap/\(∀b∈fp,H' b=none)/\W i n σ' H') ?_ m0 ⟨0,Z,H2,I2,st2,λb hb=>(f2 b hb).1,w0⟩;rintro n s3 ⟨i,σ3,H3,I3,st3,fr3,w3⟩;rcases turn i n σ3 H3 w3 with ⟨stop,qn⟩|⟨go,N,hN,step⟩
 ·refine ye hp (thn (T.done X rfl rfl rfl hc i pins s3 σ3 H3 X.xe I3 (stat fr3) st3 stop) λr s4 ⟨hr,I4⟩=>?_);subst hr;exact Lo ⟨σ3,H3,I4,qn⟩
 ·refine ye hp (thn (T.item X rfl rfl rfl hc i pins s3 σ3 H3 X.xe I3 (stat fr3) st3 go) λr s4 ⟨u,hr,h4⟩=>?_);subst hr;refine ye hp (thn h4 λ_ s5 ⟨x,H5,I5,r5,y5,st5,fr5⟩=>?_);have I5':=I5.pinned (stat fr5) (T.obj _ _ st5);refine ye hp (thn (hg _ s5 σ3 H5 x u _ I5' r5 (step x H5 y5)) λ_ s6 ⟨σ6,H6,I6,q6⟩=>?_);refine ye hp (thn (hb _ s6 σ6 H6 _ I6 q6) λf s7 q7=>?_);have again:∀{σ7:St} {H7:Hp},Inv X (pins++oE fp s5.heap) σ7 H7 s7->N σ7 H7->∃m,m<n/\∃i σ' H',Inv X pins σ' H' s7/\tn i s7.heap/\(∀b∈fp,H' b=none)/\W i m σ' H':=λ{σ7 H7} I7 n7=>by
   obtain⟨m',hm,w7⟩:=hN σ7 H7 n7;refine⟨m',hm,i+1,σ7,H7,I7.unpinned,T.keep _ _ _ st5 λb hb o e=>(I7.pin (b,o) (ic _ (ic _ (hJ hb e)))).1,λb hb=>?_,w7⟩;obtain⟨o,e,d⟩:=T.obj _ _ st5 b hb;exact(I7.pin (b,o) (ic _ (ic _ (hJ hb e)))).2.1
  cases f with
  | next=>obtain⟨σ7,H7,I7,n7⟩:=q7;exact again I7 n7
  | cont=>obtain⟨σ7,H7,I7,n7⟩:=q7;exact again I7 n7
  | brk=>obtain⟨σ7,H7,I7,q7⟩:=q7;exact⟨σ7,H7,I7.unpinned,q7⟩
  | ret v=>obtain⟨x7,σ7,H7,I7,r7,q7⟩:=q7;exact⟨x7,σ7,H7,I7.unpinned,r7,q7⟩
end
abbrev R2:=V->V->Hp->VK->Prop
def OpR(X:Cx)(f:Value->Value->Sem Value)(r:R2):Prop :=
 ∀(pins:zzk) (s:Shared) (Z:St) (H:Hp) (x y:V) (v u:Value) (Q:VK),Inv X pins Z H s->RelV x v->RelV y u->r x y H Q ->
  wpAny (model X.prog X.w) X.A (f v u) (EP X pins Z Q) X.xe s
def UnR(X:Cx)(f:Value->Sem Value)(r:V->Hp->VK->Prop):Prop :=
 ∀(pins:zzk) (s:Shared) (Z:St) (H:Hp) (x:V) (v:Value) (Q:VK),Inv X pins Z H s->RelV x v->r x H Q ->
  wpAny (model X.prog X.w) X.A (f v) (EP X pins Z Q) X.xe s
def CallR(X:Cx)(f:Value)(r:List V->Hp->VK->Prop):Prop :=
 ∀(pins:zzk) (s:Shared) (Z:St) (H:Hp) (xs:List V) (us:List Value) (Q:VK),Inv X pins Z H s->Vals xs us->r xs H Q ->
  wpAny (model X.prog X.w) X.A (call f us) (EP X pins Z Q) X.xe s
def KA(X:Cx)(r:V->Hp->(Bool->Hp->Prop)->Prop):Prop :=
 ∀(pins:zzk) (s:Shared) (Z:St) (H:Hp) (x:V) (v:Value) (Q:Bool->Hp->Prop),Inv X pins Z H s->RelV x v->r x H Q ->
  wpAny (model X.prog X.w) X.A (truthy v) (TP X pins Z Q) X.xe s
def tOp(r:R2)(ta tb:TE):TE:=λZ H Q=>ta Z H λx H1=>tb Z H1 λy H2=>r x y H2 Q
def tUn(r:V->Hp->VK->Prop)(ta:TE):TE:=λZ H Q=>ta Z H λx H1=>r x H1 Q
def rI(C:Int->Int->Prop)(g:Int->Int->V):R2:=λx y H Q=>∃i j,x=.int i/\y=.int j/\C i j/\Q (g i j) H
def rI0(g:Int->Int->V):R2:=λx y H Q=>∃i j,x=.int i/\y=.int j/\Q (g i j) H
def rU(g:Int->V):V->Hp->VK->Prop:=λx H Q=>∃i,x=.int i/\Q (g i) H
section
variable {X:Cx} {a b:Expr} {ta tb tc:TE}
def G3(ha:PE X a ta)(hb:PE X b tb){s:Shared}{Z:St}{H:Hp}{R:V->V->Hp->Prop}(I:Inv X pins Z H s)
  (h:ta Z H λx H1=>tb Z H1 λy H2=>R x y H2) {Q:zzj} {f:Value->Value->Sem Value}
  (hf:∀v u s2 x y H2,Inv X pins Z H2 s2->RelV x v->RelV y u->R x y H2->wpAny (model X.prog X.w) X.A (f v u) Q X.xe s2) :
  wpAny (model X.prog X.w) X.A (eval a X.env) (λv s₁=>wpAny (model X.prog X.w) X.A (eval b X.env) (λu s₂=>wpAny (model X.prog X.w) X.A (f v u) Q X.xe s₂) X.xe s₁) X.xe s:=by
 refine thn (ha pins s Z H _ I h) λv s1 ⟨x,H1,I1,r1,q1⟩=>?_
 refine thn (hb pins s1 Z H1 _ I1 q1) λu s2 ⟨y,H2,I2,r2,q2⟩=>?_
 exact hf v u s2 x y H2 I2 r1 r2 q2
def Bo{op:Operator}{r:R2}(ho:OpR X (binaryOp op) r)(ha:PE X a ta)(hb:PE X b tb):PE X (.BinOp a op b pos) (tOp r ta tb):=by
 intro pins s Z H Q I h;exact wpAny_BinOp (G3 ha hb I h λv u s2 x y H2 I2 rx ry q=>ho pins s2 Z H2 x y v u Q I2 rx ry q)
def Ih{op:UnaryOp}{r:V->Hp->VK->Prop}(ho:UnR X (unaryOp op) r)(ha:PE X a ta):PE X (.UnaryOp op a pos) (tUn r ta):=by
 intro pins s Z H Q I h;exact UnaryOp_ (thn (ha pins s Z H _ I h) λv s1 ⟨x,H1,I1,r1,q1⟩=>ho pins s1 Z H1 x v Q I1 r1 q1)
theorem opI{C:Int->Int->Prop}{g:Int->Int->Int}
  (rule:∀(i j:Int) (t u:Tok) (s:Shared) (Q:zzj) (E:zzj),C i j->Q (.int (g i j) s.toks) { s with toks:=s.toks+1 }->wpAny (model X.prog X.w) X.A (f (.int i t) (.int j u)) Q E s) :
  OpR X f (rI C λi j=>.int (g i j)):=by
 intro pins s Z H x y v u Q I rx ry h;obtain⟨i,j,rfl,rfl,hc,q⟩:=h;obtain⟨t,rfl⟩:=rx;obtain⟨t',rfl⟩:=ry;exact rule i j t t' s _ _ hc ⟨.int (g i j),H,I.tok _,⟨_,rfl⟩,q⟩
theorem Iu{g:Int->Int->Int}
  (rule:∀(i j:Int) (t u:Tok) (s:Shared) (Q:zzj) (E:zzj),Q (.int (g i j) s.toks) { s with toks:=s.toks+1 }->wpAny (model X.prog X.w) X.A (f (.int i t) (.int j u)) Q E s) :
  OpR X f (rI0 λi j=>.int (g i j)):=by
 intro pins s Z H x y v u Q I rx ry h;obtain⟨i,j,rfl,rfl,q⟩:=h;obtain⟨t,rfl⟩:=rx;obtain⟨t',rfl⟩:=ry;exact rule i j t t' s _ _ ⟨.int (g i j),H,I.tok _,⟨_,rfl⟩,q⟩
def Dr{g:Int->Int->Bool}
  (rule:∀(i j:Int) (t u:Tok) (s:Shared) (Q:zzj) (E:zzj),Q (.bool (g i j)) s->wpAny (model X.prog X.w) X.A (f (.int i t) (.int j u)) Q E s) :
  OpR X f (rI0 λi j=>.bl (g i j)):=by
 intro pins s Z H x y v u Q I rx ry h;obtain⟨i,j,rfl,rfl,q⟩:=h;obtain⟨t,rfl⟩:=rx;obtain⟨t',rfl⟩:=ry;exact rule i j t t' s _ _ ⟨.bl (g i j),H,I,rfl,q⟩
def Jp(i j:Int):Prop:=0<j/\j<1073741824
def Jo(i j:Int):Prop:=0<=j/\j<=1000000/\i.natAbs<2^64
def CMul(i j:Int):Prop:=(-(2^64)<i/\i<2^64)\/(-(2^64)<j/\j<2^64)
def CMul.ok{i j:Int}(h:CMul i j):IntMulOk i j:=by
 rcases h with ⟨h1,h2⟩|⟨h1,h2⟩
 ·exact .of_left (intBits_le_64 h1 h2)
 ·exact .of_right (intBits_le_64 h1 h2)
def op_add:OpR X (binaryOp .Add) (rI0 λi j=>.int (i+j)):=Iu λ_ _ _ _ _ _ _ q=>add_int q
def d6:OpR X (binaryOp .Sub) (rI0 λi j=>.int (i - j)):=Iu λ_ _ _ _ _ _ _ q=>sub_int q
def oK:OpR X (binaryOp .Mult) (rI CMul λi j=>.int (i*j)):=opI λ_ _ _ _ _ _ _ hc q=>mul_int q hc.ok
theorem yz:OpR X (binaryOp .FloorDiv) (rI Jp λi j=>.int (i / j)):=opI λi j _ _ _ _ _ hc q=>by
 have h1:(0:Int)<j:=hc.1;have h2:j<1073741824:=hc.2;exact floordiv_int (by lia) (by rw[Int.fdiv_eq_ediv_of_nonneg i (by lia)];exact q) (.inl (PyProof.noPylong_small (by lia)))
theorem jS:OpR X (binaryOp .Mod) (rI (λ_ j=>0<j) λi j=>.int (i % j)):=opI λi j _ _ _ _ _ hc q=>by
 have h1:(0:Int)<j:=hc;exact mod_int' (by lia) (by rw[Int.fmod_eq_emod_of_nonneg i (by lia)];exact q)
def Gi:OpR X (binaryOp .Pow) (rI Jo λi j=>.int (i^j.toNat)):=opI λ_ _ _ _ _ _ _ hc q=>pow_int_small hc.1 hc.2.1 hc.2.2 q
theorem unI{f:Value->Sem Value}{g:Int->Int}
  (rule:∀(i:Int) (t:Tok) (s:Shared) (Q:zzj) (E:zzj),Q (.int (g i) s.toks) { s with toks:=s.toks+1 }->wpAny (model X.prog X.w) X.A (f (.int i t)) Q E s) :
  UnR X f (rU λi=>.int (g i)):=by
 intro pins s Z H x v Q I rx h;obtain⟨i,rfl,q⟩:=h;obtain⟨t,rfl⟩:=rx;exact rule i t s _ _ ⟨.int (g i),H,I.tok _,⟨_,rfl⟩,q⟩
def rS:UnR X (unaryOp .USub) (rU λi=>.int (-i)):=unI λ_ _ _ _ _ q=>neg_int q
end
section
variable {X:Cx} {a b:Expr} {ta tb tc:TE}
def wV{Z:St}{H:Hp}{s:Shared}{Q:VK}{k k':Bool}(I:Inv X pins Z H s)(q:Q (.bl k) H)(e:k=k'):EP X pins Z Q (.bool k') s:=by
 subst e;exact⟨.bl k,H,I,rfl,q⟩
def qV:OpR X (compareOp .Lt) (rI0 λi j=>.bl (decide (i<j))):=Dr λ_ _ _ _ _ _ _ q=>lt_int q
def qW:OpR X (compareOp .LtE) (rI0 λi j=>.bl (decide (i<=j))):=Dr λ_ _ _ _ _ _ _ q=>le_int q
def oN:OpR X (compareOp .Gt) (rI0 λi j=>.bl (decide (j<i))):=Dr λ_ _ _ _ _ _ _ q=>gt_int q
def yy:OpR X (compareOp .GtE) (rI0 λi j=>.bl (decide (j<=i))):=Dr λ_ _ _ _ _ _ _ q=>ge_int q
def zS:OpR X (compareOp .In) (λx y H Q=>∃i j,x=.str i/\y=.str j/\Q (.bl (!(Builtin.Str.occurrences j i 0 j.length 1).isEmpty)) H):=by
 intro pins s Z H x y v u Q I rx ry h;obtain⟨i,j,rfl,rfl,q⟩:=h;obtain⟨t,rfl⟩:=rx;obtain⟨t',rfl⟩:=ry;exact in_str (wV I q rfl)
def Gj:OpR X (compareOp .Is) (λx y H Q=>y=.non/\Q (.bl (decide (x=.non))) H):=by
 intro pins s Z H x y v u Q I rx ry h;obtain⟨rfl,q⟩:=h
 cases ry
 refine is_none_gen (wV I q ?_)
 cases x<;>first
  | (cases rx;rfl)
  | (obtain⟨t,rfl⟩:=rx;rfl)
def sC:OpR X (compareOp .NotIn) (λx y H Q=>∃i j,x=.str i/\y=.str j/\Q (.bl (!(!(Builtin.Str.occurrences j i 0 j.length 1).isEmpty))) H):=by
 intro pins s Z H x y v u Q I rx ry h;obtain⟨i,j,rfl,rfl,q⟩:=h;obtain⟨t,rfl⟩:=rx;obtain⟨t',rfl⟩:=ry;exact notIn_str (wV I q rfl)
def OpR.or{r r':R2}(h:OpR X f r)(h':OpR X f r'):OpR X f (λx y H Q=>r x y H Q\/r' x y H Q):=by
 intro pins s Z H x y v u Q I rx ry q;rcases q with q|q
 ·exact h pins s Z H x y v u Q I rx ry q
 ·exact h' pins s Z H x y v u Q I rx ry q
def yu{r:R2}(ho:OpR X (compareOp op) r)(ha:PE X a ta)(hb:PE X b tb)(hm:behindInMarks op b=false):PE X (.Compare a [op] [b] pos) (tOp r ta tb):=by
 intro pins s Z H Q I h;exact wpAny_Compare1 (G3 ha hb I h λv u s2 x y H2 I2 rx ry q=>ho pins s2 Z H2 x y v u Q I2 rx ry q) hm
def Et(t:TE):TT:=λZ H Q=>t Z H λx H'=>∃k,x=.bl k/\Q k H'
def yk{r:R2}(ho:OpR X (compareOp op) r)(ha:PE X a ta)(hb:PE X b tb)(hm:behindInMarks op b=false):PT X (.Compare a [op] [b] pos) (Et (tOp r ta tb)):=by
 intro pins s Z H Q I h
 refine wpAny_isTrue_Compare1 (thn (ha pins s Z H _ I h) λv s1 ⟨x,H1,I1,r1,q1⟩=>thn (hb pins s1 Z H1 _ I1 q1) λu s2 ⟨y,H2,I2,r2,q2⟩ =>
  thn (ho pins s2 Z H2 x y v u _ I2 r1 r2 q2) λc s3 ⟨z,H3,I3,r3,k,e,q3⟩=>?_) hm
 subst e
 cases r3
 exact ES ⟨H3,I3,q3⟩
def AH(r r':R2)(ta tb tc:TE):TE:=λZ H Q=>ta Z H λx H1=>tb Z H1 λy H2=>r x y H2 λz H3=>∃k,z=.bl k /\
 (if k=true then tc Z H3 λw' H4=>r' y w' H4 Q else Q (.bl false) H3)
def Bd{op':CmpOp}{r r':R2}(ho:OpR X (compareOp op) r)(ho':OpR X (compareOp op') r')(ha:PE X a ta)(hb:PE X b tb)(hc:PE X c tc)
  (hm:lastMarks [op,op'] [b,c]=false:=by with_unfolding_all rfl):PT X (.Compare a [op,op'] [b,c] pos) (Et (AH r r' ta tb tc)):=by
 intro pins s Z H Q I h
 refine isTrue_chain (thn (ha pins s Z H _ I h) λv s1 ⟨x,H1,I1,r1,q1⟩=>test_link (thn (hb pins s1 Z H1 _ I1 q1) λu s2 ⟨y,H2,I2,r2,q2⟩ =>
  thn (ho pins s2 Z H2 x y v u _ I2 r1 r2 q2) λd s3 ⟨z,H3,I3,r3,k,e,q3⟩=>?_)) hm
 subst e
 cases r3
 refine ES ?_
 cases k with
 | false =>
  obtain⟨k',e',q'⟩:=q3
  cases e'
  exact ite_ff ⟨H3,I3,q'⟩
 | true =>
  refine ite_tt (test_last (thn (hc pins s3 Z H3 _ I3 q3) λw' s4 ⟨z',H4,I4,r4,q4⟩=>thn (ho' pins s4 Z H4 y z' u w' _ I4 r2 r4 q4) λd' s5 ⟨z2,H5,I5,r5,k2,e2,q5⟩=>?_));subst e2
  cases r5
  exact ES ⟨H5,I5,q5⟩
def Jj(K:PySem.W.Frag)(x:V)(H:Hp)(k:Bool):Prop :=
 match x with
 | .non=>k=false
 | .bl b=>k=b
 | .int i=>k=(i != 0)
 | .str y=>y.length<=sizeLine/\k=((y.length:Int) != 0)
 | .byt y=>y.size<=sizeLine/\k=((y.size:Int) != 0)
 | .ref p=>(∃xs,SqL K H p xs/\k = !xs.isEmpty)\/(∃xs,SqT K H p xs/\k = !xs.isEmpty)\/∃kvs,H p=some (.dK kvs)/\k = !kvs.isEmpty
 | _=>False
def wU{κ:Type}{kvs:List (κ×V)}{vs:List (κ×Value)}(r:KV kvs vs):(!vs.isEmpty) = !kvs.isEmpty:=by
 cases r<;>rfl
def o9{xs:List V}{its:List Value}(r:Vals xs its):(!its.toArray.isEmpty) = !xs.isEmpty:=by
 cases r<;>simp
def jW:(sizeLine:Nat)<2^63:=by rw[sizeLine_eq];decide
theorem Fs:KA X (λx H Q=>∃k,Jj X.K x H k/\Q k H):=by
 intro pins s Z H x v Q I rx h;obtain⟨k,e,q⟩:=h;have hl:=jW;have hs:sizeLine=16777216:=sizeLine_eq
 cases x with
 | non =>
  cases rx
  have e':k=false:=e;subst e';exact truthy_none ⟨H,I,q⟩
 | bl b =>
  cases rx
  have e':k=b:=e;subst e';exact ES ⟨H,I,q⟩
 | int i =>
  obtain⟨t,rfl⟩:=rx;have e':k=(i != 0):=e;subst e';exact PySem.P.truthy_int ⟨H,I,q⟩
 | str y =>
  obtain⟨t,rfl⟩:=rx;obtain⟨hy,e'⟩:y.length<=sizeLine/\k=((y.length:Int) != 0):=e;subst e';exact PySem.P.truthy_str (by lia) ⟨H,I.tok _,q⟩
 | byt y =>
  obtain⟨t,rfl⟩:=rx;obtain⟨hy,e'⟩:y.size<=sizeLine/\k=((y.size:Int) != 0):=e;subst e';exact PySem.W.truthy_bytes (by lia) ⟨H,I.tok _,q⟩
 | ref p =>
  cases rx
  have e':(∃xs,SqL X.K H p xs/\k = !xs.isEmpty)\/(∃xs,SqT X.K H p xs/\k = !xs.isEmpty)\/∃kvs,H p=some (.dK kvs)/\k = !kvs.isEmpty:=e;rcases e' with ⟨xs,hx,e'⟩|⟨xs,hx,e'⟩|⟨kvs,hx,e'⟩
  ·subst e';obtain⟨its,r,pl,hz⟩:=I.list hx;have hlen:=r.length;exact wpAny_truthy_list pl.isList (by simp only[be];lia) ⟨H,I.tok _,by rw[o9 r];exact q⟩
  ·subst e';obtain⟨its,r,pl,hz⟩:=I.tuple hx;have hlen:=r.length;exact truthy_tuple pl (by simp only[be];lia) ⟨H,I.tok _,by rw[o9 r];exact q⟩
  ·subst e';obtain⟨hz,hS,vs,r,m⟩:kvs.length<=sizeLine/\(p==sysModules)=false/\∃vs,KV kvs vs/\s.heap.DictOf (sY X.prog X.w) p vs:=I.hok p _ hx;have hlen:kvs.length=vs.length:=Paired.length r;exact wpAny_truthy_dict hS m (by lia) ⟨H,I.tok _,by rw[wU r];exact q⟩
 | _=>exact(show False from e).elim
def oB(ha:PE X a ta)(he:∀whole,isTrue a X.env whole=(do let v <-whole;standAt a.pos;holding [v] (truthy v))) :
  PT X a (λZ H Q=>ta Z H λx H'=>∃k,Jj X.K x H' k/\Q k H'):=by
 intro pins s Z H Q I h;exact isTrue_plain (thn (ha pins s Z H _ I h) λv s1 ⟨x,H1,I1,r1,q1⟩=>Fs pins s1 Z H1 x v Q I1 r1 q1) (he _)
def wy:OpR X (binaryOp .Add) (λx y H Q=>∃i j,x=.str i/\y=.str j/\i.length+j.length<=sizeLine/\Q (.str (i++j)) H):=by
 intro pins s Z H x y v u Q I rx ry h;obtain⟨i,j,rfl,rfl,hz,q⟩:=h;obtain⟨t,rfl⟩:=rx;obtain⟨t',rfl⟩:=ry;exact add_str (λt' tk=>⟨.str (i++j),H,I.tok _,⟨_,rfl⟩,q⟩) hz
def vals1{x:V}(r:Vals [x] us):∃u,us=[u]/\RelV x u:=by
 cases r with
 | cons r1 r2=>cases r2;exact⟨_,rfl,r1⟩
def vals2{x y:V}(r:Vals [x,y] us):∃u w',us=[u,w']/\RelV x u/\RelV y w':=by
 cases r with
 | cons r1 r2 =>
  cases r2 with
  | cons r3 r4=>cases r4;exact⟨_,_,rfl,r1,r3⟩
def vm:CallR X (.builtin "abs") (λxs H Q=>∃i,xs=[.int i]/\Q (.int (if i<0 then -i else i)) H):=by
 intro pins s Z H xs us Q I r h;obtain⟨i,rfl,q⟩:=h;obtain⟨u,rfl,t,rfl⟩:=vals1 r;exact call_abs_int λu tk=>⟨.int (if i<0 then -i else i),H,I.tok _,⟨_,rfl⟩,q⟩
def mr(hc:X.calm=true):CallR X (.builtin "max") (λxs H Q=>∃i j,xs=[.int i,.int j]/\Q (.int (if j>i then j else i)) H):=by
 intro pins s Z H xs us Q I r h;obtain⟨i,j,rfl,q⟩:=h;obtain⟨u,w',rfl,⟨t,rfl⟩,⟨t',rfl⟩⟩:=vals2 r;refine max_two_ints (I.ok.hd hc) λh' tk k=>⟨_,H,I.kept k,?_,q⟩
 by_cases hj:j>i
 ·rw[ak hj,ak hj];exact⟨_,rfl⟩
 ·rw[ac hj,ac hj];exact⟨_,rfl⟩
def mn(hc:X.calm=true):CallR X (.builtin "min") (λxs H Q=>∃i j,xs=[.int i,.int j]/\Q (.int (if j<i then j else i)) H):=by
 intro pins s Z H xs us Q I r h;obtain⟨i,j,rfl,q⟩:=h;obtain⟨u,w',rfl,⟨t,rfl⟩,⟨t',rfl⟩⟩:=vals2 r;refine min_two_ints (I.ok.hd hc) λh' tk k=>⟨_,H,I.kept k,?_,q⟩
 by_cases hj:j<i
 ·rw[ak hj,ak hj];exact⟨_,rfl⟩
 ·rw[ac hj,ac hj];exact⟨_,rfl⟩
def Al:CallR X (.type "int") (λxs H Q=>(∃i,xs=[.int i]/\Q (.int i) H)\/∃k,xs=[.bl k]/\Q (.int (if k then 1 else 0)) H):=by
 intro pins s Z H xs us Q I r h;rcases h with ⟨i,rfl,q⟩|⟨k,rfl,q⟩
 ·obtain⟨u,rfl,t,rfl⟩:=vals1 r;exact call_int_int ⟨.int i,H,I,⟨_,rfl⟩,q⟩
 ·obtain⟨u,rfl,r1⟩:=vals1 r
  cases r1
  exact call_int_bool ⟨.int (if k then 1 else 0),H,I.tok _,⟨_,rfl⟩,q⟩
def h7:CallR X (.type "str") (λxs H Q=>∃i,xs=[.int i]/\i.natAbs.log2<1920/\Q (.str (toString i)) H):=by
 intro pins s Z H xs us Q I r h;obtain⟨i,rfl,hz,q⟩:=h;obtain⟨u,rfl,t,rfl⟩:=vals1 r;exact PySem.P.str_of_int hz ⟨.str _,H,I.tok _,⟨_,rfl⟩,q⟩
end
structure ObjM(h:Heap)(x dx C:Addr)(mA:zzl):Prop where
 obj:h.get? x=some (PySem.W.instObj C dx)
 ns:h.Ns1 dx mA
 ne:dx≠x
def lS(n:h.Ns1 dx mA):∃od,h.get? dx=some od/\∀name,PySem.W.lookIn name od=some (mA name):=by
 obtain⟨o,es,ep,ho,hd,hk,_,hm⟩:=n;refine⟨o,ho,λname=>?_⟩;have e:=hm name;unfold nsFind findBy at e;rw[<-Array.find?_toList]at e;unfold PySem.W.lookIn;rw[hd];dsimp only;split
 ·rename_i y q;rw[q]at e;exact congrArg some e
 ·rename_i q;rw[q]at e;have a:es.toList.any (·.refKey)=false:=by
   rw[List.any_eq_false];intro y hy;obtain⟨z,t,hkey⟩:=hk y (Array.mem_toList_iff.mp hy);simp[DictEntry.refKey,hkey]
  have a':¬ es.toList.any (·.refKey)=true:=by rw[a];exact ug
  rw[ac a'];exact congrArg some e
def ObjM.look{x:Addr}(I:ObjM h x dx C mA):∃od,PySem.W.InstAt h x (PySem.W.instObj C dx) C (some od)/\∀name,PySem.W.lookIn name od=some (mA name) :=
 let ⟨od,ho,hl⟩:=lS I.ns
 ⟨od,⟨I.obj,rfl,rfl,ho⟩,hl⟩
section
variable {prog:Program} {s:Shared} {K:PySem.W.Frag} {x f:Addr} {name:Str} {v:Value}
theorem DM{expr:Bool}{Q:zzj}(X:K.In s.heap)(I:ObjM s.heap x dx C mA)(hg:PySem.W.plainGet K C name=true)(hh:PySem.W.hasDictIn K C=true)
  (ha:PySem.W.findIn K (.ref C) name=some none) (hv:mA name=some v) (hv':PySem.W.handedIn v=true) (h:Q v { s with toks:=s.toks+1 }) :
  wpAny (model prog w) A (getAttr (.ref x) name expr) Q E s:=by
 obtain⟨od,J,hl⟩:=I.look;exact PySem.W.get_value X J (PySem.W.plainGet_of hg).1 (PySem.W.findObj_own hh ha rfl (by rw[hl,hv])) hv' h
def B0{pl:Sem Bool}{Q:Value×List Value->Shared->Prop}(X:K.In s.heap)(I:ObjM s.heap x dx C mA)(hg:PySem.W.plainGet K C name=true)
  (hf:PySem.W.findIn K (.ref C) name=some (some (.ref f))) (ht:PySem.W.isFn K (.ref f)=true) (hv:mA name=none) (h:Q (.ref f,[.ref x]) s) :
  wpAny (model prog w) A (getMethod (.ref x) name pl) Q E s:=by
 obtain⟨od,J,hl⟩:=I.look;exact PySem.W.method_fn X J (PySem.W.plainGet_of hg).1 (PySem.W.plainGet_of hg).2 hf (beq_iff_eq.mp ht) (by show(PySem.W.lookIn name od).map (·.isSome)=some false;rw[hl,hv];rfl) h
theorem C2{ns:List Str}(X:K.In s.heap)(I:ObjM s.heap x dx C mA)
  (hs:PySem.W.findIn K (.ref C) "__setattr__" = some (some (.builtin "object.__setattr__"))) (hp:PySem.W.plainOver K C=true) (ht:PySem.W.takerIn K C name=some none) (hh:PySem.W.hasDictIn K C=true)
  (hw:PySem.Within mA ns) (hsz:ns.length<=sizeLine)
  (h:∀h',ObjM h' x dx C (λy=>if y=name then some v else mA y)->Heap.SameBut dx s.heap h'->Q () { s with heap:=h',toks:=s.toks+2 }) :
  wpAny (model prog w) A (setAttr (.ref x) name v) Q E s:=by
 obtain⟨od,J,hl⟩:=I.look;refine PySem.W.set_plain X J hs (PySem.W.osa_open (s:={ s with toks:=s.toks+1 }) (r:=none) X J hp ht λb=>?_);obtain⟨cd,hc,hd'⟩:=PySem.W.any_some hh;have hx:s.heap.get? x=some ⟨.ref C,some dx,.plain,#[]⟩:=I.obj;refine zza (zzb (zza (zza (wpAny_loadPart hx (zza (PySem.W.Looks.here (s:={ s with toks:=s.toks+1 }) (PySem.W.looks_clsIn X hc) ?_))))));rw[hd'];refine zzb (a:=some dx) (zza (zzb (zza ?_)));refine wpAny_nsSet1 (s:={ s with toks:=s.toks+1 }) I.ns λh' hn2 hs2=>?_
 obtain⟨oD,esD,epD,hoD,hdD,hcD⟩:=hn2.count (PySem.Within.cons name v hw);refine zza (wpAny_lookBehind hoD (by rw[hdD];exact pastItsLine_dict (cr hcD (by rw[bi];lia))) ?_);exact zzb (h _ ⟨(hs2.2 _ (Ne.symm I.ne)).trans I.obj,hn2,I.ne⟩ hs2)
def BD{R:Result->Shared->Prop}{vs:List Value}(X:K.In s.heap)(hm:PySem.W.makesIn K C=true)
  (hi:PySem.W.findIn K (.ref C) "__init__" = some (some (.ref f))) (hf:PySem.W.typeIn K (.ref f)=some (.type "function"))
  (h:codeAny (model prog w) (A.under (.builtin "type.__call__" ⟨.ref C::vs,kw⟩)) (.call (.ref f) ⟨.ref (s.heap.objs.size+1)::vs,kw⟩) (PySem.W.InitBack (s.heap.objs.size+1) R)
   { s with heap:=(s.heap.push PySem.W.emptyDict).push (PySem.W.instObj C s.heap.objs.size) }) :
  codeAny (model prog w) A (.call (.ref C) ⟨vs,kw⟩) R s:=by
 obtain⟨hh,g,d,t,os⟩:=s;exact PySem.W.make_core (PySem.W.makes_of X hm) (PySem.W.looks_findIn X hi) (λself=>PySem.W.bind_fn X self hf) (.inl rfl) h
end
def dS(f:Str)(v:V):List (Str×V)->List (Str×V)
 | []=>[(f,v)]
 | (g,x)::r=>if g=f then(g,v)::r else(g,x)::dS f v r
theorem iX(f g:Str)(v:V):∀fs:List (Str×V),(dS f v fs).lookup g=if g=f then some v else fs.lookup g
 | []=>by
  show List.lookup g [(f,v)]=_;by_cases h:g=f
  ·have hb:(g==f)=true:=beq_iff_eq.mpr h;simp only[List.lookup,hb,ak h]
  ·have hb:(g==f)=false:=beq_eq_false_iff_ne.mpr h;simp only[List.lookup,hb,ac h]
 | (k,x)::r=>by
  have ih:=iX f g v r;rw[show dS f v ((k,x)::r)=(if k=f then(k,v)::r else(k,x)::dS f v r)from rfl];by_cases hk:k=f
  ·rw[ak hk];by_cases h:g=k
   ·have hb:(g==k)=true:=beq_iff_eq.mpr h;simp only[List.lookup,hb,ak (h.trans hk)]
   ·have hb:(g==k)=false:=beq_eq_false_iff_ne.mpr h;simp only[List.lookup,hb,ac (λe:g=f=>h (e.trans hk.symm))]
  ·rw[ac hk];by_cases h:g=k
   ·have hb:(g==k)=true:=beq_iff_eq.mpr h;simp only[List.lookup,hb,ac (λe:g=f=>hk (h.symm.trans e))]
   ·have hb:(g==k)=false:=beq_eq_false_iff_ne.mpr h;simp only[List.lookup,hb];exact ih
def gQ(f:Str)(v:V):∀fs:List (Str×V),f∈(dS f v fs).map (·.1)/\∀g,g∈fs.map (·.1)->g∈(dS f v fs).map (·.1)
 | []=>⟨by simp[dS],λg h=>by simp at h⟩
 | (k,x)::r=>by
  obtain⟨i1,i2⟩:=gQ f v r;rw[show dS f v ((k,x)::r)=(if k=f then(k,v)::r else(k,x)::dS f v r)from rfl];by_cases hk:k=f
  ·rw[ak hk];subst hk;exact⟨by simp,λg h=>by simpa using h⟩
  ·rw[ac hk];refine⟨?_,λg h=>?_⟩
   ·rw[ba];exact zzg _ i1
   ·rw[ba]at h ⊢;rcases List.mem_cons.mp h with e|e
    ·exact List.mem_cons.mpr (.inl e)
    ·exact zzg _ (i2 g e)
theorem mN(f:Str)(v:V):∀fs:List (Str×V),(dS f v fs).length<=fs.length+1
 | []=>by simp[dS]
 | (k,x)::r=>by
  have ih:=mN f v r;rw[show dS f v ((k,x)::r)=(if k=f then(k,v)::r else(k,x)::dS f v r)from rfl];by_cases hk:k=f
  ·rw[ak hk,bi,bi];lia
  ·rw[ac hk,bi,bi];lia
def RelO.some_of{v:V}{o:Option Value}(r:RelO (some v) o):∃u,o=some u/\RelV v u:=by
 cases o with
 | none=>exact(show False from r).elim
 | some u=>exact⟨u,rfl,r⟩
def RelO.none_of{o:Option Value}(r:RelO none o):o=none:=by
 cases o with
 | none=>rfl
 | some u=>exact(show False from r).elim
def rh{v:V}(r:RelV v u):PySem.W.handedIn u=true:=by
 cases v with
 | non=>cases (show u=Value.none from r);rfl
 | bl b=>cases (show u=Value.bool b from r);rfl
 | int i=>obtain⟨t,e⟩:=(show ∃t,u=Value.int i t from r);cases e;rfl
 | str x=>obtain⟨t,e⟩:=(show ∃t,u=Value.str x t from r);cases e;rfl
 | byt b=>obtain⟨t,e⟩:=(show ∃t,u=Value.bytes b t from r);cases e;rfl
 | flt b=>obtain⟨t,e⟩:=(show ∃t,u=Value.float b t from r);cases e;rfl
 | ref a=>cases (show u=Value.ref a from r);rfl
 | ty n=>cases (show u=Value.type n from r);rfl
section
variable {H H':Hp} {fs fs':List (Str×V)}
def tw(hok:HOk P w H h)(e:H a=some (.ins C dx fs)):∃mA,ObjM h a dx C mA/\(∀f,RelO (fs.lookup f) (mA f))/\PySem.Within mA (fs.map (·.1))/\fs.length<=1000/\H dx=some (.own a):=by
 obtain⟨d,z,ne,ob,mA,n,r,q⟩:=(show ObjOk P w H h a (.ins C dx fs)from hok a _ e);exact⟨mA,⟨ob,n,ne⟩,r,q,z,d⟩
end
structure Cls(K:PySem.W.Frag)(C:Addr):Prop where
 pg:PySem.W.plainGet K C Str.empty=true
 hd:PySem.W.hasDictIn K C=true
 po:PySem.W.plainOver K C=true
 sa:PySem.W.findIn K (.ref C) "__setattr__" = some (some (.builtin "object.__setattr__"))
def Cls.get{K:PySem.W.Frag}(c:Cls K C)(f:Str):PySem.W.plainGet K C f=true:=c.pg
def NoAttr(K:PySem.W.Frag)(C:Addr)(f:Str):Prop:=PySem.W.findIn K (.ref C) f=some none
def NoAttr.taker{K:PySem.W.Frag}{f:Str}(n:NoAttr K C f):PySem.W.takerIn K C f=some none:=by
 unfold PySem.W.takerIn;rw[show PySem.W.findIn K (.ref C) f=some none from n];rfl
structure Meth(K:PySem.W.Frag)(C:Addr)(m:Str)(f:Addr):Prop where
 at_:PySem.W.findIn K (.ref C) m=some (some (.ref f))
 fn:PySem.W.isFn K (.ref f)=true
 kp:PySem.W.keepIn K (.ref f)=true
section
variable {X:Cx} {Z:St} {H:Hp} {s:Shared} {fs:List (Str×V)} {f:Str} {v:V}
def pk{b:Bool}{Q:zzj}(I:Inv X pins Z H s)(e:H a=some (.ins C dx fs))(c:Cls X.K C)(n:NoAttr X.K C f)(l:fs.lookup f=some v)
  (h:∀u s',Inv X pins Z H s'->RelV v u->Q u s'):wpAny (model X.prog X.w) A (getAttr (.ref a) f b) Q E s:=by
 obtain⟨mA,O,r,_,_,_⟩:=tw I.hok e;obtain⟨u,hu,ru⟩:=RelO.some_of (v:=v) (o:=mA f) (by rw[<-l];exact r f);exact DM I.kIn O (c.get f) c.hd n hu (rh ru) (h u _ (I.tok _) ru)
def pj{m:Str}{g:Addr}{pl:Sem Bool}{Q:Value×List Value->Shared->Prop}(I:Inv X pins Z H s)(e:H a=some (.ins C dx fs))(c:Cls X.K C)(k:Meth X.K C m g)(l:fs.lookup m=none)
  (h:Q (.ref g,[.ref a]) s):wpAny (model X.prog X.w) A (getMethod (.ref a) m pl) Q E s:=by
 obtain⟨mA,O,r,_,_,_⟩:=tw I.hok e;have hn:mA m=none:=RelO.none_of (by rw[<-l];exact r m);exact B0 I.kIn O (c.get m) k.at_ k.fn hn h
theorem nY{y:V}(I:Inv X pins Z H s)(e:H a=some (.ins C dx fs))(c:Cls X.K C)(n:NoAttr X.K C f)(hl:fs.length<1000)(ry:RelV y u)
  (h:∀s',Inv X pins Z (upd H a (.ins C dx (dS f y fs))) s'->Q () s'):wpAny (model X.prog X.w) A (setAttr (.ref a) f u) Q E s:=by
 obtain⟨mA,O,r,wi,_,ho⟩:=tw I.hok e;have hz:(fs.map (·.1)).length<=sizeLine:=by rw[zzd,sizeLine_eq];lia
 refine C2 I.kIn O c.sa c.po n.taker c.hd wi hz λh' O' sb=>h _ ?_
 have hd:∃o,h'.get? dx=some o:=let ⟨o,_,_,e',_⟩:=O'.ns;⟨o,e'⟩
 refine I.write (x:=a) (e:=dx) (by rw[e];exact True.intro) (.inr ho) (λb q hb z=>(sb.2 b hb).trans z) hd ?_;refine⟨by rw[aI O.ne];exact ho,?_,O.ne,O'.obj,_,O'.ns,λg=>?_,λg hg=>?_⟩
 ·have:=mN f y fs;lia
 ·show RelO ((dS f y fs).lookup g) (if g=f then some u else mA g);rw[iX];by_cases q:g=f
  ·rw[ak q,ak q];exact ry
  ·rw[ac q,ac q];exact r g
 ·by_cases q:g=f
  ·rw[q];exact(gQ f y fs).1
  ·refine(gQ f y fs).2 g (wi g λz=>hg ?_);show(if g=f then some u else mA g)=none;rw[ac q];exact z
def Inv.made(I:Inv X pins Z H s):Inv X pins Z (upd (upd H s.heap.objs.size (.own (s.heap.objs.size+1))) (s.heap.objs.size+1) (.ins C s.heap.objs.size []))
  { s with heap:=(s.heap.push PySem.W.emptyDict).push (PySem.W.instObj C s.heap.objs.size) }:=by
 have e1:(s.heap.push PySem.W.emptyDict).get? s.heap.objs.size=some PySem.W.emptyDict:=zze s.heap rfl;have e2:((s.heap.push PySem.W.emptyDict).push (PySem.W.instObj C s.heap.objs.size)).get? (s.heap.objs.size+1)=some (PySem.W.instObj C s.heap.objs.size):=by
  have:=zze (s.heap.push PySem.W.emptyDict) (o:=PySem.W.instObj C s.heap.objs.size) rfl
  rwa [xt]at this
 have e3:(s.heap.push PySem.W.emptyDict).Ns s.heap.objs.size (λ_=>none):=⟨PySem.W.emptyDict,#[],_,e1,rfl,(λe he=>absurd he (by simp)),λ_=>rfl⟩;have I1:=I.laid (a:=s.heap.objs.size) (o:=.own (s.heap.objs.size+1)) (h':=s.heap.push PySem.W.emptyDict) (t':=s.toks) (λb u q=>zzc _ q) (au _) ⟨_,e1⟩;refine I1.laid (a:=s.heap.objs.size+1) (o:=.ins C s.heap.objs.size []) (t':=s.toks) (λb u q=>zzc _ q) (Nat.le_of_eq (xt _ _)) ?_;have ne:s.heap.objs.size≠s.heap.objs.size+1:=bj (wT _);refine⟨by rw[aI ne,aT],di _,ne,e2,λ_=>none,(Heap.Ns1.of_empty e3).at λo q=>zzc _ q,λ_=>True.intro,λy hy=>absurd rfl hy⟩
def zk{prog:Program}{env:Env}{f:Str}{s:Shared}{Q:zzj}(hb:attributeBase e f env (eval e env)=eval e env)
  (h:wpAny (model prog w) A (eval e env) (λo s₁=>wpAny (model prog w) A (getAttr o f true) Q E s₁) E s):wpAny (model prog w) A (eval (.Attribute e f pos) env) Q E s :=
 Attribute_any_ h (by rw[arm_eval_Attribute,hb])
end
def JB(K:PySem.W.Frag)(ta:TE)(f:Str):TE:=λZ H Q=>ta Z H λx H1=>∃a C dx fs v,x=.ref a/\H1 a=some (.ins C dx fs)/\Cls K C/\NoAttr K C f/\fs.lookup f=some v/\Q v H1
def JH(K:PySem.W.Frag)(ta tv:TE)(f:Str):TS:=λD Z H=>tv Z H λy H1=>ta Z H1 λx H2=>∃a C dx fs,x=.ref a/\H2 a=some (.ins C dx fs)/\Cls K C/\NoAttr K C f/\fs.length<1000 /\
 D.nx Z (upd H2 a (.ins C dx (dS f y fs)))
def Jn(X:Cx)(op:Operator)(rd:V->V->Hp->VK->Prop):Prop :=
 ∀(pins:zzk) (s:Shared) (Z:St) (H:Hp) (x y:V) (u v:Value) (Q:VK),Inv X pins Z H s->RelV x u->RelV y v->rd x y H Q->wpAny (model X.prog X.w) X.A (inplaceOp op u v) (EP X pins Z Q) X.xe s
def C4(K:PySem.W.Frag)(ta tv:TE)(rd:V->V->Hp->VK->Prop)(f:Str):TS:=λD Z H=>ta Z H λx H1=>∃a C dx fs v,x=.ref a/\H1 a=some (.ins C dx fs)/\Cls K C/\NoAttr K C f/\fs.lookup f=some v /\
 tv Z H1 λy H2=>rd v y H2 λz H3=>∃dx' fs',H3 a=some (.ins C dx' fs')/\fs'.length<1000/\D.nx Z (upd H3 a (.ins C dx' (dS f z fs')))
section
variable {X:Cx} {o value:Expr} {f:Str} {pos' tpos:Pos} {ta tv:TE}
def Ga(he:PE X e ta)(hb:attributeBase e f X.env (eval e X.env)=eval e X.env):PE X (.Attribute e f pos) (JB X.K ta f):=by
 intro pins s Z H Q I h;refine zk hb (thn (he pins s Z H _ I h) λu s1 ⟨x,H1,I1,rx,a,C,dx,fs,v,ex,ea,c,n,l,q⟩=>?_);subst ex;obtain rfl:u=Value.ref a:=rx;exact pk I1 ea c n l λu' s2 I2 ru=>⟨v,H1,I2,ru,q⟩
def FR(ha:PE X o ta)(hv:PE X value tv)(hs:swapsWith value (some (.Attribute o f pos')) pos.line X.env=pure false):PS X (.Assign [.Attribute o f pos'] value pos) (JH X.K ta tv f):=by
 intro pins s Z H D I h;refine Lh (thn (hv pins s Z H _ I h) λu s1 ⟨y,H1,I1,ry,q⟩=>thn (ha pins s1 Z H1 _ I1 q) λov s2 ⟨x,H2,I2,rx,a,C,dx,fs,ex,ea,c,n,l,q2⟩=>?_) hs;subst ex;obtain rfl:ov=Value.ref a:=rx;exact nY I2 ea c n l ry λs3 I3=>⟨Z,_,I3,q2⟩
def zN{op:Operator}{rd:V->V->Hp->VK->Prop}(ha:PE X o ta)(hv:PE X value tv)(hop:Jn X op rd):PS X (.AugAssign (.Attribute o f tpos) op value pos) (C4 X.K ta tv rd f):=by
 intro pins s Z H D I h;refine wpAny_AugAssign_AttributeAny (thn (ha pins s Z H _ I h) λov s1 ⟨x,H1,I1,rx,a,C,dx,fs,v,ex,ea,c,n,l,q⟩=>?_);subst ex;obtain rfl:ov=Value.ref a:=rx;refine pk I1 ea c n l λu s2 I2 ru=>thn (hv pins s2 Z H1 _ I2 q) λw3 s3 ⟨y,H2,I3,ry,q3⟩=>thn (hop pins s3 Z H2 v y u w3 _ I3 ru ry q3) λw4 s4 ⟨z,H3,I4,rz,dx',fs',ea',l',q4⟩=>?_
 exact nY I4 ea' c n l' rz λs5 I5=>⟨Z,_,I5,q4⟩
def JO:V->V->Hp->VK->Prop:=λx y H Q=>∃i j,x=.int i/\y=.int j/\Q (.int (i+j)) H
def GN:Jn X .Add JO:=by
 rintro pins s Z H x y u v Q I rx ry ⟨i,j,rfl,rfl,q⟩;obtain⟨t,rfl⟩:=(show ∃t,u=Value.int i t from rx);obtain⟨t',rfl⟩:=(show ∃t',v=Value.int j t' from ry);exact PyProof.Rows.iadd_int ⟨.int (i+j),H,I.tok _,⟨_,rfl⟩,q⟩
end
structure Room(k:Nat)(A:Around):Prop where
 hd:A.handled=none
 dp:A.depth+3*k+5<recursionLimit
 un:A.units+16*k+1200<cLine
 gd:A.guards=some []
theorem Room.mono(r:Room k A)(h:j<=k):Room j A:=⟨r.hd,by have:=r.dp;lia,by have:=r.un;lia,r.gd⟩
theorem Room.deeper(r:Room (k+1) A)(env:Env):Room k (A.deeper env) :=
 ⟨r.hd,by have:=r.dp;show A.depth+1+3*k+5<_;lia,by have:=r.un;show A.units+3+16*k+1200<_;lia,r.gd⟩
def wI:(A.under (.builtin "type.__call__" ⟨.ref C::us,kw⟩)).depth=A.depth+1:=by
 first|rfl|simp[Around.under,Code.weight,Code.isCreation,Code.isGuard,Code.isCaller,Code.frames,Code.isFrame,guardIds]
def wH:(A.under (.builtin "type.__call__" ⟨.ref C::us,kw⟩)).units=A.units+1:=by
 first|rfl|simp[Around.under,Code.cUnits,Code.frames,Code.isFrame]
theorem Room.make(r:Room (k+1) A)(C:Addr)(us:List Value)(kw:List (Str×Value)):Room k (A.under (.builtin "type.__call__" ⟨.ref C::us,kw⟩)) :=
 ⟨r.hd,by have:=r.dp;rw[wI];lia,by have:=r.un;rw[wH];lia,by first|exact r.gd|simpa[Around.under,Code.isGuard,guardIds]using r.gd⟩
theorem Room.depth(r:Room k A):A.depth<recursionLimit:=by have:=r.dp;lia
def Jx:TA:=λ_ H Q=>Q [] H
def Hw(ta:TE)(tr:TA):TA:=λZ H Q=>ta Z H λx H1=>tr Z H1 λxs H2=>Q (x::xs) H2
section
variable {X:Cx} {te:TE} {t:TA}
def iS:PA X [] Jx:=λ_ _ _ _ H Q I h=>Calls.spliced_nil ⟨[],H,I,.nil,h⟩
def eG(ha:PE X e te)(hr:PA X es t)(hs:starEach (e::es) X.env=(false,eval e X.env)::starEach es X.env:=by rfl):PA X (e::es) (Hw te t):=by
 intro pos pins s Z H Q I h;rw[hs];show wpAny _ _ (spliced ((false,eval e X.env)::backTo pos (starEach es X.env))) _ _ s;refine Calls.spliced_cons (thn (ha pins s Z H _ I h) λu s1 ⟨x,H1,I1,r1,q1⟩=>?_);exact thn (hr pos pins s1 Z H1 _ I1 q1) λus s2 ⟨xs,H2,I2,r2,q2⟩=>⟨x::xs,H2,I2,.cons r1 r2,q2⟩
def Js(t:TA):TE:=λZ H Q=>t Z H λxs H1=>xs.length<=sizeLine/\∀p,H1 p=none->Q (.ref p) (upd H1 p (.tup xs))
def Jy(t:TA):TE:=λZ H Q=>t Z H λxs H1=>xs.length<=sizeLine/\∀p,H1 p=none->Q (.ref p) (upd H1 p (.lst xs))
theorem Bl{x1}(h:PA X es t):PE X (.Tuple es x1 pos) (Js t):=by
 intro pins s Z H Q I hq;refine wpAny_Tuple_spliced (thn (h pos pins s Z H _ I hq) λus s1 ⟨xs,H1,I1,r,z,q⟩=>⟨by rw[<-r.length];exact z,?_⟩);have hf:H1 s1.heap.objs.size=none:=I1.hok.fresh (au _);refine⟨.ref s1.heap.objs.size,upd H1 s1.heap.objs.size (.tup xs),I1.laid (t':=s1.toks) (λb u e=>zzc _ e) (au _) ?_,rfl,q _ hf⟩;exact⟨z,us,r,⟨_,zze _ rfl,rfl,_,rfl⟩,⟨_,zze _ rfl,rfl⟩⟩
theorem sA(h:PA X es t):PE X (.List es pos) (Jy t):=by
 intro pins s Z H Q I hq;refine wpAny_List_spliced (thn (h pos pins s Z H _ I hq) λus s1 ⟨xs,H1,I1,r,z,q⟩=>⟨by rw[<-r.length];exact z,?_⟩);have hf:H1 s1.heap.objs.size=none:=I1.hok.fresh (au _);refine⟨.ref s1.heap.objs.size,upd H1 s1.heap.objs.size (.lst xs),I1.laid (t':=s1.toks) (λb u e=>zzc _ e) (au _) ?_,rfl,q _ hf⟩;exact⟨z,us,0,r,zze _ rfl⟩
end
abbrev Sp:=List V->Hp->VK->XK->Prop
abbrev CXT:=List Env->Hp->Shared->XK->Value->Shared->Prop
structure Env0(P:Program)(w:World)(K:PySem.W.Frag)(mg:zzl)(base:Heap)(A:Around)(outer:List Env)(s:Shared)(H:Hp):Prop where
 frames:A.frames=some outer
 mod:Mod K mg base
 bs:∀b o,base.get? b=some o->s.heap.get? b=some o/\H b=none
 bsz:base.objs.size<=s.heap.objs.size
 funs:s.heap.FunFrames base outer
 frf:∀b∈frs outer,H b=none
 hok:HOk P w H s.heap
 bare:AllBare s.gens
def CE(outer:List Env)(P:Program)(w:World)(H:Hp)(s:Shared)(Q:VK)(u:Value)(s':Shared):Prop :=
 ∃v H',s'.os=s.os/\AllBare s'.gens/\Un (frs outer) [] H H' s.heap s'.heap/\HOk P w H' s'.heap/\RelV v u/\Q v H'
def CR(CX:CXT)(outer:List Env)(P:Program)(w:World)(H:Hp)(s:Shared)(Q:VK)(E:XK)(r:Result)(s':Shared):Prop :=
 match r with
 | .ok (.ret u)=>CE outer P w H s Q u s'
 | .ok _=>False
 | .error e=>CX outer H s E e s'
structure FnOk(P:Program)(w:World)(K:PySem.W.Frag)(mg:zzl)(base:Heap)(CX:CXT)(k:Nat)(f:Addr)(fd:FuncData)(ps:List Str)(sp:Sp):Prop where
 len:∀vs H Q E,sp vs H Q E->vs.length=ps.length
 run:∀(A:Around) (outer:List Env) (s:Shared) (H:Hp) (args:Args) (us:List Value) (vs:List V) (Q:VK) (E:XK),Room k A->Env0 P w K mg base A outer s H->BindsTo s fd args (ps.zip us)->Vals vs us->sp vs H Q E ->
  codeAny (model P w) A (.call (.ref f) args) (CR CX outer P w H s Q E) s
def Env0.make{K:PySem.W.Frag}{outer:List Env}{s:Shared}{H:Hp}(e:Env0 P w K mg base A outer s H)(C:Addr)(us:List Value)(kw:List (Str×Value)) :
  Env0 P w K mg base (A.under (.builtin "type.__call__" ⟨.ref C::us,kw⟩)) outer s H:=⟨by first|exact e.frames|(simpa[Around.under,Code.envs,Code.isFrame,pushEnvs]using e.frames),e.mod,e.bs,e.bsz,e.funs,e.frf,e.hok,e.bare⟩
section
variable {X:Cx} {Z:St} {H:Hp} {s s':Shared}
def Inv.env0(I:Inv X pins Z H s):Env0 X.prog X.w X.K X.mg X.base X.A X.stack s H :=
 ⟨I.ok.frames,I.ok.mod,I.bs,cr I.ok.bsz I.sz,I.stack,I.stkFree,I.hok,I.bare⟩
theorem Inv.after{Q:VK}(I:Inv X pins Z H s)(h:CE X.stack X.prog X.w H s Q u s'):EP X pins Z Q u s':=by
 obtain⟨v,H',os,bare,un,hok,r,q⟩:=h;obtain⟨hh,g,d,t,os'⟩:=s';obtain rfl:os'=s.os:=os;exact⟨v,H',I.call (h':=hh) (g':=g) (d':=d) (t':=t) (ch:=[]) un hok bare (λb z=>absurd z (by simp)),r,q⟩
end
def Binds(K:PySem.W.Frag)(fd:FuncData)(ps:List Str)(ds:List Value):Prop :=
 ∀(s:Shared) (us:List Value),K.In s.heap->(us++ds).length=ps.length->BindsTo s fd ⟨us,[]⟩ (ps.zip (us++ds))
def Binds.all{K:PySem.W.Frag}{fd:FuncData}(h:∀us:List Value,us.length=ps.length->bindArgs fd ⟨us,[]⟩=pure (ps.zip us)):Binds K fd ps []:=λs us _ hl=>by
 rw[ig]at hl ⊢;exact .of_eq (h us hl)
def Hh(CX:CXT)(X:Cx)(E:XK):Prop:=∀(pins:zzk) (Z:St) (H:Hp) (s:Shared) (e:Value) (s':Shared),Inv X pins Z H s->CX X.stack H s E e s'->X.xe e s'
section
variable {X:Cx} {CX:CXT} {f:Addr} {fd:FuncData} {sp:Sp} {dvs:List V} {ds:List Value} {E:XK} {m:Str} {apos:Pos} {o:Expr} {ta:TE} {t:TA}
structure Mk(K:PySem.W.Frag)(C f:Addr):Prop where
 makes:PySem.W.makesIn K C=true
 init:PySem.W.findIn K (.ref C) "__init__" = some (some (.ref f))
 fn:PySem.W.isFn K (.ref f)=true
 kp:PySem.W.keepIn K (.ref C)=true
def run_make{Z:St}{H:Hp}{s:Shared}{Q:VK}{vs:List V}(M:Mk X.K C f)(F:FnOk X.prog X.w X.K X.mg X.base CX k f fd ps sp)(hr:Room (k+1) X.A)(hb:Binds X.K fd ps ds)(hd:Vals dvs ds)
  (hx:Hh CX X E) (I:Inv X pins Z H s) (r:Vals vs us)
  (h:∀x dx,H x=none->H dx=none->dx≠x->sp (.ref x::(vs++dvs)) (upd (upd H dx (.own x)) x (.ins C dx [])) (λv H2=>v=.non/\Q (.ref x) H2) E) :
  wpAny (model X.prog X.w) X.A (call (.ref C) us) (EP X pins Z Q) X.xe s:=by
 have hq:=h (s.heap.objs.size+1) s.heap.objs.size (I.hok.fresh (LH _)) (I.hok.fresh (au _)) (bj (wT _));have I2:=Inv.made (C:=C) I;have r2:Vals (V.ref (s.heap.objs.size+1)::(vs++dvs)) (Value.ref (s.heap.objs.size+1)::(us++ds)):=.cons rfl (r.append hd);have hl:(Value.ref (s.heap.objs.size+1)::us++ds).length=ps.length:=by
  have e:=r2.length;rw[F.len _ _ _ _ hq]at e;exact e.symm
 refine wpAny_call (BD (f:=f) I.kIn M.makes M.init (beq_iff_eq.mp M.fn) (Lf (F.run _ X.stack _ _ ⟨Value.ref (s.heap.objs.size+1)::us,[]⟩ (Value.ref (s.heap.objs.size+1)::(us++ds)) _ _ E (hr.make C us [])
  (I2.env0.make C us []) (hb _ (Value.ref (s.heap.objs.size+1)::us) I2.kIn hl) r2 hq) λr s' hq'=>?_))
 cases r with
 | error e=>exact hx pins Z _ _ e s' I2 hq'
 | ok fl =>
  cases fl with
  | ret u =>
   obtain⟨v,H',I3,rv,ev,q3⟩:=I2.after hq';subst ev;exact⟨rv,⟨V.ref (s.heap.objs.size+1),H',I3,rfl,q3⟩⟩
  | next=>exact False.elim hq'
  | brk=>exact False.elim hq'
  | cont=>exact False.elim hq'
end
structure FnScope(N P:List Str)(sc:Scope):Prop where
 kind:sc.kind=.function
 co:sc.isCoroutine=false
 gen:sc.isGenerator=false
 nd:N.Nodup
 pre:N.take P.length=P
 par:∀x∈P,sc.names.lookup x=some .local\/sc.names.lookup x=some .cell
 nofree:∀y∈sc.names,y.2≠.free
def rH{kindOf:Str->Option NameKind}{x:Str}:∀{binds:List (Str×Value)} {m:zzl},(∀v,(x,v)∉binds)->bindL kindOf binds m x=m x
 | [],_,_=>rfl
 | (n,v)::r,m,h=>by
  unfold bindL;rw[rH λw hw=>h w (zzg _ hw)];split
  ·have:x≠n:=by rintro rfl;exact h v am
   simp[this]
  ·rfl
def rK{kindOf:Str->Option NameKind}{x:Str}:∀{binds:List (Str×Value)} {m:zzl},(∀v,(x,v)∉binds)->bindC kindOf binds m x=m x
 | [],_,_=>rfl
 | (n,v)::r,m,h=>by
  unfold bindC;rw[rK λw hw=>h w (zzg _ hw)];split
  ·rfl
  ·have:x≠n:=by rintro rfl;exact h v am
   simp[this]
def rJ{kindOf:Str->Option NameKind}{x:Str}{v:Value}:∀{P:List Str} {vs:List Value} {i:Nat} {m:zzl},P.Nodup->P[i]? = some x->vs[i]? = some v->kindOf x=some .local ->
  bindL kindOf (P.zip vs) m x=some v
 | [],_,_,_,_,h,_,_=>by simp at h
 | _::_,[],_,_,_,_,h,_=>by simp at h
 | p::P,w::vs,0,m,nd,h1,h2,hk=>by
  simp at h1 h2;subst h1;subst h2;show bindL kindOf ((p,w)::P.zip vs) m p=_;unfold bindL;rw[rH λv hv=>(List.nodup_cons.mp nd).1 (List.of_mem_zip hv).1,ak hk];simp
 | p::P,w::vs,i+1,m,nd,h1,h2,hk=>by
  show bindL kindOf ((p,w)::P.zip vs) m x=_;unfold bindL;exact rJ (i:=i) (List.nodup_cons.mp nd).2 (by simpa using h1) (by simpa using h2) hk
def rL{kindOf:Str->Option NameKind}{x:Str}{v:Value}:∀{P:List Str} {vs:List Value} {i:Nat} {m:zzl},P.Nodup->P[i]? = some x->vs[i]? = some v->kindOf x≠some .local ->
  bindC kindOf (P.zip vs) m x=some v
 | [],_,_,_,_,h,_,_=>by simp at h
 | _::_,[],_,_,_,_,h,_=>by simp at h
 | p::P,w::vs,0,m,nd,h1,h2,hk=>by
  simp at h1 h2;subst h1;subst h2;show bindC kindOf ((p,w)::P.zip vs) m p=_;unfold bindC;rw[rK λv hv=>(List.nodup_cons.mp nd).1 (List.of_mem_zip hv).1,ac hk];simp
 | p::P,w::vs,i+1,m,nd,h1,h2,hk=>by
  show bindC kindOf ((p,w)::P.zip vs) m x=_;unfold bindC;exact rL (i:=i) (List.nodup_cons.mp nd).2 (by simpa using h1) (by simpa using h2) hk
def start(N:List Str)(vs:List V):St:=vs.map some++List.replicate (N.length - vs.length) none
def lc(CX:CXT)(P:Program)(w:World)(K:PySem.W.Frag)(mg:zzl)(base:Heap)(N:List Str)(qual:Str)(scope:Scope)(f:Addr)(cd:Value)(A:Around)(outer:List Env)(s:Shared)(H:Hp)(E:XK):Cx where
 prog:=P
 w:=w
 K:=K
 mg:=mg
 base:=base
 A:=A.deeper (envOfC qual scope s.heap.objs.size f cd)
 N:=N
 s₀:=s
 H₀:=H
 env:=envOfC qual scope s.heap.objs.size f cd
 outer:=outer
 stack:=envOfC qual scope s.heap.objs.size f cd::outer
 ex:=[]
 calm:=true
 fn:=λ_=>true
 pn:=[]
 xe:=λe s'=>wpAny (model P w) (A.deeper (envOfC qual scope s.heap.objs.size f cd)) (leaving (envOfC qual scope s.heap.objs.size f cd) e) (λ_ s''=>CX outer H s E e s'') (λe' s''=>CX outer H s E e' s'') s'
def vk{sc:Scope}{n:Nat}(h:sc.names.lookup x=some .cell):∃c,(cellsFrom n sc.names []).lookup x=some c:=by
 have q:=PySem.W.cellsFrom_some sc.names n [] (.inl h);exact Option.isSome_iff_exists.mp q
theorem z9{CX:CXT}{K:PySem.W.Frag}{N:List Str}{qual:Str}{scope:Scope}{f:Addr}{cd:Value}{outer:List Env}{s s1:Shared}{H:Hp}{E:XK}{vs:List V}
  (S:FnScope N ps scope) (hd:A.handled=none) (e0:Env0 P w K mg base A outer s H) (hl:vs.length=ps.length) (r:Vals vs us)
  (x:InCallC s s.heap.objs.size (bindL (envOfC qual scope s.heap.objs.size f cd).kindOf (ps.zip us) λ_=>none) (cellsFrom (s.heap.objs.size+1) scope.names []) (bindC (envOfC qual scope s.heap.objs.size f cd).kindOf (ps.zip us) λ_=>none) s1) :
  Inv (lc CX P w K mg base N qual scope f cd A outer s H E) [] (start N vs) H s1:=by
 have hpl:ps.length<=N.length:=by have:=congrArg List.length S.pre;rw[da]at this;lia
 obtain⟨h1,tk,rfl,hk⟩:=x.done;have noA:∀b:Addr,b∉(lc CX P w K mg base N qual scope f cd A outer s H E).ex:=λb z=>absurd (show b∈([]:List Addr)from z) (by simp)
 refine⟨⟨e0.mod,S.kind,rfl,rfl,au _,λy z c h1 h2=>?_,λy hy=>?_,λy c _ h=>?_,λ_=>hd,Around.frames_deeper e0.frames,.inr ⟨rfl,rfl⟩,λb z=>absurd z (noA b),e0.bs,e0.bsz,λb _ _=>noA b,λb z=>absurd z (noA b),e0.funs,e0.frf⟩,
  rfl,e0.bare,Un.kept hk,⟨_,x.toInCall.ns,λi y v h1 h2 h3=>?_⟩,λy c h=>⟨_,x.cell y c h⟩,e0.hok.fresh (au _),λy c h=>?_,λp hp=>absurd (show p∈([]:zzk)from hp) (by simp),e0.hok.kept hk,?_⟩
 ·exact name_of_addr x.apart (tu h1) (tu h2)
 ·have hy:scope.names.lookup y=some .cell\/scope.names.lookup y=some .free:=hy;rcases hy with hy|hy
  ·exact vk hy
  ·exact absurd rfl (S.nofree _ (tu hy))
 ·exact Lu (x.above y c (tu h))
 ·have hi:i<vs.length:=by
   unfold start at h2;by_cases hi:i<vs.length
   ·exact hi
   ·rw[lf (by simpa using hi)]at h2;rw[LS]at h2;split at h2<;>cases h2
  have ha:vs[i]? = some v:=by
   unfold start at h2;rw[de (by simpa using hi),ku]at h2
   cases e:vs[i]? with
   | none=>rw[e]at h2;cases h2
   | some a=>rw[e]at h2;cases h2;rfl
  obtain⟨u,hu,rv⟩:=r.get ha;have hp:ps[i]? = some y:=by
   rw[<-S.pre,gu (by lia)];exact h1
  have ndP:ps.Nodup:=by rw[<-S.pre];exact S.nd.sublist (List.take_sublist _ _)
  refine⟨u,rv,?_⟩;rcases S.par y (bu hp)with k|k
  ·exact .inl ⟨k,rJ ndP hp hu k⟩
  ·obtain⟨c,e⟩:=vk (n:=s.heap.objs.size+1) k;refine .inr ⟨.inl k,c,e,?_⟩;have q:=x.cell y c e;rw[rL ndP hp hu (by show scope.names.lookup y≠_;rw[k];decide)]at q;exact q
 ·exact e0.hok.fresh (Lu (x.above y c (tu h)))
 ·unfold start;show _=N.length;rw[zzf,zzd,Me];lia
def IY{CX:CXT}{K:PySem.W.Frag}{f:Addr}{name qual:Str}{params:Arguments}{scope:Scope}{dV kV doc pm cdv ct oc:Value}{an od:Option Addr}
  {osl:Array (Option Value)} {N ps:List Str} {sp:Sp} (lk:K.lookup f=some ⟨oc,od,.func (PySem.W.fnOf name qual params body scope dV kV doc pm an cdv ct),osl⟩) (hcd:PySem.W.codeIn K cdv qual=true) (S:FnScope N ps scope)
  (len:∀vs H Q E,sp vs H Q E->vs.length=ps.length)
  (hbody:∀(A:Around) (outer:List Env) (s:Shared) (H:Hp) (vs:List V) (Q:VK) (E:XK),Room k (A.deeper (envOfC qual scope s.heap.objs.size f cdv))->sp vs H Q E ->
   ∃t,PSs (lc CX P w K mg base N qual scope f cdv A outer s H E) body t/\t { nx:=λ_ H'=>Q .non H',rt:=Q } (start N vs) H) :
  FnOk P w K mg base CX (k+1) f (PySem.W.fnOf name qual params body scope dV kV doc pm an cdv ct) ps sp:=by
 refine⟨len,λA outer s H args us vs Q E hr e0 hb r hsp=>?_⟩;have hl:=len _ _ _ _ hsp;have KX:K.In s.heap:=e0.mod.kin.keeps λb o e=>(e0.bs b o e).1
 have lim:s.heap.NoLimit:=e0.mod.nolimit.keeps λb o e=>(e0.bs b o e).1
 have hkind:∀y∈ps.zip us,scope.names.lookup y.1=some .local\/(scope.names.lookup y.1=some .cell/\((cellsFrom (s.heap.objs.size+1) scope.names []).lookup y.1).isSome=true):=λ⟨n,v⟩ hy=>by
  rcases S.par n (List.of_mem_zip hy).1 with q|q
  ·exact .inl q
  ·exact .inr ⟨q,PySem.W.cellsFrom_some _ _ _ (.inl q)⟩
 refine codeAny_call_function hr.depth (KX _ _ lk) rfl S.co S.gen rfl (PySem.W.codeRec_of KX hcd) (hb _ _ _ _ ?_);refine wpAny_newFunctionEnv_cells S.kind hkind λenv he s1 x=>?_
 subst he;refine⟨lim.keeps x.toInCall.keep,codeAny_func ?_⟩;obtain⟨t,ht,hq⟩:=hbody A outer s H vs Q E (hr.deeper _) hsp;have I:Inv (lc CX P w K mg base N qual scope f cdv A outer s H E) [] (start N vs) H s1:=z9 S hr.hd e0 hl r x;refine li (ht [] s1 (start N vs) H _ I hq) (λfl s' hs=>?_) λe s' hs=>hs
 have fin:∀{σ':St} {H':Hp} {v:V} {u:Value},Inv (lc CX P w K mg base N qual scope f cdv A outer s H E) [] σ' H' s'->RelV v u->Q v H'->CE outer P w H s Q u s' :=
  λ{σ' H' v u} J rv q=>⟨v,H',J.os,J.bare,J.base,J.hok,rv,q⟩
 cases fl with
 | ret u =>
  obtain⟨v,σ',H',J,rv,q⟩:=hs;exact fin J rv q
 | next =>
  obtain⟨σ',H',J,q⟩:=hs;exact fin (v:=V.non) (u:=Value.none) J rfl q
 | brk =>
  obtain⟨_,_,_,q⟩:=hs;exact False.elim q
 | cont =>
  obtain⟨_,_,_,q⟩:=hs;exact False.elim q
section
variable {X:Cx} {t:TA} {id T:String} {r:List V->Hp->VK->Prop}
def tCB(r:List V->Hp->VK->Prop)(t:TA):TE:=λZ H Q=>t Z H λvs H1=>r vs H1 Q
theorem gM(hc:CallR X (.builtin id) r)(hg:Gl X x)(hm:X.mg x=none)(hv:bootBuiltins x=some (.builtin id))(ha:PA X (e::es) t)(hn:x ≠ "__name__":=by decide)(hdb:(x==("__debug__" : Str))=false:=by decide)
  (he:starEach (e::es) X.env=(false,eval e X.env)::starEach es X.env:=by rfl) (hpl:(backTo pos (starEach es X.env)).any (·.1)=false:=by rfl):PE X (.Call (.Name x p) (e::es) [] pos) (tCB r t):=by
 intro pins s Z H Q I h;refine xv (o7 I hg hm hv ?_ hn hdb);exact PyProof.Rows.callWith_builtin1 (thn (ha pos pins s Z H _ I h) λus s1 ⟨vs,H1,I1,r1,q1⟩=>hc pins s1 Z H1 vs us Q I1 r1 q1) he hpl
theorem jt(hc:CallR X (.type T) r)(hg:Gl X x)(hm:X.mg x=none)(hv:bootBuiltins x=some (.type T))(ha:PA X (e::es) t)(hn:x ≠ "__name__":=by decide)(hdb:(x==("__debug__" : Str))=false:=by decide)
  (he:starEach (e::es) X.env=(false,eval e X.env)::starEach es X.env:=by rfl) (hpl:(backTo pos (starEach es X.env)).any (·.1)=false:=by rfl):PE X (.Call (.Name x p) (e::es) [] pos) (tCB r t):=by
 intro pins s Z H Q I h;refine xv (o7 I hg hm hv ?_ hn hdb);exact FI (thn (ha pos pins s Z H _ I h) λus s1 ⟨vs,H1,I1,r1,q1⟩=>hc pins s1 Z H1 vs us Q I1 r1 q1) he hpl
end
end L2
namespace HT
open PySem PyProof.Rows
def lexLt:List Int->List Int->Bool
 | [],[]=>false
 | [],_::_=>true
 | _::_,[]=>false
 | x::xs,y::ys=>if x=y then lexLt xs ys else decide (x<y)
def lexLt_cons(x y:Int)(xs ys:List Int):lexLt (x::xs) (y::ys)=if x=y then lexLt xs ys else decide (x<y):=rfl
def lexLt_nil_nil:lexLt [] []=false:=rfl
section
variable {prog:Program}{w:World}{A:Around}{E:zzj}{s:Shared}
theorem cat_tup{t b:Addr}{vs ws:List Value}{Q:zzj}(ht:IsTup s.heap t vs.toArray)(hb:IsTup s.heap b ws.toArray)(hv:vs≠[])
  (h1:ws=[]->Q (.ref t) s) (h2:ws≠[]->Q (.ref s.heap.objs.size) { s with heap:=s.heap.push { cls:=.type "tuple",data:=.seq (vs++ws).toArray } })
  (hsz:vs.length+ws.length<=sizeLine):wpAny (model prog w) A (binaryOp .Add (.ref t) (.ref b)) Q E s:=by
 obtain⟨⟨cls,dd,data,sl⟩,ho,hc,n,hd⟩:=id ht;obtain⟨⟨cls2,dd2,data2,sl2⟩,ho2,hc2,n2,hd2⟩:=id hb;simp only at hc hd hc2 hd2;subst hc hd hc2 hd2;have e:vs.toArray++ws.toArray=(vs++ws).toArray:=by simp
 by_cases hw:ws=[]
 ·exact concat_meets ⟨_,ho,rfl⟩ ⟨_,ho2,rfl⟩ noFill_tuple_add seq_tuple_add L6 LR (LN _ _)
   (tuple_addW1 t b vs.toArray ws.toArray n n2 dd dd2 sl sl2 (by simpa using hv) (by simp[hw])) ⟨ho,ho2,h1 hw⟩
 ·refine concat_meets ⟨_,ho,rfl⟩ ⟨_,ho2,rfl⟩ noFill_tuple_add seq_tuple_add L6 LR (LN _ _)
   (tuple_addW2 t b vs.toArray ws.toArray n n2 dd dd2 sl sl2 (by simpa using hv) (by simpa using hw) (by rw[be,be];exact hsz)) ⟨ho,ho2,?_⟩
  rw[e];exact h2 hw
def sIx(n d:Nat):Option Int->Nat
 | none=>d
 | some v=>if v<0 then(v+(n:Int)).toNat else min v.toNat n
def sIx_none(n d:Nat):sIx n d none=d:=rfl
theorem sIx_nat(n d k:Nat):sIx n d (some (k:Int))=min k n:=by
 show(if(k:Int)<0 then((k:Int)+(n:Int)).toNat else min (k:Int).toNat n)=min k n;rw[ac (by lia),we]
theorem FF(n d:Nat)(hd:d<=n)(o:Option Int):sIx n d o<=n:=by
 cases o with
 | none=>exact hd
 | some v =>
  show(if v<0 then(v+(n:Int)).toNat else min v.toNat n)<=n;by_cases hv:v<0
  ·rw[ak hv];lia
  ·rw[ac hv];exact Li _ _
theorem zd(v:Int)(n d:Nat):(if v<0 then max (v+(n:Int)) 0 else min v (n:Int))=((sIx n d (some v):Nat):Int):=by
 show(if v<0 then max (v+(n:Int)) 0 else min v (n:Int))=(((if v<0 then(v+(n:Int)).toNat else min v.toNat n):Nat):Int);by_cases hv:v<0
 ·simp only[ak hv];lia
 ·simp only[ac hv];lia
theorem xM(lo hi:Option Int)(n:Nat):Builtin.Slice.sliceAdjust lo hi 1 (n:Int)=(((sIx n 0 lo:Nat):Int),((sIx n n hi:Nat):Int)):=by
 have h1:¬ ((1:Int)<0):=by lia
 unfold Builtin.Slice.sliceAdjust;simp only[h1,yi];refine Prod.ext ?_ ?_
 ·cases lo with
  | none=>rfl
  | some v=>exact zd v n 0
 ·cases hi with
  | none=>rfl
  | some v=>exact zd v n n
theorem ww(i j:Nat):Builtin.Slice.slicePlaces (i:Int) (j:Int) 1=j - i:=by
 unfold Builtin.Slice.slicePlaces;have h1:(1:Int)>0:=by lia
 simp only[h1,Lr,Int.ediv_one];split<;>lia
def nW{v:Value}{o:Option Int}{Q:Option Int->Shared->Prop}(p:IsPart v o)(h:Q o s):wpAny (model prog w) A (Builtin.Slice.slicePartIndex v) Q E s:=by
 cases p with
 | none=>exact slicePart_none h
 | int i t=>exact slicePart_int h
def gK{sl:Addr}{vl vu:Value}{lo hi:Option Int}{n:Nat}{Q:Int×Int×Nat->Shared->Prop}(hs:s.heap.IsSliceOf sl vl vu .none)(pl:IsPart vl lo)(pu:IsPart vu hi)
  (h:Q (((sIx n 0 lo:Nat):Int),1,sIx n n hi - sIx n 0 lo) s):wpAny (model prog w) A (Builtin.Slice.sliceApplied (.ref sl) (pure (n:Int))) Q E s:=by
 obtain⟨os,hos,hcs,hds⟩:=id hs;unfold Builtin.Slice.sliceApplied Builtin.Slice.sliceFields;refine zza (zza (ut hos hds (x:=vl) rfl (zza (ut hos hds (x:=vu) rfl (zza (ut hos hds (x:=.none) rfl (zzb ?_)))))));refine zza (slicePart_none ?_);show wpAny _ _ (if((1:Int)==0)=true then _ else _) _ _ s;rw[ac (by decide)];refine zza (nW pl (zza (nW pu (zza (zzb ?_)))));show wpAny _ _ (match Builtin.Slice.sliceAdjust lo hi 1 (n:Int)with|(lo,hi)=>pure (lo,(1:Int),Builtin.Slice.slicePlaces lo hi 1)) _ _ s;rw[xM lo hi n];show wpAny _ _ (pure (((sIx n 0 lo:Nat):Int),(1:Int),Builtin.Slice.slicePlaces ((sIx n 0 lo:Nat):Int) ((sIx n n hi:Nat):Int) 1)) _ _ s;rw[ww];exact zzb h
theorem Bh(xs:Array Value)(i k:Nat):((List.range k).filterMap λ(m:Nat)=>xs[((i:Int)+(m:Int)*1).toNat]?).toArray=((xs.toList.drop i).take k).toArray:=by
 have e:(λ(m:Nat)=>xs[((i:Int)+(m:Int)*1).toNat]?)=λm=>xs[i+m]?:=by
  funext m;have:((i:Int)+(m:Int)*1).toNat=i+m:=by lia
  rw[this]
 rw[e];have:=pick_run xs i k;rw[List.filterMap_map]at this;have e2:((λx=>xs[x]?)∘λx=>i+x)=λm=>xs[i+m]?:=rfl
 rw[e2]at this;rw[this]
theorem getItem_tuple_cut{t sl:Addr}{items:Array Value}{vl vu:Value}{lo hi:Option Int}{Q:zzj}(ht:IsTup s.heap t items)(hs:s.heap.IsSliceOf sl vl vu .none)(pl:IsPart vl lo)(pu:IsPart vu hi)
  (hw:¬ (sIx items.size 0 lo=0/\sIx items.size items.size hi=items.size))
  (h:Q (.ref s.heap.objs.size) { s with heap:=s.heap.push { cls:=.type "tuple",data:=.seq ((items.toList.drop (sIx items.size 0 lo)).take (sIx items.size items.size hi - sIx items.size 0 lo)).toArray } })
  (hsz:items.size<=sizeLine):wpAny (model prog w) A (getItem (.ref t) (.ref sl)) Q E s:=by
 have htake:sizeOk (.seq ((items.toList.drop (sIx items.size 0 lo)).take (sIx items.size items.size hi - sIx items.size 0 lo)).toArray):=by
  show((items.toList.drop (sIx items.size 0 lo)).take (sIx items.size items.size hi - sIx items.size 0 lo)).toArray.size<=sizeLine;rw[be,da,fi,ce];lia
 have hj:sIx items.size items.size hi<=items.size:=FF _ _ (au _) hi;obtain⟨os,hos,hcs,hds⟩:=id hs;have hTs:s.TypeIs (.ref sl) "slice":=⟨os,hos,hcs⟩;unfold getItem
 try with_reducible refine om ?_
 first|refine zza (zzb ?_)|skip
 refine zza (wpAny_sequenceKey ht.typeIs (by decide) ?_)
 refine zza (K9 (name:=Str.ofString "__getitem__") ht.typeIs wE
  (wP wE ht.typeIs entry_tuple_getitem ?_ (args_tuple_getitem _ _)))
 show wpAny _ _ (Builtin.Tuple.tupleItemsOf (.ref t) >>= _) _ _ s;refine zza (tupleItemsOf_ ht ?_);refine zza (La hTs ?_);rw[ak (by decide)];refine zza (gK hs pl pu ?_);have hno:¬ ((((sIx items.size 0 lo:Nat):Int)==0&&(1:Int)==1&&(sIx items.size items.size hi - sIx items.size 0 lo)==items.size)=true):=by
  intro q;rw[ai,ai]at q;have q1:((sIx items.size 0 lo:Nat):Int)=0:=eq_of_beq q.1.1;have q2:sIx items.size items.size hi - sIx items.size 0 lo=items.size:=eq_of_beq q.2;exact hw ⟨by lia,by lia⟩
 show wpAny _ _ (if(((sIx items.size 0 lo:Nat):Int)==0&&(1:Int)==1&&(sIx items.size items.size hi - sIx items.size 0 lo)==items.size)=true then _ else _) _ _ s;rw[ac hno,Bh]
 first
  | exact zza (m:=Builtin.Tuple.tupleExact _) (ni (zzb ⟨_,rfl,zzb h⟩) htake)
  | exact zza (m:=Builtin.Tuple.tupleExact _) (ni (zza (zzb (zzb ⟨_,rfl,zzb h⟩))) htake)
  | exact zza (zza (m:=Builtin.Tuple.tupleExact _) (ni (zzb (zzb ⟨_,rfl,zzb h⟩)) htake))
  | exact zza (zza (m:=Builtin.Tuple.tupleExact _) (ni (zzb ⟨_,rfl,zzb h⟩) htake))
end
end HT
namespace L2
open PySem PySem.Spec PyProof.Rows
variable {xs:List V}{X:Cx}{n:Nat}{pins:zzk}{Z:St}{H:Hp}{its:List Value}
abbrev TO:=St->Hp->(Option Int->Hp->Prop)->Prop
def PO(X:Cx)(e:Option Expr)(t:TO):Prop :=
 ∀(pins:zzk) (s:Shared) (Z:St) (H:Hp) (Q:Option Int->Hp->Prop),Inv X pins Z H s->t Z H Q ->
  wpAny (model X.prog X.w) X.A (evalPart e X.env) (λu s'=>∃o H',Inv X pins Z H' s'/\IsPart u o/\Q o H') X.xe s
def CU:TO:=λ_ H Q=>Q none H
def Ht(t:TE):TO:=λZ H Q=>t Z H λx H1=>∃i,x=.int i/\Q (some i) H1
section
variable {e:Expr} {te:TE} {lo hi:Option Expr} {tl th:TO} {pos p2:Pos}
def Dj:PO X none CU:=by
 intro pins s Z H Q I h;rw[evalPart_none];exact zzb ⟨none,H,I,.none,h⟩
def Di(h:PE X e te):PO X (some e) (Ht te):=by
 intro pins s Z H Q I hw;rw[evalPart_some];refine thn (h pins s Z H _ I hw) λu s1 ⟨x,H1,I1,r1,q1⟩=>?_
 obtain⟨i,rfl,q⟩:=q1;obtain⟨t,rfl⟩:=r1;exact⟨some i,H1,I1,.int i t,q⟩
def SlR(X:Cx)(r:V->Option Int->Option Int->Hp->VK->Prop):Prop :=
 ∀(pins:zzk) (s:Shared) (Z:St) (H:Hp) (x:V) (v vl vu:Value) (lo hi:Option Int) (sl:Addr) (Q:VK),Inv X pins Z H s->RelV x v->s.heap.IsSliceOf sl vl vu .none->IsPart vl lo->IsPart vu hi->r x lo hi H Q ->
  ∃T id,typeLookup (.type T) "__getitem__" = pure (some (.builtin id))/\s.TypeIs v T/\wpAny (model X.prog X.w) X.A (getItem v (.ref sl)) (EP X pins Z Q) X.xe s
def SlR.or{r r':V->Option Int->Option Int->Hp->VK->Prop}(h:SlR X r)(h':SlR X r'):SlR X (λx lo hi H Q=>r x lo hi H Q\/r' x lo hi H Q):=by
 intro pins s Z H x v vl vu lo hi sl Q I rx hs pl pu q;rcases q with q|q
 ·exact h pins s Z H x v vl vu lo hi sl Q I rx hs pl pu q
 ·exact h' pins s Z H x v vl vu lo hi sl Q I rx hs pl pu q
def tSl(r:V->Option Int->Option Int->Hp->VK->Prop)(te:TE)(tl th:TO):TE:=λZ H Q=>te Z H λx H1=>tl Z H1 λl H2=>th Z H2 λu H3=>r x l u H3 Q
def Bn{r:V->Option Int->Option Int->Hp->VK->Prop}(hr:SlR X r)(he:PE X e te)(hl:PO X lo tl)(hu:PO X hi th):PE X (.Subscript e (.Slice lo hi none p2) pos) (tSl r te tl th):=by
 intro pins s Z H Q I h;refine Subscript_ (thn (he pins s Z H _ I h) λv s1 ⟨x,H1,I1,r1,q1⟩=>?_);refine wpAny_Slice (thn (hl pins s1 Z H1 _ I1 q1) λvl s2 ⟨l,H2,I2,pl,q2⟩=>thn (hu pins s2 Z H2 _ I2 q2) λvu s3 ⟨u,H3,I3,pu,q3⟩=>?_);rw[evalPart_none];refine zzb ?_;have I4:Inv X pins Z H3 { s3 with heap:=s3.heap.push { cls:=.type "slice",data:=.fields #[vl,vu,.none] } }:=I3.kept (t':=s3.toks) λb ob q=>zzc _ q
 obtain⟨T,id,hT,ht,hg⟩:=hr pins { s3 with heap:=s3.heap.push { cls:=.type "slice",data:=.fields #[vl,vu,.none] } } Z H3 x v vl vu l u s3.heap.objs.size Q I4 r1 (Heap.IsSliceOf.new ..) pl pu q3;show wpAny (model X.prog X.w) X.A (subscriptTail e (.Slice lo hi none p2) v (.ref s3.heap.objs.size)) (EP X pins Z Q) X.xe { s3 with heap:=s3.heap.push { cls:=.type "slice",data:=.fields #[vl,vu,.none] } };exact tail_any (ops:=[.ref s3.heap.objs.size,v]) ht hT hg (by with_unfolding_all rfl)
def vd(xs:List V)(lo hi:Option Int):List V:=(xs.drop (HT.sIx xs.length 0 lo)).take (HT.sIx xs.length xs.length hi - HT.sIx xs.length 0 lo)
theorem mR(xs:List V)(lo hi:Option Int):(vd xs lo hi).length<=xs.length:=by
 unfold vd;rw[da,fi];lia
def JI(K:PySem.W.Frag):V->Option Int->Option Int->Hp->VK->Prop:=λx lo hi H Q=>∃a xs,x=.ref a/\SqT K H a xs /\
 ¬ (HT.sIx xs.length 0 lo=0/\HT.sIx xs.length xs.length hi=xs.length)/\∀p,H p=none->Q (.ref p) (upd H p (.tup (vd xs lo hi)))
def sl_tup:SlR X (JI X.K):=by
 intro pins s Z H x v vl vu lo hi sl Q I rx hs pl pu h;obtain⟨a,xs,rfl,hx,hw,q⟩:=h
 cases rx
 obtain⟨its,r,ht,hz⟩:=I.tuple hx;have hlen:its.toArray.size=xs.length:=by rw[be];exact r.length.symm
 refine⟨"tuple",_,PyProof.Rows.slot_tuple_getitem.lookup,ht.typeIs,?_⟩;refine HT.getItem_tuple_cut ht hs pl pu (by rw[hlen];exact hw) ?_ (by rw[hlen];exact hz);rw[hlen];refine⟨.ref s.heap.objs.size,_,I.laid (t':=s.toks) (o:=.tup (vd xs lo hi)) (λb ob q=>zzc _ q) (au _) ?_,rfl,q _ (I.hok.fresh (au _))⟩;exact⟨cr (mR xs lo hi) hz,_,(r.drop (HT.sIx xs.length 0 lo)).take (HT.sIx xs.length xs.length hi - HT.sIx xs.length 0 lo),IsTup.new _ _,TupN.new _ _⟩
def H9(K:PySem.W.Frag):R2:=λx y H Q=>∃a b xs ys,x=.ref a/\y=.ref b/\SqT K H a xs/\SqT K H b ys/\xs≠[]/\xs.length+ys.length<=sizeLine /\
 (ys=[]->Q (.ref a) H)/\(ys≠[]->∀p,H p=none->Q (.ref p) (upd H p (.tup (xs++ys))))
def Vals.nil_iff{us:List Value}(r:Vals xs us):us=[]↔xs=[]:=by
 cases r with
 | nil=>simp
 | cons _ _=>simp
def Dp:OpR X (binaryOp .Add) (H9 X.K):=by
 intro pins s Z H x y v u Q I rx ry h;obtain⟨a,b,xs,ys,rfl,rfl,ha,hb,hx,hz,q1,q2⟩:=h
 cases rx
 cases ry
 obtain⟨its,r1,p1,_⟩:=I.tuple ha;obtain⟨its2,r2,p2,_⟩:=I.tuple hb;refine HT.cat_tup p1 p2 (λz=>hx (r1.nil_iff.mp z)) (λz=>⟨.ref a,H,I,rfl,q1 (r2.nil_iff.mp z)⟩) (λz=>?_) (by rw[<-r1.length,<-r2.length];exact hz);refine⟨.ref s.heap.objs.size,_,I.laid (t':=s.toks) (o:=.tup (xs++ys)) (λb ob q=>zzc _ q) (au _) ?_,rfl,q2 (λw=>z (r2.nil_iff.mpr w)) _ (I.hok.fresh (au _))⟩;exact⟨by rw[zzf];exact hz,_,r1.append r2,IsTup.new _ _,TupN.new _ _⟩
end
def ixN(n:Nat)(i:Int):Option Nat:=if 0<=i then(if i<n then some i.toNat else none)else if -(n:Int)<=i then some (i+n).toNat else none
def atI{α:Type}(xs:List α)(i:Int):Option α:=(ixN xs.length i).bind λj=>xs[j]?
theorem yQ{i:Int}{j:Nat}(h:ixN n i=some j):seqIndex? i n=some j/\j<n /\ -(n:Int)<=i/\i<n:=by
 unfold ixN at h;by_cases h0:0<=i
 ·rw[ak h0]at h;by_cases h1:i<n
  ·rw[ak h1]at h;have e:i.toNat=j:=Option.some.inj h;exact⟨by rw[seqIndex_of h0 h1,e],by lia,by lia,h1⟩
  ·rw[ac h1]at h;cases h
 ·rw[ac h0]at h;by_cases h1 : -(n:Int)<=i
  ·rw[ak h1]at h;have e:(i+n).toNat=j:=Option.some.inj h;exact⟨by rw[seqIndex_neg (by lia) h1,e],by lia,h1,by lia⟩
  ·rw[ac h1]at h;cases h
def tQ{α:Type}{xs:List α}{i:Int}{v:α}(h:atI xs i=some v):∃j,seqIndex? i xs.length=some j/\xs[j]? = some v/\j<xs.length /\ -(xs.length:Int)<=i/\i<xs.length:=by
 unfold atI at h
 cases e:ixN xs.length i with
 | none=>rw[e]at h;cases h
 | some j =>
  rw[e]at h;obtain⟨h1,h2,h3,h4⟩:=yQ e;exact⟨j,h1,h,h2,h3,h4⟩
def tW(b:Expr):Prop:=∀o i,subscripted b false o i=operate [o,i] (getItem o i)
def IxR(X:Cx)(r:R2):Prop :=
 ∀(value slice:Expr) (pins:zzk) (s:Shared) (Z:St) (H:Hp) (x y:V) (v u:Value) (Q:VK),Inv X pins Z H s->RelV x v->RelV y u->r x y H Q ->
  subscripted slice false v u=operate [v,u] (getItem v u)->wpAny (model X.prog X.w) X.A (subscriptTail value slice v u) (EP X pins Z Q) X.xe s
def MtR(X:Cx)(id:String)(r:V->List V->Hp->VK->Prop):Prop :=
 ∀(pins:zzk) (s:Shared) (Z:St) (H:Hp) (x:V) (xs:List V) (v:Value) (us:List Value) (Q:VK),Inv X pins Z H s->RelV x v->Vals xs us->r x xs H Q ->
  wpAny (model X.prog X.w) X.A (call (.builtin id) (v::us)) (EP X pins Z Q) X.xe s
section
variable {a b:Expr} {ta tb:TE} {pos:Pos}
def IxR.or{r r':R2}(h:IxR X r)(h':IxR X r'):IxR X (λx y H Q=>r x y H Q\/r' x y H Q):=by
 intro value slice pins s Z H x y v u Q I rx ry q hs;rcases q with q|q
 ·exact h value slice pins s Z H x y v u Q I rx ry q hs
 ·exact h' value slice pins s Z H x y v u Q I rx ry q hs
def EN{r:R2}(hr:IxR X r)(ha:PE X a ta)(hb:PE X b tb)(hs:tW b):PE X (.Subscript a b pos) (tOp r ta tb):=by
 intro pins s Z H Q I h;exact Subscript_ (G3 ha hb I h λv u s2 x y H2 I2 rx ry q=>hr a b pins s2 Z H2 x y v u Q I2 rx ry q (hs _ _))
def HZ(K:PySem.W.Frag):R2:=λx y H Q=>∃p xs i v,x=.ref p/\y=.int i/\SqL K H p xs/\atI xs i=some v/\Q v H
def HX(K:PySem.W.Frag):R2:=λx y H Q=>∃p xs i v,x=.ref p/\y=.int i/\SqT K H p xs/\atI xs i=some v/\Q v H
def HY:R2:=λx y H Q=>∃z i c,x=.str z/\y=.int i/\z.length<=sizeLine/\atI z.cps.toList i=some c/\Q (.str ⟨#[c]⟩) H
theorem ix_list:IxR X (HZ X.K):=by
 intro value slice pins s Z H x y v u Q I rx ry h hs;obtain⟨p,xs,i,z,rfl,rfl,hq,he,q⟩:=h
 cases rx
 obtain⟨t,rfl⟩:=ry;obtain⟨its,r,pl,hz⟩:=I.list hq;obtain⟨j,h1,h2,h3,h4,h5⟩:=tQ he;obtain⟨w,ew,rw'⟩:=r.get h2;have hl:=r.length;have hn:=jW;have fin:EP X pins Z Q w s:=⟨z,H,I,rw',q⟩;by_cases h0:0<=i
 ·have hj:i.toNat=j:=by
   rw[seqIndex_of h0 h5]at h1;exact Option.some.inj h1
  exact item_listR pl.isList h0 (by lia) (by rw[hj];simpa using ew) fin hs
 ·have hj:(i+(its.toArray.size:Int)).toNat=j:=by
   rw[seqIndex_neg (by lia) h4]at h1;rw[be,<-hl];exact Option.some.inj h1
  exact subscriptTail_builtinR (x:=w) pl.isList.typeIs slot_list_getitem.lookup
   (wpAny_getItem_list_neg (Q:=λr s'=>r=w/\EP X pins Z Q r s') pl.isList (by lia) (by rw[be]<;>lia) (by lia) (by rw[hj];simpa using ew) ⟨rfl,fin⟩) hs
theorem ix_tup:IxR X (HX X.K):=by
 intro value slice pins s Z H x y v u Q I rx ry h hs;obtain⟨p,xs,i,z,rfl,rfl,hq,he,q⟩:=h
 cases rx
 obtain⟨t,rfl⟩:=ry;obtain⟨its,r,pl,hz⟩:=I.tuple hq;obtain⟨j,h1,h2,h3,h4,h5⟩:=tQ he;obtain⟨w,ew,rw'⟩:=r.get h2;have hl:=r.length;have hn:=jW;have fin:EP X pins Z Q w s:=⟨z,H,I,rw',q⟩;exact subscriptTail_builtinR (x:=w) pl.typeIs slot_tuple_getitem.lookup
  (getItem_tuple (j:=j) (Q:=λr s'=>r=w/\EP X pins Z Q r s') pl (by lia) (by lia) (by rw[be,<-hl];exact h1) (by simpa using ew) ⟨rfl,fin⟩) hs
theorem GI:IxR X HY:=by
 intro value slice pins s Z H x y v u Q I rx ry h hs;obtain⟨z,i,c,rfl,rfl,hz,he,q⟩:=h;obtain⟨t,rfl⟩:=rx;obtain⟨t',rfl⟩:=ry;obtain⟨j,h1,h2,h3,h4,h5⟩:=tQ he;have hl:z.cps.toList.length=z.length:=by simp[Str.length]
 rw[hl]at h1 h4 h5;have hn:=jW
 exact tail_any (LV s z t) slot_str_getitem.lookup (getItem_str (c:=c) (by
  have e1:decide (i < -(2^63:Int))=false:=aw (by lia);have e2:decide (i>=2^63)=false:=aw (by lia)
  rw[e1,e2,Bool.or_false]) (by rw[h1];simpa using h2) ⟨.str ⟨#[c]⟩,H,I.tok _,⟨_,rfl⟩,q⟩) hs
def rIx(K:PySem.W.Frag):R2:=λx y H Q=>HZ K x y H Q\/HX K x y H Q\/HY x y H Q
def aU:IxR X (rIx X.K):=ix_list.or (ix_tup.or GI)
def wG(its:List Value)(n j:Nat)(u:Value):Obj.mapSeq (·.setIfInBounds j u) { cls:=.type "list",data:=.seq its.toArray n }={ cls:=.type "list",data:=.seq (its.set j u).toArray n }:=by
 simp[Obj.mapSeq]
def Inv.lst{s:Shared}{p:Addr}(I:Inv X pins Z H s)(h:H p=some (.lst xs)) :
  ∃(its:List Value) (n:Nat),Vals xs its/\s.heap.get? p=some { cls:=.type "list",data:=.seq its.toArray n }/\xs.length<=sizeLine:=by
 obtain⟨z,its,n,r,e⟩:=I.hok p _ h;exact⟨its,n,r,e,z⟩
theorem Inv.lstUpd{s:Shared}{p:Addr}{ys:List V}{its':List Value}{n':Nat}{f:Obj->Obj}(I:Inv X pins Z H s)(h:H p=some (.lst xs))
  (ho:s.heap.get? p=some { cls:=.type "list",data:=.seq its.toArray n }) (hf:f { cls:=.type "list",data:=.seq its.toArray n }={ cls:=.type "list",data:=.seq its'.toArray n' }) (r:Vals ys its') (hz:ys.length<=sizeLine) (t:Nat) :
  Inv X pins Z (upd H p (.lst ys)) { s with heap:=s.heap.update p f,toks:=t }:=by
 have e:(s.heap.update p f).get? p=some { cls:=.type "list",data:=.seq its'.toArray n' }:=by
  rw[ng f ho (by rw[hf]<;>rfl),hf]
 refine I.write (x:=p) (e:=p) (by rw[h];trivial) (.inl rfl) (λb u hb q=>(ou _ _ (Ne.symm hb)).trans q) ⟨_,e⟩ ?_;exact⟨hz,its',n',r,e⟩
def HU:V->V->V->Hp->(Hp->Prop)->Prop:=λo i v H Q=>∃p xs k j,o=.ref p/\i=.int k/\H p=some (.lst xs)/\ixN xs.length k=some j/\Q (upd H p (.lst (xs.set j v)))
theorem set_list:Jk X HU:=by
 intro pins s Z H o i v ov iv u Q I ro ri rv h;obtain⟨p,xs,k,j,rfl,rfl,hp,hj,q⟩:=h
 cases ro
 obtain⟨t,rfl⟩:=ri;obtain⟨its,n,r,ho,hz⟩:=I.lst hp;obtain⟨h1,h2,h3,h4⟩:=yQ hj;have hl:=r.length;have hn:=jW;have I':Inv X pins Z (upd H p (.lst (xs.set j v))) { s with heap:=s.heap.update p (Obj.mapSeq (·.setIfInBounds j u)) } :=
  I.lstUpd hp ho (wG its n j u) (r.set rv j) (by rw[List.length_set];exact hz) s.toks
 by_cases h0:0<=k
 ·have hk:k.toNat=j:=by
   rw[seqIndex_of h0 h4]at h1;exact Option.some.inj h1
  exact PySem.W.ki_setAt ho h0 (by lia) (by rw[be,<-hl];exact h4) (by rw[hk];exact⟨_,I',q⟩)
 ·have hk:(k+(its.toArray.size:Int)).toNat=j:=by
   rw[seqIndex_neg (by lia) h3]at h1;rw[be,<-hl];exact Option.some.inj h1
  exact PySem.W.ki_setBack ho (by lia) (by rw[be,<-hl];exact h3) (by lia) (by rw[hk];exact⟨_,I',q⟩)
theorem rV(lo hi:Option Int)(n:Nat):(sliceBounds lo hi none n).1=((HT.sIx n 0 lo:Nat):Int)/\(sliceBounds lo hi none n).2.1=((HT.sIx n n hi:Nat):Int)/\(sliceBounds lo hi none n).2.2=1:=by
 refine⟨?_,?_,rfl⟩
 ·cases lo with
  | none=>simp[sliceBounds,HT.sIx]
  | some i =>
   simp only[sliceBounds,HT.sIx,Option.getD_none,show(1:Int)>0 by decide,Lr];by_cases h:i<0
   ·simp only[h,Lr]<;>lia
   ·simp only[h,yi]<;>lia
 ·cases hi with
  | none=>simp[sliceBounds,HT.sIx]
  | some i =>
   simp only[sliceBounds,HT.sIx,Option.getD_none,show(1:Int)>0 by decide,Lr];by_cases h:i<0
   ·simp only[h,Lr]<;>lia
   ·simp only[h,yi]<;>lia
def qj(its:List Value)(lo hi:Option Int):slicePick its.toArray lo hi none=((its.drop (HT.sIx its.length 0 lo)).take (HT.sIx its.length its.length hi - HT.sIx its.length 0 lo)).toArray:=by
 obtain⟨h1,h2,h3⟩:=rV lo hi its.toArray.size;unfold slicePick;rw[h1,h2,h3];simp only[sliceRange_one,pick_run,be]<;>rfl
def JK(K:PySem.W.Frag):V->Option Int->Option Int->Hp->VK->Prop:=λx lo hi H Q=>∃a xs,x=.ref a/\SqL K H a xs/\∀p,H p=none->Q (.ref p) (upd H p (.lst (vd xs lo hi)))
theorem C1:SlR X (JK X.K):=by
 intro pins s Z H x v vl vu lo hi sl Q I rx hs pl pu h;obtain⟨a,xs,rfl,hx,q⟩:=h
 cases rx
 obtain⟨its,r,ht,hz⟩:=I.list hx;have hlen:=r.length;refine⟨"list",_,slot_list_getitem.lookup,ht.isList.typeIs,?_⟩;refine wpAny_getItem_list_slice ht.isList hs pl pu .none (by simp) ?_ (by rw[be]<;>lia);rw[qj,<-hlen];refine⟨.ref s.heap.objs.size,_,I.laid (t':=s.toks) (o:=.lst (vd xs lo hi)) (λb ob q=>zzc _ q) (au _) ?_,rfl,q _ (I.hok.fresh (au _))⟩;exact⟨cr (mR xs lo hi) hz,_,0,(r.drop (HT.sIx xs.length 0 lo)).take (HT.sIx xs.length xs.length hi - HT.sIx xs.length 0 lo),zze _ rfl⟩
theorem tK:CallR X (.builtin "len") (λxs H Q=>∃p ys,xs=[.ref p]/\(SqL X.K H p ys\/SqT X.K H p ys)/\Q (.int ys.length) H):=by
 intro pins s Z H xs us Q I r h;obtain⟨p,ys,rfl,hq,q⟩:=h;obtain⟨u,rfl,rx⟩:=vals1 r
 cases rx
 have hn:=jW;rcases hq with hq|hq
 ·obtain⟨its,r',pl,hz⟩:=I.list hq;have hlen:=r'.length;exact Calls.call_len_list pl.isList (by simp only[be]<;>lia) ⟨.int ys.length,H,I.tok _,⟨s.toks+1,by rw[be,hlen]⟩,q⟩
 ·obtain⟨its,r',pl,hz⟩:=I.tuple hq;have hlen:=r'.length;exact len_tuple pl (by simp only[be]<;>lia) ⟨.int ys.length,H,I.tok _,⟨s.toks+1,by rw[be,hlen]⟩,q⟩
theorem tJ:CallR X (.builtin "len") (λxs H Q=>∃z,xs=[.str z]/\z.length<=sizeLine/\Q (.int z.length) H):=by
 intro pins s Z H xs us Q I r h;obtain⟨z,rfl,hz,q⟩:=h;obtain⟨u,rfl,t,rfl⟩:=vals1 r;have hn:=jW;exact len_str (by lia) ⟨.int z.length,H,I.tok _,⟨_,rfl⟩,q⟩
def CallR.or{f:Value}{r r':List V->Hp->VK->Prop}(h:CallR X f r)(h':CallR X f r'):CallR X f (λxs H Q=>r xs H Q\/r' xs H Q):=by
 intro pins s Z H xs us Q I rs q;rcases q with q|q
 ·exact h pins s Z H xs us Q I rs q
 ·exact h' pins s Z H xs us Q I rs q
theorem tI:CallR X (.type "list") (λxs H Q=>∃p ys,xs=[.ref p]/\(SqL X.K H p ys\/SqT X.K H p ys)/\∀l,H l=none->Q (.ref l) (upd H l (.lst ys))):=by
 intro pins s Z H xs us Q I r h;obtain⟨p,ys,rfl,hq,q⟩:=h;obtain⟨u,rfl,rx⟩:=vals1 r
 cases rx
 have fin:∀(its:List Value),Vals ys its->ys.length<=sizeLine->∀(h':Heap) (c':Nat),(∀b o',s.heap.get? b=some o'->h'.get? b=some o') ->
   h'.get? s.heap.objs.size=some { cls:=.type "list",dict:=none,data:=.seq its.toArray c',slots:=#[] }->EP X pins Z Q (.ref s.heap.objs.size) { s with heap:=h' }:=λits r' hz h' c' kp e =>
  ⟨.ref s.heap.objs.size,_,I.laid (t':=s.toks) kp (au _) (show ObjOk X.prog X.w _ h' _ (.lst ys)from⟨hz,its,c',r',e⟩),rfl,q _ (I.hok.fresh (au _))⟩
 rcases hq with hq|hq
 ·obtain⟨its,r',pl,hz⟩:=I.list hq;have hlen:=r'.length;obtain⟨o,ho,hc,n,hd⟩:=pl.isList;exact call_list_seq p (.inl rfl) ho hc hd (λh' c' kp e=>fin its r' hz h' c' kp e) (by simp only[be]<;>lia)
 ·obtain⟨its,r',pl,hz⟩:=I.tuple hq;have hlen:=r'.length;obtain⟨o,ho,hc,n,hd⟩:=pl;exact call_list_seq p (.inr rfl) ho hc hd (λh' c' kp e=>fin its r' hz h' c' kp e) (by simp only[be]<;>lia)
theorem bq:CallR X (.type "tuple") (λxs H Q=>∃p ys,xs=[.ref p]/\((SqL X.K H p ys/\∀l,H l=none->Q (.ref l) (upd H l (.tup ys)))\/(SqT X.K H p ys/\Q (.ref p) H))):=by
 intro pins s Z H xs us Q I r h;obtain⟨p,ys,rfl,h⟩:=h;obtain⟨u,rfl,rx⟩:=vals1 r
 cases rx
 rcases h with ⟨hq,q⟩|⟨hq,q⟩
 ·obtain⟨its,r',pl,hz⟩:=I.list hq;have hlen:=r'.length;refine call_tuple_list pl.isList (λh' kp=>?_) (by simp only[be]<;>lia);have I1:Inv X pins Z H { s with heap:=h' }:=I.kept (t':=s.toks) kp;have I2:Inv X pins Z (upd H h'.objs.size (.tup ys)) { s with heap:=h'.push { cls:=.type "tuple",data:=.seq its.toArray } } :=
   I1.laid (t':=s.toks) (λb o e=>zzc _ e) (au _) (show ObjOk X.prog X.w _ _ _ (.tup ys)from⟨hz,its,r',IsTup.new _ _,TupN.new _ _⟩)
  exact⟨.ref h'.objs.size,_,I2,rfl,q _ (I1.hok.fresh (au _))⟩
 ·obtain⟨its,r',pl,hz⟩:=I.tuple hq;exact call_tuple_same pl ⟨.ref p,H,I,rfl,q⟩
def tyV(K:PySem.W.Frag)(T:String)(x:V)(H:Hp):Prop:=match x with
 | .str _=>T = "str"
 | .int _=>T = "int"
 | .ref p=>(T = "list" /\ ∃xs,SqL K H p xs)\/(T = "tuple" /\ ∃o,K.lookup p=some o/\o.cls=.type "tuple" /\ o.dict=none) \/
   (T = "dict" /\ ((∃kvs,H p=some (.dK kvs))\/∃kvs,H p=some (.dT kvs)))\/(T = "set" /\ ∃S n,H p=some (.set S n))
 | _=>False
def Aw{s:Shared}{T:String}{x:V}{v:Value}(I:Inv X pins Z H s)(r:RelV x v)(ty:tyV X.K T x H) :
  s.TypeIs v T/\∀a,v=.ref a->∃ob,s.heap.get? a=some ob/\ob.dict=none:=by
 cases x with
 | str z =>
  obtain⟨t,rfl⟩:=r
  cases (show T = "str" from ty)
  exact⟨LV s z t,λ_ e=>nomatch e⟩
 | int i =>
  obtain⟨t,rfl⟩:=r
  cases (show T = "int" from ty)
  exact⟨typeIs_int s i t,λ_ e=>nomatch e⟩
 | ref p =>
  cases r
  rcases ty with ⟨rfl,xs,hq⟩|⟨rfl,o,hk,hc,hd⟩|⟨rfl,hk⟩|⟨rfl,S,n,hk⟩
  ·obtain⟨its,_,pl,_⟩:=I.list hq;refine⟨pl.isList.typeIs,λa e=>?_⟩
   cases e
   obtain⟨o,n,e,c,hd,_⟩:=pl;exact⟨o,e,hd⟩
  ·refine⟨⟨o,I.kIn p o hk,hc⟩,λa e=>?_⟩
   cases e
   exact⟨o,I.kIn _ o hk,hd⟩
  ·have z:∃o,s.heap.get? p=some o/\o.ExactDict:=by
    rcases hk with ⟨kvs,hk⟩|⟨kvs,hk⟩
    ·obtain⟨_,_,_,_,o,_,_,e,ex,_⟩:=I.hok p _ hk;exact⟨o,e,ex⟩
    ·obtain⟨_,_,_,_,o,_,_,e,ex,_⟩:=I.hok p _ hk;exact⟨o,e,ex⟩
   obtain⟨o,e,ex⟩:=z;refine⟨⟨o,e,ex.1⟩,λa e2=>?_⟩
   cases e2
   exact⟨o,e,ex.2.1⟩
  ·obtain⟨o,_,_,_,e,ex,_⟩:=I.hok p _ hk;refine⟨⟨o,e,ex.1⟩,λa e2=>?_⟩
   cases e2
   exact⟨o,e,ex.2.1⟩
 | _=>exact False.elim ty
def tBM(K:PySem.W.Frag)(T:String)(r:V->List V->Hp->VK->Prop)(to:TE)(t:TA):TE:=λZ H Q=>to Z H λx H1=>tyV K T x H1/\t Z H1 λxs H2=>r x xs H2 Q
variable {o e:Expr} {es:List Expr} {to:TE} {t:TA} {name:Str} {apos cpos:Pos} {T id:String} {r:V->List V->Hp->VK->Prop}
theorem Ii(pa:PlainAttrs T)(slot:Slot T name id)(hty:typeOf (.builtin id)=pure (.type "method_descriptor"))(hm:MtR X id r)(ho:PE X o to)(ha:PA X (e::es) t)
  (hbase:attributeBase o name X.env (eval o X.env)=eval o X.env:=by rfl)
  (hfew:((backTo cpos (starEach (e::es) X.env)).all (λx=>!x.1)&&(backToKw cpos (keywordEach [] X.env)).all (λx=>x.1.isSome)
   && decide ((e::es).length+([]:List Keyword).length+(if([]:List Keyword).isEmpty then 0 else 1)<30))=true:=by rfl)
  (hline:(apos.endLine==cpos.line)=true:=by rfl) (hs:starEach (e::es) X.env=(false,eval e X.env)::starEach es X.env:=by rfl) (hplain:(backTo cpos (starEach es X.env)).any (·.1)=false:=by rfl) :
  PE X (.Call (.Attribute o name apos) (e::es) [] cpos) (tBM X.K T r to t):=by
 intro pins s Z H Q I h;refine wpAny_Call_method_late hbase hfew hline rfl (thn (ho pins s Z H _ I h) λv s1 ⟨x,H1,I1,r1,ty,q1⟩=>?_);obtain⟨h1,h2⟩:=Aw I1 r1 ty;refine⟨T,id,pa,slot,hty,h1,h2,?_⟩;have hA:=ha cpos pins s1 Z H1 _ I1 q1;rw[hs]at hA ⊢;refine Calls.callWith_builtin (by show(false||(backTo cpos (starEach es X.env)).any (·.1))=false;rw[hplain]<;>rfl) (Calls.evalArgs_plain ?_);exact thn hA λus s2 ⟨vs,H2,I2,r2,q2⟩=>hm pins s2 Z H2 x vs v us Q I2 r1 r2 q2
end
def MtM(X:Cx)(id:String)(r:V->List V->Hp->VK->Prop):Prop :=
 ∀(pins:zzk) (s:Shared) (Z:St) (H:Hp) (x:V) (xs:List V) (v:Value) (us:List Value) (Q:VK),Inv X pins Z H s->RelV x v->Vals xs us->r x xs H Q ->
  wpAny (model X.prog X.w) X.A (call (.builtin id) (v::us)) (EP X pins Z Q) X.xe s
def Vals.one:∀{x:V} {us:List Value},Vals [x] us->∃u,us=[u]/\RelV x u:=by
 intro x us h
 cases h with
 | cons r t=>cases t;exact⟨_,rfl,r⟩
def Vals.rep{us:List Value}(h:Vals xs us):∀k:Nat,Vals (List.replicate k xs).flatten (List.replicate k us).flatten
 | 0=>.nil
 | k+1=>by
  rw[la,la,wa,wa];exact Vals.append h (Vals.rep h k)
def foldl_rep(its:List Value):∀(k:Nat) (acc:List Value),
  List.foldl (λx1 x2=>x1++x2) acc.toArray (List.replicate k its.toArray)=(acc++(List.replicate k its).flatten).toArray
 | 0,acc=>by simp
 | k+1,acc=>by
  have e:acc.toArray++its.toArray=(acc++its).toArray:=by simp
  have e2:(acc++its)++(List.replicate k its).flatten=acc++(List.replicate (k+1) its).flatten:=by
   rw[la,wa,pr]
  rw[<-e2,<-foldl_rep its k (acc++its),<-e,la,ze]
section
variable {s:Shared} {l b:Addr} {ys zs:List V}
theorem Inv.lset{its':List Value}{f:Array Value->Array Value}{t':Nat}(I:Inv X pins Z H s)(hH:H l=some (.lst xs))
  (e:s.heap.get? l=some { cls:=.type "list",data:=.seq its.toArray n }) (hf:f its.toArray=its'.toArray) (hv:Vals ys its') (hz:ys.length<=sizeLine) :
  Inv X pins Z (upd H l (.lst ys)) { s with heap:=s.heap.update l (Obj.mapSeq f),toks:=t' }:=by
 have q:=PySem.IsL.update e f;rw[hf]at q;refine I.write (x:=l) (e:=l) (by rw[hH];exact trivial) (.inl rfl) (λb' u hb hu=>(ou s.heap (Obj.mapSeq f) (Ne.symm hb)).trans hu) ⟨_,q⟩ ?_;exact⟨hz,its',_,hv,q⟩
def Inv.lnew{t':Nat}(I:Inv X pins Z H s)(hv:Vals ys its)(hz:ys.length<=sizeLine) :
  Inv X pins Z (upd H s.heap.objs.size (.lst ys)) { s with heap:=s.heap.push { cls:=.type "list",data:=.seq its.toArray },toks:=t' } :=
 I.laid (λ_ _ q=>zzc _ q) (au _) ⟨hz,its,0,hv,zze _ rfl⟩
def Inv.fresh(I:Inv X pins Z H s):H s.heap.objs.size=none:=I.hok.fresh (au _)
def Inv.lstM(I:Inv X pins Z H s)(hH:H l=some (.lst xs)):xs.length<=sizeLine/\∃(its:List Value) (n:Nat),Vals xs its/\xs.length=its.length/\s.heap.get? l=some { cls:=.type "list",data:=.seq its.toArray n }:=by
 obtain⟨z,its,n,r,e⟩:=I.hok l _ hH;exact⟨z,its,n,r,r.length,e⟩
theorem BB(h:n<=sizeLine):Builtin.List.listTooLong n=false:=by
 unfold Builtin.List.listTooLong;exact aw (by lia)
end
section
def C9:V->List V->Hp->VK->Prop:=λx vs H Q=>∃l xs y,x=.ref l/\vs=[y]/\H l=some (.lst xs)/\xs.length<sizeLine/\Q .non (upd H l (.lst (xs++[y])))
theorem zW:MtM X "list.append" C9:=by
 intro pins s Z H x vs v us Q I rx rv h;obtain⟨l,xs,y,rfl,rfl,hH,hz,q⟩:=h
 cases rx
 obtain⟨u,rfl,ru⟩:=rv.one;obtain⟨z,its,n,r,hl,e⟩:=I.lstM hH;refine LY F.slot_list_append ⟨_,e,rfl⟩ F.entry_list_append (F.args_list_append_2 _ _) (PySem.list_append l its.toArray n u (by rw[be];lia)) ⟨e,?_⟩;refine⟨.non,_,I.lset (its':=its++[u]) hH e (by simp) (r.append (.cons ru .nil)) ?_,rfl,q⟩;rw[zzf,gt];lia
def JN:R2:=λx y H Q=>∃l k xs,x=.ref l/\y=.int k/\H l=some (.lst xs) /\ -(2^63)<=k/\k<2^63/\xs.length*k.toNat<=sizeLine /\
 ∀p,H p=none->Q (.ref p) (upd H p (.lst (List.replicate k.toNat xs).flatten))
def len_rep{α:Type}(xs:List α)(k:Nat):(List.replicate k xs).flatten.length=k*xs.length:=by
 induction k with
 | zero=>simp
 | succ k ih=>rw[la,wa,zzf,ih,Nat.succ_mul,Nat.add_comm]
theorem Gg:OpR X (binaryOp .Mult) JN:=by
 intro pins s Z H x y v u Q I rx ry h;obtain⟨l,k,xs,rfl,rfl,hH,h1,h2,hz,q⟩:=h
 cases rx
 obtain⟨t,rfl⟩:=ry;obtain⟨z,its,n,r,hl,e⟩:=I.lstM hH;have hlen:its.toArray.size*k.toNat<=sizeLine:=by rw[be,<-hl];exact hz
 have hcap:¬ its.toArray.size*k.toNat>(2^63 - 1) / 8:=by
  have:(sizeLine:Nat)<=(2^63 - 1) / 8:=by decide
  lia
 have hfit:¬ (!Builtin.List.listFitsIndex k)=true:=by
  rw[fitsIndex_both h1 h2];exact ug
 have hlong:¬ Builtin.List.listTooLong (its.toArray.size*k.toNat)=true:=by
  rw[BB hlen];exact ug
 have hnew:List.foldl (λx1 x2=>x1++x2) #[] (List.replicate (if its.toArray.isEmpty=true then 0 else k.toNat) its.toArray)=(List.replicate k.toNat its).flatten.toArray:=by
  have f0:∀m:Nat,List.foldl (λx1 x2=>x1++x2) #[] (List.replicate m its.toArray)=(List.replicate m its).flatten.toArray:=λm=>by
   have:=foldl_rep its m [];rw[List.nil_append]at this;exact this
  rw[f0]
  cases its with
  | nil=>simp
  | cons a r'=>rw[ac (by simp)]
 refine wpAny_binaryOp_repeat_ref (T := "list") (U := "int") (by decide) ⟨_,e,rfl⟩ (λs'=>typeIs_int s' k t) noFill_list_mul F.fills_int_mul F.slot_int_rmul repeat_list F.slot_int_index.lookup
  (LY F.slot_int_rmul (typeIs_int s k t) F.entry_int_rmul (F.args_int_rmul_2 _ _) (int___rmul___int_list k t l its.toArray n)
   ⟨e,rfl,⟨_,e,rfl⟩,LY F.slot_list_mul ⟨_,e,rfl⟩ F.entry_list_mul (F.args_list_mul_2 _ _) (AutoListH.list___mul___list_int_3 l its.toArray n k t hfit hcap hlong) ⟨e,?_⟩⟩)
 rw[hnew];exact⟨.ref _,_,I.lnew (t':=s.toks) (r.rep k.toNat) (by rw[len_rep,Nat.mul_comm];exact hz),rfl,q _ I.fresh⟩
end
end L2
namespace Att
open PySem PySem.W PySem.Calls PyProof.Rows
def m8{P:Params}{h:Heap}:∀(ns:List Int) (vs:List Value),WellAll P h vs (ns.map WData.int)->IntsAre vs ns:=by
 intro ns
 induction ns with
 | nil =>
  intro vs w;rw[K3]at w
  cases w
  exact .nil
 | cons n ns ih =>
  intro vs w;rw[ba]at w
  cases w with
  | cons a b =>
   cases a
   exact .cons _ _ (ih _ b)
def zH{l:OpenLaw}{n:Nat}(hn:l.most=some n){P:Params}{h:Heap}{args:List WData}{vals:List Value}
  (hpre:l.row.toRowW.claim.pre args=true) (hwl:WellAll P h vals args) :
  ∃a vs ns,vals=[Value.ref a]/\args=[WData.list (ns.map WData.int)]/\h.get? a=some { cls:=.type "list",data:=.seq vs.toArray }/\IntsAre vs ns/\ns.length<=n:=by
 have hsh:WShape.hasAll [] args [.list .int]=true:=(pre_splitW hpre).1;have hc:l.pre.holds [] { args:=args }=true:=(pre_splitW hpre).2;obtain⟨d,r,rfl,h1,h2⟩:=hasAllW_cons hsh;obtain rfl:=hasAllW_nil h2;obtain⟨xs,rfl,h3⟩:=hasW_list h1;obtain⟨ns,rfl⟩:=items_int h3;have hlen:ns.length<=n:=by
  unfold OpenLaw.pre at hc;have h4:(WTm.not (.lt (.lit (.int (n:Int))) (.len (.arg 0)))).holds [] { args:=[.list (ns.map .int)] }=true:=by
   have h4:=(holds_andW hc).1;rw[hn]at h4;exact h4
  have h5:=condW_of h4 (w_not (w_lt w_lit (w_len_list (w_arg rfl))));rw[zzd]at h5;refine Nat.le_of_not_lt λq=>?_
  have q':(n:Int)<((ns.length:Nat):Int):=by lia
  first
   | (rw[ay q']at h5;exact absurd h5 (by decide))
   | (simp at h5;lia)
 cases hwl with
 | cons w1 w2 =>
  cases w2
  cases w1 with
  | list ho hall=>exact⟨_,_,ns,rfl,rfl,ho,m8 ns _ hall,hlen⟩
def zO(l:OpenLaw)(args:List WData):l.row.toRowW.claim.post args (.bool true) args=true :=
 postW_of (r:=l.row.toRowW) (X:=(true==true))
  (show WShape.has [] (.bool true) .bool=true by first|rfl|decide|simp[WShape.has,WShape.arms,WShape.armsAll])
  (show(WTm.eq .res (.lit (.bool true))).value [] { args:=args,res:=some (.bool true),after:=args }=some (.bool (true==true))from w_eq_bool (w_res rfl) w_lit) rfl
def attach_call{l:OpenLaw}{n:Nat}{q:Program}{loose:List Str}{XP:(Str->Option Value)->Heap->Prop}{YP:World->Heap->Prop}{d:DefRec}
  (hn:l.most=some n) (hdf:d.params.defaults=[])
  (call:∀(w:World) (s₀ s₁:Shared) (mg mb:zzl) (fa:Addr) (o:Obj) (pm cd doc:Value) (a:Addr) (vs:List Value) (ns:List Int),
   Ground q loose [] XP w s₀ mg mb s₁.heap->YP w s₁.heap ->
   s₁.heap.get? fa=some o->o.data=.func (docDef d.name d.params d.body d.scope pm cd doc)->s₁.heap.CodeRec cd d.name->mg d.name=some (.ref fa) ->
   s₁.heap.get? a=some { cls:=.type "list",data:=.seq vs.toArray }->IntsAre vs ns->ns.length<=n->s₁.gens = #[] ->
   codeAny (model l.prog w) callerA (.call (.ref fa) ⟨[.ref a],[]⟩) (λr s'=>r=.ok (.ret (.bool true))/\OldK s₁.heap s'.heap/\s'.os=s₁.os/\AllBare s'.gens) s₁) :
  WalkO q loose XP YP l.row.toRowW d [] (λf vs=>PySem.call f vs):=by
 intro w s₀ s₁ mg mb G Y fa o pm cd doc dV kV ho hd hcd hD hmg hg args vals as hpre hlay hrd hwl hlo;obtain rfl:dV=.none:=Dflts.none hD hdf;obtain rfl:kV=.none:=Dflts.noKw hD;obtain⟨a,vs,ns,rfl,rfl,hobj,hints,hlen⟩:=zH hn hpre hwl;refine enter_call (Lf (call w s₀ s₁ mg mb fa o pm cd doc a vs ns G Y ho (fd_plain hd) hcd hmg hobj hints hlen hg) λr s' hq=>?_);obtain⟨rfl,h2,h3,h4⟩:=hq;exact⟨.inl ⟨.bool true,.bool true,[],rfl,λ_=>rfl,.bool true,zO l _,λ_=>⟨List.Pairwise.nil,λ_ hm=>(nomatch hm)⟩⟩,h2,h3,h4⟩
end Att
namespace L2
open PySem PySem.Spec PyProof.Rows
variable {k:Nat}{scope:Scope}{w:World}{x:Str}{H:Hp}{elt iter tg:Expr}{ifs:List Expr}{pos:Pos}{X:Cx}{P:Program}{N':List Str}{g:TG}{tc:TT}{te:TE}
def qE:∀{vs:List Value} {ns:List Int},IntsAre vs ns->Vals (ns.map V.int) vs
 | _,_,.nil=>.nil
 | _,_,.cons n t h=>.cons ⟨t,rfl⟩ (qE h)
def Hi(H:Hp):Prop:=∀b,H b=none\/∃o xs,H b=some (.frz o (.lst xs))
theorem BO{K:PySem.W.Frag}{mg mb:zzl}{CX:CXT}{fa a:Addr}{fd:FuncData}{sp:Sp}{s₁:Shared}{vs:List Value}{ns:List Int}
  (KX:K.In s₁.heap) (hns:s₁.heap.Ns mainGlobals mg) (hb:s₁.heap.Ns builtinsNs mb) (hbb:∀x:Str,x ≠ "__name__" -> mb x=bootBuiltins x) (hlim:s₁.heap.NoLimit) (hg:s₁.gens = #[])
  (ha:s₁.heap.get? a=some { cls:=.type "list",data:=.seq vs.toArray }) (hi:IntsAre vs ns) (hl:ns.length<=sizeLine) (hr:Room k callerA)
  (F:∀base:Heap,K.In base->base.Ns mainGlobals mg->FnOk P w K mg base CX k fa fd [x] sp) (hbind:∀(s:Shared) (u:Value),BindsTo s fd ⟨[u],[]⟩ [(x,u)])
  (hsp:∀H:Hp,Hi H->SqL K H a (ns.map V.int)->sp [.ref a] H (λv _=>v=.bl true) λ_ _ _=>False)
  (hCX:∀H e s',CX [] H s₁ (λ_ _ _=>False) e s'->False) :
  codeAny (model P w) callerA (.call (.ref fa) ⟨[.ref a],[]⟩) (λr s'=>r=.ok (.ret (.bool true))/\OldK s₁.heap s'.heap/\s'.os=s₁.os/\AllBare s'.gens) s₁:=by
 have rv:=qE hi;have lenV:=hi.length;have core:∀H:Hp,Hi H->SqL K H a (ns.map V.int)->HOk P w H s₁.heap->(∀b,H b≠none->b=a)->(H a≠none->K.lookup a=none) ->
   codeAny (model P w) callerA (.call (.ref fa) ⟨[.ref a],[]⟩) (λr s'=>r=.ok (.ret (.bool true))/\OldK s₁.heap s'.heap/\s'.os=s₁.os/\AllBare s'.gens) s₁:=by
  intro H hO hS hok hA hK;have base_of:∀{b:Addr} {o:Obj},s₁.heap.get? b=some o->H b=none->(tB s₁.heap H).get? b=some o:=λe n=>BY e n
  have noA:∀{b:Addr} {o:Obj} {es:Array DictEntry} {ep:Nat},s₁.heap.get? b=some o->o.data=.dict es ep->H b=none:=λ{b o es ep} e d=>by
   cases q:H b with
   | none=>rfl
   | some u =>
    have e':b=a:=hA b (by rw[q];simp);subst e';rw[ha]at e;cases e;have d':Data.seq vs.toArray _=Data.dict es ep:=d
    cases d'
  have nsK:∀{b:Addr} {m:zzl},s₁.heap.Ns b m->(tB s₁.heap H).Ns b m:=λ{b m} ⟨o,es,ep,e,d,r⟩=>⟨o,es,ep,base_of e (noA e d),d,r⟩
  have hKb:K.In (tB s₁.heap H):=λb o e=>base_of (KX b o e) (by
   cases q:H b with
   | none=>rfl
   | some u =>
    have e':b=a:=hA b (by rw[q];simp);subst e'
    rw[hK (by rw[q];simp)]at e;cases e)
  have hM:Mod K mg (tB s₁.heap H):=⟨hKb,nsK hns,⟨mb,nsK hb,hbb⟩,let ⟨mc,h1,h2⟩:=hlim;⟨mc,nsK h1,h2⟩⟩;have e0:Env0 P w K mg (tB s₁.heap H) callerA [] s₁ H:=⟨rfl,hM,λb o e=>Dt e,Nat.le_of_eq (Ab _ _),trivial,λb hb=>absurd (show b∈([]:List Addr)from hb) (by simp),hok,.of_eq hg⟩;refine Lf ((F _ hKb (nsK hns)).run callerA [] s₁ H ⟨[.ref a],[]⟩ [.ref a] [.ref a] _ _ hr e0 (hbind s₁ (.ref a)) (.cons rfl .nil) (hsp H hO hS)) λr s' h=>?_
  cases r with
  | error e=>exact(hCX H e s' h).elim
  | ok fl =>
   cases fl with
   | next=>exact False.elim h
   | brk=>exact False.elim h
   | cont=>exact False.elim h
   | ret u =>
    obtain⟨v,H',os,bare,un,hok',r',q⟩:=h;have q':v=.bl true:=q;subst q';obtain rfl:u=Value.bool true:=r';refine⟨rfl,OldK.of_keep λb o e=>?_,os,bare⟩
    cases q:H b with
    | none=>exact un.keep b o e q (by intro z;exact absurd (show b∈([]:List Addr)from z) (by simp)) (by simp)
    | some u =>
     rcases hO b with z|⟨ob,xs,z⟩
     ·rw[q]at z;cases z
     ·have z2:=un.frzs b ob _ z;obtain⟨e1,_⟩:=hok b _ z;obtain⟨e2,_⟩:=hok' b _ z2;rw[e]at e1;cases e1;exact e2
 cases hk:K.lookup a with
 | some o =>
  have e:=KX a o hk;rw[ha]at e
  cases e
  refine core (λ_=>none) (λ_=>.inl rfl) (.inr ⟨_,vs.toArray,_,hk,rfl,rfl,rfl,by rw[be,lenV];exact hl,by simpa using rv⟩) (λb u z=>by have z':(none:Option HO)=some u:=z;cases z') (λb z=>absurd rfl z) λz=>absurd rfl z
 | none =>
  refine core (λb=>if b=a then some (.frz { cls:=.type "list",data:=.seq vs.toArray } (.lst (ns.map V.int)))else none) (λb=>?_) (.inl (.inr ⟨{ cls:=.type "list",data:=.seq vs.toArray },ak rfl⟩)) (λb u z=>?_) (λb z=>?_) λ_=>hk
  ·by_cases hb:b=a
   ·exact .inr ⟨_,_,ak hb⟩
   ·exact .inl (ac hb)
  ·by_cases hb:b=a
   ·have z':=(ak hb).symm.trans z
    cases z'
    subst hb;exact⟨ha,by rw[zzd];exact hl,vs,_,rv,ha⟩
   ·have z':=(ac hb).symm.trans z
    cases z'
  ·by_cases hb:b=a
   ·exact hb
   ·exact absurd (ac hb) z
def walk_of{l:PySem.W.OpenLaw}{n:Nat}{q:Program}{loose:List Str}{XP:(Str->Option Value)->Heap->Prop}{YP:World->Heap->Prop}{d:DefRec}{K:Params->PySem.W.Frag}{CX:World->CXT}{sp:World->Sp}
  (hn:l.most=some n) (hn2:n<=sizeLine) (hdf:d.params.defaults=[]) (hr:Room k callerA)
  (hY:∀(w:World) (h:Heap),YP w h->(K w.params).In h)
  (F:∀(w:World) (mg:zzl) (fa:Addr) (h:Heap),(K w.params).In h->h.Ns mainGlobals mg->mg d.name=some (.ref fa) ->
   ∃fd:FuncData,(∀(s:Shared) (u:Value),BindsTo s fd ⟨[u],[]⟩ [(x,u)]) /\
    ∀base:Heap,(K w.params).In base->base.Ns mainGlobals mg->FnOk l.prog w (K w.params) mg base (CX w) k fa fd [x] (sp w))
  (hsp:∀(w:World) (H:Hp) (a:Addr) (ns:List Int),ns.length<=n->Hi H->SqL (K w.params) H a (ns.map V.int)->sp w [.ref a] H (λv _=>v=.bl true) λ_ _ _=>False)
  (hCX:∀(w:World) (H:Hp) (s:Shared) (e:Value) (s':Shared),CX w [] H s (λ_ _ _=>False) e s'->False) :
  PySem.W.WalkO q loose XP YP l.row.toRowW d [] (λf vs=>PySem.call f vs):=by
 refine Att.attach_call hn hdf λw s₀ s₁ mg mb fa o pm cd doc a vs ns G Y ho hd hcd hmg hobj hints hlen hg=>?_
 have KX:=hY w _ Y;obtain⟨fd,hb,hF⟩:=F w mg fa _ KX G.T.g hmg;exact BO KX G.T.g G.T.b G.T.builtins G.T.nolimit hg hobj hints (cr hlen hn2) hr hF hb (λH hO hS=>hsp w H a ns hlen hO hS) λH e s'=>hCX w H s₁ e s'
def dc(s:Stmt):Arguments:=match s with
 | .FunctionDef _ a _ _ _ _ _ _ _ _=>a
 | _=>{ posonlyargs:=[],args:=[],vararg:=none,kwonlyargs:=[],kw_defaults:=[],kwarg:=none,defaults:=[] }
def bS(s:Stmt):List Stmt:=match s with
 | .FunctionDef _ _ b _ _ _ _ _ _ _=>b
 | _=>[]
def aE(s:Stmt):Scope:=match s with
 | .FunctionDef _ _ _ _ _ _ sc _ _ _=>sc
 | _=>{ kind:=.function,names:=[],isGenerator:=false,isCoroutine:=false }
structure Fun(K:PySem.W.Frag)(x qual:Str)(st:Stmt)(f:Addr)(fd:FuncData):Prop where
 ex:∃(oc:Value) (od:Option Addr) (kV doc pm:Value) (an:Option Addr) (cdv ct:Value) (osl:Array (Option Value)),
  fd=PySem.W.fnOf x qual (dc st) (bS st) (aE st) .none kV doc pm an cdv ct/\K.lookup f=some ⟨oc,od,.func fd,osl⟩/\PySem.W.codeIn K cdv qual=true
 kp:PySem.W.keepIn K (.ref f)=true
section
variable {K:PySem.W.Frag} {mg:zzl} {base:Heap}
def Fun.binds{qual:Str}{st:Stmt}{f:Addr}{fd:FuncData}{ps:List Str}(F:Fun K x qual st f fd)
  (h:∀(kV doc pm:Value) (an:Option Addr) (cdv ct:Value) (us:List Value),us.length=ps.length->bindArgs (PySem.W.fnOf x qual (dc st) (bS st) (aE st) .none kV doc pm an cdv ct) ⟨us,[]⟩=pure (ps.zip us)):Binds K fd ps []:=by
 obtain⟨oc,od,kV,doc,pm,an,cdv,ct,osl,rfl,lk,hcd⟩:=F.ex;exact .all (h kV doc pm an cdv ct)
def tD{qual:Str}{st:Stmt}{f:Addr}{oc:Value}{od an:Option Addr}{osl:Array (Option Value)}{kV doc pm cdv ct:Value}(l:K.lookup f=some ⟨oc,od,.func (PySem.W.fnOf x qual (dc st) (bS st) (aE st) .none kV doc pm an cdv ct),osl⟩)
  (c:PySem.W.codeIn K cdv qual=true) (k:PySem.W.keepIn K (.ref f)=true):Fun K x qual st f (PySem.W.fnOf x qual (dc st) (bS st) (aE st) .none kV doc pm an cdv ct):=⟨⟨oc,od,kV,doc,pm,an,cdv,ct,osl,rfl,l,c⟩,k⟩
end
def tq{A B:Prop}(h:B):if false=true then A else B:=by
 rw[ac ug];exact h
def qw{A B:Prop}(h:A):if true=true then A else B:=by
 rw[ak rfl];exact h
def Same(H H':Hp):Prop:=∀b o,H b=some o->H' b=some o
def Same.refl(H:Hp):Same H H:=λ_ _ h=>h
def Same.trans{H1 H2:Hp}(a:Same H H1)(b:Same H1 H2):Same H H2:=λc o h=>b c o (a c o h)
def Same.free{H':Hp}(e:Same H H'){l:Addr}(h:H' l=Option.none):H l=Option.none:=by
 cases q:H l with
 | none=>rfl
 | some o =>
  rw[e l o q]at h
  cases h
def Same.seq{K:PySem.W.Frag}{H':Hp}{a:Addr}{xs:List V}(e:Same H H')(h:SqL K H a xs):SqL K H' a xs:=by
 rcases h with (h|⟨o,h⟩)|h
 ·exact .inl (.inl (e _ _ h))
 ·exact .inl (.inr ⟨o,e _ _ h⟩)
 ·exact .inr h
def bw(X:Cx)(N':List Str)(scope:Scope)(cl:List (Str×Addr))(s₂:Shared)(H₂:Hp)(fp:List Addr)(C:Addr):Cx :=
 { X with N:=N',s₀:=s₂,H₀:=H₂,env:=compEnvC scope cl C X.env,outer:=X.stack,ex:=fp,fn:=λ_=>false,pn:=[],xe:=λ_ _=>False }
def lobj(ys:List Value)(k:Nat):Obj:={ cls:=.type "list",data:=.seq ys.toArray k }
section
variable {prog:Program} {A:Around} {R:Result->Shared->Prop} {s:Shared}
def jd{target:Expr}{it acc:Value}{env:Env}(I:Nat->Shared->Prop)
  (turn:∀n s,I n s->wpAny (model prog w) A (pyNext it) (λr s₁=>match r with
   | none=>R (.ok .next) s₁
   | some v=>wpAny (model prog w) A (letOwnedTupleGo target it v) (λ_ s₁'=>wpAny (model prog w) A (assign target env v) (λ_ s₂ =>
     wpAny (model prog w) A (forIn ifs true λc r=>if r=true then do let ok <-isTrue c env (eval c env);pure (ForInStep.yield ok)else pure (ForInStep.yield r)) (λok s₃ =>
      if ok=true then wpAny (model prog w) A (eval elt env) (λx s₄ =>
       wpAny (model prog w) A (call (.builtin "list.append") [acc,x]) (λ_ s₅=>∃m,m<n/\I m s₅) (λ_ _=>False) s₄) (λ_ _=>False) s₃
      else ∃m,m<n/\I m s₃) (λ_ _=>False) s₂) (λ_ _=>False) s₁') (λ_ _=>False) s₁) (λ_ _=>False) s)
  (n:Nat) (h:I n s) :
  codeAny (model prog w) A (.compLoop (.ListComp elt [⟨target,iter,ifs,0⟩] scope pos) 0 it acc env) R s:=by
 refine codeAny_loop rfl I (λn s hI=>?_) n h;show wpAny _ A ((compTurn (.ListComp elt [⟨target,iter,ifs,0⟩] scope pos) 0 it acc env).onRaise (λx=>do noteFrame x env;theTreesLotGoes x)) _ _ s;refine wpAny_noted ?_;rw[compTurn_list];refine zza (Ba (zza (li (turn n s hI) (λr s₁ h₁=>?_) λ_ _ h'=>h'.elim)))
 cases r with
 | none=>exact zzb h₁
 | some v =>
  refine zza (li h₁ (λ_ s₁' h₁'=>?_) λ_ _ h'=>h'.elim);refine zza (li h₁' (λ_ s₂ h₂=>zza (li h₂ (λok s₃ h₃=>?_) λ_ _ h'=>h'.elim)) λ_ _ h'=>h'.elim)
  cases ok with
  | false=>exact zzb ⟨rfl,h₃⟩
  | true =>
   exact zza (zza (li h₃ (λx s₄ h₄=>zza (li h₄ (λ_ s₅ h₅=>zzb (zzb ⟨rfl,h₅⟩)) λ_ _ h'=>h'.elim)) λ_ _ h'=>h'.elim))
end
def PTs(X:Cx)(ifs:List Expr)(t:TT):Prop :=
 ∀(pins:zzk) (s:Shared) (Z:St) (H:Hp) (Q:Bool->Hp->Prop),Inv X pins Z H s->t Z H Q ->
  wpAny (model X.prog X.w) X.A (forIn ifs true λc r=>if r=true then do let ok <-isTrue c X.env (eval c X.env);pure (ForInStep.yield ok)else pure (ForInStep.yield r)) (TP X pins Z Q) X.xe s
def De:PTs X [] (λ_ H Q=>Q true H):=λ_ _ _ H _ I h=>wpAny_tests_nil ⟨H,I,h⟩
def Dc{c:Expr}{t:TT}(h:PT X c t):PTs X [c] t:=λpins s Z H Q I q=>wpAny_tests_one (h pins s Z H Q I q)
def fH{env:Env}:∀{names:List (Str×NameKind)} {x:Str},
  (names.map λ(n,k)=>if(k==NameKind.free&&env.scope.kind==.function&&env.kindOf n==some .cell)then(n,NameKind.cell)else(n,k)).lookup x
   = (names.lookup x).map λk=>if(k==NameKind.free&&env.scope.kind==.function&&env.kindOf x==some .cell)then NameKind.cell else k
 | [],_=>rfl
 | (n,k)::r,x=>by
  have ih:=@fH env r x;show List.lookup x ((if(k==NameKind.free&&env.scope.kind==.function&&env.kindOf n==some .cell)=true then(n,NameKind.cell)else(n,k))::_)=_
  cases hx:x==n with
  | true =>
   have e:x=n:=by simpa using hx
   subst e;by_cases hc:(k==NameKind.free&&env.scope.kind==.function&&env.kindOf x==some .cell)=true
   ·rw[ak hc];simp only[ib,hx,Option.map_some,ak hc]
   ·rw[ac hc];simp only[ib,hx,Option.map_some,ac hc]
  | false =>
   by_cases hc:(k==NameKind.free&&env.scope.kind==.function&&env.kindOf n==some .cell)=true
   ·rw[ak hc];simp only[ib,hx];exact ih
   ·rw[ac hc];simp only[ib,hx];exact ih
def j5{env:Env}:∀(names:List (Str×NameKind)) (acc:List (Str×Addr)),(∀x∈names,x.2=.free->∃c,env.cells.lookup x.1=some c) ->
  (∀x c,acc.lookup x=some c->env.cells.lookup x=some c) ->
  ∃cl,(forIn names acc λ(x:Str×NameKind) (cs:List (Str×Addr))=>(if(x.2==NameKind.free)=true then(do let c <-cellOf env x.1;pure (ForInStep.yield ((x.1,c)::cs)))else pure (ForInStep.yield cs):Sem (ForInStep (List (Str×Addr)))))=pure cl /\
   (∀x c,cl.lookup x=some c->env.cells.lookup x=some c)/\(∀x,(acc.lookup x).isSome->(cl.lookup x).isSome)/\∀x∈names,x.2=.free->(cl.lookup x.1).isSome
 | [],acc,_,ha=>⟨acc,rfl,ha,λ_ h=>h,λ_ h=>nomatch h⟩
 | (n,k)::r,acc,hn,ha=>by
  cases hk:(k==NameKind.free)with
  | true =>
   obtain⟨c,hc⟩:=hn (n,k) am (by simpa using hk);have ha':∀x d,((n,c)::acc).lookup x=some d->env.cells.lookup x=some d:=λx d e=>by
    rw[ib]at e
    cases q:x==n with
    | true =>
     rw[q]at e;have:x=n:=by simpa using q
     subst this;exact hc.trans e
    | false=>rw[q]at e;exact ha x d e
   obtain⟨cl,e,h1,h2,h3⟩:=j5 r ((n,c)::acc) (λx hx=>hn x (zzg _ hx)) ha';have grow:∀x,(acc.lookup x).isSome->(((n,c)::acc).lookup x).isSome:=λx hx=>by
    rw[ib]
    cases q:x==n with
    | true=>rfl
    | false=>exact hx
   refine⟨cl,?_,h1,λx hx=>h2 x (grow x hx),λx hx hf=>?_⟩
   ·rw[List.forIn_cons];have q:cellOf env n=pure c:=by
     unfold cellOf;rw[hc]
    simp only[hk,Lr,q];exact e
   ·rcases List.mem_cons.mp hx with rfl|hx
    ·exact h2 _ (by simp[ib])
    ·exact h3 x hx hf
  | false =>
   obtain⟨cl,e,h1,h2,h3⟩:=j5 r acc (λx hx=>hn x (zzg _ hx)) ha;refine⟨cl,?_,h1,h2,λx hx hf=>?_⟩
   ·rw[List.forIn_cons];simp only[hk,ls,yi];exact e
   ·rcases List.mem_cons.mp hx with rfl|hx
    ·exfalso;have:k=.free:=hf;subst this;simp at hk
    ·exact h3 x hx hf
def pN{env:Env}(h:∀x∈scope.names,x.2=.free->∃c,env.cells.lookup x.1=some c) :
  ∃cl,closureFor scope env=pure cl/\(∀x c,cl.lookup x=some c->env.cells.lookup x=some c)/\∀x∈scope.names,x.2=.free->(cl.lookup x.1).isSome:=by
 obtain⟨cl,e,h1,_,h3⟩:=j5 (env:=env) scope.names [] h (λx c e=>by simp at e);refine⟨cl,?_,h1,h3⟩;unfold closureFor;have q:(forIn scope.names [] λ(x:Str×NameKind) (cs:List (Str×Addr))=>(match x with|(name,kind)=>if(kind==NameKind.free)=true then(do let c <-cellOf env name;pure (ForInStep.yield ((name,c)::cs)))else pure (ForInStep.yield cs):Sem (ForInStep (List (Str×Addr)))))=pure cl:=e
 first
  | (simp only[];rw[q];rfl)
  | (show(do let cs <-_;pure cs)=_;rw[q];rfl)
  | (rw[show(forIn scope.names [] _)=pure cl from q];rfl)
structure CompOk(X:Cx)(N':List Str)(k:Nat)(scope:Scope):Prop where
 kind:scope.kind=.function
 len:N'.length=X.N.length+k
 nocell:∀y∈scope.names,y.2≠.cell
 names:∀y∈scope.names,y.2=.local->scope.names.lookup y.1=some .local
 outer:∀(i:Nat) x,i<X.N.length->N'[i]? = some x->(scope.names.lookup x).isSome->(scope.names.lookup x=some .free\/scope.names.lookup x=some .local\/scope.names.lookup x=some .cell)->X.N[i]? = some x/\scope.names.lookup x=some .free
 free:∀y∈scope.names,y.2=.free->X.env.kindOf y.1=some .cell\/X.env.kindOf y.1=some .free
def xT(wi:TI)(k:Nat)(g:TG)(tc:TT)(te:TE):TE:=λZ H Q=>wi Z H λJ H1=>∃W:Nat->Nat->List V->St->Hp->Prop,(∃m,W 0 m [] (Z++List.replicate k none) H1) /\
 ∀i m vs σ' H',W i m vs σ' H'->vs.length<=sizeLine /\
  ((J.stop i H'/\∀p,H' p=none->Q (.ref p) (upd H' p (.lst vs))) \/
   (J.go i H'/\∀x H2,J.yld i H' x H2->g x σ' H2 λσ3 H3=>tc σ3 H3 λb H4=>if b=true then te σ3 H4 λy H5=>∃m',m'<m/\W (i+1) m' (vs++[y]) σ3 H5 else ∃m',m'<m/\W (i+1) m' vs σ3 H4))
section
variable {pins:zzk} {Z:St} {H2:Hp} {s2:Shared}
def HOk.track{h:Heap}{D:Addr}{vs:List V}{ys:List Value}(x:HOk P w H h)(hn:H D=none)(hl:vs.length<=sizeLine)(r:Vals vs ys)(e:h.get? D=some (lobj ys k)) :
  HOk P w (upd H D (.lst vs)) h:=λb u q=>by
 by_cases hb:b=D
 ·subst hb;rw[aT]at q
  cases q
  exact⟨hl,ys,k,r,e⟩
 ·rw[aI hb]at q;exact(x b u q).stay (λ_ _ _ z=>z) (λc z=>by rw[aI (aY z hn)];exact z) λc xs z=>by rw[aI (aY z hn)];exact z
def rB{cl:List (Str×Addr)}{J:It}{fp:List Addr}{it:Addr}{tn:Nat->Heap->Prop}{E:zzj}
  {RR:Value->Addr->Result->Shared->Prop} {Q:VK}
  (hc:X.calm=true) (S:CompOk X N' k scope) (hcl:∀x c,cl.lookup x=some c->X.env.cells.lookup x=some c) (hcf:∀x∈scope.names,x.2=.free->(cl.lookup x.1).isSome)
  (I:Inv X pins Z H2 s2) (T:Turn X.prog X.w X.K tg J fp it tn) (st:tn 0 s2.heap) (ff:∀b∈fp,lB X pins H2 b)
  (hg:∀C,PG (bw X N' scope cl s2 H2 fp C) tg g) (ht:∀C,PTs (bw X N' scope cl s2 H2 fp C) ifs tc) (he:∀C,PE (bw X N' scope cl s2 H2 fp C) elt te)
  (rd:∃W:Nat->Nat->List V->St->Hp->Prop,(∃m,W 0 m [] (Z++List.replicate k none) H2) /\
   ∀i m vs σ' H',W i m vs σ' H'->vs.length<=sizeLine /\
    ((J.stop i H'/\∀p,H' p=none->Q (.ref p) (upd H' p (.lst vs))) \/
     (J.go i H'/\∀x H2,J.yld i H' x H2->g x σ' H2 λσ3 H3=>tc σ3 H3 λb H4=>if b=true then te σ3 H4 λy H5=>∃m',m'<m/\W (i+1) m' (vs++[y]) σ3 H5 else ∃m',m'<m/\W (i+1) m' vs σ3 H4)))
  (hRR:∀D C s' H',Inv X pins Z H' s'->(∃m,s'.heap.Ns C m)->lB X pins H' C->Q (.ref D) H'->RR (.ref D) C (.ok .next) s') :
  wpAny (model X.prog X.w) X.A (newList []) (λacc s₃=>wpAny (model X.prog X.w) X.A (newFunctionEnv scope X.env.globals cl [] X.env.qual none .none (some X.env)) (λcenv s₄ =>
   codeAny (model X.prog X.w) X.A (.compStart (.ListComp elt [⟨tg,iter,ifs,0⟩] scope pos) 0 (.ref it) acc { cenv with scope:=relabel scope X.env }) (RR acc cenv.locals) s₄) E s₃) E s2:=by
 obtain⟨W,⟨m0,w0⟩,turn⟩:=rd;refine ni (wpAny_newFunctionEnv S.nocell (by intro y hy;simp at hy) (λh₁ hns₁ hsb₁=>?_) S.kind);dsimp only at hns₁ hsb₁ ⊢;generalize hH2:s2.heap.push { cls:=.type "list",dict:=none,data:=.seq ([]:List Value).toArray }=G2 at hns₁ hsb₁ ⊢;have hCs:G2.objs.size=s2.heap.objs.size+1:=by rw[<-hH2,xt]
 have hDC:s2.heap.objs.size≠G2.objs.size:=by rw[hCs];exact bj (wT _)
 have hCle:s2.heap.objs.size<=G2.objs.size:=by rw[hCs];exact LH _
 have below:∀b,b<s2.heap.objs.size->b≠G2.objs.size/\b≠s2.heap.objs.size:=λb hb=>⟨by rw[hCs];exact bj (pi hb),bj hb⟩
 have old:∀b o,s2.heap.get? b=some o->h₁.get? b=some o:=λb o e=>hsb₁.extBut b o (below b (ax e)).1 (zzc _ (hH2▸zzc _ e))
 have hacc:h₁.get? s2.heap.objs.size=some (lobj [] 0):=hsb₁.extBut _ _ hDC (zzc _ (hH2▸zze _ rfl));generalize hDe:s2.heap.objs.size=D at *;generalize hCe:G2.objs.size=C at *;have fpD:lB X pins H2 D:=I.fpOk (by rw[hDe];exact au _) (I.hok.fresh (by rw[hDe];exact au _));have fpC:∀H',H' C=none->lB X pins H' C:=λH' hn=>I.fpOk (by rw[hDe];exact hCle) hn
 have hfpD:∀b∈fp,b<D:=λb hb=>by
  obtain⟨o,e,_⟩:=T.obj _ _ st b hb;rw[<-hDe];exact ax e
 have nofr:∀b,D<=b->b∉frs X.stack:=λb hb hm=>by
  rcases List.mem_cons.mp (I.stkSub b hm)with e|hm
  ·have:=I.lt;rw[hDe]at this;rw[e]at hb;exact absurd (bo this hb) (pI _)
  ·exact I.nofs (by rw[hDe];exact hb) hm
 let X':=bw X N' scope cl s2 H2 fp C
 have cellLt:∀x c,cl.lookup x=some c->c<D:=λx c e=>by
  obtain⟨v,z⟩:=I.cell x c (hcl x c e);rw[<-hDe];exact z.lt
 have ok':X'.Ok:=by
  refine⟨I.ok.mod,S.kind,I.ok.glob,I.ok.blt,?_,λx y c e1 e2=>I.ok.inj x y c (hcl _ _ e1) (hcl _ _ e2),λx hx=>?_,λx c hf _=>(nomatch hf),I.ok.hd,I.ok.frames,.inl rfl,λb hb=>⟨?_,λx c e z=>?_⟩,I.bs,?_,λb o e hb=>?_,λb hb hm=>?_,I.stack,I.stkFree⟩
  ·show s2.heap.objs.size<=C;rw[hDe];exact hCle
  ·have hx':(relabel scope X.env).names.lookup x=some .cell\/(relabel scope X.env).names.lookup x=some .free:=hx;have e:=fH (env:=X.env) (names:=scope.names) (x:=x);have e':(relabel scope X.env).names.lookup x=(scope.names.lookup x).map λk=>if(k==NameKind.free&&X.env.scope.kind==.function&&X.env.kindOf x==some .cell)then NameKind.cell else k:=e
   rw[e']at hx'
   cases q:scope.names.lookup x with
   | none=>rw[q]at hx';rcases hx' with z|z<;>cases z
   | some kd =>
    have hmem:=tu q;rw[q]at hx';have hkd:kd=.free:=by
     by_cases hz:kd=.free
     ·exact hz
     ·exfalso;have hb:(kd==NameKind.free)=false:=by simpa using hz
      simp only[hb,Lg,ls,yi,Option.map_some]at hx';rcases hx' with z|z
      ·exact S.nocell _ hmem (Option.some.inj z)
      ·exact hz (Option.some.inj z)
    exact Option.isSome_iff_exists.mp (hcf _ hmem hkd)
  ·exact bj (bo (hfpD b hb) hCle)
  ·exact(ff b hb).2.2.2.2.1 x c (hcl x c e) z
  ·exact cr I.ok.bsz I.sz
  ·obtain⟨_,_,_,hx,_⟩:=ff b hb;rcases hx with hx|hx
   ·exact I.ok.noex b o e hx
   ·exact absurd (bo (ax (I.ok.bs b o e).1) hx) (pI _)
  ·obtain⟨_,hl,hfs,_⟩:=ff b hb;rcases List.mem_cons.mp (I.stkSub b hm)with e|hm
   ·exact hl e
   ·exact hfs hm
 have lenσ:(Z++List.replicate k none).length=N'.length:=by rw[zzf,Me,I.len,S.len]
 have I0:Inv X' [(D,lobj [] 0)] (Z++List.replicate k none) H2 { s2 with heap:=h₁,toks:=s2.toks+([]:List (Str×Value)).length }:=by
  refine⟨ok',rfl,I.bare,Un.kept old,⟨_,hns₁,λi x v e1 e2 e3=>?_⟩,λx c e=>?_,I.hok.fresh (by rw[hDe];exact hCle),λx c e=>I.freeC x c (hcl x c e),λp hp=>?_,I.hok.kept old,lenσ⟩
  ·have hi:i<Z.length:=by
    by_cases hi:i<Z.length
    ·exact hi
    ·rw[lf (Nat.not_lt.mp hi),LS]at e2;split at e2<;>cases e2
   rw[de hi]at e2;have e':(relabel scope X.env).names.lookup x=(scope.names.lookup x).map λk=>if(k==NameKind.free&&X.env.scope.kind==.function&&X.env.kindOf x==some .cell)then NameKind.cell else k:=fH (env:=X.env) (names:=scope.names) (x:=x)
   have hsome:∃kd,scope.names.lookup x=some kd/\(kd=.free\/kd=.local\/kd=.cell):=by
    have e3':(relabel scope X.env).names.lookup x=some .local\/(relabel scope X.env).names.lookup x=some .cell\/(relabel scope X.env).names.lookup x=some .free:=e3;rw[e']at e3'
    cases q:scope.names.lookup x with
    | none=>rw[q]at e3';rcases e3' with z|z|z<;>cases z
    | some kd =>
     refine⟨kd,rfl,?_⟩;rw[q]at e3';by_cases hz:kd=.free
     ·exact .inl hz
     ·have hb:(kd==NameKind.free)=false:=by simpa using hz
      simp only[hb,Lg,ls,yi,Option.map_some,Option.some.injEq]at e3';rcases e3' with z|z|z
      ·exact .inr (.inl z)
      ·exact .inr (.inr z)
      ·exact .inl z
   obtain⟨kd,hk1,hk2⟩:=hsome;obtain⟨hN,hfree⟩:=S.outer i x (by rw[<-I.len];exact hi) e1 (by rw[hk1];rfl) (by rcases hk2 with z|z|z<;>subst z<;>simp[hk1]);have hmem:=tu hfree;have hko:=S.free _ hmem rfl;have hkx:X.env.kindOf x=some .cell\/X.env.kindOf x=some .free:=hko;obtain⟨m,hn,hl⟩:=I.loc;obtain⟨u,r,lk⟩:=hl i x v hN e2 (by rcases hkx with z|z;exact .inr (.inl z);exact .inr (.inr z));refine⟨u,r,.inr ⟨?_,?_⟩⟩
   ·show(relabel scope X.env).names.lookup x=some .cell\/(relabel scope X.env).names.lookup x=some .free;rw[e',hfree,Option.map_some];split
    ·exact .inl rfl
    ·exact .inr rfl
   ·rcases lk with ⟨kl,_⟩|⟨_,c,ec,hcell⟩
    ·rcases hkx with z|z<;>(rw[z]at kl;cases kl)
    ·obtain⟨c',ec'⟩:=Option.isSome_iff_exists.mp (hcf _ hmem rfl);have q:=hcl _ _ ec';rw[ec]at q
     cases q
     exact⟨c,ec',hcell.keeps old⟩
  ·obtain⟨v,z⟩:=I.cell x c (hcl x c e);exact⟨v,z.keeps old⟩
  ·have hp':p∈([]:zzk)++[(D,lobj [] 0)]:=hp;have ep:p=(D,lobj [] 0):=by simpa using hp'
   subst ep;exact⟨hacc,fpD.1,hDC,nofr D (au _),λv z=>nomatch z⟩
 have stat:∀{H':Hp} {o:Obj},(∀b∈fp,H' b=none)->∀b∈fp,lB X' [(D,o)] H' b:=λ{H' o} hn b hb=>by
  refine⟨hn b hb,bj (bo (hfpD b hb) hCle),ok'.exfs b hb,.inl hb,λx c e z=>(ff b hb).2.2.2.2.1 x c (hcl x c e) z,λp hp=>?_⟩;have hp':p∈([]:zzk)++[(D,o)]:=hp;have ep:p=(D,o):=by simpa using hp'
  subst ep;exact u8 (hfpD b hb)
 have loop:∀s₃:Shared,s₃={ s2 with heap:=h₁,toks:=s2.toks+([]:List (Str×Value)).length } ->
   codeAny (model X.prog X.w) X.A (.compLoop (.ListComp elt [⟨tg,iter,ifs,0⟩] scope pos) 0 (.ref it) (.ref D) (compEnvC scope cl C X.env)) (RR (.ref D) C) s₃:=by
  rintro s₃ rfl;refine jd (λn s'=>∃i vs ys kk σ' H',Inv X' [(D,lobj ys kk)] σ' H' s'/\tn i s'.heap/\(∀b∈fp,H' b=none)/\Vals vs ys/\W i n vs σ' H') ?_ m0
   ⟨0,[],[],0,_,H2,I0,T.keep _ _ _ st λb _ o e=>old b o e,λb hb=>(ff b hb).1,.nil,w0⟩
  rintro n s3 ⟨i,vs,ys,kk,σ3,H3,I3,st3,fr3,rv,w3⟩;obtain⟨hvl,hcase⟩:=turn i n vs σ3 H3 w3;have pinD:∀{o:Obj} {σ' H' s'},Inv X' [(D,o)] σ' H' s'->s'.heap.get? D=some o/\H' D=none:=λJ=>⟨(J.pin _ (ic _ am)).1,(J.pin _ (ic _ am)).2.1⟩
  rcases hcase with ⟨stop,qn⟩|⟨go,step⟩
  ·refine thn (T.done X' rfl rfl rfl hc i _ s3 σ3 H3 (λ_ _=>False) I3 (stat fr3) st3 stop) λr s4 ⟨hr,I4⟩=>?_
   subst hr;obtain⟨gD,nD⟩:=pinD I4;obtain⟨m',hm',_⟩:=I4.loc;have hC4:H3 C=none:=I4.free;have u0:Un (frs X.stack) fp H2 H3 s2.heap s4.heap:=I4.base;have neD:∀b o,s2.heap.get? b=some o->b≠D:=λb o e=>by rw[<-hDe];exact bj (ax e)
   have u1:Un (frs X.stack) fp H2 (upd H3 D (.lst vs)) s2.heap s4.heap :=
    ⟨u0.keep,u0.slot,λb o e n hx=>by rw[aI (neD b o e)];exact u0.free b o e n hx,u0.there,
     λb xs e=>by have q:=u0.tups b xs e;rw[aI (aY q nD)];exact q,
     λb o u e=>by have q:=u0.frzs b o u e;rw[aI (aY q nD)];exact q,
     λb ps e=>by obtain⟨more,q⟩:=u0.tbls b ps e;exact⟨more,by rw[aI (aY q nD)];exact q⟩⟩
   have I5:Inv X pins Z (upd H3 D (.lst vs)) s4:=I.call' I4.os u1 (I4.hok.track nD hvl rv gD) I4.bare λb hb=>⟨(ff b hb).2.2.2.1,(ff b hb).2.1,(ff b hb).2.2.2.2.1,(ff b hb).2.2.2.2.2⟩
   exact hRR D C s4 _ I5 ⟨m',hm'⟩ (fpC _ (by rw[aI (Ne.symm hDC)];exact hC4)) (qn D nD)
  ·refine thn (T.item X' rfl rfl rfl hc i _ s3 σ3 H3 (λ_ _=>False) I3 (stat fr3) st3 go) λr s4 ⟨u,hr,h4⟩=>?_
   subst hr;refine thn h4 λ_ s5 ⟨x,H5,I5,r5,y5,st5,fr5⟩=>?_
   have I5':=I5.pinned (stat fr5) (T.obj _ _ st5);refine thn (hg C _ s5 σ3 H5 x u _ I5' r5 (step x H5 y5)) λ_ s6 ⟨σ6,H6,I6,q6⟩=>?_
   refine thn (ht C _ s6 σ6 H6 _ I6 q6) λok s7 ⟨H7,I7,q7⟩=>?_
   have unpin:∀{σ' H' s'},Inv X' ([(D,lobj ys kk)]++oE fp s5.heap) σ' H' s'->Inv X' [(D,lobj ys kk)] σ' H' s'/\tn (i+1) s'.heap/\∀b∈fp,H' b=none:=λ{σ' H' s'} J =>
    ⟨J.unpinned,T.keep _ _ _ st5 λb hb o e=>(J.pin (b,o) (ic _ (ic _ (hJ hb e)))).1,λb hb=>by
     obtain⟨o,e,d⟩:=T.obj _ _ st5 b hb
     exact(J.pin (b,o) (ic _ (ic _ (hJ hb e)))).2.1⟩
   cases ok with
   | false =>
    rw[ac ug];rw[ac ug]at q7;obtain⟨m',hm',w7⟩:=q7;obtain⟨J1,J2,J3⟩:=unpin I7;exact⟨m',hm',i+1,vs,ys,kk,σ6,H7,J1,J2,J3,rv,w7⟩
   | true =>
    rw[ak rfl];rw[ak rfl]at q7;refine thn (he C _ s7 σ6 H7 _ I7 q7) λuy s8 ⟨y,H8,I8,r8,m',hm',w8⟩=>?_
    obtain⟨J1,J2,J3⟩:=unpin I8;obtain⟨gD,nD⟩:=pinD J1;refine append_at (hsz:=by show ys.toArray.size<=sizeLine;rw[be,<-rv.length];exact hvl) gD λh9 hs9 hD9=>?_
    have J1':Inv X' [] σ6 H8 s8:=J1.pins_of λp hp=>nomatch hp
    have J9:Inv X' [] σ6 H8 { s8 with heap:=h9 }:=J1'.turned (t':=s8.toks) (it:=D) (λb o hb e=>hs9.extBut b o hb e) nD hDC (.inr (by show s2.heap.objs.size<=D;rw[hDe];exact au _)) (λx c e=>bj (cellLt x c e)) λp hp=>nomatch hp
    have eo:({ cls:=.type "list",data:=.seq (ys.toArray.push uy) (kk+1) }:Obj)=lobj (ys++[uy]) (kk+1):=by
     unfold lobj;rw[List.push_toArray]
    refine⟨m',hm',i+1,vs++[y],ys++[uy],kk+1,σ6,H8,J9.pins_of λp hp=>?_,T.keep _ _ _ J2 λb hb o e=>hs9.extBut b o (bj (hfpD b hb)) e,J3,rv.append (.cons r8 .nil),w8⟩;have ep:p=(D,lobj (ys++[uy]) (kk+1)):=by simpa using hp
    subst ep;exact⟨by show h9.get? D=_;rw[hD9,eo],nD,hDC,nofr D (au _),λv z=>nomatch z⟩
 exact codeAny_compStart_list (loop _ rfl) (T.self _ 0 _ _ _ (T.keep _ _ _ st λb _ o e=>old b o e) (loop _ rfl))
end
section
theorem yt{wi:TI}
  (hc:X.calm=true) (S:CompOk X N' k scope) (hcells:∀x∈scope.names,x.2=.free->∃c,X.env.cells.lookup x.1=some c) (hi:PI X tg iter wi)
  (hg:∀cl s H fp C,PG (bw X N' scope cl s H fp C) tg g) (ht:∀cl s H fp C,PTs (bw X N' scope cl s H fp C) ifs tc) (he:∀cl s H fp C,PE (bw X N' scope cl s H fp C) elt te)
  (hs:∀x,foldedSetIterable iter X.env x=pure x:=by intro _;rfl) :
  PE X (.ListComp elt [⟨tg,iter,ifs,0⟩] scope pos) (xT wi k g tc te):=by
 intro pins s Z H Q I h;obtain⟨cl,hclos,h1,h2⟩:=pN (env:=X.env) (scope:=scope) hcells;rw[eval_ListComp];refine wpAny_comprehension_free (use:=none) rfl hs hclos S.kind S.names (thn (hi pins s Z H _ I h) λxv s1 h1'=>thn h1' λitv s2 h2'=>?_);obtain⟨it,fp,tn,J,H2,e,I2,T,st2,f2,rd⟩:=h2';subst e;refine rB hc S h1 h2 I2 T st2 f2 (λC=>hg _ _ _ _ C) (λC=>ht _ _ _ _ C) (λC=>he _ _ _ _ C) rd λD C s' H' I' ⟨m,hm⟩ fC q=>?_
 refine⟨m,hm,λh' hs'=>⟨.ref D,H',?_,rfl,q⟩⟩;exact I'.turned (t':=s'.toks) (it:=C) (λb o hb e=>hs'.extBut b o hb e) fC.1 fC.2.1 fC.2.2.2.1 fC.2.2.2.2.1 fC.2.2.2.2.2
def wn{pos' spos:Pos}{i:Nat}{y:Str}{wi:TI}
  (hN:X.N.Nodup) (hy:X.N[i]? = some y) (hly:Loc X.env.scope y) (hfn:X.fn y=true\/X.env.scope.names.lookup y=some .local)
  (hc:X.calm=true) (S:CompOk X N' k scope) (hcells:∀x∈scope.names,x.2=.free->∃c,X.env.cells.lookup x.1=some c) (hi:PI X tg iter wi)
  (hg:∀cl s H fp C,PG (bw X N' scope cl s H fp C) tg g) (ht:∀cl s H fp C,PTs (bw X N' scope cl s H fp C) ifs tc) (he:∀cl s H fp C,PE (bw X N' scope cl s H fp C) elt te)
  (hsw:swapsWith (.ListComp elt [⟨tg,iter,ifs,0⟩] scope pos) (some (.Name y pos')) spos.line X.env=pure true)
  (hs:∀x,foldedSetIterable iter X.env x=pure x:=by intro _;rfl) :
  PS X (.Assign [.Name y pos'] (.ListComp elt [⟨tg,iter,ifs,0⟩] scope pos) spos) (Fu (xT wi k g tc te) (yX i)):=by
 intro pins s Z H D₀ I h;obtain⟨cl,hclos,h1,h2⟩:=pN (env:=X.env) (scope:=scope) hcells;rw[exec_Assign_Name_used _ _ _ _ hsw];refine zza (Ba (zza ?_));show wpAny _ X.A (do let _ <-comprehension (.ListComp elt [⟨tg,iter,ifs,0⟩] scope pos) scope X.env _ (newList []) false (eval iter X.env) (some (assign (.Name y pos') X.env))) _ _ s
 refine zza (li (wpAny_comprehension_free (use:=some (assign (.Name y pos') X.env)) (Q:=λ_ s'=>SP X pins D₀ .next s') rfl hs hclos S.kind S.names
  (thn (hi pins s Z H _ I h) λxv s1 h1'=>thn h1' λitv s2 h2'=>?_)) (λ_ s' hq=>zzb (zzb hq)) λ_ _ e=>e)
 obtain⟨it,fp,tn,J,H2,e,I2,T,st2,f2,rd⟩:=h2';subst e;refine rB (Q:=λx H1=>yX i x Z H1 D₀.nx) hc S h1 h2 I2 T st2 f2 (λC=>hg _ _ _ _ C) (λC=>ht _ _ _ _ C) (λC=>he _ _ _ _ C) rd λD C s' H' I' ⟨m,hm⟩ fC q=>?_
 show wpAny _ X.A (assign (.Name y pos') X.env (.ref D)) _ _ _;refine wpAny_assign_Name (qL I' hN hy hly (show RelV (.ref D) (.ref D)from rfl) (λs'' I'' ⟨a,hsb,ha⟩=>?_) hfn);have hCa:C≠a:=by
  rcases ha with rfl|ha
  ·exact fC.2.1
  ·exact λz=>fC.2.2.2.2.1 y a ha z.symm
 refine⟨m,hm.sameBut hsb hCa,λh' hs'=>⟨_,H',?_,q⟩⟩;exact I''.turned (t':=s''.toks) (it:=C) (λb o hb e=>hs'.extBut b o hb e) fC.1 fC.2.1 fC.2.2.2.1 fC.2.2.2.2.1 fC.2.2.2.2.2
end
end L2
namespace L4
open PySem PySem.Spec PyProof.Rows L2 PySem.W
def XO(e C:Addr)(dd:Option Addr):Heap->Prop:=λh=>∃oe,h.get? e=some oe/\oe.cls=.ref C/\oe.dict=dd/\PySem.W.notCls oe=true
def XD(dx:Addr)(fs:List (Str×V)):Heap->Prop:=λh=>∃mA,h.Ns1 dx mA/\PySem.Within mA (fs.map (·.1))/\∀f,RelO (fs.lookup f) (mA f)
abbrev bmV:List Value:=[.type "ValueError",.type "Exception",.type "BaseException",.type "object"]
structure XC(K:Frag)(C D fI:Addr):Prop where
 obj:∃nm q N bs sn sub ab col dd k0 k1 k2 k3 k5,K.lookup C=some (excClassObj nm q C N bs (.ref D::bmV) true sn sub ab col dd k0 k1 k2 k3 k5 "ValueError.__new__")
 tl:tailIn K bmV (.ref D::bmV)=true
 ini:findIn K (.ref C) "__init__" = some (some (.ref fI))
 fn:typeIn K (.ref fI)=some (.type "function")
 sa:findIn K (.ref C) "__setattr__" = some (some (.builtin "object.__setattr__"))
 ga:findIn K (.ref C) "__getattribute__" = some (some (.builtin "BaseException.__getattribute__"))
 gr:findIn K (.ref C) "__getattr__" = some none
structure KC(K:Frag)(C:Addr):Prop where
 ha:findIn K (.ref C) "__class__" = some (some (.builtin "object.__class__"))
 hn:specialIn K (.builtin "object.__class__") "__get__" = some (some (.builtin "getset_descriptor.__get__"))
 htk:takesIn K (.builtin "object.__class__")=some true
def Fq(T:String):Bool:=T == "bool" || T == "int" || T == "str" || T == "list" || T == "tuple" || T == "dict"
structure XQ(K:Frag)(C:Addr)(x:Str):Prop where
 ns:nsIn K mainGlobals x=some (some (.ref C))
 xc:∃D fI,XC K C D fI
 kc:KC K C
 no:∀T,Fq T=true->kitOne K (.ref C) (.type T)=some false
def FX(F:Hp)(dd:Option Addr)(fv:List (Str×V)):Prop:=(dd=none/\fv=[])\/∃dx,dd=some dx/\F dx=some (.ext (XD dx fv))
def FX.mono{F F':Hp}{dd:Option Addr}{fv:List (Str×V)}(e:Same F F')(h:FX F dd fv):FX F' dd fv:=h.imp id λ⟨dx,h1,h2⟩=>⟨dx,h1,e _ _ h2⟩
end L4
namespace L3
open PySem PySem.Spec PyProof.Rows L2
variable {F H F':Hp}{v:V}{vs:List V}{a p:Addr}{o:HO}{Z:L2.St}
abbrev D:=PyData
abbrev Fg:=PySem.W.Frag
def keyD:Key->D
 | .inl i=>.int i
 | .inr x=>.str x
def GH(k:List Key):D:=.tuple (k.map keyD)
mutual
inductive Rep(K:Fg)(F:Hp):V->D->Prop
 | non:Rep K F .non .none
 | bl (b):Rep K F (.bl b) (.bool b)
 | int (i):Rep K F (.int i) (.int i)
 | str (x):Rep K F (.str x) (.str x)
 | tup {a vs ds}:F a=some (.tup vs)->RepL K F vs ds->Rep K F (.ref a) (.tuple ds)
 | lst {a vs ds}:SqL K F a vs->RepL K F vs ds->Rep K F (.ref a) (.list ds)
 | dct {a kvs es}:F a=some (.dT kvs)->es.map (·.1)=kvs.map (λp=>GH p.1)->RepL K F (kvs.map (·.2)) (es.map (·.2))->Rep K F (.ref a) (.dict es)
 | dck {a kvs es}:F a=some (.dK kvs)->es.map (·.1)=kvs.map (λp=>keyD p.1)->RepL K F (kvs.map (·.2)) (es.map (·.2))->Rep K F (.ref a) (.dict es)
 | exc {a C dd cl fv es}:F a=some (.ext (L4.XO a C dd))->L4.XQ K C cl->L4.FX F dd fv->es.map (·.1)=fv.map (λp=>.str p.1)->RepL K F (fv.map (·.2)) (es.map (·.2))->Rep K F (.ref a) (.dict ((.none,.str cl)::es))
 | fn {a f}:PySem.W.nsIn K mainGlobals f=some (some (.ref a))->Rep K F (.ref a) (.dict [(.bool true,.str f)])
inductive RepL(K:Fg)(F:Hp):List V->List D->Prop
 | nil:RepL K F [] []
 | cons {v d vs ds}:Rep K F v d->RepL K F vs ds->RepL K F (v::vs) (d::ds)
end
def gG{K:Fg}{xs:List V}(e:Same F F')(h:SqT K F a xs):SqT K F' a xs:=by
 rcases h with (h|⟨o,h⟩)|h
 ·exact .inl (.inl (e _ _ h))
 ·exact .inl (.inr ⟨o,e _ _ h⟩)
 ·exact .inr h
def Rep.mono{K:Fg}(e:Same F F'){d:D}(h:Rep K F v d):Rep K F' v d :=
 Rep.rec (motive_1:=λv d _=>Rep K F' v d) (motive_2:=λvs ds _=>RepL K F' vs ds) .non .bl .int .str (λh _ r=>.tup (e _ _ h) r) (λh _ r=>.lst (e.seq h) r) (λh k _ r=>.dct (e _ _ h) k r) (λh k _ r=>.dck (e _ _ h) k r) (λh q f k _ r=>.exc (e _ _ h) q (f.mono e) k r) (λh=>.fn h) .nil (λ_ _ a b=>.cons a b) h
def RepL.mono{K:Fg}(e:Same F F'){ds:List D}(h:RepL K F vs ds):RepL K F' vs ds:=by
 induction vs generalizing ds with
 | nil=>cases h;exact .nil
 | cons v vs ih=>cases h with
  | cons a b=>exact .cons (a.mono e) (ih b)
def HQ(K:Fg)(F:Hp):D->V->Prop
 | .none,v=>v=.non
 | .bool b,v=>v=.bl b
 | .int i,v=>v=.int i
 | .str x,v=>v=.str x
 | .tuple ds,v=>∃a vs,v=.ref a/\F a=some (.tup vs)/\RepL K F vs ds
 | .list ds,v=>∃a vs,v=.ref a/\SqL K F a vs/\RepL K F vs ds
 | _,_=>True
def Rep.inv{K:Fg}{d:D}(h:Rep K F v d):HQ K F d v :=
 Rep.casesOn (motive_1:=λv d _=>HQ K F d v) h rfl (λ_=>rfl) (λ_=>rfl) (λ_=>rfl) (λh r=>⟨_,_,rfl,h,r⟩) (λh r=>⟨_,_,rfl,h,r⟩) (λ_ _ _=>True.intro) (λ_ _ _=>True.intro) (λ_ _ _ _ _=>True.intro) (λ_=>True.intro)
def Rep.int_inv{K:Fg}{i:Int}(h:Rep K F v (.int i)):v=.int i:=h.inv
def Rep.bool_inv{K:Fg}{i:Bool}(h:Rep K F v (.bool i)):v=.bl i:=h.inv
def Rep.str_inv{K:Fg}{i:Str}(h:Rep K F v (.str i)):v=.str i:=h.inv
def Rep.tup_inv{K:Fg}{ds:List D}(h:Rep K F v (.tuple ds)):∃a vs,v=.ref a/\F a=some (.tup vs)/\RepL K F vs ds:=h.inv
def Rep.lst_inv{K:Fg}{ds:List D}(h:Rep K F v (.list ds)):∃a vs,v=.ref a/\SqL K F a vs/\RepL K F vs ds:=h.inv
def EF(K:Fg)(F:Hp):List D->List V->Prop
 | [],vs=>vs=[]
 | d::ds,vs=>∃v us,vs=v::us/\Rep K F v d/\RepL K F us ds
def RepL.inv{K:Fg}{ds:List D}(h:RepL K F vs ds):EF K F ds vs :=
 RepL.casesOn (motive_2:=λvs ds _=>EF K F ds vs) h rfl (λa b=>⟨_,_,rfl,a,b⟩)
def RepL.one_inv{K:Fg}{d:D}(h:RepL K F vs [d]):∃v,vs=[v]/\Rep K F v d:=by
 obtain⟨v,us,rfl,a,b⟩:=(h.inv:∃v us,vs=v::us/\Rep K F v d/\RepL K F us []);obtain rfl:us=[]:=b.inv;exact⟨v,rfl,a⟩
def RepL.two_inv{K:Fg}{d e:D}(h:RepL K F vs [d,e]):∃v u,vs=[v,u]/\Rep K F v d/\Rep K F u e:=by
 obtain⟨v,us,rfl,a,b⟩:=(h.inv:∃v us,vs=v::us/\Rep K F v d/\RepL K F us [e]);obtain⟨u,rfl,c⟩:=b.one_inv;exact⟨v,u,rfl,a,c⟩
def RepL.length{K:Fg}:∀{vs ds},RepL K F vs ds->vs.length=ds.length
 | _,_,.nil=>rfl
 | _,_,.cons _ r=>by simp[RepL.length r]
def RepL.get{K:Fg}:∀{vs ds} {i:Nat} {d:D},RepL K F vs ds->ds[i]? = some d->∃v,vs[i]? = some v/\Rep K F v d
 | _,_,_,_,.nil,e=>by simp at e
 | _,_,0,_,.cons h _,e=>by simp at e;subst e;exact⟨_,rfl,h⟩
 | _,_,i+1,d,.cons _ r,e=>by
  obtain⟨v,h1,h2⟩:=RepL.get (i:=i) (d:=d) r (by simpa using e);exact⟨v,by simpa using h1,h2⟩
def RepL.append{K:Fg}{ds:List D}{us:List V}{es:List D}(h:RepL K F vs ds)(s:RepL K F us es):RepL K F (vs++us) (ds++es):=by
 induction vs generalizing ds with
 | nil=>cases h;exact s
 | cons v vs ih=>cases h with
  | cons a b=>exact .cons a (ih b)
def RepL.take{K:Fg}:∀{vs ds} (n:Nat),RepL K F vs ds->RepL K F (vs.take n) (ds.take n)
 | _,_,0,_=>.nil
 | _,_,_+1,.nil=>.nil
 | _,_,n+1,.cons h r=>.cons h (RepL.take n r)
def RepL.drop{K:Fg}:∀{vs ds} (n:Nat),RepL K F vs ds->RepL K F (vs.drop n) (ds.drop n)
 | _,_,0,r=>r
 | _,_,_+1,.nil=>.nil
 | _,_,n+1,.cons _ r=>RepL.drop n r
def RepL.set{K:Fg}{d:D}(h:Rep K F v d):∀{vs ds} (i:Nat),RepL K F vs ds->RepL K F (vs.set i v) (ds.set i d)
 | _,_,_,.nil=>.nil
 | _,_,0,.cons _ r=>.cons h r
 | _,_,i+1,.cons q r=>.cons q (RepL.set h i r)
def RepL.ints{K:Fg}:∀(ns:List Int),RepL K F (ns.map V.int) (ns.map PyData.int)
 | []=>.nil
 | n::r=>.cons (.int n) (RepL.ints r)
section
variable {X:Cx} {pins:zzk} {s:Shared}
def qS{u:List Value}(r:Vals [] u):∃as,ReadsAll s.heap u [] as:=by cases r;exact⟨_,.nil⟩
def og{d:D}{ds:List D}(h:d.canLay0=true->∀{u},RelV v u->∃as,Reads s.heap u d as)(t:PyData.canLayAll0 ds=true->∀{us},Vals vs us->∃as,ReadsAll s.heap us ds as)(c:PyData.canLayAll0 (d::ds)=true){us:List Value}(r:Vals (v::vs) us):∃as,ReadsAll s.heap us (d::ds) as:=by
 simp only[PyData.canLayAll0,ai]at c
 cases r with
 | cons r rr =>
  obtain⟨as,ra⟩:=h c.1 r;obtain⟨bs,rb⟩:=t c.2 rr;exact⟨_,.cons ra rb⟩
def zK(I:Inv X pins Z H s){ds:List D}(hq:H a=some (.tup vs))(ih:PyData.canLayAll0 ds=true->∀{us},Vals vs us->∃as,ReadsAll s.heap us ds as)(c:(PyData.tuple ds).canLay0=true){u:Value}(r:RelV (.ref a) u):∃as,Reads s.heap u (.tuple ds) as:=by
 cases r
 obtain⟨its,rv,⟨o,e1,e2,n',e3⟩,hz⟩:=I.tuple (SqT.of hq);obtain⟨as,ra⟩:=ih (by simpa[PyData.canLay0]using c) rv;exact⟨_,.tuple e1 e2 e3 (by simpa using ra)⟩
def zL(I:Inv X pins Z H s){ds:List D}(hq:SqL X.K H a vs)(ih:PyData.canLayAll0 ds=true->∀{us},Vals vs us->∃as,ReadsAll s.heap us ds as)(c:(PyData.list ds).canLay0=true){u:Value}(r:RelV (.ref a) u):∃as,Reads s.heap u (.list ds) as:=by
 cases r
 obtain⟨its,rv,⟨o,n',e1,e2,e3,e4⟩,hz⟩:=I.list hq;obtain⟨as,ra⟩:=ih (by simpa[PyData.canLay0]using c) rv;exact⟨_,.list e1 e2 e4 (by simpa using ra)⟩
def js{es:List (D×D)}{P:Prop}(c:(PyData.dict es).canLay0=true):P:=by simp[PyData.canLay0]at c
def A4(I:Inv X pins Z H s){d:D}(h:Rep X.K H v d):d.canLay0=true->∀{u},RelV v u->∃as,Reads s.heap u d as :=
 Rep.rec (motive_1:=λv d _=>d.canLay0=true->∀{u},RelV v u->∃as,Reads s.heap u d as) (motive_2:=λvs ds _=>PyData.canLayAll0 ds=true->∀{us},Vals vs us->∃as,ReadsAll s.heap us ds as)
  (λ_ {_} r=>by cases r;exact⟨_,.none⟩) (λb _ {_} r=>by cases r;exact⟨_,.bool b⟩) (λi _ {_} r=>by obtain⟨t,rfl⟩:=r;exact⟨_,.int i t⟩) (λx _ {_} r=>by obtain⟨t,rfl⟩:=r;exact⟨_,.str x t⟩)
  (λhq _ ih=>zK I hq ih) (λhq _ ih=>zL I hq ih) (λ_ _ _ _ c=>js c) (λ_ _ _ _ c=>js c) (λ_ _ _ _ _ _ c=>js c) (λ_ c=>js c)
  (λ_ {_} r=>qS r) (λ_ _ a b=>og a b) h
def FM(I:Inv X pins Z H s){ds:List D}(h:RepL X.K H vs ds):PyData.canLayAll0 ds=true->∀{us},Vals vs us->∃as,ReadsAll s.heap us ds as:=by
 induction vs generalizing ds with
 | nil=>cases h;exact λ_ _ r=>qS r
 | cons v vs ih=>cases h with
  | cons a b=>exact og (A4 I a) (ih b)
end
def bW{X:Cx}{pins:zzk}{s:Shared}(I:Inv X pins Z H s) :
  (∀{v d},Rep X.K H v d->d.canLay0=true->∀{u},RelV v u->∃as,Reads s.heap u d as)/\(∀{vs ds},RepL X.K H vs ds->PyData.canLayAll0 ds=true->∀{us},Vals vs us->∃as,ReadsAll s.heap us ds as) :=
 ⟨λ{v d} h c {u} r=>A4 I h c r,λ{vs ds} h c {us} r=>FM I h c r⟩
def DJ:List (D×D)->Bool
 | (.none,_)::_=>true
 | (.bool _,_)::_=>true
 | _=>false
inductive OC where
 | l (ds:List D)
 | t (es:List (D×D))
 | k (es:List (D×D))
 | i (x:Str) (ns:List Str) (ds:List D)
def OC.isI:OC->Bool
 | .i _ _ _=>true
 | _=>false
inductive AV where
 | fz (d:D)
 | ol (c:OC)
 | op (c:OC)
abbrev En:=List (Option AV)
inductive RV where
 | fz (d:D)
 | fr (c:OC)
 | bor (i:Nat)
def Aq:HO->Prop
 | .tup _=>False
 | .ext _=>False
 | _=>True
structure Gh where
 P:Nat->Option Addr
 O:Hp
 B:Hp
def Held(K:Fg)(F H:Hp)(a:Addr):OC->Prop
 | .l ds=>∃vs,H a=some (.lst vs)/\RepL K F vs ds
 | .t es=>∃kvs,H a=some (.dT kvs)/\es.map (·.1)=kvs.map (λp=>GH p.1)/\RepL K F (kvs.map (·.2)) (es.map (·.2))
 | .k es=>∃kvs,H a=some (.dK kvs)/\es.map (·.1)=kvs.map (λp=>keyD p.1)/\RepL K F (kvs.map (·.2)) (es.map (·.2))
 | .i x ns ds=>∃C dx fs,H a=some (.ins C dx fs)/\PySem.W.nsIn K mainGlobals x=some (some (.ref C))/\fs.map (·.1)=ns/\RepL K F (fs.map (·.2)) ds
structure OwnAt(K:Fg)(G:Gh)(F H:Hp)(a:Addr)(c:OC):Prop where
 nf:F a=none
 no:G.O a=none
 he:Held K F H a c
def own(ρ:En)(i:Nat)(c:OC):Prop:=ρ[i]? = some (some (.ol c))\/ρ[i]? = some (some (.op c))
structure StOk(K:Fg)(G:Gh)(F:Hp)(Z:L2.St)(H:Hp)(ρ:En):Prop where
 fh:Same F H
 oh:Same G.O H
 fo:∀b o,G.O b=some o->F b=none/\Aq o
 ln:Z.length=ρ.length
 fz:∀(i:Nat) (d:D),ρ[i]? = some (some (AV.fz d))->∃v,Z[i]? = some (some v)/\Rep K F v d
 ow:∀(i:Nat) (c:OC),own ρ i c->∃a:Addr,Z[i]? = some (some (V.ref a))/\OwnAt K G F H a c
 dj:∀(i j:Nat) (c e:OC) (a:Addr),own ρ i c->own ρ j e->Z[i]? = some (some (V.ref a))->Z[j]? = some (some (V.ref a))->i=j
 pp:∀(i:Nat) (a:Addr),G.P i=some a->Z[i]? = some (some (V.ref a))/\∃c,ρ[i]? = some (some (AV.op c))
 pq:∀(i:Nat) (c:OC),ρ[i]? = some (some (AV.op c))->∃a,G.P i=some a
 fb:Same G.B F
def RVR(K:Fg)(G:Gh)(F:Hp)(Z:L2.St)(H:Hp)(ρ:En)(v:V):RV->Prop
 | .fz d=>Rep K F v d
 | .fr c=>∃a,v=.ref a/\OwnAt K G F H a c/\∀(i:Nat) (e:OC),own ρ i e->Z[i]? ≠ some (some (V.ref a))
 | .bor i=>∃c,own ρ i c/\Z[i]? = some (some v)
def Held.mono{K:Fg}{c:OC}(e:Same F F')(h:Held K F H a c):Held K F' H a c:=by
 cases c with
 | l ds=>obtain⟨vs,h1,h2⟩:=h;exact⟨vs,h1,h2.mono e⟩
 | t es=>obtain⟨vs,h1,h2,h3⟩:=h;exact⟨vs,h1,h2,h3.mono e⟩
 | k es=>obtain⟨vs,h1,h2,h3⟩:=h;exact⟨vs,h1,h2,h3.mono e⟩
 | i x ns ds=>obtain⟨C,dx,fs,h1,h2,h3,h4⟩:=h;exact⟨C,dx,fs,h1,h2,h3,h4.mono e⟩
def Held.some{K:Fg}{c:OC}(h:Held K F H a c):∃o,H a=some o:=by
 cases c with
 | l ds=>obtain⟨vs,h1,h2⟩:=h;exact⟨_,h1⟩
 | t es=>obtain⟨vs,h1,h2⟩:=h;exact⟨_,h1⟩
 | k es=>obtain⟨vs,h1,h2⟩:=h;exact⟨_,h1⟩
 | i x ns ds=>obtain⟨C,dx,fs,h1,_⟩:=h;exact⟨_,h1⟩
def Held.at{K:Fg}{H':Hp}{c:OC}(h:Held K F H a c)(e:H' a=H a):Held K F H' a c:=by
 cases c with
 | l ds=>obtain⟨vs,h1,h2⟩:=h;exact⟨vs,e.trans h1,h2⟩
 | t es=>obtain⟨vs,h1,h2⟩:=h;exact⟨vs,e.trans h1,h2⟩
 | k es=>obtain⟨vs,h1,h2⟩:=h;exact⟨vs,e.trans h1,h2⟩
 | i x ns ds=>obtain⟨C,dx,fs,h1,h2⟩:=h;exact⟨C,dx,fs,e.trans h1,h2⟩
def eP(h:F p=none):Same F (upd F p o):=λb u e=>by
 rw[aI (aY e h)];exact e
def jr(s:Same F H)(h:F p=none):Same F (upd H p o):=λb u e=>by
 rw[aI (aY e h)];exact s b u e
section
variable {K:Fg} {G:Gh} {ρ:En}
def StOk.lay(S:StOk K G F Z H ρ)(hp:H p=none):StOk K G F Z (upd H p o) ρ:=by
 have fp:F p=none:=S.fh.free hp;have op:G.O p=none:=S.oh.free hp;refine⟨jr S.fh fp,jr S.oh op,S.fo,S.ln,S.fz,λi c h=>?_,S.dj,S.pp,S.pq,S.fb⟩;obtain⟨a,e,oa⟩:=S.ow i c h;refine⟨a,e,oa.nf,oa.no,oa.he.at ?_⟩;obtain⟨u,hu⟩:=oa.he.some;exact aI (aY hu hp)
def StOk.fresh_ne(S:StOk K G F Z H ρ)(hp:H p=none):∀(i:Nat) (e:OC),own ρ i e->Z[i]? ≠ some (some (V.ref p)):=λi e h q=>by
 obtain⟨a,e1,oa⟩:=S.ow i e h;rw[e1]at q;injection q with q;injection q with q;injection q with q;subst q;obtain⟨u,hu⟩:=oa.he.some;rw[hp]at hu;cases hu
def StOk.freeze(S:StOk K G F Z H ρ)(ha:H a=some o)(fa:F a=none)(oa:G.O a=none)(ne:∀(i:Nat) (e:OC),own ρ i e->Z[i]? ≠ some (some (V.ref a))):StOk K G (upd F a o) Z H ρ:=by
 have sm:Same F (upd F a o):=eP fa;refine⟨λb u e=>?_,S.oh,λb u e=>?_,S.ln,λi d h=>?_,λi c h=>?_,S.dj,S.pp,S.pq,S.fb.trans sm⟩
 ·by_cases hb:b=a
  ·subst hb;rw[aT]at e;cases e;exact ha
  ·rw[aI hb]at e;exact S.fh b u e
 ·rw[aI (aY e oa)];exact S.fo b u e
 ·obtain⟨v,e,r⟩:=S.fz i d h;exact⟨v,e,r.mono sm⟩
 ·obtain⟨b,e,ob⟩:=S.ow i c h;refine⟨b,e,?_,ob.no,ob.he.mono sm⟩;rw[aI (λz=>ne i c h (by rw[e,z]))];exact ob.nf
def StOk.newTup(S:StOk K G F Z H ρ){ds:List D}(hp:H p=none)(r:RepL K F vs ds) :
  Same F (upd F p (.tup vs))/\StOk K G (upd F p (.tup vs)) Z (upd H p (.tup vs)) ρ/\Rep K (upd F p (.tup vs)) (.ref p) (.tuple ds):=by
 have fp:F p=none:=S.fh.free hp;refine⟨eP fp,(S.lay hp).freeze aT fp (S.oh.free hp) (S.fresh_ne hp),?_⟩;exact .tup aT (r.mono (eP fp))
def StOk.newLst(S:StOk K G F Z H ρ){ds:List D}(hp:H p=none)(r:RepL K F vs ds) :
  StOk K G F Z (upd H p (.lst vs)) ρ/\RVR K G F Z (upd H p (.lst vs)) ρ (.ref p) (.fr (.l ds)) :=
 ⟨S.lay hp,p,rfl,⟨S.fh.free hp,S.oh.free hp,vs,aT,r⟩,S.fresh_ne hp⟩
def StOk.settle(S:StOk K G F Z H ρ){ds:List D}(r:RVR K G F Z H ρ v (.fr (.l ds))) :
  ∃F',Same F F'/\StOk K G F' Z H ρ/\Rep K F' v (.list ds):=by
 obtain⟨a,rfl,oa,ne⟩:=r;obtain⟨vs,h1,h2⟩:=oa.he;exact⟨upd F a (.lst vs),eP oa.nf,S.freeze h1 oa.nf oa.no ne,.lst (.inl (.inl aT)) (h2.mono (eP oa.nf))⟩
def m9{α:Type}(l:List α)(i:Nat)(x y:α)(h:l[i]? = some y):(l.set i x)[i]? = some x:=by
 rw[gn (List.getElem?_eq_some_iff.mp h).1]
def OC.d:OC->D
 | .l ds=>.list ds
 | .t es=>.dict es
 | .k es=>.dict es
 | .i _ _ _=>.none
def yU{c:OC}(hI:c.isI=false)(h:Held K F H a c):∃o,H a=some o/\∀F',Same F F'->F' a=some o->Rep K F' (.ref a) c.d:=by
 cases c with
 | l ds=>obtain⟨vs,h1,h2⟩:=h;exact⟨_,h1,λF' s e=>.lst (.inl (.inl e)) (h2.mono s)⟩
 | t es=>obtain⟨vs,h1,h2,h3⟩:=h;exact⟨_,h1,λF' s e=>.dct e h2 (h3.mono s)⟩
 | k es=>obtain⟨vs,h1,h2,h3⟩:=h;exact⟨_,h1,λF' s e=>.dck e h2 (h3.mono s)⟩
 | i x ns ds=>cases hI
def StOk.settleE(S:StOk K G F Z H ρ){i:Nat}{oc:OC}(hI:oc.isI=false)(hi:ρ[i]? = some (some (.ol oc)))(hv:Z[i]? = some (some v)) :
  ∃F',Same F F'/\StOk K G F' Z H (ρ.set i (some (.fz oc.d)))/\Rep K F' v oc.d/\∀b,v=.ref b->F' b=H b:=by
 obtain⟨a,e,oa⟩:=S.ow i _ (.inl hi);rw[hv]at e;injection e with e;injection e with e;subst e;obtain⟨vo,h1,hrep⟩:=yU hI oa.he;have sm:Same F (upd F a vo):=eP oa.nf;have rp:Rep K (upd F a vo) (.ref a) oc.d:=hrep _ sm aT;have ne:∀j,j≠i->(ρ.set i (some (.fz oc.d)))[j]? = ρ[j]?:=λj hj=>eE (Ne.symm hj)
 have at_i:(ρ.set i (some (.fz oc.d)))[i]? = some (some (.fz oc.d)):=m9 _ _ _ _ hi;have ownj:∀j c,own (ρ.set i (some (.fz oc.d))) j c->j≠i/\own ρ j c:=λj c h=>by
  have hj:j≠i:=by
   rintro rfl;rcases h with h|h<;>(rw[at_i]at h;cases h)
  refine⟨hj,?_⟩;rcases h with h|h
  ·exact .inl (by rw[<-ne j hj];exact h)
  ·exact .inr (by rw[<-ne j hj];exact h)
 refine⟨upd F a vo,sm,⟨λb u e=>?_,S.oh,λb u e=>?_,by simpa using S.ln,λj d h=>?_,λj c h=>?_,λj k c e b h1 h2=>S.dj j k c e b (ownj j c h1).2 (ownj k e h2).2,λj b h=>?_,λj c h=>?_,S.fb.trans sm⟩,rp,λb e=>by cases e;rw[aT,h1]⟩
 ·by_cases hb:b=a
  ·subst hb;rw[aT]at e;cases e;exact h1
  ·rw[aI hb]at e;exact S.fh b u e
 ·rw[aI (aY e oa.no)];exact S.fo b u e
 ·by_cases hj:j=i
  ·subst hj;rw[at_i]at h
   cases h
   exact⟨_,hv,rp⟩
  ·rw[ne j hj]at h;obtain⟨w,e,r⟩:=S.fz j d h;exact⟨w,e,r.mono sm⟩
 ·obtain⟨hj,h'⟩:=ownj j c h;obtain⟨b,e,ob⟩:=S.ow j c h';refine⟨b,e,?_,ob.no,ob.he.mono sm⟩;rw[aI (λz=>hj (S.dj j i _ _ a h' (.inl hi) (by rw[e,z]) hv))];exact ob.nf
 ·obtain⟨q,c,q'⟩:=S.pp j b h;refine⟨q,c,?_⟩;have hj:j≠i:=by rintro rfl;rw[hi]at q';cases q'
  rw[ne j hj];exact q'
 ·have hj:j≠i:=by rintro rfl;rw[at_i]at h;cases h
  rw[ne j hj]at h;exact S.pq j c h
def StOk.settleC(S:StOk K G F Z H ρ){i:Nat}{oc:OC}(hI:oc.isI=false)(hi:ρ[i]? = some (some (.ol oc)))(hv:Z[i]? = some (some v)) :
  ∃F',Same F F'/\StOk K G F' Z H (ρ.set i (some (.fz oc.d)))/\Rep K F' v oc.d:=let ⟨F',a,b,c,_⟩:=S.settleE hI hi hv;⟨F',a,b,c⟩
def StOk.store(S:StOk K G F Z H ρ){j:Nat}{av:AV}(hj:∀c,ρ[j]? ≠ some (some (.op c)))(hl:j<ρ.length)
  (h:(∃d,av=.fz d/\Rep K F v d)\/∃c,av=.ol c/\RVR K G F Z H ρ v (.fr c)):StOk K G F (Z.set j (some v)) H (ρ.set j (some av)):=by
 have hls:j<Z.length:=by rw[S.ln];exact hl
 have ne:∀i,i≠j->(ρ.set j (some av))[i]? = ρ[i]?:=λi hi=>eE (Ne.symm hi)
 have nes:∀i,i≠j->(Z.set j (some v))[i]? = Z[i]?:=λi hi=>eE (Ne.symm hi)
 have atj:(ρ.set j (some av))[j]? = some (some av):=gn hl;have atjs:(Z.set j (some v))[j]? = some (some v):=gn hls;have owni:∀i c,i≠j->own (ρ.set j (some av)) i c->own ρ i c:=λi c hi h=>by
  unfold own at h ⊢;rw[ne i hi]at h;exact h
 refine⟨S.fh,S.oh,S.fo,by simpa using S.ln,λi d q=>?_,λi c q=>?_,λi k c e a q1 q2 e1 e2=>?_,λi a q=>?_,λi c q=>?_,S.fb⟩
 ·by_cases hi:i=j
  ·subst hi;rw[atj]at q;rcases h with ⟨d',rfl,r⟩|⟨c,rfl,_⟩
   ·cases q;exact⟨v,atjs,r⟩
   ·cases q
  ·rw[ne i hi]at q;obtain⟨w,e,r⟩:=S.fz i d q;exact⟨w,by rw[nes i hi];exact e,r⟩
 ·by_cases hi:i=j
  ·subst hi;rcases h with ⟨d',rfl,r⟩|⟨c',rfl,a,rfl,oa,_⟩
   ·rcases q with q|q<;>(rw[atj]at q;cases q)
   ·rcases q with q|q
    ·rw[atj]at q;cases q;exact⟨a,atjs,oa⟩
    ·rw[atj]at q;cases q
  ·obtain⟨a,e,oa⟩:=S.ow i c (owni i c hi q);exact⟨a,by rw[nes i hi];exact e,oa⟩
 ·by_cases hi:i=j
  ·by_cases hk:k=j
   ·rw[hi,hk]
   ·exfalso;subst hi;rw[nes k hk]at e2;rw[atjs]at e1;injection e1 with e1;injection e1 with e1;subst e1;rcases h with ⟨d',rfl,r⟩|⟨c',rfl,a',e,oa,nn⟩
    ·rcases q1 with q|q<;>(rw[atj]at q;cases q)
    ·injection e with e;subst e;exact nn k _ (owni k _ hk q2) e2
  ·by_cases hk:k=j
   ·exfalso;subst hk;rw[nes i hi]at e1;rw[atjs]at e2;injection e2 with e2;injection e2 with e2;subst e2;rcases h with ⟨d',rfl,r⟩|⟨c',rfl,a',e,oa,nn⟩
    ·rcases q2 with q|q<;>(rw[atj]at q;cases q)
    ·injection e with e;subst e;exact nn i _ (owni i _ hi q1) e1
   ·rw[nes i hi]at e1;rw[nes k hk]at e2;exact S.dj i k _ _ a (owni i _ hi q1) (owni k _ hk q2) e1 e2
 ·obtain⟨q1,c,q2⟩:=S.pp i a q;have hi:i≠j:=by rintro rfl;exact hj c q2
  exact⟨by rw[nes i hi];exact q1,c,by rw[ne i hi];exact q2⟩
 ·have hi:i≠j:=by
   rintro rfl;rw[atj]at q;rcases h with ⟨d',rfl,r⟩|⟨c',rfl,_⟩<;>cases q
  rw[ne i hi]at q;exact S.pq i c q
def StOk.change(S:StOk K G F Z H ρ){j:Nat}{c c':OC}(hj:own ρ j c)(ha:Z[j]? = some (some (.ref a)))(hh:Held K F (upd H a o) a c') :
  StOk K G F Z (upd H a o) (ρ.set j ((ρ[j]?.join).map fun | .op _=>.op c'|_=>.ol c')):=by
 obtain⟨b,e,ob⟩:=S.ow j c hj;rw[ha]at e;injection e with e;injection e with e;injection e with e;subst e;have hl:j<ρ.length:=by rcases hj with h|h<;>exact(List.getElem?_eq_some_iff.mp h).1
 generalize hav:((ρ[j]?.join).map λ(x:AV)=>match x with | .op _=>AV.op c'|_=>AV.ol c')=av;have ne:∀i,i≠j->(ρ.set j av)[i]? = ρ[i]?:=λi hi=>eE (Ne.symm hi)
 have atj:(ρ.set j av)[j]? = some av:=gn hl;have owni:∀i e,i≠j->own (ρ.set j av) i e->own ρ i e:=λi c hi h=>by
  unfold own at h ⊢;rw[ne i hi]at h;exact h
 have kind:(ρ[j]? = some (some (.ol c))/\av=some (.ol c'))\/(ρ[j]? = some (some (.op c))/\av=some (.op c')):=by
  rcases hj with h|h
  ·exact .inl ⟨h,by rw[<-hav,h];rfl⟩
  ·exact .inr ⟨h,by rw[<-hav,h];rfl⟩
 have ownj:∀e,own (ρ.set j av) j e->e=c':=λe h=>by
  unfold own at h;rw[atj]at h;rcases kind with ⟨_,k⟩|⟨_,k⟩<;>rw[k]at h<;>rcases h with h|h<;>cases h<;>rfl
 refine⟨jr S.fh ob.nf,jr S.oh ob.no,S.fo,by simpa using S.ln,λi d q=>?_,λi e q=>?_,λi k c1 e1 b q1 q2=>?_,λi b q=>?_,λi e q=>?_,S.fb⟩
 ·by_cases hi:i=j
  ·subst hi;rw[atj]at q;rcases kind with ⟨_,k⟩|⟨_,k⟩<;>rw[k]at q<;>cases q
  ·rw[ne i hi]at q;exact S.fz i d q
 ·by_cases hi:i=j
  ·subst hi;have:=ownj e q;subst this;exact⟨a,ha,ob.nf,ob.no,hh⟩
  ·have q':=owni i e hi q;obtain⟨b',e',ob'⟩:=S.ow i e q';refine⟨b',e',ob'.nf,ob'.no,ob'.he.at (aI λz=>hi (S.dj i j _ _ a q' hj (by rw[e',z]) ha))⟩
 ·have o1:∃e,own ρ i e:=by
   by_cases hi:i=j
   ·exact⟨c,hi▸hj⟩
   ·exact⟨_,owni i _ hi q1⟩
  have o2:∃e,own ρ k e:=by
   by_cases hk:k=j
   ·exact⟨c,hk▸hj⟩
   ·exact⟨_,owni k _ hk q2⟩
  exact S.dj i k _ _ b o1.choose_spec o2.choose_spec
 ·obtain⟨q1,e,q2⟩:=S.pp i b q;refine⟨q1,?_⟩;by_cases hi:i=j
  ·subst hi;rcases kind with ⟨k1,k⟩|⟨k1,k⟩
   ·rw[k1]at q2;cases q2
   ·exact⟨c',by rw[atj,k]⟩
  ·exact⟨e,by rw[ne i hi];exact q2⟩
 ·by_cases hi:i=j
  ·subst hi;rcases kind with ⟨k1,k⟩|⟨k1,k⟩
   ·rw[atj,k]at q;cases q
   ·exact S.pq i c k1
  ·rw[ne i hi]at q;exact S.pq i e q
end
end L3
namespace L4
open PySem PySem.Spec PyProof.Rows L2 L3
variable {e L C:Addr}{Q:Unit->Shared->Prop}{H:Hp}{A:Around}{base:Heap}{outer:List Env}{dd:Option Addr}{P:Program}{w:World}
def jD(h:Heap)(e b:Addr):Prop:=∃oe vs,h.get? e=some oe/\oe.data=.fields vs/\vs[1]? = some (.ref b)
structure Ent(fs:List Addr)(h h':Heap)(e T:Addr)(oe:Obj)(ts:Array Value):Prop where
 keep:∀b o,h.get? b=some o->b∉fs->b≠e->h'.get? b=some o
 slot:∀b o,h.get? b=some o->b≠e->∃sl,h'.get? b=some { o with slots:=sl }
 new:h.objs.size<=T
 exc:h'.get? e=some (oe.mapFields (·.setIfInBounds 1 (.ref T)))
 way:∃oT,h'.get? T=some oT/\oT.data=.fields ts
section
variable {M:Model} {E:zzj} {s:Shared} {env:Env} {oe:Obj} {vs:Array Value}
theorem pJ{top:Value}{nx:Bool}(hA:A.frames=some (env::outer))(hF:s.heap.FunFrames base (env::outer))(hL:env.frame=some L)
  (he:s.heap.get? e=some oe) (hd:oe.data=.fields vs) (hz:1<vs.size)
  (k:∀h' T ts,Ent (frs (env::outer)) s.heap h' e T oe ts->3<ts.size->ts[3]? = some (rawInt L)->Q () { s with heap:=h' }) :
  wpAny M A (do let a <-frameOf env;let pl <-entryPlaceOf L nx;let b <-EntryCells.newEntry top a .none (rawInt L) .none pl;setField (.ref e) 1 b) Q E s:=by
 have ne:e∉frs (env::outer):=λz=>by
  obtain⟨_,o,q,r⟩:=hF.mem z;rw[he]at q;cases q;exact r vs hd
 refine zza (wpAny_frameOf_fun hA hF hL λh1 so=>zza (wpAny_entryPlaceOf λpl ip=>?_));simp only[EntryCells.newEntry,newFields];refine zza (ni ?_ (ip.sizeOk5 _ _ _ _ _));generalize hts:([top,.ref L,.none,rawInt L,.none]++(if pl.isEmpty then List.replicate 6 Value.none else pl)).toArray=ts;have z3:3<ts.size:=by
  rw[<-hts,be,zzf];simp only[bi,ur];lia
 have g3:ts[3]? = some (rawInt L):=by rw[<-hts];simp
 generalize htb:({ cls:=.type "traceback",dict:=none,data:=.fields ts }:Obj)=tb;have fr:tb.isFreed=false:=by rw[<-htb];rfl
 have e1:h1.get? e=some oe:=by rw[so.2.1 e ne];exact he
 have lt:e<h1.objs.size:=ax e1;refine GU (zzc tb e1) hd hz ?_;have hd':=ir hd (·.setIfInBounds 1 (Value.ref h1.objs.size));have up:∀b,b≠e->((h1.push tb).update e (Obj.mapFields (·.setIfInBounds 1 (.ref h1.objs.size)))).get? b=(h1.push tb).get? b:=λb hb=>ou _ _ (Ne.symm hb)
 refine k _ h1.objs.size ts ⟨λb o q nf nb=>?_,λb o q nb=>?_,by rw[so.1];exact au _,?_,⟨tb,?_,?_⟩⟩ z3 g3
 ·exact(up b nb).trans (zzc _ ((so.2.1 b nf).trans q))
 ·obtain⟨sl,q'⟩:=so.2.2 b o q;exact⟨sl,(up b nb).trans (zzc _ q')⟩
 ·exact ng _ (zzc tb e1) (ul hd')
 ·exact(up _ (u8 lt)).trans (zze h1 fr)
 ·rw[<-htb]
end
structure XS(H:Hp)(h:Heap)(lo:Nat)(e C:Addr)(dd:Option Addr):Prop where
 yg:lo<=e
 trk:H e=some (.ext (XO e C dd))
 obj:∃oe vs,h.get? e=some oe/\oe.cls=.ref C/\oe.dict=dd/\oe.data=.fields vs/\1<vs.size /\
  (vs[1]? = some .none\/∃T oT ts,vs[1]? = some (.ref T)/\T≠e/\lo<=T/\H T=none/\h.get? T=some oT/\oT.data=.fields ts/\ts[3]? = some .none)
structure Mv(fs:List Addr)(h h':Heap)(e:Addr):Prop where
 keep:∀b o,h.get? b=some o->b∉fs->b≠e->¬ jD h e b->h'.get? b=some o
 slot:∀b o,h.get? b=some o->b≠e->¬ jD h e b->∃sl,h'.get? b=some { o with slots:=sl }
 there:∀b o,h.get? b=some o->∃o',h'.get? b=some o'
def y8(f:Array Value->Array Value)(o:Obj):(o.mapFields f).dict=o.dict:=by
 obtain⟨c,d,dt,sl⟩:=o
 cases dt<;>rfl
def Iz:¬ ((Value.none==rawInt L)=true):=by simp[rawInt]
section
variable {M:Model} {E:zzj} {s:Shared} {env:Env} {lo:Nat}
theorem pE{oe:Obj}{vs:Array Value}{h0:Heap}{T:Addr}{ts:Array Value}(en:Ent (frs (env::outer)) h0 s.heap e T oe ts)(hd:oe.data=.fields vs)(hz:1<vs.size)(z3:3<ts.size)(hh:e<h0.objs.size)
  (k:∀h',(∀b,b≠T->h'.get? b=s.heap.get? b)->(∃oT tz,h'.get? T=some oT/\oT.data=.fields tz/\tz[3]? = some .none)->Q () { s with heap:=h' }):wpAny M A (setFlight (.ref e) none) Q E s:=by
 obtain⟨oT,q1,q2⟩:=en.way;have d':=ir hd (·.setIfInBounds 1 (Value.ref T));simp only[setFlight];refine zza (ut en.exc d' (x:=.ref T) (by simp[hz]) ?_);rw[ak (by simp)];refine GU q1 q2 z3 (k _ (λb hb=>ou _ _ (Ne.symm hb)) ⟨_,_,ng _ q1 (ul (ir q2 _)),ir q2 _,by simp[z3]⟩)
theorem uL(hA:A.frames=some (env::outer))(hF:s.heap.FunFrames base (env::outer))(hL:env.frame=some L)(hk:HOk P w H s.heap)(xs:XS H s.heap lo e C dd)
  (k:∀h',Mv (frs (env::outer)) s.heap h' e->XS H h' lo e C dd->(∀b,jD h' e b->s.heap.objs.size<=b)->Q () { s with heap:=h' }) :
  wpAny M A (noteFrame (.ref e) env) (λ_ s2=>wpAny M A (setFlight (.ref e) none) Q E s2) E s:=by
 obtain⟨oe,vs,he,hc,hdd,hd,hz,tb⟩:=xs.obj;have elt:e<s.heap.objs.size:=ax he;have hlo:lo<=s.heap.objs.size:=cr xs.yg (Lu elt);simp only[noteFrame,hL];rcases tb with tb|⟨T,oT,ts,tb,hTe,hTl,hTn,hT,hTd,t3⟩
 ·refine zza (ut he hd tb ?_);rw[ac (by decide)];refine pJ hA hF hL he hd hz λh1 T1 t1 en z3 g3=>?_
  refine pE (s:={ s with heap:=h1 }) en hd hz z3 elt λh2 same way=>?_
  have nT:∀b o,s.heap.get? b=some o->b≠T1:=λb o q=>bj (bo (ax q) en.new)
  have d1:=ir hd (·.setIfInBounds 1 (Value.ref T1));refine k h2 ⟨λb o q nf nb _=>?_,λb o q nb _=>?_,λb o q=>?_⟩ ⟨xs.yg,xs.trk,_,_,?_,?_,?_,d1,by simpa using hz,.inr ?_⟩ ?_
  ·rw[same b (nT b o q)];exact en.keep b o q nf nb
  ·obtain⟨sl,z⟩:=en.slot b o q nb;exact⟨sl,by rw[same b (nT b o q)];exact z⟩
  ·by_cases nb:b=e
   ·subst nb;exact⟨_,by rw[same _ (nT _ o q)];exact en.exc⟩
   ·obtain⟨sl,z⟩:=en.slot b o q nb;exact⟨_,by rw[same b (nT b o q)];exact z⟩
  ·rw[same e (nT e _ he)];exact en.exc
  ·rw[LG];exact hc
  ·rw[y8];exact hdd
  ·obtain⟨o1,tz,w1,w2,w3⟩:=way;exact⟨T1,o1,tz,by simp[hz],λz=>nT e _ he z.symm,cr hlo en.new,hk.fresh en.new,w1,w2,w3⟩
  ·intro b ⟨oe',vs',g1,g2,g3⟩;rw[same e (nT e _ he),en.exc]at g1
   cases g1
   rw[d1]at g2
   cases g2
   have:Value.ref T1=Value.ref b:=by simpa[hz]using g3
   injection this with this;rw[<-this];exact en.new
 ·refine zza (ut he hd tb ?_);rw[ak (by simp)];refine zza (ut hT hTd t3 ?_);rw[ac Iz];have z3':3<ts.size:=(Array.getElem?_eq_some_iff.mp t3).1;refine zza (GU hT hTd z3' ?_);have off:∀b,b≠T->(s.heap.update T (Obj.mapFields (·.setIfInBounds 3 Value.none))).get? b=s.heap.get? b:=λb hb=>ou _ _ (Ne.symm hb)
  have hF':(s.heap.update T (Obj.mapFields (·.setIfInBounds 3 Value.none))).FunFrames base (env::outer):=hF.of_keeps λb o q r=>⟨o,(off b λz=>by subst z;rw[hT]at q;cases q;exact r ts hTd).trans q,rfl⟩
  have he':(s.heap.update T (Obj.mapFields (·.setIfInBounds 3 Value.none))).get? e=some oe:=(off e (Ne.symm hTe)).trans he;have zz:(s.heap.update T (Obj.mapFields (·.setIfInBounds 3 Value.none))).objs.size=s.heap.objs.size:=si ..;refine pJ (s:={ s with heap:=s.heap.update T (Obj.mapFields (·.setIfInBounds 3 Value.none)) }) hA hF' hL he' hd hz λh1 T1 t1 en z3 g3=>?_
  refine pE (s:={ s with heap:=h1 }) en hd hz z3 (by rw[zz];exact elt) λh2 same way=>?_
  have nw:s.heap.objs.size<=T1:=by have:=en.new;rw[zz]at this;exact this
  have nT:∀b o,s.heap.get? b=some o->b≠T1:=λb o q=>bj (bo (ax q) nw)
  have isT:jD s.heap e T:=⟨oe,vs,he,hd,tb⟩;have nTT:∀b,¬ jD s.heap e b->b≠T:=λb z q=>z (q▸isT)
  have d1:=ir hd (·.setIfInBounds 1 (Value.ref T1));have T0:(s.heap.update T (Obj.mapFields (·.setIfInBounds 3 Value.none))).get? T=some (oT.mapFields (·.setIfInBounds 3 Value.none)):=ng _ hT (ul (ir hTd _));refine k h2 ⟨λb o q nf nb nt=>?_,λb o q nb nt=>?_,λb o q=>?_⟩ ⟨xs.yg,xs.trk,_,_,?_,?_,?_,d1,by simpa using hz,.inr ?_⟩ ?_
  ·rw[same b (nT b o q)];exact en.keep b o ((off b (nTT b nt)).trans q) nf nb
  ·obtain⟨sl,z⟩:=en.slot b o ((off b (nTT b nt)).trans q) nb;exact⟨sl,by rw[same b (nT b o q)];exact z⟩
  ·by_cases nb:b=e
   ·subst nb;exact⟨_,by rw[same _ (nT _ o q)];exact en.exc⟩
   ·by_cases nt:b=T
    ·subst nt;obtain⟨sl,z⟩:=en.slot b _ T0 nb;exact⟨_,by rw[same b (nT b o q)];exact z⟩
    ·obtain⟨sl,z⟩:=en.slot b o ((off b nt).trans q) nb;exact⟨_,by rw[same b (nT b o q)];exact z⟩
  ·rw[same e (nT e _ he)];exact en.exc
  ·rw[LG];exact hc
  ·rw[y8];exact hdd
  ·obtain⟨o1,tz,w1,w2,w3⟩:=way;exact⟨T1,o1,tz,by simp[hz],λz=>nT e _ he z.symm,cr hlo nw,hk.fresh nw,w1,w2,w3⟩
  ·intro b ⟨oe',vs',g1,g2,g3⟩;rw[same e (nT e _ he),en.exc]at g1
   cases g1
   rw[d1]at g2
   cases g2
   have:Value.ref T1=Value.ref b:=by simpa[hz]using g3
   injection this with this;rw[<-this];exact nw
theorem wK(hA:A.frames=some (env::outer))(hF:s.heap.FunFrames base (env::outer))(hL:env.frame=some L)(hk:HOk P w H s.heap)(xs:XS H s.heap lo e C dd)
  (k:∀h',Mv (frs (env::outer)) s.heap h' e->XS H h' lo e C dd->Q () { s with heap:=h' }):wpAny M A (leaving env (.ref e)) Q E s:=by
 unfold leaving;exact zza (uL hA hF hL hk xs λh' m x _=>k h' m x)
end
section
variable {fs:List Addr} {h h':Heap} {lo:Nat}
def XO.ok{H':Hp}(x:XO e C dd h):ObjOk P w H' h e (.ext (XO e C dd)):=by
 obtain⟨oe,q,r⟩:=x;exact⟨⟨oe,q,r⟩,⟨oe,q⟩,λh1 h2 ⟨o,z,r⟩ k=>⟨o,k o z,r⟩⟩
def XS.xo(xs:XS H h lo e C dd):XO e C dd h:=by
 obtain⟨oe,vs,q,c,d,z,_⟩:=xs.obj;exact⟨oe,q,c,d,by unfold PySem.W.notCls;rw[z]⟩
def XS.tb(xs:XS H h lo e C dd){b:Addr}(t:jD h e b):H b=none/\lo<=b/\b≠e/\∃oT ts,h.get? b=some oT/\oT.data=.fields ts:=by
 obtain⟨oe,vs,q,c,d,z,_,k⟩:=xs.obj;obtain⟨oe',vs',q',z',k'⟩:=t;rw[q]at q';cases q';rw[z]at z';cases z';rcases k with k|⟨T,oT,ts,k,ne,l,n,g,gd,_⟩
 ·rw[k]at k';cases k'
 ·rw[k]at k'
  cases k'
  exact⟨n,l,ne,oT,ts,g,gd⟩
def XS.tb_list(xs:XS H h lo e C dd):∃ch:List Addr,∀b,b∈ch↔jD h e b:=by
 obtain⟨oe,vs,q,c,d,z,_,k⟩:=xs.obj;rcases k with k|⟨T,oT,ts,k,_⟩
 ·exact⟨[],λb=>⟨λz=>(nomatch z),λ⟨oe',vs',q',z',k'⟩=>by rw[q]at q';cases q';rw[z]at z';cases z';rw[k]at k';cases k'⟩⟩
 ·refine⟨[T],λb=>⟨λy=>?_,λ⟨oe',vs',q',z',k'⟩=>?_⟩⟩
  ·rw[List.mem_singleton.mp y];exact⟨oe,vs,q,z,k⟩
  ·rw[q]at q';cases q';rw[z]at z';cases z';rw[k]at k';cases k';exact List.mem_singleton.mpr rfl
def Mv.hok(m:Mv fs h h' e)(ok:HOk P w H h)(xs:XS H h lo e C dd)(xs':XS H h' lo e C dd)(hf:∀b∈fs,H b=none):HOk P w H h':=λa o q=>by
 by_cases ae:a=e
 ·subst ae;rw[xs.trk]at q;cases q;exact xs'.xo.ok
 ·refine(ok a o q).stay (λb u hb z=>?_) (λ_ z=>z) λ_ _ z=>z
  have hbH:∃v,H b=some v:=by
   rcases hb with rfl|hb
   ·exact⟨o,q⟩
   ·exact⟨_,hb⟩
  obtain⟨v,hv⟩:=hbH;refine m.keep b u z (λy=>by rw[hf b y]at hv;cases hv) (λy=>?_) λy=>by rw[(xs.tb y).1]at hv;cases hv
  subst y;rcases hb with rfl|hb
  ·exact ae rfl
  ·rw[xs.trk]at hb;cases hb
def Mv.un{ch:List Addr}(m:Mv fs h h' e)(xs:XS H h lo e C dd)(hc:∀b,b∈ch↔jD h e b):Un fs ch H H h h' where
 keep:=λb o q n hb hx=>m.keep b o q hb (λz=>by subst z;rw[xs.trk]at n;cases n) λz=>hx ((hc b).mpr z)
 slot:=λb o q n hb hx=>m.slot b o q (λz=>by subst z;rw[xs.trk]at n;cases n) λz=>hx ((hc b).mpr z)
 free:=λ_ _ _ n _=>n
 there:=λb o q _=>m.there b o q
 tups:=λ_ _ z=>z
 frzs:=λ_ _ _ z=>z
 tbls:=λb ps z=>⟨#[],by rw[z];simp⟩
end
section
variable {X:Cx} {pins:zzk} {Z:L2.St} {s:Shared} {h':Heap} {lo:Nat}
def Inv.mv(I:Inv X pins Z H s)(m:Mv (frs X.stack) s.heap h' e)(xs:XS H s.heap lo e C dd)(xs':XS H h' lo e C dd)(hlo:X.s₀.heap.objs.size<=lo)(hp:∀p∈X.pn++pins,¬ jD s.heap e p.1)(t':Nat):Inv X pins Z H { s with heap:=h',toks:=t' }:=by
 obtain⟨ch,hc⟩:=xs.tb_list;refine I.call (g':=s.gens) (d':=s.drawn) (t':=t') (m.un xs hc) (m.hok I.hok xs xs' I.stkFree) I.bare λb hb=>?_
 have tb:=(hc b).mp hb;obtain⟨n,l,ne,oT,ts,g,gd⟩:=xs.tb tb;refine⟨.inr (cr hlo l),λz=>?_,λx c q z=>?_,λp hp' z=>hp p hp' (z▸tb)⟩
 ·subst z;obtain⟨m,⟨o,es,ep,ho,hd,_⟩,_⟩:=I.loc;rw[g]at ho;cases ho;rw[gd]at hd;cases hd
 ·subst z;obtain⟨v,o,ho,hd⟩:=I.cell x c q;rw[g]at ho;cases ho;rw[gd]at hd;cases hd
end
def CX1(P:Program)(w:World):CXT:=λouter H s E e s'=>∃a C dd H',e=.ref a/\s'.os=s.os/\AllBare s'.gens/\Un (frs outer) [] H H' s.heap s'.heap/\HOk P w H' s'.heap/\XS H' s'.heap s.heap.objs.size a C dd/\E (.ref C) dd H'
theorem DC{K:Fg}{mg:zzl}{N:List Str}{qual:Str}{scope:Scope}{f:Addr}{cd:Value}{s:Shared}{E:XK}
  {pins:zzk} {Z:L2.St} {H':Hp} {s':Shared} {a C:Addr} {dd:Option Addr} (I:Inv (lc (CX1 P w) P w K mg base N qual scope f cd A outer s H E) pins Z H' s') (xs:XS H' s'.heap s.heap.objs.size a C dd) (hE:E (.ref C) dd H') :
  (lc (CX1 P w) P w K mg base N qual scope f cd A outer s H E).xe (.ref a) s':=by
 have hF:=I.stack;have hS:=I.stkFree;refine wK (base:=base) (L:=s.heap.objs.size) (P:=P) (w:=w) (s:=s') I.ok.frames hF rfl I.hok xs λh1 m xs1=>?_
 have un:Un (frs outer) [] H H' s.heap s'.heap:=I.base;have lt:∀b o,s.heap.get? b=some o->b<s.heap.objs.size:=λb o q=>ax q
 have ne:∀b o,s.heap.get? b=some o->b≠a:=λb o q=>bj (bo (lt b o q) xs.yg)
 have nt:∀b o,s.heap.get? b=some o->¬ jD s'.heap a b:=λb o q z=>absurd (bo (lt b o q) (xs.tb z).2.1) (pI _)
 refine⟨a,C,dd,H',rfl,I.os,I.bare,⟨λb o q n hb hx=>?_,λb o q n hb hx=>?_,un.free,λb o q hx=>?_,un.tups,un.frzs,un.tbls⟩,m.hok I.hok xs xs1 hS,xs1,hE⟩
 ·refine m.keep b o (un.keep b o q n hb hx) (λz=>?_) (ne b o q) (nt b o q);rcases List.mem_cons.mp (I.stkSub b z)with y|y
  ·exact absurd (lt b o q) (by rw[y];exact pI _)
  ·exact hb y
 ·obtain⟨sl,z⟩:=un.slot b o q n hb hx;obtain⟨sl',z'⟩:=m.slot b _ z (ne b o q) (nt b o q);exact⟨sl',z'⟩
 ·obtain⟨o',z⟩:=un.there b o q hx;exact m.there b o' z
end L4
namespace L4
open PySem PySem.Spec PyProof.Rows L2 L3 PySem.W
variable {C x fI:Addr}{K:Frag}{E:zzj}{ox:Obj}{od:Option Obj}{prog:Program}{w:World}{A:Around}{name:Str}
section
variable {s:Shared} {expr:Bool} {Q:zzj}
theorem DN{v:Value}(X:K.In s.heap)(I:PySem.W.InstAt s.heap x ox C od)(hga:findIn K (.ref C) "__getattribute__" = some (some (.builtin "BaseException.__getattribute__")))(hgr:findIn K (.ref C) "__getattr__" = some none)(hb:mroIn K C (.type "BaseException")=some true)
  (hf:findObj K C od name=some (.value v)) (hh:handedIn v=true) (h:Q v { s with toks:=s.toks+1 }):wpAny (model prog w) A (getAttr (.ref x) name expr) Q E s:=by
 obtain⟨hp,g,d,t,os⟩:=s;have L0:=I.type (M:=model prog w);have L1:=looks_findIn (M:=model prog w) X hga;have L2:=looks_findIn (M:=model prog w) X hgr;have L3:=looks_find (M:=model prog w) X I hf;have L4:=looks_mroIn (M:=model prog w) X hb;have bnd:=F.attr_ValueError.ga.bind (.ref x);have ok:=F.args_bexc_ga (.ref x) (.str name t);have kd:builtinKind "BaseException.__getattribute__" = some .slot:=by decide +kernel
 have sp:splitId "BaseException.__getattribute__" = some ("BaseException", "__getattribute__"):=by decide +kernel
 unfold getAttr getAttrBy;refine zza (wpAny_mkText (om (zza (L0.at (zza (L1.at ?_))))));show wpAny _ _ (getAttrByItsOwn _ _ _ _ _ _) _ _ _;unfold getAttrByItsOwn
 repeat (any_goals (first|assumption|with_reducible refine L0.at ?_|with_reducible refine L2.at ?_|wp_step))
 rw[ac (by cases expr<;>decide)];unfold boundAndCalled;rw[bnd]
 repeat (any_goals (first|assumption|with_reducible refine L0.at ?_|with_reducible refine L2.at ?_|wp_step))
 refine Ix F.attr_ValueError.ga.plain F.entry_bexc_ga ?_;simp only[checkBuiltinCall,kd,sp];refine zza ?_;unfold isInstance;refine zza (L0.at (L4.at ?_))
 repeat (any_goals (first|assumption|with_reducible refine L0.at ?_|with_reducible refine L3.at ?_|wp_step))
 show wpAny _ _ (handedOut v) _ _ _;rw[handedOut_of hh];exact zzb h
end
section
variable {s:Shared} {D:Addr} {v:Value} {Q:Unit->Shared->Prop}
def AN{cd:ClassData}{bmB:List Value}(X:K.In s.heap)(hx:s.heap.get? x=some ox)(hc:ox.cls=.ref C)(hn:notCls ox=true)(hdn:ox.dict=none)(hs:findIn K (.ref C) "__setattr__" = some (some (.builtin "object.__setattr__")))
  (hcd:clsIn K C=some cd) (hm:cd.mro=.ref C::.ref D::[.type "ValueError",.type "Exception",.type "BaseException",.type "object"]) (hd:cd.hasDict=true) (hna:findIn K (.ref C) name=some none)
  (h:∀h' dx tk,s.heap.objs.size<=dx->h'.Ns1 dx (λy=>if y=name then some v else none)->h'.get? x=some { ox with dict:=some dx }->(∀b o,b≠x->s.heap.get? b=some o->h'.get? b=some o)->Q () { s with heap:=h',toks:=tk }) :
  wpAny (model prog w) A (setAttr (.ref x) name v) Q E s:=by
 obtain⟨hp,g,d,t,os⟩:=s;obtain⟨oc,odi,oda,osl⟩:=ox;dsimp only at hc hdn;subst hc hdn;have I:PySem.W.InstAt hp x ⟨.ref C,none,oda,osl⟩ C none:=⟨hx,rfl,hn,trivial⟩;refine PySem.W.set_plain X I hs ?_;have SF:=F.store_ValueError;have L0:=I.type (M:=model prog w);have L1:=looks_findIn (M:=model prog w) X hna;have L4:=looks_mroIn (M:=model prog w) (r:=true) X (C:=C) (base:=.type "object") (by unfold mroIn;rw[hcd,wS,hm];rfl);have LC:=looks_clsIn (M:=model prog w) X hcd;have pass:=SF.passes (.ref x);have ok:=SF.args (.ref x) (.str name t) v;refine Ix SF.slot.plain SF.entry ?_;simp only[checkBuiltinCall,SF.kind,SF.split];refine zza ?_;unfold isInstance;refine zza (L0.at (L4.at ?_));have LM:Looks (model prog w) hp (mroOf (.ref C)) cd.mro:=(looks_clsIn X hcd).andThen .now;rw[ac (by decide)];have run:∀A',wpAny (model prog w) A' (Builtin.«object.__setattr__» { pos:=[Value.ref x,Value.str name t,v] }) (λfin s'=>∃f,fin=.done (.ret f)/\Q () s') E ⟨hp,g,d,t+1,os⟩:=by
  intro A';unfold Builtin.«object.__setattr__»
  repeat (first|rw[refuse_eq]|with_reducible refine LM.at ?_|(rw[hm,refuseLoop_ref,refuseLoop_ref,pass])|with_reducible refine L0.at ?_|with_reducible refine L1.at ?_|(with_reducible refine LC.at ?_;rw[hd])|wp_step)
  have fin:wpAny (model prog w) A' (do
    let d <-alloc { cls:=Value.type "dict",data:=Data.dict #[] }
    update x λo=>{ cls:=o.cls,dict:=some d,data:=o.data,slots:=o.slots }
    dictMade (.ref C) x d)
    (λa s'=>wpAny (model prog w) A' (match a with
     | some d=>Builtin.ObjectAttr.storeInDict d (Value.str name t) name v
     | none=>Builtin.ObjectAttr.noDictFor (Value.ref x) (Value.ref C) name (none:Option Value).isSome) (λfin s'=>∃f,fin=Fin.done (Flow.ret f)/\Q () s') E s') E ⟨hp,g,d,t+1,os⟩:=by
   refine zza (wpAny_alloc' (zza (wpAny_update' (zzc _ hx) (zzb ?_))));have xs:x≠hp.objs.size:=bj (ax hx);show wpAny _ _ (Builtin.ObjectAttr.storeInDict hp.objs.size (.str name t) name v) _ _ _;have e0:((hp.push { cls:=.type "dict",data:=.dict #[] }).update x λo=>{ cls:=o.cls,dict:=some hp.objs.size,data:=o.data,slots:=o.slots }).get? hp.objs.size=some { cls:=.type "dict",data:=.dict #[] }:=by
    rw[ou _ _ xs];exact zze hp rfl
   have n0:((hp.push { cls:=.type "dict",data:=.dict #[] }).update x λo=>{ cls:=o.cls,dict:=some hp.objs.size,data:=o.data,slots:=o.slots }).Ns hp.objs.size (λ_=>none):=⟨_,#[],_,e0,rfl,λe he=>absurd he (by simp),λ_=>rfl⟩;unfold Builtin.ObjectAttr.storeInDict Builtin.ObjectAttr.newKeyGuard;refine zza (zzb (zza (wpAny_nsSet1 (Heap.Ns1.of_empty n0) λh' n1 sb=>?_)));obtain⟨oD,esD,epD,q1,q2,q3⟩:=n1.count (PySem.Within.cons name v PySem.Within.nil);refine zza (wpAny_lookBehind q1 (by rw[q2];exact pastItsLine_dict (cr q3 (show 1<=sizeLine+1 from by decide))) (zzb ⟨_,rfl,?_⟩));refine h h' hp.objs.size _ (au _) n1 ?_ λb o nb q=>?_
   ·rw[sb.2 x xs];refine ng _ (zzc _ hx) ?_;have fr:=(Heap.get?_some_iff.mp hx).2
    cases oda<;>first|rfl|exact fr
   ·rw[sb.2 b (bj (ax q)),ou _ _ (Ne.symm nb)];exact zzc _ q
  cases oda<;>first|exact fin|cases hn
 have fin:wpAny (model prog w) A.in1 (Builtin.«object.__setattr__» { pos:=[Value.ref x,Value.str name t,v] }) (λfin s'=>match fin with
   | .done f=>(match (Except.ok f:Result)with | .ok (.ret v)=>Q () s' | .ok a=>False | .error e=>E e s')
   | .again c'=>c'.quiet=true/\codeAny (model prog w) A c' (λr s'=>match r with | .ok (.ret v)=>Q () s' | .ok a=>False | .error e=>E e s') s') E ⟨hp,g,d,t+1,os⟩ :=
  li (run _) (λf s' z=>by obtain⟨u,rfl,q⟩:=z;exact q) λ_ _ z=>z
 cases hsig:Manifest.signature? "object.__setattr__" with
 | none=>exact zzb fin
 | some sig =>
  simp only[argsOk,hsig]at ok;show wpAny _ _ (Bind.checkArgs "object.__setattr__" sig ⟨[.ref x,.str name t,v],[]⟩) _ _ _;rw[show Bind.checkArgs "object.__setattr__" sig ⟨[.ref x,.str name t,v],[]⟩=pure ()from ok];exact zzb fin
def AM{cd:ClassData}{dx:Addr}{mA:zzl}{ns:List Str}(X:K.In s.heap)(hx:s.heap.get? x=some ox)(hc:ox.cls=.ref C)(hn:notCls ox=true)(hdn:ox.dict=some dx)(hne:dx≠x)(hA:s.heap.Ns1 dx mA)(hw:PySem.Within mA ns)(hz:ns.length<=1000)(hs:findIn K (.ref C) "__setattr__" = some (some (.builtin "object.__setattr__")))
  (hcd:clsIn K C=some cd) (hm:cd.mro=.ref C::.ref D::[.type "ValueError",.type "Exception",.type "BaseException",.type "object"]) (hd:cd.hasDict=true) (hna:findIn K (.ref C) name=some none)
  (h:∀h' tk,h'.Ns1 dx (λy=>if y=name then some v else mA y)->(∀b o,b≠dx->s.heap.get? b=some o->h'.get? b=some o)->Q () { s with heap:=h',toks:=tk }) :
  wpAny (model prog w) A (setAttr (.ref x) name v) Q E s:=by
 obtain⟨hp,g,d,t,os⟩:=s;obtain⟨oc,odi,oda,osl⟩:=ox;dsimp only at hc hdn;subst hc hdn;obtain⟨od,qd⟩:∃od,hp.get? dx=some od:=by obtain⟨o,_,_,q,_⟩:=hA;exact⟨o,q⟩
 have I:PySem.W.InstAt hp x ⟨.ref C,some dx,oda,osl⟩ C (some od):=⟨hx,rfl,hn,qd⟩;refine PySem.W.set_plain X I hs ?_;have SF:=F.store_ValueError;have L0:=I.type (M:=model prog w);have L1:=looks_findIn (M:=model prog w) X hna;have L4:=looks_mroIn (M:=model prog w) (r:=true) X (C:=C) (base:=.type "object") (by unfold mroIn;rw[hcd,wS,hm];rfl);have LC:=looks_clsIn (M:=model prog w) X hcd;have pass:=SF.passes (.ref x);have ok:=SF.args (.ref x) (.str name t) v;refine Ix SF.slot.plain SF.entry ?_;simp only[checkBuiltinCall,SF.kind,SF.split];refine zza ?_;unfold isInstance;refine zza (L0.at (L4.at ?_));have LM:Looks (model prog w) hp (mroOf (.ref C)) cd.mro:=(looks_clsIn X hcd).andThen .now;rw[ac (by decide)];have run:∀A',wpAny (model prog w) A' (Builtin.«object.__setattr__» { pos:=[Value.ref x,Value.str name t,v] }) (λfin s'=>∃f,fin=.done (.ret f)/\Q () s') E ⟨hp,g,d,t+1,os⟩:=by
  intro A';have st:wpAny (model prog w) A' (Builtin.ObjectAttr.storeInDict dx (.str name t) name v) (λfin s'=>∃f,fin=.done (.ret f)/\Q () s') E ⟨hp,g,d,t+1,os⟩:=by
   unfold Builtin.ObjectAttr.storeInDict Builtin.ObjectAttr.newKeyGuard;refine zza (zzb (zza (wpAny_nsSet1 hA λh' n1 sb=>?_)));obtain⟨oD,esD,epD,q1,q2,q3⟩:=n1.count (PySem.Within.cons name v hw);refine zza (wpAny_lookBehind q1 (by rw[q2];exact pastItsLine_dict (cr q3 (cr (Nat.succ_le_succ hz) (show 1001<=sizeLine+1 from by decide)))) (zzb ⟨_,rfl,?_⟩));exact h h' _ n1 λb o nb q=>(sb.2 b nb).trans q
  unfold Builtin.«object.__setattr__»
  repeat (first|with_reducible exact st|rw[refuse_eq]|with_reducible refine LM.at ?_|(rw[hm,refuseLoop_ref,refuseLoop_ref,pass])|with_reducible refine L0.at ?_|with_reducible refine L1.at ?_|(with_reducible refine LC.at ?_;rw[hd])|wp_step)
 have fin:wpAny (model prog w) A.in1 (Builtin.«object.__setattr__» { pos:=[Value.ref x,Value.str name t,v] }) (λfin s'=>match fin with
   | .done f=>(match (Except.ok f:Result)with | .ok (.ret v)=>Q () s' | .ok a=>False | .error e=>E e s')
   | .again c'=>c'.quiet=true/\codeAny (model prog w) A c' (λr s'=>match r with | .ok (.ret v)=>Q () s' | .ok a=>False | .error e=>E e s') s') E ⟨hp,g,d,t+1,os⟩ :=
  li (run _) (λf s' z=>by obtain⟨u,rfl,q⟩:=z;exact q) λ_ _ z=>z
 cases hsig:Manifest.signature? "object.__setattr__" with
 | none=>exact zzb fin
 | some sig =>
  simp only[argsOk,hsig]at ok;show wpAny _ _ (Bind.checkArgs "object.__setattr__" sig ⟨[.ref x,.str name t,v],[]⟩) _ _ _;rw[show Bind.checkArgs "object.__setattr__" sig ⟨[.ref x,.str name t,v],[]⟩=pure ()from ok];exact zzb fin
end
def tG{D:Addr}(c:XC K C D fI):∃cd,PySem.W.clsIn K C=some cd/\cd.mro=.ref C::.ref D::bmV/\cd.hasDict=true:=by
 obtain⟨nm,q,N,bs,sn,sub,ab,col,dd,k0,k1,k2,k3,k5,lk⟩:=c.obj;refine⟨_,by unfold PySem.W.clsIn;rw[lk],rfl,rfl⟩
section
variable {s:Shared}
theorem DY{Q:Option Value->Shared->Prop}(X:K.In s.heap)(I:PySem.W.InstAt s.heap x ox C od)(hga:findIn K (.ref C) "__getattribute__" = some (some (.builtin "BaseException.__getattribute__")))(hgr:findIn K (.ref C) "__getattr__" = some none)(hb:mroIn K C (.type "BaseException")=some true)
  (hf:findObj K C od "__class__" = some (.bind (.builtin "getset_descriptor.__get__") (.builtin "object.__class__"))) (hm:mroIn K C (.type "object")=some true) (h:Q (some (.ref C)) { s with toks:=s.toks+1 }):wpAny (model prog w) A (getAttr? (.ref x) "__class__") Q E s:=by
 obtain⟨hp,g,d,t,os⟩:=s;have L0:=I.type (M:=model prog w);have L1:=looks_findIn (M:=model prog w) X hga;have L2:=looks_findIn (M:=model prog w) X hgr;have L3:=looks_find (M:=model prog w) X I hf;have L4:=looks_mroIn (M:=model prog w) X hb;have bnd:=F.attr_ValueError.ga.bind (.ref x);have ok:=F.args_bexc_ga (.ref x) (.str "__class__" t);have kd:builtinKind "BaseException.__getattribute__" = some .slot:=by decide +kernel
 have sp:splitId "BaseException.__getattribute__" = some ("BaseException", "__getattribute__"):=by decide +kernel
 unfold getAttr? getAttrBy?;refine zza (wpAny_mkText (zza (wpAny_attempt ?_)));unfold getAttrBy;refine om (zza (L0.at (zza (L1.at ?_))));show wpAny _ _ (getAttrByItsOwn _ _ _ _ _ _) _ _ _;unfold getAttrByItsOwn
 repeat (any_goals (first|assumption|with_reducible refine L0.at ?_|with_reducible refine L2.at ?_|wp_step))
 refine Ix F.attr_ValueError.ga.plain F.entry_bexc_ga ?_;simp only[checkBuiltinCall,kd,sp];refine zza ?_;unfold isInstance;refine zza (L0.at (L4.at ?_))
 repeat (any_goals (first|assumption|with_reducible refine L0.at ?_|with_reducible refine L3.at ?_|wp_step))
 refine class_get (s:=⟨hp,g,d,t+1,os⟩) (ox:=ox) (od:=od) X I hm ?_;exact zzb (handed_on rfl (zzb h))
def BQ{D:Addr}(c:XC K C D fI)(hb:mroIn K C (.type "BaseException")=some true)
  (hf:findObj K C od "__class__" = some (.bind (.builtin "getset_descriptor.__get__") (.builtin "object.__class__"))) (hm:mroIn K C (.type "object")=some true) :
  KitX K (.ref x) (.ref C) (λh=>PySem.W.InstAt h x ox C od) where
 ty:=λ_ _ _ I=>I.type
 it:=λ_ _ X _=>by
  obtain⟨nm,q,N,bs,sn,sub,ab,col,dd,k0,k1,k2,k3,k5,ho⟩:=c.obj;intro A' Q' E' s' k q;unfold isType loadHead;exact zza (wpAny_loadPart (k _ _ (X _ _ ho)) (zzb q))
 ne:=λh tp dd its n sl X htp=>by
  obtain⟨nm,q,N,bs,sn,sub,ab,col,dd',k0,k1,k2,k3,k5,ho⟩:=c.obj;refine Bool.eq_false_iff.mpr λq=>?_
  have e:C=tp:=Value.ref.inj (beq_iff_eq.mp q);subst e;have z:=(X _ _ ho).symm.trans htp;injection z with z;injection z with z1 z2 z3
  cases z3
 ca:=λX I k=>DY X I c.ga c.gr hb hf hm k
end
def XAt(H:Hp)(a C:Addr)(dd:Option Addr):Prop:=H a=some (.ext (XO a C dd))/\∀dx,dd=some dx->∃fv,H dx=some (.ext (XD dx fv))
def DK{X:Cx}{pins:zzk}{Z:L2.St}{H:Hp}{s:Shared}{a:Addr}{dd:Option Addr}(I:Inv X pins Z H s)(h:XAt H a C dd):∃ox od,PySem.W.InstAt s.heap a ox C od:=by
 obtain⟨h1,h2⟩:=h;obtain⟨⟨oe,q1,q2,q3,q4⟩,_⟩:=I.hok a _ h1
 cases dd with
 | none=>exact⟨oe,none,q1,q2,q4,by rw[q3];trivial⟩
 | some dx =>
  obtain⟨fv,h2⟩:=h2 dx rfl;obtain⟨⟨mA,na,wi,r⟩,_⟩:=I.hok dx _ h2;obtain⟨od,z1,hlk⟩:=lS na;exact⟨oe,some od,q1,q2,q4,by rw[q3];exact z1⟩
def qx{a g:Value}(hc:(clsIn K C).isSome=true)(ha:findIn K (.ref C) name=some (some a))(hg:specialIn K a "__get__" = some (some g))(ht:takesIn K a=some true):findObj K C od name=some (.bind g a):=by
 obtain⟨cd,hc⟩:=Option.isSome_iff_exists.mp hc;unfold findObj;rw[hc,wS,ha,wS];simp[hg,ht]
section
variable {X:Cx} {pins:zzk} {Z:L2.St} {H:Hp} {s:Shared} {a D:Addr} {dd:Option Addr} {Q:zzj} {b:Bool}
def wO(c:XC X.K C D fI)(kc:KC X.K C):KitX X.K (.ref a) (.ref C) (λh=>PySem.W.InstAt h a ox C od):=by
 obtain⟨cd,k1,k2,k3⟩:=tG c;refine BQ c (by unfold PySem.W.mroIn;rw[k1,wS,k2];rfl) (qx (by rw[k1];rfl) kc.ha kc.hn kc.htk) (by unfold PySem.W.mroIn;rw[k1,wS,k2];rfl)
theorem wQ(I:Inv X pins Z H s)(c:XC X.K C D fI)(kc:KC X.K C)(h:XAt H a C dd){cv:Value}(e:kitOne X.K (.ref C) cv=some b)(q:∀tk,Q (.bool b) { s with toks:=tk }) :
  wpAny (model X.prog X.w) X.A (call (.builtin "isinstance") [.ref a,cv]) Q E s:=by
 obtain⟨ox,od,It⟩:=DK I h;exact kia_one (wO c kc) I.kIn It e (λz=>nomatch z) q
end
end L4
namespace L4
open PySem PySem.Spec PyProof.Rows L2 L3
variable {F H F' H':Hp}{K:Fg}{X:Cx}{ρ:En}{G:Gh}{Z:L2.St}{i k n j:Nat}{S α:Type}{vs:List V}{x y:Str}{e tg b:Expr}{r:R2}{v:V}{pos p pos':Pos}{a C f:Addr}{es:List Expr}{c:OC}{Q:VK}{ex dd:Option Addr}{op:CmpOp}{R:It->Hp->Prop}{E:XK}{id T:String}{st:Stmt}{A:Around}
structure Ex where
 cls:Str
 fs:List (Str×D)
inductive M(S:Type) where
 | ret (s:S)
 | exc (x:Ex)
 | bad
def M.on{S T:Type}(m:M S)(x:Ex->M T)(k:S->M T):M T:=match m with
 | .ret s=>k s
 | .exc e=>x e
 | .bad=>.bad
def bd{S T:Type}(m:M S)(k:S->M T):M T:=m.on .exc k
def oM{S:Type}(o:Option S):M S:=match o with
 | some s=>.ret s
 | none=>.bad
section
variable {T U:Type}
@[simp] theorem Gk(s:S)(x:Ex->M T)(k:S->M T):(M.ret s).on x k=k s:=rfl
@[simp] theorem j7(s:S)(k:S->M T):bd (.ret s) k=k s:=rfl
end
abbrev Pu(α:Type):=En->M α
def XR(K:Fg)(F:Hp)(C:Addr)(dd:Option Addr)(x:Ex):Prop:=XQ K C x.cls /\
 ∃fv,FX F dd fv/\Paired (λ(p:Str×V) (q:Str×D)=>p.1=q.1/\Rep K F p.2 q.2) fv x.fs
def nh(x:Ex):D:=.dict ((.none,.str x.cls)::x.fs.map λp=>(.str p.1,p.2))
def oH:∀{fv:List (Str×V)} {fs:List (Str×D)},Paired (λ(p:Str×V) (q:Str×D)=>p.1=q.1/\Rep K F p.2 q.2) fv fs->(fs.map λp=>((PyData.str p.1,p.2):D×D)).map (·.1)=fv.map (λp=>.str p.1)/\RepL K F (fv.map (·.2)) ((fs.map λp=>((PyData.str p.1,p.2):D×D)).map (·.2))
:=by
 intro fv fs h
 induction h with
 | nil=>exact⟨rfl,.nil⟩
 | cons h _ ih=>exact⟨by simp only[ba,ih.1,h.1],by simp only[ba];exact .cons h.2 ih.2⟩
def XR.rep{x:Ex}(h:XR K F C dd x)(e:F a=some (.ext (XO a C dd))):Rep K F (.ref a) (nh x):=by
 obtain⟨q,fv,fx,p⟩:=h;exact .exc e q fx (oH p).1 (oH p).2
def XR.mono{x:Ex}(s:Same F F')(h:XR K F C dd x):XR K F' C dd x:=by
 obtain⟨q,fv,fx,p⟩:=h;refine⟨q,fv,fx.mono s,?_⟩;clear fx q;revert p;generalize x.fs=fs;intro p
 induction p with
 | nil=>exact .nil
 | cons h t ih=>exact .cons ⟨h.1,h.2.mono s⟩ ih
structure FzOk(K:Fg)(F:Hp)(Z:L2.St)(ρ:En):Prop where
 ln:Z.length=ρ.length
 fz:∀(i:Nat) (d:D),ρ[i]? = some (some (AV.fz d))->∃v,Z[i]? = some (some v)/\Rep K F v d
def _root_.L3.StOk.fzok(S:StOk K G F Z H ρ)(s:Same F F'):FzOk K F' Z ρ:=⟨S.ln,λi d q=>by
 obtain⟨v,e,r⟩:=S.fz i d q
 exact⟨v,e,r.mono s⟩⟩
structure GOk(G:Gh)(F H:Hp):Prop where
 fh:Same F H
 oh:Same G.O H
 fo:∀b o,G.O b=some o->F b=none/\Aq o
 fb:Same G.B F
def XW(X:Cx)(G:Gh)(F:Hp)(ρ:En)(x:Ex):Prop:=∀F' H' s' a C dd pins Z,GOk G F' H'->FzOk X.K F' Z ρ->Inv X pins Z H' s'->XS H' s'.heap X.s₀.heap.objs.size a C dd->(∀p∈X.pn++pins,¬ jD s'.heap a p.1)->XR X.K F' C dd x->X.xe (.ref a) s'
def XW.mono{x:Ex}(s:Same F F')(h:XW X G F ρ x):XW X G F' ρ x:=h
def W(X:Cx)(G:Gh)(F:Hp)(Z:L2.St)(ρ:En){α:Type}(m:M α)(C:α->Hp->Hp->Prop):Prop:=match m with
 | .ret a=>∀F' H',Same F F'->StOk X.K G F' Z H' ρ->C a F' H'
 | .exc x=>XW X G F ρ x
 | .bad=>False
section
variable {β:Type} {m:M α} {k:α->M β} {C C':α->Hp->Hp->Prop}
def W.up{C:β->Hp->Hp->Prop}{m:M β}(s:Same F F')(h:W X G F Z ρ m C):W X G F' Z ρ m C:=by
 cases m with
 | ret a=>exact λF2 H2 s2 S2=>h F2 H2 (s.trans s2) S2
 | exc x=>exact XW.mono (X:=X) (G:=G) (ρ:=ρ) (x:=x) s h
 | bad=>exact h
def W.bind{C:β->Hp->Hp->Prop}(h:W X G F Z ρ (bd m k) C):W X G F Z ρ m λa F' H'=>W X G F' Z ρ (k a) C:=by
 cases m with
 | ret a=>exact λF2 H2 s2 S2=>W.up s2 h
 | exc x=>exact h
 | bad=>exact h
def W.imp(h:W X G F Z ρ m C)(w:∀a F' H',Same F F'->StOk X.K G F' Z H' ρ->C a F' H'->C' a F' H'):W X G F Z ρ m C':=by
 cases m with
 | ret a=>exact λF2 H2 s2 S2=>w a F2 H2 s2 S2 (h F2 H2 s2 S2)
 | exc x=>exact h
 | bad=>exact h
def W.opt{o:Option α}(h:W X G F Z ρ (oM o) C):∃a,o=some a/\∀F' H',Same F F'->StOk X.K G F' Z H' ρ->C a F' H':=by
 cases o with
 | none=>exact h.elim
 | some a=>exact⟨a,rfl,h⟩
end
@[irreducible] def dX(X:Cx)(e:Expr):TE:=λZ H Q=>∀(pins:zzk) (s:Shared),Inv X pins Z H s->wpAny (model X.prog X.w) X.A (eval e X.env) (EP X pins Z Q) X.xe s
@[irreducible] def qH(X:Cx)(e:Expr):TT:=λZ H Q=>∀(pins:zzk) (s:Shared),Inv X pins Z H s->wpAny (model X.prog X.w) X.A (isTrue e X.env (eval e X.env)) (TP X pins Z Q) X.xe s
@[irreducible] def qG(X:Cx)(e:Expr):TT:=λZ H Q=>∀(whole:Sem Value) (pins:zzk) (s:Shared),Inv X pins Z H s->wpAny (model X.prog X.w) X.A (isTrue e X.env whole) (TP X pins Z Q) X.xe s
@[irreducible] def eM(X:Cx)(es:List Expr):TA:=λZ H Q=>∀(pos:Pos) (pins:zzk) (s:Shared),Inv X pins Z H s->wpAny (model X.prog X.w) X.A (spliced (backTo pos (starEach es X.env))) (AP X pins Z Q) X.xe s
section
theorem aN:PE X e (dX X e):=λpins s Z H Q I h=>by unfold dX at h;exact h pins s I
theorem d4:PT X e (qH X e):=λpins s Z H Q I h=>by unfold qH at h;exact h pins s I
theorem oq:PW X e (qG X e):=λwh pins s Z H Q I h=>by unfold qG at h;exact h wh pins s I
theorem bQ:PA X es (eM X es):=λpos pins s Z H Q I h=>by unfold eM at h;exact h pos pins s I
theorem sem{t:TE}(h:PE X e t)(q:t Z H Q):dX X e Z H Q:=by unfold dX;exact λpins s I=>h pins s Z H Q I q
theorem qk{t:TT}{Q:Bool->Hp->Prop}(h:PT X e t)(q:t Z H Q):qH X e Z H Q:=by unfold qH;exact λpins s I=>h pins s Z H Q I q
theorem zF{t:TT}{Q:Bool->Hp->Prop}(h:PW X e t)(q:t Z H Q):qG X e Z H Q:=by unfold qG;exact λwh pins s I=>h wh pins s Z H Q I q
theorem v6{t:TA}{Q:List V->Hp->Prop}(h:PA X es t)(q:t Z H Q):eM X es Z H Q:=by unfold eM;exact λpos pins s I=>h pos pins s Z H Q I q
end
def iT(ρ:En)(i:Nat):Option (List D):=match ρ[i]? with
 | some (some (.ol (.l ds)))=>some ds
 | some (some (.op (.l ds)))=>some ds
 | _=>none
def kq{ds:List D}(h:iT ρ i=some ds):own ρ i (.l ds):=by
 unfold iT at h;split at h
 ·rename_i q;cases h;exact .inl q
 ·rename_i q;cases h;exact .inr q
 ·cases h
def VO(K:Fg)(F:Hp)(Z:L2.St)(ρ:En)(v:V)(d:D):Prop:=Rep K F v d\/∃i c,own ρ i c/\Z[i]? = some (some v)/\d=c.d/\c.isI=false
inductive VOs(K:Fg)(F:Hp)(Z:L2.St)(ρ:En):List V->List D->Prop
 | nil:VOs K F Z ρ [] []
 | cons {v d vs ds}:VO K F Z ρ v d->VOs K F Z ρ vs ds->VOs K F Z ρ (v::vs) (d::ds)
theorem VO.mono{d:D}(s:Same F F')(h:VO K F Z ρ v d):VO K F' Z ρ v d:=h.imp (Rep.mono s) id
def OR(K:Fg)(F H:Hp)(v:V)(d:D):Prop:=Rep K F v d\/∃a c,v=.ref a/\d=c.d/\Held K F H a c/\c.isI=false
inductive ORs(K:Fg)(F H:Hp):List V->List D->Prop
 | nil:ORs K F H [] []
 | cons {v d vs ds}:OR K F H v d->ORs K F H vs ds->ORs K F H (v::vs) (d::ds)
def VO.or{d:D}(S:StOk K G F Z H ρ)(h:VO K F Z ρ v d):OR K F H v d:=by
 rcases h with h|⟨i,c,ho,hv,rfl,hI⟩
 ·exact .inl h
 ·obtain⟨a,e1,oa⟩:=S.ow i _ ho;rw[hv]at e1;injection e1 with e1;injection e1 with e1;exact .inr ⟨a,c,e1,rfl,oa.he,hI⟩
def VOs.ors(S:StOk K G F Z H ρ):∀{vs ds},VOs K F Z ρ vs ds->ORs K F H vs ds
 | _,_,.nil=>.nil
 | _,_,.cons h t=>.cons (h.or S) (t.ors S)
section
variable {ds:List D}
def OR.rep{d:D}(s:Same F H)(h:OR K F H v d):Rep K H v d:=by
 rcases h with h|⟨a,c,rfl,rfl,h1,hI⟩
 ·exact h.mono s
 ·obtain⟨o,e,r⟩:=yU hI h1;exact r H s e
def OR.list(s:Same F H)(h:OR K F H v (.list ds)):∃a vs,v=.ref a/\SqL K H a vs/\RepL K F vs ds:=by
 rcases h with h|⟨a,c,e,e2,h1,hI⟩
 ·obtain⟨a,vs,e,h1,h2⟩:=h.lst_inv;exact⟨a,vs,e,s.seq h1,h2⟩
 ·cases c<;>cases e2
  obtain⟨vs,h1,h2⟩:=h1;exact⟨a,vs,e,.inl (.inl h1),h2⟩
def OR.tuple(s:Same F H)(h:OR K F H v (.tuple ds)):∃a vs,v=.ref a/\SqT K H a vs/\RepL K F vs ds:=by
 rcases h with h|⟨a,c,e,e2,h1,hI⟩
 ·obtain⟨a,vs,e,h1,h2⟩:=h.tup_inv;exact⟨a,vs,e,SqT.of (s _ _ h1),h2⟩
 ·cases c<;>cases e2
def OR.tup'(h:OR K F H v (.tuple ds)):Rep K F v (.tuple ds):=by
 rcases h with h|⟨a,c,e,e2,h1,hI⟩
 ·exact h
 ·cases c<;>cases e2
def OR.int{i:Int}(h:OR K F H v (.int i)):v=.int i:=by
 rcases h with h|⟨a,c,e,e2,h1,hI⟩
 ·exact h.inv
 ·cases c<;>cases e2
def OR.bool{i:Bool}(h:OR K F H v (.bool i)):v=.bl i:=by
 rcases h with h|⟨a,c,e,e2,h1,hI⟩
 ·exact h.inv
 ·cases c<;>cases e2
def OR.str{i:Str}(h:OR K F H v (.str i)):v=.str i:=by
 rcases h with h|⟨a,c,e,e2,h1,hI⟩
 ·exact h.inv
 ·cases c<;>cases e2
def OR.none(h:OR K F H v .none):v=.non:=by
 rcases h with h|⟨a,c,e,e2,h1,hI⟩
 ·exact h.inv
 ·cases c with
  | i _ _ _=>cases hI
  | _=>cases e2
def bB{d:D}{ds:List D}(h:ORs K F H vs (d::ds)):∃v r,vs=v::r/\OR K F H v d/\ORs K F H r ds:=by
 cases h with|cons a b=>exact⟨_,_,rfl,a,b⟩
def bR(h:ORs K F H vs []):vs=[]:=by cases h;rfl
end
def AP(X:Cx)(e:Expr)(p:Pu D):Prop :=
 ∀(G:Gh) (F:Hp) (Z:L2.St) (H:Hp) (ρ:En) (Q:VK),StOk X.K G F Z H ρ->W X G F Z ρ (p ρ) (λd F' H'=>∀v,Rep X.K F' v d->Q v H')->dX X e Z H Q
def AO(X:Cx)(e:Expr)(p:Pu D):Prop :=
 ∀(G:Gh) (F:Hp) (Z:L2.St) (H:Hp) (ρ:En) (Q:VK),StOk X.K G F Z H ρ->W X G F Z ρ (p ρ) (λd F' H'=>∀v,VO X.K F' Z ρ v d->Q v H')->dX X e Z H Q
def AT(X:Cx)(e:Expr)(p:Pu Bool):Prop :=
 ∀(G:Gh) (F:Hp) (Z:L2.St) (H:Hp) (ρ:En) (Q:Bool->Hp->Prop),StOk X.K G F Z H ρ->W X G F Z ρ (p ρ) (λd F' H'=>Q d H')->qH X e Z H Q
def AW(X:Cx)(e:Expr)(p:Pu Bool):Prop :=
 ∀(G:Gh) (F:Hp) (Z:L2.St) (H:Hp) (ρ:En) (Q:Bool->Hp->Prop),StOk X.K G F Z H ρ->W X G F Z ρ (p ρ) (λd F' H'=>Q d H')->qG X e Z H Q
def AB(X:Cx)(e:Expr)(p:Pu Bool):Prop :=
 ∀(G:Gh) (F:Hp) (Z:L2.St) (H:Hp) (ρ:En) (Q:VK),StOk X.K G F Z H ρ->W X G F Z ρ (p ρ) (λd F' H'=>Q (.bl d) H')->dX X e Z H Q
def AA{α:Type}(X:Cx)(es:List Expr)(m:(List D->M α)->En->M α):Prop :=
 ∀(G:Gh) (F:Hp) (Z:L2.St) (H:Hp) (ρ:En) (Q:List V->Hp->Prop) (k:List D->M α) (C:α->Hp->Hp->Prop),StOk X.K G F Z H ρ->W X G F Z ρ (m k ρ) C ->
  (∀ds vs F' H',Same F F'->StOk X.K G F' Z H' ρ->vs.length=es.length->RepL X.K F' vs ds->W X G F' Z ρ (k ds) C->Q vs H')->eM X es Z H Q
def AAo{α:Type}(X:Cx)(es:List Expr)(m:(List D->M α)->En->M α):Prop :=
 ∀(G:Gh) (F:Hp) (Z:L2.St) (H:Hp) (ρ:En) (Q:List V->Hp->Prop) (k:List D->M α) (C:α->Hp->Hp->Prop),StOk X.K G F Z H ρ->W X G F Z ρ (m k ρ) C ->
  (∀ds vs F' H',Same F F'->StOk X.K G F' Z H' ρ->VOs X.K F' Z ρ vs ds->W X G F' Z ρ (k ds) C->Q vs H')->eM X es Z H Q
def Frs(K:Fg)(G:Gh)(F:Hp)(Z:L2.St)(H:Hp)(ρ:En)(v:V)(c:OC):Prop:=∃a,v=.ref a/\OwnAt K G F H a c/\∀(i:Nat) (e:OC),own ρ i e->Z[i]? ≠ some (some (V.ref a))
def AL(X:Cx)(e:Expr)(p:Pu (List D)):Prop :=
 ∀(G:Gh) (F:Hp) (Z:L2.St) (H:Hp) (ρ:En) (Q:VK),StOk X.K G F Z H ρ->W X G F Z ρ (p ρ) (λds F' H'=>∀v,Frs X.K G F' Z H' ρ v (.l ds)->Q v H')->dX X e Z H Q
def Gc(i:Nat):Pu D:=λρ=>match ρ[i]? with
 | some (some (.fz d))=>.ret d
 | _=>.bad
def GX(c:OC):M D:=match c with
 | .i _ _ _=>.bad
 | c=>.ret c.d
def EO(i:Nat):Pu D:=λρ=>match ρ[i]? with
 | some (some (.ol c))=>GX c
 | some (some (.op c))=>GX c
 | _=>.bad
def zR(d:D):Pu D:=λ_=>.ret d
def Iq(f:D->D->Option D)(a b:Pu D):Pu D:=λρ=>bd (a ρ) λx=>bd (b ρ) λy=>oM (f x y)
def EV(f:D->D->Option Bool)(a b:Pu D):Pu Bool:=λρ=>bd (a ρ) λx=>bd (b ρ) λy=>oM (f x y)
def pUn(f:D->Option D)(a:Pu D):Pu D:=λρ=>bd (a ρ) λx=>oM (f x)
abbrev Pa(α:Type):=(List D->M α)->En->M α
def Im{α:Type}:Pa α:=λk _=>k []
def ER{α:Type}(a:Pu D)(r:Pa α):Pa α:=λk ρ=>bd (a ρ) λx=>r (λxs=>k (x::xs)) ρ
def fJ{S:Type}(ds:List S):M (List S):=if ds.length<=sizeLine then .ret ds else .bad
def JP(ps:Pa D):Pu D:=λρ=>ps (λds=>.ret (.tuple ds)) ρ
def JT(ps:Pa (List D)):Pu (List D):=λρ=>ps (λds=>.ret ds) ρ
def jX(h:n<=1000):n<=sizeLine:=cr h (by decide)
def EU(f:List D->Option D)(ps:Pa D):Pu D:=λρ=>ps (λds=>oM (f ds)) ρ
def Gf(f:List D->Option Bool)(ps:Pa Bool):Pu Bool:=λρ=>ps (λds=>oM (f ds)) ρ
def lF(f:List D->Option (List D))(ps:Pa (List D)):Pu (List D):=λρ=>ps (λds=>oM (f ds)) ρ
def pB(p:Pu Bool):Pu D:=λρ=>bd (p ρ) λb=>.ret (.bool b)
def pZ(p:Pu (List D)):Pu D:=λρ=>bd (p ρ) λds=>.ret (.list ds)
def asB(d:D):M Bool:=match d with
 | .bool b=>.ret b
 | _=>.bad
def JZ(p:Pu D):Pu Bool:=λρ=>bd (p ρ) asB
def ua:D->Option Bool
 | .none=>some false
 | .bool b=>some b
 | .int i=>some (i != 0)
 | .str x=>if x.length<=sizeLine then some ((x.length:Int) != 0)else none
 | .list ds=>some (!ds.isEmpty)
 | .tuple ds=>some (!ds.isEmpty)
 | .dict _=>none
def JQ(p:Pu D):Pu Bool:=λρ=>bd (p ρ) λd=>oM (ua d)
def Ir(a b:Pu Bool):Pu Bool:=λρ=>bd (a ρ) λt=>if t then b ρ else .ret false
def pOr(a b:Pu Bool):Pu Bool:=λρ=>bd (a ρ) λt=>if t then .ret true else b ρ
def JR(a:Pu Bool):Pu Bool:=λρ=>bd (a ρ) λt=>.ret (!t)
def pIf{α:Type}(c:Pu Bool)(a b:Pu α):Pu α:=λρ=>bd (c ρ) λt=>if t then a ρ else b ρ
def OpD(K:Fg)(r:R2)(f:D->D->Option D):Prop :=
 ∀(G:Gh) (F:Hp) (Z:L2.St) (H:Hp) (ρ:En) (x y:V) (dx dy:D) (res:D) (Q:VK),StOk K G F Z H ρ->OR K F H x dx->OR K F H y dy->f dx dy=some res ->
  (∀v F' H',Same F F'->StOk K G F' Z H' ρ->Rep K F' v res->Q v H')->r x y H Q
def OpB(K:Fg)(r:R2)(f:D->D->Option Bool):Prop :=
 ∀(G:Gh) (F:Hp) (Z:L2.St) (H:Hp) (ρ:En) (x y:V) (dx dy:D) (res:Bool) (Q:VK),StOk K G F Z H ρ->OR K F H x dx->OR K F H y dy->f dx dy=some res->Q (.bl res) H->r x y H Q
def UnD(K:Fg)(r:V->Hp->VK->Prop)(f:D->Option D):Prop :=
 ∀(G:Gh) (F:Hp) (Z:L2.St) (H:Hp) (ρ:En) (x:V) (dx:D) (res:D) (Q:VK),StOk K G F Z H ρ->OR K F H x dx->f dx=some res ->
  (∀v F' H',Same F F'->StOk K G F' Z H' ρ->Rep K F' v res->Q v H')->r x H Q
def iy(K:Fg)(r:List V->Hp->VK->Prop)(f:List D->Option D):Prop :=
 ∀(G:Gh) (F:Hp) (Z:L2.St) (H:Hp) (ρ:En) (xs:List V) (ds:List D) (res:D) (Q:VK),StOk K G F Z H ρ->ORs K F H xs ds->f ds=some res ->
  (∀v F' H',Same F F'->StOk K G F' Z H' ρ->Rep K F' v res->Q v H')->r xs H Q
def xP(K:Fg)(r:List V->Hp->VK->Prop)(f:List D->Option Bool):Prop :=
 ∀(G:Gh) (F:Hp) (Z:L2.St) (H:Hp) (ρ:En) (xs:List V) (ds:List D) (res:Bool) (Q:VK),StOk K G F Z H ρ->ORs K F H xs ds->f ds=some res->Q (.bl res) H->r xs H Q
def vS(K:Fg)(r:List V->Hp->VK->Prop)(f:List D->Option (List D)):Prop :=
 ∀(G:Gh) (F:Hp) (Z:L2.St) (H:Hp) (ρ:En) (xs:List V) (ds:List D) (res:List D) (Q:VK),StOk K G F Z H ρ->ORs K F H xs ds->f ds=some res ->
  (∀v F' H',Same F F'->StOk K G F' Z H' ρ->Frs K G F' Z H' ρ v (.l res)->Q v H')->r xs H Q
def isStar:Expr->Bool
 | .Starred _ _=>true
 | _=>false
def cx{env:Env}:∀{e:Expr} {es:List Expr},isStar e=false->starEach (e::es) env=(false,eval e env)::starEach es env:=by
 intro e es h
 cases e<;>first|rfl|cases h
def Dz(o:Option NameKind):Bool:=match o with
 | some .local=>true
 | some .cell=>true
 | _=>false
def lo{sc:Scope}(h:Dz (sc.names.lookup x)=true):L2.Loc sc x:=by
 unfold L2.Loc;generalize sc.names.lookup x=o at *;unfold Dz at h;split at h
 ·exact .inl rfl
 ·exact .inr rfl
 ·cases h
def Ho(o:Option NameKind):Bool:=match o with
 | some .free=>true
 | o=>Dz o
def vi{sc:Scope}(h:Ho (sc.names.lookup x)=true):L2.Vis sc x:=by
 unfold L2.Vis;generalize sc.names.lookup x=o at *;unfold Ho Dz at h;split at h
 ·exact .inr (.inr rfl)
 ·split at h
  ·exact .inl rfl
  ·exact .inr (.inl rfl)
  ·cases h
section
variable {a c:Expr} {rest:List Expr} {p pa pb:Pu D} {ta tb tc:Pu Bool} {ps:Pa D} {pb':Pa Bool} {pl:Pa (List D)} {pα:Pa α} {qs:Pu (List D)}
theorem Hb(hN:X.N[i]? = some x)(hv:Vis X.env.scope x)(hd:(x==("__debug__" : Str))=false:=by decide)(hcd:(x==("__classdict__" : Str))=false:=by decide):AP X (.Name x pos) (Gc i) :=
 λG F Z H ρ Q S w=>sem (dh hN hv hd hcd)<|by
  unfold Gc at w;split at w
  ·rename_i d q;obtain⟨v,e1,r1⟩:=S.fz i d q;exact⟨v,e1,w F H (Same.refl _) S v r1⟩
  ·exact w.elim
theorem cg(hN:X.N[i]? = some x:=by rfl)(hv:Vis X.env.scope x:=by exact vi rfl)(hd:(x==("__debug__" : Str))=false:=by decide)(hcd:(x==("__classdict__" : Str))=false:=by decide):AO X (.Name x pos) (EO i) :=
 λG F Z H ρ Q S w=>sem (dh hN hv hd hcd)<|by
  have go:∀c:OC,own ρ i c->W X G F Z ρ (GX c) (λd F' H'=>∀v,VO X.K F' Z ρ v d->Q v H')->zy i Z H Q:=λc ho w=>by
   obtain⟨a,e1,oa⟩:=S.ow i _ ho
   cases c with
   | i _ _ _=>exact w.elim
   | _=>exact⟨_,e1,w F H (Same.refl _) S _ (.inr ⟨i,_,ho,e1,rfl,rfl⟩)⟩
  unfold EO at w;split at w
  ·rename_i ds q;exact go ds (.inl q) w
  ·rename_i ds q;exact go ds (.inr q) w
  ·exact w.elim
def ao(h:AP X e p):AO X e p:=λG F Z H ρ Q S w=>h G F Z H ρ Q S (w.imp λd F' H' _ _ q v r=>q v (.inl r))
def pY{d:D}(h:PE X e (tC v))(r:∀F,Rep X.K F v d):AP X e (zR d) :=
 λG F Z H ρ Q S w=>sem h (w F H (Same.refl _) S v (r F))
def ag{i j}:AP X (.Constant (.int i) j pos) (zR (.int i)):=pY Bp λ_=>.int _
def jk{i j}:AP X (.Constant (.bool i) j pos) (zR (.bool i)):=pY Ij λ_=>.bl _
def aK{i j}:AP X (.Constant (.str i) j pos) (zR (.str i)):=pY Bm λ_=>.str _
def e6{j}:AP X (.Constant .none j pos) (zR .none):=pY FZ λ_=>.non
def tL{f:D->D->M α}{C:α->Hp->Hp->Prop}(ha:AO X a pa)(hb:AO X b pb)(S:StOk X.K G F Z H ρ)(w:W X G F Z ρ (bd (pa ρ) λx=>bd (pb ρ) λy=>f x y) C)
  (k:∀x y dx dy F' H',Same F F'->StOk X.K G F' Z H' ρ->OR X.K F' H' x dx->OR X.K F' H' y dy->W X G F' Z ρ (f dx dy) C->r x y H' Q):tOp r (dX X a) (dX X b) Z H Q :=
 ha G F Z H ρ _ S (w.bind.imp λdx F1 H1 s1 S1 w1 x hx=>hb G F1 Z H1 ρ _ S1 (w1.bind.imp λdy F2 H2 s2 S2 w2 y hy=>k x y dx dy F2 H2 (s1.trans s2) S2 ((hx.mono s2).or S2) (hy.or S2) w2))
def aJ{op:Operator}{f:D->D->Option D}(ho:OpR X (binaryOp op) r)(hf:OpD X.K r f)(ha:AO X a pa)(hb:AO X b pb):AP X (.BinOp a op b pos) (Iq f pa pb) :=
 λG F Z H ρ Q S w=>sem (Bo ho aN aN) (tL ha hb S w λx y dx dy F' H' s' S' hx hy w'=>by
  obtain⟨res,e,k⟩:=w'.opt
  exact hf G F' Z H' ρ x y dx dy res Q S' hx hy e λv F2 H2 s2 S2 r2=>k F2 H2 s2 S2 v r2)
theorem bv{f:D->D->Option D}(hr:IxR X r)(hf:OpD X.K r f)(ha:AO X a pa)(hb:AO X b pb)(hs:tW b:=by exact λ_ _=>rfl):AP X (.Subscript a b pos) (Iq f pa pb) :=
 λG F Z H ρ Q S w=>sem (EN hr aN aN hs) (tL ha hb S w λx y dx dy F' H' s' S' hx hy w'=>by
  obtain⟨res,e,k⟩:=w'.opt
  exact hf G F' Z H' ρ x y dx dy res Q S' hx hy e λv F2 H2 s2 S2 r2=>k F2 H2 s2 S2 v r2)
theorem qa{f:D->D->Option Bool}(ho:OpR X (compareOp op) r)(hf:OpB X.K r f)(ha:AO X a pa)(hb:AO X b pb)(hm:behindInMarks op b=false:=by rfl):AB X (.Compare a [op] [b] pos) (EV f pa pb) :=
 λG F Z H ρ Q S w=>sem (yu ho aN aN hm) (tL ha hb S w λx y dx dy F' H' s' S' hx hy w'=>by
  obtain⟨res,e,k⟩:=w'.opt
  exact hf G F' Z H' ρ x y dx dy res Q S' hx hy e (k F' H' (Same.refl _) S'))
theorem aZ{f:D->D->Option Bool}(ho:OpR X (compareOp op) r)(hf:OpB X.K r f)(ha:AO X a pa)(hb:AO X b pb)(hm:behindInMarks op b=false:=by rfl):AT X (.Compare a [op] [b] pos) (EV f pa pb) :=
 λG F Z H ρ Q S w=>qk (yk ho aN aN hm) (tL (Q:=λx H'=>∃k,x=.bl k/\Q k H') ha hb S w λx y dx dy F' H' s' S' hx hy w'=>by
  obtain⟨res,e,k⟩:=w'.opt
  exact hf G F' Z H' ρ x y dx dy res _ S' hx hy e ⟨res,rfl,k F' H' (Same.refl _) S'⟩)
def Ed(h:AB X e ta):AP X e (pB ta):=λG F Z H ρ Q S w=>h G F Z H ρ Q S (w.bind.imp λb F' H' s1 S1 w1=>w1 F' H' (Same.refl _) S1 _ (.bl b))
def zr{op:UnaryOp}{r:V->Hp->VK->Prop}{f:D->Option D}(ho:UnR X (unaryOp op) r)(hf:UnD X.K r f)(ha:AO X a pa):AP X (.UnaryOp op a pos) (pUn f pa) :=
 λG F Z H ρ Q S w=>sem (Ih ho aN) (ha G F Z H ρ _ S (w.bind.imp λdx F1 H1 s1 S1 w1 x hx=>by
  obtain⟨res,e,k⟩:=w1.opt
  exact hf G F1 Z H1 ρ x dx res Q S1 (hx.or S1) e λv F2 H2 s2 S2 r2=>k F2 H2 s2 S2 v r2))
def dU(h:AL X e qs):AP X e (pZ qs):=λG F Z H ρ Q S w=>h G F Z H ρ Q S (w.bind.imp λds F' H' s1 S1 w1 v fr=>by
 obtain⟨F2,s2,S2,r2⟩:=S1.settle (v:=v) (ds:=ds) fr
 exact w1 F2 H' s2 S2 v r2)
theorem aB:AA (α:=α) X [] Im:=λG F Z H ρ Q k C S w kk=>v6 iS (kk [] [] F H (Same.refl _) S rfl .nil w)
def af(h:AP X e p)(hr:AA X es pα)(hs:starEach (e::es) X.env=(false,eval e X.env)::starEach es X.env:=by exact cx rfl):AA X (e::es) (ER p pα) :=
 λG F Z H ρ Q k C S w kk=>v6 (eG aN bQ hs) (h G F Z H ρ _ S (w.bind.imp λd F1 H1 s1 S1 w1 v r1 =>
  hr G F1 Z H1 ρ _ _ C S1 w1 λds vs F2 H2 s2 S2 hl r2 w2=>kk (d::ds) (v::vs) F2 H2 (s1.trans s2) S2 (by simp[hl]) (.cons (r1.mono s2) r2) w2))
theorem aH:AAo (α:=α) X [] Im:=λG F Z H ρ Q k C S w kk=>v6 iS (kk [] [] F H (Same.refl _) S .nil w)
def aF(h:AO X e p)(hr:AAo X es pα)(hs:starEach (e::es) X.env=(false,eval e X.env)::starEach es X.env:=by exact cx rfl):AAo X (e::es) (ER p pα) :=
 λG F Z H ρ Q k C S w kk=>v6 (eG aN bQ hs) (h G F Z H ρ _ S (w.bind.imp λd F1 H1 s1 S1 w1 v r1 =>
  hr G F1 Z H1 ρ _ _ C S1 w1 λds vs F2 H2 s2 S2 r2 w2=>kk (d::ds) (v::vs) F2 H2 (s1.trans s2) S2 (.cons (r1.mono s2) r2) w2))
def W.fit{ds:List α}{C:List α->Hp->Hp->Prop}(h:W X G F Z ρ (fJ ds) C):ds.length<=sizeLine/\∀F' H',Same F F'->StOk X.K G F' Z H' ρ->C ds F' H':=by
 unfold fJ at h;split at h
 ·exact⟨by assumption,h⟩
 ·exact h.elim
theorem aS{x1}(h:AA X es ps)(hz:es.length<=1000:=by decide +kernel):AP X (.Tuple es x1 pos) (JP ps) :=
 λG F Z H ρ Q S w=>sem (Bl bQ) (h G F Z H ρ _ _ _ S w λds vs F1 H1 s1 S1 hl r1 w1=>by
  refine⟨by rw[hl];exact jX hz,λq hq=>?_⟩;obtain⟨s2,S2,r2⟩:=S1.newTup hq r1
  exact w1 _ _ s2 S2 _ r2)
theorem cq(h:AA X es pl)(hz:es.length<=1000:=by decide +kernel):AL X (.List es pos) (JT pl) :=
 λG F Z H ρ Q S w=>sem (sA bQ) (h G F Z H ρ _ _ _ S w λds vs F1 H1 s1 S1 hl r1 w1=>by
  refine⟨by rw[hl];exact jX hz,λq hq=>?_⟩;obtain⟨S2,r2⟩:=S1.newLst hq r1
  exact w1 _ _ (Same.refl _) S2 _ r2)
def lg{r:List V->Hp->VK->Prop}{f:List D->M α}{C:α->Hp->Hp->Prop}(ha:AAo X es pα)(S:StOk X.K G F Z H ρ)(w:W X G F Z ρ (pα f ρ) C)
  (k:∀xs ds F' H',Same F F'->StOk X.K G F' Z H' ρ->ORs X.K F' H' xs ds->W X G F' Z ρ (f ds) C->r xs H' Q):tCB r (eM X es) Z H Q :=
 ha G F Z H ρ _ _ C S w λds xs F1 H1 s1 S1 hx w1=>k xs ds F1 H1 s1 S1 (hx.ors S1) w1
theorem aO{p:Pos}{r:List V->Hp->VK->Prop}{f:List D->Option D}(hc:CallR X (.builtin id) r)(hf:iy X.K r f)(hm:X.mg x=none)(hv:bootBuiltins x=some (.builtin id))(ha:AAo X (e::es) ps)(hg:Gl X x:=by rfl)
  (hn:x ≠ "__name__":=by decide) (hdb:(x==("__debug__" : Str))=false:=by decide) (he:starEach (e::es) X.env=(false,eval e X.env)::starEach es X.env:=by rfl) (hpl:(backTo pos (starEach es X.env)).any (·.1)=false:=by rfl):AP X (.Call (.Name x p) (e::es) [] pos) (EU f ps) :=
 λG F Z H ρ Q S w=>sem (gM hc hg hm hv bQ hn hdb he hpl) (lg ha S w λxs ds F' H' s' S' hx w'=>by
  obtain⟨res,e,k⟩:=w'.opt
  exact hf G F' Z H' ρ xs ds res Q S' hx e λv F2 H2 s2 S2 r2=>k F2 H2 s2 S2 v r2)
theorem vA{p:Pos}{r:List V->Hp->VK->Prop}{f:List D->Option (List D)}(hc:CallR X (.builtin id) r)(hf:vS X.K r f)(hm:X.mg x=none)(hv:bootBuiltins x=some (.builtin id))(ha:AAo X (e::es) pl)(hg:Gl X x:=by rfl)
  (hn:x ≠ "__name__":=by decide) (hdb:(x==("__debug__" : Str))=false:=by decide) (he:starEach (e::es) X.env=(false,eval e X.env)::starEach es X.env:=by rfl) (hpl:(backTo pos (starEach es X.env)).any (·.1)=false:=by rfl):AL X (.Call (.Name x p) (e::es) [] pos) (lF f pl) :=
 λG F Z H ρ Q S w=>sem (gM hc hg hm hv bQ hn hdb he hpl) (lg ha S w λxs ds F' H' s' S' hx w'=>by
  obtain⟨res,e,k⟩:=w'.opt
  exact hf G F' Z H' ρ xs ds res Q S' hx e λv F2 H2 s2 S2 r2=>k F2 H2 s2 S2 v r2)
theorem CK{p:Pos}{r:List V->Hp->VK->Prop}{f:List D->Option Bool}(hc:CallR X (.builtin id) r)(hf:xP X.K r f)(hg:Gl X x)(hm:X.mg x=none)(hv:bootBuiltins x=some (.builtin id))(ha:AAo X (e::es) pb')
  (hn:x ≠ "__name__":=by decide) (hdb:(x==("__debug__" : Str))=false:=by decide) (he:starEach (e::es) X.env=(false,eval e X.env)::starEach es X.env:=by rfl) (hpl:(backTo pos (starEach es X.env)).any (·.1)=false:=by rfl):AB X (.Call (.Name x p) (e::es) [] pos) (Gf f pb') :=
 λG F Z H ρ Q S w=>sem (gM hc hg hm hv bQ hn hdb he hpl) (lg ha S w λxs ds F' H' s' S' hx w'=>by
  obtain⟨res,e,k⟩:=w'.opt
  exact hf G F' Z H' ρ xs ds res Q S' hx e (k F' H' (Same.refl _) S'))
theorem bP{p:Pos}{r:List V->Hp->VK->Prop}{f:List D->Option D}(hc:CallR X (.type T) r)(hf:iy X.K r f)(hm:X.mg x=none)(hv:bootBuiltins x=some (.type T))(ha:AAo X (e::es) ps)(hg:Gl X x:=by rfl)
  (hn:x ≠ "__name__":=by decide) (hdb:(x==("__debug__" : Str))=false:=by decide) (he:starEach (e::es) X.env=(false,eval e X.env)::starEach es X.env:=by rfl) (hpl:(backTo pos (starEach es X.env)).any (·.1)=false:=by rfl):AP X (.Call (.Name x p) (e::es) [] pos) (EU f ps) :=
 λG F Z H ρ Q S w=>sem (jt hc hg hm hv bQ hn hdb he hpl) (lg ha S w λxs ds F' H' s' S' hx w'=>by
  obtain⟨res,e,k⟩:=w'.opt
  exact hf G F' Z H' ρ xs ds res Q S' hx e λv F2 H2 s2 S2 r2=>k F2 H2 s2 S2 v r2)
theorem Ao{p:Pos}{r:List V->Hp->VK->Prop}{f:List D->Option (List D)}(hc:CallR X (.type T) r)(hf:vS X.K r f)(hm:X.mg x=none)(hv:bootBuiltins x=some (.type T))(ha:AAo X (e::es) pl)(hg:Gl X x:=by rfl)
  (hn:x ≠ "__name__":=by decide) (hdb:(x==("__debug__" : Str))=false:=by decide) (he:starEach (e::es) X.env=(false,eval e X.env)::starEach es X.env:=by rfl) (hpl:(backTo pos (starEach es X.env)).any (·.1)=false:=by rfl):AL X (.Call (.Name x p) (e::es) [] pos) (lF f pl) :=
 λG F Z H ρ Q S w=>sem (jt hc hg hm hv bQ hn hdb he hpl) (lg ha S w λxs ds F' H' s' S' hx w'=>by
  obtain⟨res,e,k⟩:=w'.opt
  exact hf G F' Z H' ρ xs ds res Q S' hx e λv F2 H2 s2 S2 r2=>k F2 H2 s2 S2 v r2)
def kU{ds:List D}(h:RepL K F vs ds):(!vs.isEmpty) = !ds.isEmpty:=by cases h<;>rfl
def tO(ha:AO X a pa)(he:∀whole,isTrue a X.env whole=(do let v <-whole;standAt a.pos;holding [v] (truthy v))):AT X a (JQ pa) :=
 λG F Z H ρ Q S w=>qk (oB aN he) (ha G F Z H ρ _ S (w.bind.imp λx F1 H1 s1 S1 w1 v hv=>by
  obtain⟨bb,hb,k⟩:=w1.opt;refine⟨bb,?_,k F1 H1 (Same.refl _) S1⟩;have o:=hv.or S1
  cases x with
  | none=>rw[o.none];cases hb;exact rfl
  | bool i=>rw[o.bool];cases hb;exact rfl
  | int i=>rw[o.int];cases hb;exact rfl
  | str i =>
   rw[o.str];unfold ua at hb;dsimp only at hb;split at hb
   ·rename_i hl;cases hb;exact⟨hl,rfl⟩
   ·cases hb
  | list ds=>obtain⟨a,vs,rfl,h1,h2⟩:=o.list S1.fh;cases hb;exact .inl ⟨vs,h1,(kU h2).symm⟩
  | tuple ds=>obtain⟨a,vs,rfl,h1,h2⟩:=o.tuple S1.fh;cases hb;exact .inr (.inl ⟨vs,h1,(kU h2).symm⟩)
  | dict ds=>cases hb))
def tP(ha:AB X a ta)(he:∀whole,isTrue a X.env whole=(do let v <-whole;standAt a.pos;holding [v] (truthy v))):AT X a ta :=
 λG F Z H ρ Q S w=>qk (oB aN he) (ha G F Z H ρ _ S (w.imp λx F1 H1 s1 S1 w1=>⟨x,rfl,w1⟩))
def tN(ha:AT X a ta):AW X (.BoolOp .And [a] pos) ta:=λG F Z H ρ Q S w=>zF (yf d4) (ha G F Z H ρ Q S w)
def xG(ha:AT X a ta):AW X (.BoolOp .Or [a] pos) ta:=λG F Z H ρ Q S w=>zF (FO d4) (ha G F Z H ρ Q S w)
def xH(ha:AT X a ta)(hb:AW X (.BoolOp .And (b::rest) pos) tb):AW X (.BoolOp .And (a::b::rest) pos) (Ir ta tb) :=
 λG F Z H ρ Q S w=>zF (Bb d4 oq) (ha G F Z H ρ _ S (w.bind.imp λt F1 H1 s1 S1 w1=>by
  cases t with
  | true=>refine qw ?_;exact hb G F1 Z H1 ρ Q S1 w1
  | false=>refine tq ?_;exact w1 F1 H1 (Same.refl _) S1))
def vv(ha:AT X a ta)(hb:AW X (.BoolOp .Or (b::rest) pos) tb):AW X (.BoolOp .Or (a::b::rest) pos) (pOr ta tb) :=
 λG F Z H ρ Q S w=>zF (Ia d4 oq) (ha G F Z H ρ _ S (w.bind.imp λt F1 H1 s1 S1 w1=>by
  cases t with
  | true=>refine qw ?_;exact w1 F1 H1 (Same.refl _) S1
  | false=>refine tq ?_;exact hb G F1 Z H1 ρ Q S1 w1))
def rO(h:AW X e ta):AT X e ta:=λG F Z H ρ Q S w=>qk (λpins s Z H Q I h=>oq _ pins s Z H Q I h) (h G F Z H ρ Q S w)
def pW(ha:AT X a ta):AT X (.UnaryOp .Not a pos) (JR ta) :=
 λG F Z H ρ Q S w=>qk (Bc d4) (ha G F Z H ρ _ S (w.bind.imp λt F1 H1 s1 S1 w1=>w1 F1 H1 (Same.refl _) S1))
def Ji(h:AP X a pa):AB X a (JZ pa):=λG F Z H ρ Q S w=>h G F Z H ρ Q S (w.bind.imp λd F1 H1 s1 S1 w1 v r=>by
 cases r with
 | bl b=>exact w1 F1 H1 (Same.refl _) S1
 | non=>exact w1.elim
 | int i=>exact w1.elim
 | str i=>exact w1.elim
 | tup _ _=>exact w1.elim
 | lst _ _=>exact w1.elim
 | dct _ _ _=>exact w1.elim
 | dck _ _ _=>exact w1.elim
 | exc _ _ _ _ _=>exact w1.elim
 | fn _=>exact w1.elim)
def Hf{op}(h:AB X a ta):AB X (.BoolOp op [a] pos) ta:=λG F Z H ρ Q S w=>sem (FY aN) (h G F Z H ρ Q S w)
def CL(ha:AB X a ta)(hb:AB X (.BoolOp .And (b::rest) pos) tb):AB X (.BoolOp .And (a::b::rest) pos) (Ir ta tb) :=
 λG F Z H ρ Q S w=>sem (Gb aN aN) (ha G F Z H ρ _ S (w.bind.imp λt F1 H1 s1 S1 w1=>⟨t,rfl,by
  cases t with
  | true=>refine qw ?_;exact hb G F1 Z H1 ρ Q S1 w1
  | false=>refine tq ?_;exact w1 F1 H1 (Same.refl _) S1⟩))
def gm(hc:AT X c tc)(ha:AP X a pa)(hb:AP X b pb):AP X (.IfExp c a b pos) (pIf tc pa pb) :=
 λG F Z H ρ Q S w=>sem (uC d4 aN aN) (hc G F Z H ρ _ S (w.bind.imp λt F1 H1 s1 S1 w1=>by
  cases t with
  | true=>refine qw ?_;exact ha G F1 Z H1 ρ Q S1 w1
  | false=>refine tq ?_;exact hb G F1 Z H1 ρ Q S1 w1))
end
def yG(i j:Int):Bool:=(decide (-(2^64)<i)&&decide (i<2^64))||(decide (-(2^64)<j)&&decide (j<2^64))
def aP:D->D->Option D
 | .int i,.int j=>some (.int (i+j))
 | .str a,.str b=>if a.length+b.length<=sizeLine then some (.str (a++b))else none
 | .tuple a,.tuple b=>if a.length+b.length<=sizeLine then some (.tuple (a++b))else none
 | .list a,.list b=>if a.length+b.length<=sizeLine then some (.list (a++b))else none
 | _,_=>none
def cU:D->D->Option D
 | .int i,.int j=>some (.int (i - j))
 | _,_=>none
def gz:D->D->Option D
 | .int i,.int j=>if yG i j then some (.int (i*j))else none
 | _,_=>none
def oO:D->D->Option (List D)
 | .list a,.int k=>if decide (-(2^63)<=k)&&decide (k<2^63)&&decide (a.length*k.toNat<=sizeLine)then some (List.replicate k.toNat a).flatten else none
 | _,_=>none
def uH:D->D->Option D
 | .int i,.int j=>if decide (0<j)&&decide (j<1073741824)then some (.int (i / j))else none
 | _,_=>none
def iU:D->D->Option D
 | .int i,.int j=>if 0<j then some (.int (i % j))else none
 | _,_=>none
def uF:D->D->Option D
 | .int i,.int j=>if decide (0<=j)&&decide (j<=1000000)&&decide (i.natAbs<2^64)then some (.int (i^j.toNat))else none
 | _,_=>none
def gO:D->Option D
 | .int i=>some (.int (-i))
 | _=>none
def gA:D->D->Option Bool
 | .int i,.int j=>some (decide (i<j))
 | _,_=>none
def sD:D->D->Option Bool
 | .int i,.int j=>some (decide (i<=j))
 | _,_=>none
def mV:D->D->Option Bool
 | .int i,.int j=>some (decide (j<i))
 | _,_=>none
def uG:D->D->Option Bool
 | .int i,.int j=>some (decide (j<=i))
 | _,_=>none
def EL(K:Fg):R2:=λx y H Q=>∃a b xs ys,x=.ref a/\y=.ref b/\SqT K H a xs/\SqT K H b ys/\xs.length+ys.length<=sizeLine /\
 (xs=[]->Q (.ref b) H)/\(xs≠[]->ys=[]->Q (.ref a) H)/\(xs≠[]->ys≠[]->∀p,H p=none->Q (.ref p) (upd H p (.tup (xs++ys))))
theorem op_cat0:OpR X (binaryOp .Add) (EL X.K):=by
 intro pins s Z H x y v u Q I rx ry h;obtain⟨a,b,xs,ys,rfl,rfl,ha,hb,hz,q0,q1,q2⟩:=h;by_cases hx:xs=[]
 ·cases rx
  cases ry
  obtain⟨its,r1,p1,_⟩:=I.tuple ha;obtain⟨its2,r2,p2,_⟩:=I.tuple hb;have hv:its=[]:=r1.nil_iff.mpr hx;obtain⟨⟨cls,dd,data,sl⟩,ho,hc,n,hd⟩:=id p1;obtain⟨⟨cls2,dd2,data2,sl2⟩,ho2,hc2,n2,hd2⟩:=id p2;simp only at hc hd hc2 hd2;subst hc hd hc2 hd2;exact concat_meets ⟨_,ho,rfl⟩ ⟨_,ho2,rfl⟩ noFill_tuple_add seq_tuple_add L6 LR (LN _ _)
   (tuple_addW0 a b its.toArray its2.toArray n n2 dd dd2 sl sl2 (by simp[hv])) ⟨ho,ho2,⟨.ref b,H,I,rfl,q0 hx⟩⟩
 ·exact Dp pins s Z H _ _ v u Q I rx ry ⟨a,b,xs,ys,rfl,rfl,ha,hb,hx,hz,q1 hx,q2 hx⟩
section
def noS{a:α}{P:Prop}(e:(none:Option α)=some a):P:=nomatch e
def okI{C:Int->Int->Prop}{g:Int->Int->V}{f:D->D->Option D}(h:∀dx dy res,f dx dy=some res->∃i j,dx=.int i/\dy=.int j/\C i j/\∀K F,Rep K F (g i j) res):OpD K (rI C g) f:=by
 intro G F Z H ρ x y dx dy res Q S ox oy e k;obtain⟨i,j,rfl,rfl,hc,hr⟩:=h dx dy res e;exact⟨i,j,ox.int,oy.int,hc,k _ F H (Same.refl _) S (hr K F)⟩
def okB{g:Int->Int->Bool}{f:D->D->Option Bool}(h:∀dx dy res,f dx dy=some res->∃i j,dx=.int i/\dy=.int j/\res=g i j):OpB K (rI0 λi j=>.bl (g i j)) f:=by
 intro G F Z H ρ x y dx dy res Q S ox oy e k;obtain⟨i,j,rfl,rfl,rfl⟩:=h dx dy res e;exact⟨i,j,ox.int,oy.int,k⟩
def d9:OpD K (rI0 λi j=>.int (i - j)) cU:=by
 intro G F Z H ρ x y dx dy res Q S ox oy e k
 cases dx<;>first|exact noS e|(cases dy<;>first|exact noS e|cases e)
 exact⟨_,_,ox.int,oy.int,k _ F H (Same.refl _) S (.int _)⟩
def qX:OpB K (rI0 λi j=>.bl (decide (i<j))) gA:=okB λdx dy res e=>by
 cases dx<;>first|exact noS e|(cases dy<;>first|exact noS e|cases e)
 exact⟨_,_,rfl,rfl,rfl⟩
def qY:OpB K (rI0 λi j=>.bl (decide (i<=j))) sD:=okB λdx dy res e=>by
 cases dx<;>first|exact noS e|(cases dy<;>first|exact noS e|cases e)
 exact⟨_,_,rfl,rfl,rfl⟩
def oU:OpB K (rI0 λi j=>.bl (decide (j<i))) mV:=okB λdx dy res e=>by
 cases dx<;>first|exact noS e|(cases dy<;>first|exact noS e|cases e)
 exact⟨_,_,rfl,rfl,rfl⟩
def yB:OpB K (rI0 λi j=>.bl (decide (j<=i))) uG:=okB λdx dy res e=>by
 cases dx<;>first|exact noS e|(cases dy<;>first|exact noS e|cases e)
 exact⟨_,_,rfl,rfl,rfl⟩
def Bv:OpD K (rI Jp λi j=>.int (i / j)) uH:=okI λdx dy res e=>by
 cases dx<;>first|exact noS e|(cases dy<;>try (exact noS e))
 rename_i i j;dsimp only[uH]at e;split at e
 ·rename_i hc
  cases e
  simp only[ai,zzi]at hc;exact⟨i,j,rfl,rfl,hc,λ_ _=>.int _⟩
 ·cases e
def jT:OpD K (rI (λ_ j=>0<j) λi j=>.int (i % j)) iU:=okI λdx dy res e=>by
 cases dx<;>first|exact noS e|(cases dy<;>try (exact noS e))
 rename_i i j;dsimp only[iU]at e;split at e
 ·rename_i hc
  cases e
  exact⟨i,j,rfl,rfl,hc,λ_ _=>.int _⟩
 ·cases e
def Gm:OpD K (rI Jo λi j=>.int (i^j.toNat)) uF:=okI λdx dy res e=>by
 cases dx<;>first|exact noS e|(cases dy<;>try (exact noS e))
 rename_i i j;dsimp only[uF]at e;split at e
 ·rename_i hc
  cases e
  simp only[ai,zzi]at hc;exact⟨i,j,rfl,rfl,⟨hc.1.1,hc.1.2,hc.2⟩,λ_ _=>.int _⟩
 ·cases e
def sJ:UnD K (rU λi=>.int (-i)) gO:=by
 intro G F Z H ρ x dx res Q S ox e k
 cases dx<;>cases e
 exact⟨_,ox.int,k _ F H (Same.refl _) S (.int _)⟩
def ki{ds:List D}(r:RepL K F vs ds):vs=[]↔ds=[]:=by cases r<;>simp
def EK(K:Fg):R2:=λx y H Q=>∃l b xs zs,x=.ref l/\y=.ref b/\SqL K H l xs/\SqL K H b zs/\xs.length+zs.length<=sizeLine/\∀p,H p=none->Q (.ref p) (upd H p (.lst (xs++zs)))
theorem Dq:OpR X (binaryOp .Add) (EK X.K):=by
 intro pins s Z H x y v u Q I rx ry h;obtain⟨l,b,xs,zs,rfl,rfl,hH,hB,hz,q⟩:=h
 cases rx
 cases ry
 obtain⟨its,r,pl,_⟩:=I.list hH;obtain⟨its2,r2,pl2,_⟩:=I.list hB;obtain⟨⟨cls,dd,data,sl⟩,ho,hc,n,hd⟩:=id pl.isList;obtain⟨⟨cls2,dd2,data2,sl2⟩,ho2,hc2,n2,hd2⟩:=id pl2.isList;simp only at hc hd hc2 hd2;subst hc hd hc2 hd2;have e:its.toArray++its2.toArray=(its++its2).toArray:=by simp
 refine concat_meets ⟨_,ho,rfl⟩ ⟨_,ho2,rfl⟩ noFill_list_add seq_list_add PySem.F.slot_list_add PySem.F.entry_list_add (PySem.F.args_list_add_2 _ _) (list_addW l b its.toArray its2.toArray n n2 dd dd2 sl sl2 (by rw[be,be,<-r.length,<-r2.length];exact hz)) ⟨ho,ho2,?_⟩;rw[e];exact⟨.ref _,_,I.laid (t':=s.toks) (o:=.lst (xs++zs)) (λb ob q=>zzc _ q) (au _) ⟨by rw[zzf];exact hz,_,0,r.append r2,zze _ rfl⟩,rfl,q _ (I.hok.fresh (au _))⟩
def HR:R2:=λx y H Q=>∃i j,x=.str i/\y=.str j/\i.length+j.length<=sizeLine/\Q (.str (i++j)) H
def EM(K:Fg):R2:=λx y H Q=>rI0 (λi j=>.int (i+j)) x y H Q\/(HR x y H Q\/(EL K x y H Q\/EK K x y H Q))
def aM:OpR X (binaryOp .Add) (EM X.K):=op_add.or (OpR.or wy (op_cat0.or Dq))
def aW:OpD K (EM K) aP:=by
 intro G F Z H ρ x y dx dy res Q S ox oy e k
 cases dx<;>first|exact noS e|(cases dy<;>try (exact noS e))
 ·cases e;exact .inl ⟨_,_,ox.int,oy.int,k _ F H (Same.refl _) S (.int _)⟩
 ·dsimp only[aP]at e;split at e
  ·rename_i hz
   cases e
   exact .inr (.inl ⟨_,_,ox.str,oy.str,hz,k _ F H (Same.refl _) S (.str _)⟩)
  ·cases e
 ·dsimp only[aP]at e;split at e
  ·rename_i hz
   cases e
   obtain⟨a,vs,rfl,h1,h2⟩:=ox.list S.fh;obtain⟨b,us,rfl,g1,g2⟩:=oy.list S.fh;refine .inr (.inr (.inr ⟨a,b,vs,us,rfl,rfl,h1,g1,by rw[h2.length,g2.length];exact hz,λp hp=>?_⟩));obtain⟨S2,r2⟩:=S.newLst hp (h2.append g2);obtain⟨F2,s3,S3,r3⟩:=S2.settle r2;exact k _ F2 _ s3 S3 r3
  ·cases e
 ·dsimp only[aP]at e;split at e
  ·rename_i hz
   cases e
   obtain⟨a,vs,rfl,h1,h2⟩:=ox.tuple S.fh;obtain⟨b,us,rfl,g1,g2⟩:=oy.tuple S.fh;refine .inr (.inr (.inl ⟨a,b,vs,us,rfl,rfl,h1,g1,by rw[h2.length,g2.length];exact hz,λz=>?_,λ_ z=>?_,λ_ _ p hp=>?_⟩))
   ·have z':=(ki h2).mp z;subst z';exact k _ F H (Same.refl _) S oy.tup'
   ·have z':=(ki g2).mp z;subst z';exact k _ F H (Same.refl _) S (by rw[ig];exact ox.tup')
   ·obtain⟨s2,S2,r2⟩:=S.newTup hp (h2.append g2);exact k _ _ _ s2 S2 r2
  ·cases e
def RepL.rep{ds:List D}(h:RepL K F vs ds):∀k:Nat,RepL K F (List.replicate k vs).flatten (List.replicate k ds).flatten
 | 0=>.nil
 | k+1=>by rw[la,la,wa,wa];exact h.append (RepL.rep h k)
def oS:OpD K (rI CMul λi j=>.int (i*j)) gz:=okI λdx dy res e=>by
 cases dx<;>first|exact noS e|(cases dy<;>try (exact noS e))
 rename_i i j;dsimp only[gz]at e;split at e
 ·rename_i hc
  cases e
  unfold yG at hc;simp only[ii,ai,zzi]at hc;exact⟨i,j,rfl,rfl,hc,λ_ _=>.int _⟩
 ·cases e
end
def pG(d e:D):Bool:=d.canLay0&&e.canLay0&&decide (d.depth<=1000)
def bC(d e:D):Option Bool:=if pG d e then some (PyData.eqv d e)else none
def iA(d e:D):Option Bool:=if pG d e then some (!PyData.eqv d e)else none
def gR(d:D)(xs:List D):Bool:=PyData.canLayAll0 xs&&d.canLay0&&decide (d.depth<=1000)
def rg(i j:Str):Bool:=!(Builtin.Str.occurrences j i 0 j.length 1).isEmpty
def jB(d c:D):Option Bool:=match c with
 | .list xs=>if gR d xs then some (xs.any λy=>PyData.eqv y d)else none
 | .tuple xs=>if gR d xs then some (xs.any λy=>PyData.eqv y d)else none
 | .str j=>match d with
  | .str i=>some (rg i j)
  | _=>none
 | _=>none
def cQ(d c:D):Option Bool:=match c with
 | .list xs=>if gR d xs then some (!xs.any λy=>PyData.eqv y d)else none
 | .tuple xs=>if gR d xs then some (!xs.any λy=>PyData.eqv y d)else none
 | .str j=>match d with
  | .str i=>some (!rg i j)
  | _=>none
 | _=>none
def isNone:D->Bool
 | .none=>true
 | _=>false
def EW(d e:D):Option Bool:=match e with
 | .none=>some (isNone d)
 | _=>none
def rD2(K:Fg)(f:D->D->Option Bool):R2:=λx y H Q=>∃d e b,Rep K H x d/\Rep K H y e/\f d e=some b/\Q (.bl b) H
def bK{f:D->D->Option Bool}:OpB K (rD2 K f) f:=by
 intro G F Z H ρ x y dx dy res Q S ox oy e k;exact⟨dx,dy,res,ox.rep S.fh,oy.rep S.fh,e,k⟩
def Rep.non_iff{d:D}(r:Rep K F v d):(decide (v=.non))=isNone d:=by
 cases r<;>rfl
section
theorem bX(hu:X.A.units+1100<cLine):OpR X (compareOp .Eq) (rD2 X.K bC):=by
 intro pins s Z H x y v u Q I rx ry ⟨d,e,b,r1,r2,ho,q⟩;unfold bC at ho;split at ho
 case isFalse=>cases ho
 rename_i hc
 cases ho
 simp only[pG,ai,zzi]at hc;obtain⟨as,ra⟩:=(bW I).1 r1 hc.1.1 rx;obtain⟨bs,rb⟩:=(bW I).1 r2 hc.1.2 ry;exact SeqAt.compareEq_reads ra rb hc.1.1 hc.1.2 (by have:=Nat.min_le_left d.depth e.depth;lia) ⟨.bl _,H,I,rfl,q⟩
theorem oJ(hu:X.A.units+1100<cLine):OpR X (compareOp .NotEq) (rD2 X.K iA):=by
 intro pins s Z H x y v u Q I rx ry ⟨d,e,b,r1,r2,ho,q⟩;unfold iA at ho;split at ho
 case isFalse=>cases ho
 rename_i hc
 cases ho
 simp only[pG,ai,zzi]at hc;obtain⟨as,ra⟩:=(bW I).1 r1 hc.1.1 rx;obtain⟨bs,rb⟩:=(bW I).1 r2 hc.1.2 ry;exact SeqAt.compareNe_reads ra rb hc.1.1 hc.1.2 (by have:=Nat.min_le_left d.depth e.depth;lia) ⟨.bl _,H,I,rfl,q⟩
theorem wx(hu:X.A.units+1100<cLine):OpR X (compareOp .In) (rD2 X.K jB):=by
 intro pins s Z H x y v u Q I rx ry ⟨d,e,b,r1,r2,ho,q⟩;unfold jB at ho;split at ho
 ·rename_i xs;split at ho
  case isFalse=>cases ho
  rename_i hc
  cases ho
  simp only[gR,ai,zzi]at hc;obtain⟨as,ra⟩:=(bW I).1 r1 hc.1.2 rx;obtain⟨bs,rb⟩:=(bW I).1 r2 (by simpa[PyData.canLay0]using hc.1.1) ry;exact SeqAt.in_list_reads rb ra hc.1.1 hc.1.2 (by have:=Li (PyData.depthAll xs) d.depth;lia) ⟨.bl _,H,I,rfl,q⟩
 ·rename_i xs;split at ho
  case isFalse=>cases ho
  rename_i hc
  cases ho
  simp only[gR,ai,zzi]at hc;obtain⟨as,ra⟩:=(bW I).1 r1 hc.1.2 rx;obtain⟨bs,rb⟩:=(bW I).1 r2 (by simpa[PyData.canLay0]using hc.1.1) ry;exact SeqAt.in_tuple_reads rb ra hc.1.1 hc.1.2 (by have:=Li (PyData.depthAll xs) d.depth;lia) ⟨.bl _,H,I,rfl,q⟩
 ·split at ho
  ·cases ho
   obtain rfl:=r1.str_inv;obtain rfl:=r2.str_inv;exact zS pins s Z H _ _ v u Q I rx ry ⟨_,_,rfl,rfl,q⟩
  ·cases ho
 ·cases ho
theorem gN(hu:X.A.units+1100<cLine):OpR X (compareOp .NotIn) (rD2 X.K cQ):=by
 intro pins s Z H x y v u Q I rx ry ⟨d,e,b,r1,r2,ho,q⟩;unfold cQ at ho;split at ho
 ·rename_i xs;split at ho
  case isFalse=>cases ho
  rename_i hc
  cases ho
  simp only[gR,ai,zzi]at hc;obtain⟨as,ra⟩:=(bW I).1 r1 hc.1.2 rx;obtain⟨bs,rb⟩:=(bW I).1 r2 (by simpa[PyData.canLay0]using hc.1.1) ry;exact SeqAt.notIn_list_reads rb ra hc.1.1 hc.1.2 (by have:=Li (PyData.depthAll xs) d.depth;lia) ⟨.bl _,H,I,rfl,q⟩
 ·rename_i xs;split at ho
  case isFalse=>cases ho
  rename_i hc
  cases ho
  simp only[gR,ai,zzi]at hc;obtain⟨as,ra⟩:=(bW I).1 r1 hc.1.2 rx;obtain⟨bs,rb⟩:=(bW I).1 r2 (by simpa[PyData.canLay0]using hc.1.1) ry;exact SeqAt.notIn_tuple_reads rb ra hc.1.1 hc.1.2 (by have:=Li (PyData.depthAll xs) d.depth;lia) ⟨.bl _,H,I,rfl,q⟩
 ·split at ho
  ·cases ho
   obtain rfl:=r1.str_inv;obtain rfl:=r2.str_inv;exact sC pins s Z H _ _ v u Q I rx ry ⟨_,_,rfl,rfl,q⟩
  ·cases ho
 ·cases ho
def Do:OpR X (compareOp .Is) (rD2 X.K EW):=by
 intro pins s Z H x y v u Q I rx ry ⟨d,e,b,r1,r2,ho,q⟩;unfold EW at ho;split at ho
 ·cases ho
  cases r2
  refine Gj pins s Z H x _ v u Q I rx ry ⟨rfl,?_⟩;rw[Rep.non_iff r1];exact q
 ·cases ho
end
def bf:D->D->Option D
 | .list ds,.int i=>atI ds i
 | .tuple ds,.int i=>atI ds i
 | .str z,.int i=>if z.length<=sizeLine then(atI z.cps.toList i).map λc=>.str ⟨#[c]⟩else none
 | _,_=>none
def zo{ds:List D}{i:Int}{d:D}(r:RepL K F vs ds)(h:atI ds i=some d):∃v,atI vs i=some v/\Rep K F v d:=by
 unfold atI at h ⊢;rw[r.length]
 cases q:ixN ds.length i with
 | none=>rw[q]at h;cases h
 | some j =>
  rw[q]at h;exact r.get (i:=j) h
def bt:OpD K (rIx K) bf:=by
 intro G F Z H ρ x y dx dy res Q S ox oy e k
 cases dx<;>first|exact noS e|(cases dy<;>try (exact noS e))
 ·dsimp only[bf]at e;split at e
  ·rename_i hz;obtain⟨c,hc,rfl⟩:=Option.map_eq_some_iff.mp e;exact .inr (.inr ⟨_,_,c,ox.str,oy.int,hz,hc,k _ F H (Same.refl _) S (.str _)⟩)
  ·cases e
 ·obtain⟨a,vs,rfl,h1,h2⟩:=ox.list S.fh;obtain⟨v,e1,e2⟩:=zo h2 e;exact .inl ⟨a,vs,_,v,rfl,oy.int,h1,e1,k v F H (Same.refl _) S e2⟩
 ·obtain⟨a,vs,rfl,h1,h2⟩:=ox.tuple S.fh;obtain⟨v,e1,e2⟩:=zo h2 e;exact .inr (.inl ⟨a,vs,_,v,rfl,oy.int,h1,e1,k v F H (Same.refl _) S e2⟩)
def Vals.one{us:List Value}(h:Vals [v] us):∃u,us=[u]/\RelV v u:=by
 cases h with|cons a b=>cases b;exact⟨_,rfl,a⟩
def cI:List D->Option D
 | [.list ds]=>some (.int ds.length)
 | [.tuple ds]=>some (.int ds.length)
 | [.str z]=>if z.length<=sizeLine then some (.int z.length)else none
 | _=>none
def cF:List D->Option D
 | [.list ds]=>some (.tuple ds)
 | [.tuple ds]=>some (.tuple ds)
 | _=>none
def wW:List D->Option D
 | [.int i]=>some (.int (if i<0 then -i else i))
 | _=>none
def jM:List D->Option D
 | [.int i,.int j]=>some (.int (if j<i then j else i))
 | _=>none
def HW(K:Fg):List V->Hp->VK->Prop:=λxs H Q=>(∃p ys,xs=[.ref p]/\(SqL K H p ys\/SqT K H p ys)/\Q (.int ys.length) H)\/∃z,xs=[.str z]/\z.length<=sizeLine/\Q (.int z.length) H
def aV:CallR X (.builtin "len") (HW X.K):=CallR.or tK tJ
def bO:iy K (HW K) cI:=by
 intro G F Z H ρ xs ds res Q S o e k;unfold cI at e;split at e
 ·rename_i es
  cases e
  obtain⟨v,r,rfl,ho,hr⟩:=bB o;obtain rfl:=bR hr;obtain⟨a,vs,rfl,h1,h2⟩:=ho.list S.fh;exact .inl ⟨a,vs,rfl,.inl h1,k _ F H (Same.refl _) S (by rw[h2.length];exact .int _)⟩
 ·rename_i es
  cases e
  obtain⟨v,r,rfl,ho,hr⟩:=bB o;obtain rfl:=bR hr;obtain⟨a,vs,rfl,h1,h2⟩:=ho.tuple S.fh;exact .inl ⟨a,vs,rfl,.inr h1,k _ F H (Same.refl _) S (by rw[h2.length];exact .int _)⟩
 ·split at e
  ·rename_i hz
   cases e
   obtain⟨v,r,rfl,ho,hr⟩:=bB o;obtain rfl:=bR hr;exact .inr ⟨_,by rw[ho.str],hz,k _ F H (Same.refl _) S (.int _)⟩
  ·cases e
 ·cases e
def cn:iy K (λxs H Q=>∃p ys,xs=[.ref p]/\((SqL K H p ys/\∀l,H l=none->Q (.ref l) (upd H l (.tup ys)))\/(SqT K H p ys/\Q (.ref p) H))) cF:=by
 intro G F Z H ρ xs ds res Q S o e k;unfold cF at e;split at e
 ·rename_i es
  cases e
  obtain⟨v,r,rfl,ho,hr⟩:=bB o;obtain rfl:=bR hr;obtain⟨a,vs,rfl,h1,h2⟩:=ho.list S.fh;refine⟨a,vs,rfl,.inl ⟨h1,λl hl=>?_⟩⟩;obtain⟨s2,S2,r2⟩:=S.newTup hl h2;exact k _ _ _ s2 S2 r2
 ·rename_i es
  cases e
  obtain⟨v,r,rfl,ho,hr⟩:=bB o;obtain rfl:=bR hr;have ho:=ho.tup'
  cases ho with
  | tup h1 h2=>exact⟨_,_,rfl,.inr ⟨SqT.of (S.fh _ _ h1),k _ F H (Same.refl _) S (show Rep K F _ _ from .tup h1 h2)⟩⟩
 ·cases e
def Bx:iy K (λxs H Q=>∃i,xs=[.int i]/\Q (.int (if i<0 then -i else i)) H) wW:=by
 intro G F Z H ρ xs ds res Q S o e k;unfold wW at e;split at e
 ·cases e
  obtain⟨v,r,rfl,ho,hr⟩:=bB o;obtain rfl:=bR hr;exact⟨_,by rw[ho.int],k _ F H (Same.refl _) S (show Rep K F _ _ from .int _)⟩
 ·cases e
def sK:iy K (λxs H Q=>∃i j,xs=[.int i,.int j]/\Q (.int (if j<i then j else i)) H) jM:=by
 intro G F Z H ρ xs ds res Q S o e k;unfold jM at e;split at e
 ·cases e
  obtain⟨v,r,rfl,ho,hr⟩:=bB o;obtain⟨v2,r2,rfl,ho2,hr2⟩:=bB hr;obtain rfl:=bR hr2;exact⟨_,_,by rw[ho.int,ho2.int],k _ F H (Same.refl _) S (show Rep K F _ _ from .int _)⟩
 ·cases e
def n8(d:D):Bool:=d.showable&&d.canLay0&&decide (d.depth<=1000)&&decide (d.shown.length<=sizeLine)
def kW:List D->Option D
 | [d]=>if n8 d then some (.str d.shown)else none
 | _=>none
def EH(K:Fg):List V->Hp->VK->Prop:=λxs H Q=>∃v d,xs=[v]/\Rep K H v d/\n8 d=true/\Q (.str d.shown) H
def yA:iy K (EH K) kW:=by
 intro G F Z H ρ xs ds res Q S o e k;unfold kW at e;split at e
 ·rename_i d;split at e
  ·rename_i hc
   cases e
   obtain⟨v,r,rfl,ho,hr⟩:=bB o;obtain rfl:=bR hr;exact⟨v,d,rfl,ho.rep S.fh,hc,k _ F H (Same.refl _) S (.str _)⟩
  ·cases e
 ·cases e
theorem rG(hu:X.A.units+1100<cLine)(hg:X.A.guards=some []):CallR X (.builtin "repr") (EH X.K):=by
 intro pins s Z H xs us Q I r h0;obtain⟨v,d,rfl,rp,hc,q⟩:=h0;obtain⟨u,rfl,ru⟩:=Vals.one r;simp only[n8,ai,zzi]at hc;obtain⟨as,ra⟩:=(bW I).1 rp hc.1.1.2 ru;have big:∀a,v=.ref a->wpAny (model X.prog X.w) X.A (call (.builtin "repr") [u]) (EP X pins Z Q) X.xe s:=λa e=>by
  subst e
  cases ru
  exact repr_of_reads' ra hc.1.1.1 (PyData.noDict_hsm (PyData.hasDict_of_canLay d hc.1.1.2)) hg (by lia) (λ_ _ e=>e) (λh' u tk hk=>⟨.str _,H,I.kept hk,⟨_,rfl⟩,q⟩) hc.2
 cases rp with
 | non=>cases ru;exact PySem.P.repr_of_none ⟨.str _,H,I.tok _,⟨_,rfl⟩,q⟩
 | bl b=>cases ru;exact PySem.P.repr_of_bool ⟨.str _,H,I.tok _,⟨_,rfl⟩,q⟩
 | int i=>obtain⟨t,rfl⟩:=ru;exact PySem.P.repr_of_int (by simpa[PyData.showable]using hc.1.1.1) ⟨.str _,H,I.tok _,⟨_,rfl⟩,q⟩
 | str x=>obtain⟨t,rfl⟩:=ru;exact PySem.P.repr_of_str ⟨.str _,H,I.tok _,⟨_,rfl⟩,q⟩ hc.2
 | tup h1 h2=>exact big _ rfl
 | lst h1 h2=>exact big _ rfl
 | dct h1 h2 h3=>exact big _ rfl
 | dck h1 h2 h3=>exact big _ rfl
 | exc _ _ _ _ _=>exact big _ rfl
 | fn _=>exact big _ rfl
def intsOf:List D->Option (List Int)
 | []=>some []
 | .int i::r=>match intsOf r with
  | some l=>some (i::l)
  | none=>none
 | _=>none
def lU:∀{ds:List D} {ns:List Int},intsOf ds=some ns->ds=ns.map PyData.int
 | [],ns,h=>by cases h;rfl
 | .int i::r,ns,h=>by
  dsimp only[intsOf]at h;split at h
  ·rename_i l e;cases h;rw[lU e];rfl
  ·cases h
 | .none::_,_,h=>by cases h
 | .bool _::_,_,h=>by cases h
 | .str _::_,_,h=>by cases h
 | .list _::_,_,h=>by cases h
 | .tuple _::_,_,h=>by cases h
 | .dict _::_,_,h=>by cases h
def jY(ns:List Int):intsOf (ns.map PyData.int)=some ns:=by
 induction ns with
 | nil=>rfl
 | cons n r ih=>simp[intsOf,ih]
def qR{K:Fg}{F:Hp}:∀{vs:List V} {ns:List Int},RepL K F vs (ns.map PyData.int)->vs=ns.map V.int
 | _,[],h=>by cases h;rfl
 | _,n::r,h=>by
  cases h with
  | cons a b=>cases a;rw[qR b];rfl
def nM:∀{ns:List Int} {us:List Value},Vals (ns.map V.int) us->∃ps:List (Int×Tok),us=ps.map (λp=>Value.int p.1 p.2)/\ps.map Prod.fst=ns
 | [],_,h=>by cases h;exact⟨[],rfl,rfl⟩
 | n::r,_,h=>by
  cases h with
  | cons a b =>
   obtain⟨t,rfl⟩:=a;obtain⟨ps,rfl,e⟩:=nM b;exact⟨(n,t)::ps,rfl,by simp[e]⟩
def zZ:List Int->Int
 | []=>0
 | n::r=>r.foldl max n
def qy:List D->Option D
 | [.list ds]=>match intsOf ds with
  | some (n::r)=>some (.int (zZ (n::r)))
  | _=>none
 | [.int i,.int j]=>some (.int (if j>i then j else i))
 | _=>none
def EI(K:Fg)(f:List Int->Option Int):List V->Hp->VK->Prop:=λxs H Q=>∃a ns i,xs=[.ref a]/\SqL K H a (ns.map V.int)/\f ns=some i/\Q (.int i) H
def IW:List Int->Option Int
 | []=>none
 | ns=>some (zZ ns)
def uK{ps:List (Int×Tok)}:numAt ps.toArray i=(ps.map Prod.fst).getD i 0:=by
 unfold numAt;rw[Mg,K0,ku]
def wC:iy K (λxs H Q=>EI K IW xs H Q\/∃i j,xs=[.int i,.int j]/\Q (.int (if j>i then j else i)) H) qy:=by
 intro G F Z H ρ xs ds res Q S o e k;unfold qy at e;split at e
 ·rename_i es;split at e
  case h_2=>cases e
  rename_i n r' hns
  cases e
  obtain⟨v,r,rfl,ho,hr⟩:=bB o;obtain rfl:=bR hr;obtain⟨a,vs,rfl,h1,h2⟩:=ho.list S.fh;rw[lU hns]at h2;rw[qR h2]at h1;exact .inl ⟨a,_,_,rfl,h1,rfl,k _ F H (Same.refl _) S (show Rep K F _ _ from .int _)⟩
 ·cases e
  obtain⟨v,r,rfl,ho,hr⟩:=bB o;obtain⟨v2,r2,rfl,ho2,hr2⟩:=bB hr;obtain rfl:=bR hr2;exact .inr ⟨_,_,by rw[ho.int,ho2.int],k _ F H (Same.refl _) S (show Rep K F _ _ from .int _)⟩
 ·cases e
theorem Ae(r:List Int):∀n:Int,n<=r.foldl max n/\(∀i∈r,i<=r.foldl max n)/\(r.foldl max n=n\/r.foldl max n∈r):=by
 induction r with
 | nil=>intro n;exact⟨re _,λi hi=>(nomatch hi),.inl rfl⟩
 | cons a r ih =>
  intro n;obtain⟨h1,h2,h3⟩:=ih (max n a);rw[ze];refine⟨by lia,λi hi=>?_,?_⟩
  ·rcases List.mem_cons.mp hi with rfl|hi
   ·lia
   ·exact h2 i hi
  ·rcases h3 with h3|h3
   ·rw[h3];by_cases hna:n<=a
    ·right;rw[show max n a=a by lia];exact am
    ·left;lia
   ·right;exact zzg _ h3
def zY{ns:List Int}(h:ns≠[]):(∀i∈ns,i<=zZ ns)/\zZ ns∈ns:=by
 cases ns with
 | nil=>exact absurd rfl h
 | cons n r =>
  obtain⟨h1,h2,h3⟩:=Ae r n;refine⟨λi hi=>?_,?_⟩
  ·rcases List.mem_cons.mp hi with rfl|hi
   ·exact h1
   ·exact h2 i hi
  ·rcases h3 with h3|h3
   ·show r.foldl max n∈_;rw[h3];exact am
   ·exact zzg _ h3
theorem mq(hc:X.calm=true):CallR X (.builtin "max") (EI X.K IW):=by
 intro pins s Z H xs us Q I r h0;obtain⟨a,ns,i,rfl,hq,e,q⟩:=h0;obtain⟨u,rfl,ru⟩:=Vals.one r
 cases ru
 obtain⟨its,rv,pl,hz⟩:=I.list hq;obtain⟨ps,rfl,rfl⟩:=nM rv;have hne:ps≠[]:=by rintro rfl;cases e
 have hne':ps.map Prod.fst≠[]:=by simpa using hne
 have ei:i=zZ (ps.map Prod.fst):=by
  cases hp:ps.map Prod.fst with
  | nil=>exact absurd hp hne'
  | cons n r=>rw[hp]at e;cases e;rfl
 subst ei;have hl:s.heap.IsList a (intItems ps.toArray):=by
  have:=pl.isList;unfold intItems;simpa using this
 have hpos:0<ps.length:=List.length_pos_iff.mpr hne;refine max_intList (I.ok.hd hc) hl (by simpa using hpos) λv h' tk hv hk=>?_
 obtain⟨t,rfl⟩:=intItems_at hv;refine⟨.int _,H,I.kept hk,⟨_,rfl⟩,?_⟩;have b:=argBest_gt (numAt ps.toArray) (ps.toArray.size - 1);generalize argBest (λi j=>decide (numAt ps.toArray i>numAt ps.toArray j)) (ps.toArray.size - 1)=m at b hv;have hm:m<ps.length:=by
  have h0:=b.1;simp at h0;lia
 have hsp:=zY hne';have e1:numAt ps.toArray m=zZ (ps.map Prod.fst):=by
  refine Int.le_antisymm ?_ ?_
  ·refine hsp.1 _ ?_;rw[uK,K0,nc (by simpa using hm)];exact List.getElem_mem _
  ·obtain⟨j,hj,ej⟩:=List.getElem_of_mem hsp.2;have h0:=b.2 j (by simp at hj ⊢;lia);rw[uK,K0,nc hj]at h0;rw[<-ej];exact h0
 rw[e1];exact q
def GK{kvs:List (List Key×V)}{es:List (D×D)}(h:es.map (·.1)=kvs.map (λp=>GH p.1)):DJ es=false:=by
 cases es with
 | nil=>rfl
 | cons e r =>
  cases kvs with
  | nil=>cases h
  | cons k ks =>
   obtain⟨e1,e2⟩:=e;simp only[ba,List.cons.injEq]at h;rw[h.1];rfl
def GL{kvs:List (Key×V)}{es:List (D×D)}(h:es.map (·.1)=kvs.map (λp=>keyD p.1)):DJ es=false:=by
 cases es with
 | nil=>rfl
 | cons e r =>
  cases kvs with
  | nil=>cases h
  | cons k ks =>
   obtain⟨e1,e2⟩:=e;obtain⟨k1,k2⟩:=k;simp only[ba,List.cons.injEq]at h;rw[h.1]
   cases k1<;>rfl
section
variable {ρ':En}
def _root_.L3.StOk.weak(S:StOk K G F Z H ρ)(hl:ρ'.length=ρ.length)(h:∀(i:Nat) (av:AV),ρ'[i]? = some (some av)->ρ[i]? = some (some av))(hp:∀(i:Nat) (c:OC),ρ[i]? = some (some (AV.op c))->ρ'[i]? = some (some (AV.op c))):StOk K G F Z H ρ':=by
 have ow':∀j c,own ρ' j c->own ρ j c:=λj c q=>q.imp (h _ _) (h _ _)
 refine⟨S.fh,S.oh,S.fo,S.ln.trans hl.symm,λj d q=>S.fz j d (h _ _ q),λj c q=>S.ow j c (ow' j c q),λj k c e a h1 h2=>S.dj j k c e a (ow' j c h1) (ow' k e h2),λj a q=>?_,λj c q=>S.pq j c (h _ _ q),S.fb⟩;obtain⟨q1,c,q2⟩:=S.pp j a q;exact⟨q1,c,hp _ _ q2⟩
def gS{av:AV}(h:(ρ++List.replicate k none)[i]? = some (some av)):ρ[i]? = some (some av):=by
 by_cases hi:i<ρ.length
 ·rw[de hi]at h;exact h
 ·rw[lf (Nat.not_lt.mp hi),LS]at h;split at h<;>cases h
def _root_.L3.StOk.grow(S:StOk K G F Z H ρ)(k:Nat):StOk K G F (Z++List.replicate k none) H (ρ++List.replicate k none):=by
 have ap:∀{i:Nat} {v:V},Z[i]? = some (some v)->(Z++List.replicate k none)[i]? = some (some v):=λ{i v} e=>by
  rw[de (List.getElem?_eq_some_iff.mp e).1];exact e
 have apr:∀{i:Nat} {v:AV},ρ[i]? = some (some v)->(ρ++List.replicate k none)[i]? = some (some v):=λ{i v} e=>by
  rw[de (List.getElem?_eq_some_iff.mp e).1];exact e
 have ow':∀i c,own (ρ++List.replicate k none) i c->own ρ i c:=λi c h=>by
  rcases h with h|h
  ·exact .inl (gS h)
  ·exact .inr (gS h)
 refine⟨S.fh,S.oh,S.fo,by simp[S.ln],λi d h=>?_,λi c h=>?_,λi j c e a h1 h2 e1 e2=>?_,λi a h=>?_,λi c h=>S.pq i c (gS h),S.fb⟩
 ·obtain⟨v,e,r⟩:=S.fz i d (gS h);exact⟨v,ap e,r⟩
 ·obtain⟨a,e,oa⟩:=S.ow i c (ow' i c h);exact⟨a,ap e,oa⟩
 ·have o1:=ow' i c h1;have o2:=ow' j e h2;obtain⟨a1,q1,_⟩:=S.ow i c o1;obtain⟨a2,q2,_⟩:=S.ow j e o2;rw[ap q1]at e1;rw[ap q2]at e2;injection e1 with e1;injection e2 with e2;exact S.dj i j c e a o1 o2 (by rw[q1,e1]) (by rw[q2,e2])
 ·obtain⟨e,c,q⟩:=S.pp i a h;exact⟨ap e,c,apr q⟩
theorem _root_.L3.StOk.shrink(S:StOk K G F Z H ρ)(hn:n<=ρ.length)(hp:∀i a,G.P i=some a->i<n):StOk K G F (Z.take n) H (ρ.take n):=by
 have tk:∀{i:Nat} {v:AV},(ρ.take n)[i]? = some (some v)->i<n/\ρ[i]? = some (some v):=λ{i v} e=>by
  have hi:i<n:=by
   have:=(List.getElem?_eq_some_iff.mp e).1;rw[da]at this;lia
  rw[gu hi]at e;exact⟨hi,e⟩
 have ow':∀i c,own (ρ.take n) i c->i<n/\own ρ i c:=λi c h=>by
  rcases h with h|h
  ·exact⟨(tk h).1,.inl (tk h).2⟩
  ·exact⟨(tk h).1,.inr (tk h).2⟩
 refine⟨S.fh,S.oh,S.fo,by simp[S.ln],λi d h=>?_,λi c h=>?_,λi j c e a h1 h2 e1 e2=>?_,λi a h=>?_,λi c h=>S.pq i c (tk h).2,S.fb⟩
 ·obtain⟨v,e,r⟩:=S.fz i d (tk h).2;exact⟨v,by rw[gu (tk h).1];exact e,r⟩
 ·obtain⟨a,e,oa⟩:=S.ow i c (ow' i c h).2;exact⟨a,by rw[gu (ow' i c h).1];exact e,oa⟩
 ·rw[gu (ow' i c h1).1]at e1;rw[gu (ow' j e h2).1]at e2;exact S.dj i j c e a (ow' i c h1).2 (ow' j e h2).2 e1 e2
 ·obtain⟨e,c,q⟩:=S.pp i a h;exact⟨by rw[gu (hp i a h)];exact e,c,by rw[gu (hp i a h)];exact q⟩
end
theorem nO{l l':List α}(h:∀j,j<n->l'[j]? = l[j]?)(hl:l.length=n):l'.take n=l:=by
 apply List.ext_getElem?;intro i;by_cases hi:i<n
 ·rw[gu hi,h i hi]
 ·rw[List.getElem?_eq_none_iff.mpr (by rw[da];lia),List.getElem?_eq_none_iff.mpr (by lia)]
inductive Kd where
 | dead|f|o|p|t|k
 | i (x:Str) (ns:List Str)|j (x:Str) (ns:List Str)
@[reducible] def SOf:List Kd->Type
 | []=>Unit
 | .dead::r=>SOf r
 | .f::r=>D×SOf r
 | .o::r=>List D×SOf r
 | .p::r=>List D×SOf r
 | .t::r=>List (D×D)×SOf r
 | .k::r=>List (D×D)×SOf r
 | .i _ _::r=>List D×SOf r
 | .j _ _::r=>List D×SOf r
def rd:(sh:List Kd)->En->Option (SOf sh)
 | [],[]=>some ()
 | .dead::r,x::ρ=>match x with
  | some (.op _)=>none
  | _=>rd r ρ
 | .f::r,x::ρ=>match x with
  | some (.fz d)=>match rd r ρ with
   | some s=>some (d,s)
   | none=>none
  | _=>none
 | .o::r,x::ρ=>match x with
  | some (.ol (.l ds))=>match rd r ρ with
   | some s=>some (ds,s)
   | none=>none
  | _=>none
 | .p::r,x::ρ=>match x with
  | some (.op (.l ds))=>match rd r ρ with
   | some s=>some (ds,s)
   | none=>none
  | _=>none
 | .t::r,x::ρ=>match x with
  | some (.ol (.t ds))=>match rd r ρ with
   | some s=>some (ds,s)
   | none=>none
  | _=>none
 | .k::r,x::ρ=>match x with
  | some (.ol (.k ds))=>match rd r ρ with
   | some s=>some (ds,s)
   | none=>none
  | _=>none
 | .i y ns::r,x::ρ=>match x with
  | some (.ol (.i z ms ds))=>if z=y/\ms=ns then(match rd r ρ with
   | some s=>some (ds,s)
   | none=>none)else none
  | _=>none
 | .j y ns::r,x::ρ=>match x with
  | some (.op (.i z ms ds))=>if z=y/\ms=ns then(match rd r ρ with
   | some s=>some (ds,s)
   | none=>none)else none
  | _=>none
 | _,_=>none
def wr:(sh:List Kd)->SOf sh->En
 | [],_=>[]
 | .dead::r,s=>none::wr r s
 | .f::r,s=>some (.fz s.1)::wr r s.2
 | .o::r,s=>some (.ol (.l s.1))::wr r s.2
 | .p::r,s=>some (.op (.l s.1))::wr r s.2
 | .t::r,s=>some (.ol (.t s.1))::wr r s.2
 | .k::r,s=>some (.ol (.k s.1))::wr r s.2
 | .i y ns::r,s=>some (.ol (.i y ns s.1))::wr r s.2
 | .j y ns::r,s=>some (.op (.i y ns s.1))::wr r s.2
def Wk(w ρ:En):Prop:=w.length=ρ.length/\(∀(i:Nat) (av:AV),w[i]? = some (some av)->ρ[i]? = some (some av))/\(∀(i:Nat) (c:OC),ρ[i]? = some (some (AV.op c))->w[i]? = some (some (AV.op c)))
def gU{w:En}{x:Option AV}(h:Wk w ρ):Wk (x::w) (x::ρ):=by
 refine⟨congrArg (· + 1) h.1,λi av q=>?_,λi c q=>?_⟩
 ·cases i with
  | zero=>exact q
  | succ i=>exact h.2.1 i av q
 ·cases i with
  | zero=>exact q
  | succ i=>exact h.2.2 i c q
def CQ{w:En}{x:Option AV}(hx:∀c,x≠some (AV.op c))(h:Wk w ρ):Wk (none::w) (x::ρ):=by
 refine⟨congrArg (· + 1) h.1,λi av q=>?_,λi c q=>?_⟩
 ·cases i with
  | zero=>cases q
  | succ i=>exact h.2.1 i av q
 ·cases i with
  | zero=>exact absurd (Option.some.inj q) (hx c)
  | succ i=>exact h.2.2 i c q
def iR:∀(sh:List Kd) (ρ:En) (s:SOf sh),rd sh ρ=some s->Wk (wr sh s) ρ
 | [],[],s,h=>⟨rfl,λi av q=>q,λi c q=>q⟩
 | [],_::_,s,h=>by cases h
 | a::r,[],s,h=>by cases a<;>cases h
 | .dead::r,x::ρ,s,h=>by
  dsimp only[rd]at h;split at h
  ·cases h
  ·rename_i hx;exact CQ hx (iR r ρ s h)
 | .f::r,x::ρ,s,h=>by
  dsimp only[rd]at h;split at h
  ·split at h
   ·rename_i s' e
    cases h
    exact gU (iR r ρ s' e)
   ·cases h
  ·cases h
 | .o::r,x::ρ,s,h=>by
  dsimp only[rd]at h;split at h
  ·split at h
   ·rename_i s' e
    cases h
    exact gU (iR r ρ s' e)
   ·cases h
  ·cases h
 | .p::r,x::ρ,s,h=>by
  dsimp only[rd]at h;split at h
  ·split at h
   ·rename_i s' e
    cases h
    exact gU (iR r ρ s' e)
   ·cases h
  ·cases h
 | .t::r,x::ρ,s,h=>by
  dsimp only[rd]at h;split at h
  ·split at h
   ·rename_i s' e
    cases h
    exact gU (iR r ρ s' e)
   ·cases h
  ·cases h
 | .k::r,x::ρ,s,h=>by
  dsimp only[rd]at h;split at h
  ·split at h
   ·rename_i s' e
    cases h
    exact gU (iR r ρ s' e)
   ·cases h
  ·cases h
 | .i y ns::r,x::ρ,s,h=>by
  dsimp only[rd]at h;split at h
  ·split at h
   ·rename_i hc;split at h
    ·rename_i s' e
     cases h
     obtain⟨rfl,rfl⟩:=hc;exact gU (iR r ρ s' e)
    ·cases h
   ·cases h
  ·cases h
 | .j y ns::r,x::ρ,s,h=>by
  dsimp only[rd]at h;split at h
  ·split at h
   ·rename_i hc;split at h
    ·rename_i s' e
     cases h
     obtain⟨rfl,rfl⟩:=hc;exact gU (iR r ρ s' e)
    ·cases h
   ·cases h
  ·cases h
theorem _root_.L3.StOk.rd{sh:List Kd}{s:SOf sh}(S:StOk K G F Z H ρ)(h:L4.rd sh ρ=some s):StOk K G F Z H (wr sh s):=by
 obtain⟨h1,h2,h3⟩:=iR sh ρ s h;exact S.weak h1 h2 h3
def rdk{S:Type}(sh:List Kd)(k:SOf sh->M S)(ρ:En):M S:=match rd sh ρ with
 | some s=>k s
 | none=>.bad
abbrev Ev(S α:Type):=(Ex->En->M S)->(α->En->M S)->En->M S
structure KS(S:Type) where
 nx:En->M S
 rt:D->En->M S
 rl:OC->En->M S
 bk:En->M S
 ct:En->M S
 x:Ex->En->M S
def KOk{S:Type}(OK:M S->Prop):Prop:=¬ OK .bad
def XL{S:Type}(X:Cx)(OK:M S->Prop)(x:Ex->En->M S)(G:Gh):Prop:=∀F ρ e,OK (x e ρ)->XW X G F ρ e
def AE{S:Type}(X:Cx)(e:Expr)(m:Ev S D):Prop :=
 ∀(OK:M S->Prop) (x:Ex->En->M S) (k:D->En->M S) (G:Gh) (F:Hp) (Z:L2.St) (H:Hp) (ρ:En) (Q:VK),KOk OK->XL X OK x G->StOk X.K G F Z H ρ->OK (m x k ρ) ->
  (∀d v F' H' ρ',Same F F'->StOk X.K G F' Z H' ρ'->Rep X.K F' v d->OK (k d ρ')->Q v H')->dX X e Z H Q
def AEt{S:Type}(X:Cx)(e:Expr)(m:Ev S Bool):Prop :=
 ∀(OK:M S->Prop) (x:Ex->En->M S) (k:Bool->En->M S) (G:Gh) (F:Hp) (Z:L2.St) (H:Hp) (ρ:En) (Q:Bool->Hp->Prop),KOk OK->XL X OK x G->StOk X.K G F Z H ρ->OK (m x k ρ) ->
  (∀d F' H' ρ',Same F F'->StOk X.K G F' Z H' ρ'->OK (k d ρ')->Q d H')->qH X e Z H Q
def AEw{S:Type}(X:Cx)(e:Expr)(m:Ev S Bool):Prop :=
 ∀(OK:M S->Prop) (x:Ex->En->M S) (k:Bool->En->M S) (G:Gh) (F:Hp) (Z:L2.St) (H:Hp) (ρ:En) (Q:Bool->Hp->Prop),KOk OK->XL X OK x G->StOk X.K G F Z H ρ->OK (m x k ρ) ->
  (∀d F' H' ρ',Same F F'->StOk X.K G F' Z H' ρ'->OK (k d ρ')->Q d H')->qG X e Z H Q
def AEb{S:Type}(X:Cx)(e:Expr)(m:Ev S Bool):Prop :=
 ∀(OK:M S->Prop) (x:Ex->En->M S) (k:Bool->En->M S) (G:Gh) (F:Hp) (Z:L2.St) (H:Hp) (ρ:En) (Q:VK),KOk OK->XL X OK x G->StOk X.K G F Z H ρ->OK (m x k ρ) ->
  (∀d F' H' ρ',Same F F'->StOk X.K G F' Z H' ρ'->OK (k d ρ')->Q (.bl d) H')->dX X e Z H Q
def AEa{S:Type}(X:Cx)(es:List Expr)(m:Ev S (List D)):Prop :=
 ∀(OK:M S->Prop) (x:Ex->En->M S) (k:List D->En->M S) (G:Gh) (F:Hp) (Z:L2.St) (H:Hp) (ρ:En) (Q:List V->Hp->Prop),KOk OK->XL X OK x G->StOk X.K G F Z H ρ->OK (m x k ρ) ->
  (∀ds vs F' H' ρ',Same F F'->StOk X.K G F' Z H' ρ'->vs.length=es.length->RepL X.K F' vs ds->OK (k ds ρ')->Q vs H')->eM X es Z H Q
def AEl{S:Type}(X:Cx)(e:Expr)(m:Ev S (List D)):Prop :=
 ∀(OK:M S->Prop) (x:Ex->En->M S) (k:List D->En->M S) (G:Gh) (F:Hp) (Z:L2.St) (H:Hp) (ρ:En) (Q:VK),KOk OK->XL X OK x G->StOk X.K G F Z H ρ->OK (m x k ρ) ->
  (∀ds v F' H' ρ',Same F F'->StOk X.K G F' Z H' ρ'->Frs X.K G F' Z H' ρ' v (.l ds)->OK (k ds ρ')->Q v H')->dX X e Z H Q
def ePu{S α:Type}(p:Pu α):Ev S α:=λx k ρ=>(p ρ).on (λe=>x e ρ) (λa=>k a ρ)
section
variable {OK:M S->Prop} {x:Ex->En->M S} {k:α->En->M S} {p:Pu α} {C:α->Hp->Hp->Prop}
def W.of(hO:KOk OK)(hX:XL X OK x G)(h:OK (ePu p x k ρ))(w:∀a F' H',Same F F'->StOk X.K G F' Z H' ρ->OK (k a ρ)->C a F' H'):W X G F Z ρ (p ρ) C:=by
 unfold ePu at h
 cases hp:p ρ with
 | ret a=>rw[hp]at h;exact λF' H' s S'=>w a F' H' s S' h
 | exc e=>rw[hp]at h;exact hX F ρ e h
 | bad=>rw[hp]at h;exact hO h
end
section
variable {a c:Expr} {rest:List Expr} {p:Pu D} {pt:Pu Bool} {ps:Pu (List D)}
def az(h:AP X e p):AE (S:=S) X e (ePu p):=λOK x k G F Z H ρ Q hO hX St ok kk=>h G F Z H ρ Q St (W.of hO hX ok λd F' H' s S' o v r=>kk d v F' H' ρ s S' r o)
def bG(h:AT X e pt):AEt (S:=S) X e (ePu pt):=λOK x k G F Z H ρ Q hO hX St ok kk=>h G F Z H ρ Q St (W.of hO hX ok λd F' H' s S' o=>kk d F' H' ρ s S' o)
def jm(h:AL X e ps):AEl (S:=S) X e (ePu ps):=λOK x k G F Z H ρ Q hO hX St ok kk=>h G F Z H ρ Q St (W.of hO hX ok λd F' H' s S' o v r=>kk d v F' H' ρ s S' r o)
def eB(m:Ev S Bool):Ev S D:=λx k ρ=>m x (λb ρ1=>k (.bool b) ρ1) ρ
def eZ(m:Ev S (List D)):Ev S D:=λx k ρ=>m x (λds ρ1=>k (.list ds) ρ1) ρ
def Kp(m:Ev S D):Ev S Bool:=λx k ρ=>m x (λd ρ1=>(asB d).on (λe=>x e ρ1) (λb=>k b ρ1)) ρ
def Ja(f:D->D->Option D)(a b:Ev S D):Ev S D:=λx k ρ=>a x (λd ρ1=>b x (λd2 ρ2=>(oM (f d d2)).on (λe=>x e ρ2) (λr=>k r ρ2)) ρ1) ρ
def Fe(f:D->D->Option Bool)(a b:Ev S D):Ev S Bool:=λx k ρ=>a x (λd ρ1=>b x (λd2 ρ2=>(oM (f d d2)).on (λe=>x e ρ2) (λr=>k r ρ2)) ρ1) ρ
def Kk:Ev S (List D):=λ_ k ρ=>k [] ρ
def I9(m:Ev S D)(ms:Ev S (List D)):Ev S (List D):=λx k ρ=>m x (λd ρ1=>ms x (λds ρ2=>k (d::ds) ρ2) ρ1) ρ
def Ki(ms:Ev S (List D)):Ev S D:=λx k ρ=>ms x (λds ρ1=>k (.tuple ds) ρ1) ρ
def Kl(ms:Ev S (List D)):Ev S (List D):=λx k ρ=>ms x (λds ρ1=>k ds ρ1) ρ
def Fc(f:List D->Option D)(ms:Ev S (List D)):Ev S D:=λx k ρ=>ms x (λds ρ1=>(oM (f ds)).on (λe=>x e ρ1) (λr=>k r ρ1)) ρ
def Kq(a b:Ev S Bool):Ev S Bool:=λx k ρ=>a x (λt ρ1=>if t then b x k ρ1 else k false ρ1) ρ
def Kj(a:Ev S Bool):Ev S Bool:=λx k ρ=>a x (λt ρ1=>k (!t) ρ1) ρ
def eIf{α:Type}(c:Ev S Bool)(a b:Ev S α):Ev S α:=λx k ρ=>c x (λt ρ1=>if t then a x k ρ1 else b x k ρ1) ρ
def gy{OK:M S->Prop}(hO:KOk OK){o:Option α}{x:Ex->M S}{k:α->M S}(h:OK ((oM o).on x k)):∃a,o=some a/\OK (k a):=by
 cases o with
 | none=>exact(hO h).elim
 | some a=>exact⟨a,rfl,h⟩
def GT{OK:M S->Prop}(hO:KOk OK){ds:List α}{x:Ex->M S}{k:List α->M S}(h:OK ((fJ ds).on x k)):ds.length<=sizeLine/\OK (k ds):=by
 unfold fJ at h;split at h
 ·exact⟨by assumption,h⟩
 ·exact(hO h).elim
variable {ma mb m:Ev S D} {ta tb tc:Ev S Bool} {ms:Ev S (List D)}
def Hd(h:AEb X e ta):AE X e (eB ta):=λOK x k G F Z H ρ Q hO hX St ok kk=>h OK x _ G F Z H ρ Q hO hX St ok λb F' H' ρ' s S' o=>kk _ _ F' H' ρ' s S' (.bl b) o
def tU(h:AEl X e ms):AE X e (eZ ms):=λOK x k G F Z H ρ Q hO hX St ok kk=>h OK x _ G F Z H ρ Q hO hX St ok λds v F' H' ρ' s S' fr o=>by
 obtain⟨F2,s2,S2,r2⟩:=S'.settle (v:=v) (ds:=ds) fr;exact kk _ v F2 H' ρ' (s.trans s2) S2 r2 o
def xL(h:AE X e m):AEb X e (Kp m):=λOK x k G F Z H ρ Q hO hX St ok kk=>h OK x _ G F Z H ρ Q hO hX St ok λd v F' H' ρ' s S' r o=>by
 cases r with
 | bl b=>exact kk b F' H' ρ' s S' o
 | non=>exact(hO o).elim
 | int i=>exact(hO o).elim
 | str i=>exact(hO o).elim
 | tup _ _=>exact(hO o).elim
 | lst _ _=>exact(hO o).elim
 | dct _ _ _=>exact(hO o).elim
 | dck _ _ _=>exact(hO o).elim
 | exc _ _ _ _ _=>exact(hO o).elim
 | fn _=>exact(hO o).elim
def nA{OK:M S->Prop}{x:Ex->En->M S}{f:D->D->En->M S}(ha:AE X a ma)(hb:AE X b mb)(hO:KOk OK)(hX:XL X OK x G)(St:StOk X.K G F Z H ρ)
  (ok:OK (ma x (λd ρ1=>mb x (λd2 ρ2=>f d d2 ρ2) ρ1) ρ)) (k:∀u v dx dy F' H' ρ',Same F F'->StOk X.K G F' Z H' ρ'->Rep X.K F' u dx->Rep X.K F' v dy->OK (f dx dy ρ')->r u v H' Q):tOp r (dX X a) (dX X b) Z H Q :=
 ha OK x _ G F Z H ρ _ hO hX St ok λd v F1 H1 ρ1 s1 S1 r1 o1=>hb OK x _ G F1 Z H1 ρ1 _ hO hX S1 o1 λd2 u F2 H2 ρ2 s2 S2 r2 o2=>k v u d d2 F2 H2 ρ2 (s1.trans s2) S2 (r1.mono s2) r2 o2
def j8{op:Operator}{f:D->D->Option D}(ho:OpR X (binaryOp op) r)(hf:OpD X.K r f)(ha:AE X a ma)(hb:AE X b mb):AE X (.BinOp a op b pos) (Ja f ma mb) :=
 λOK x k G F Z H ρ Q hO hX St ok kk=>sem (Bo ho aN aN) (nA ha hb hO hX St ok λu v dx dy F' H' ρ' s S' r1 r2 o=>by
  obtain⟨res,e,o'⟩:=gy hO o
  exact hf G F' Z H' ρ' u v dx dy res Q S' (.inl r1) (.inl r2) e λw F2 H2 s2 S2 r3=>kk res w F2 H2 ρ' (s.trans s2) S2 r3 o')
theorem Jf{f:D->D->Option D}(hr:IxR X r)(hf:OpD X.K r f)(ha:AE X a ma)(hb:AE X b mb)(hs:tW b:=by exact λ_ _=>rfl):AE X (.Subscript a b pos) (Ja f ma mb) :=
 λOK x k G F Z H ρ Q hO hX St ok kk=>sem (EN hr aN aN hs) (nA ha hb hO hX St ok λu v dx dy F' H' ρ' s S' r1 r2 o=>by
  obtain⟨res,e,o'⟩:=gy hO o
  exact hf G F' Z H' ρ' u v dx dy res Q S' (.inl r1) (.inl r2) e λw F2 H2 s2 S2 r3=>kk res w F2 H2 ρ' (s.trans s2) S2 r3 o')
theorem tT{f:D->D->Option Bool}(ho:OpR X (compareOp op) r)(hf:OpB X.K r f)(ha:AE X a ma)(hb:AE X b mb)(hm:behindInMarks op b=false:=by rfl):AEb X (.Compare a [op] [b] pos) (Fe f ma mb) :=
 λOK x k G F Z H ρ Q hO hX St ok kk=>sem (yu ho aN aN hm) (nA ha hb hO hX St ok λu v dx dy F' H' ρ' s S' r1 r2 o=>by
  obtain⟨res,e,o'⟩:=gy hO o
  exact hf G F' Z H' ρ' u v dx dy res Q S' (.inl r1) (.inl r2) e (kk res F' H' ρ' s S' o'))
theorem tS{f:D->D->Option Bool}(ho:OpR X (compareOp op) r)(hf:OpB X.K r f)(ha:AE X a ma)(hb:AE X b mb)(hm:behindInMarks op b=false:=by rfl):AEt X (.Compare a [op] [b] pos) (Fe f ma mb) :=
 λOK x k G F Z H ρ Q hO hX St ok kk=>qk (yk ho aN aN hm) (nA (Q:=λx H'=>∃k,x=.bl k/\Q k H') ha hb hO hX St ok λu v dx dy F' H' ρ' s S' r1 r2 o=>by
  obtain⟨res,e,o'⟩:=gy hO o
  exact hf G F' Z H' ρ' u v dx dy res _ S' (.inl r1) (.inl r2) e ⟨res,rfl,kk res F' H' ρ' s S' o'⟩)
theorem aG:AEa (S:=S) X [] Kk:=λOK x k G F Z H ρ Q hO hX St ok kk=>v6 iS (kk [] [] F H ρ (Same.refl _) St rfl .nil ok)
def aj(h:AE X e m)(hr:AEa X es ms)(hs:starEach (e::es) X.env=(false,eval e X.env)::starEach es X.env:=by exact cx rfl):AEa X (e::es) (I9 m ms) :=
 λOK x k G F Z H ρ Q hO hX St ok kk=>v6 (eG aN bQ hs) (h OK x _ G F Z H ρ _ hO hX St ok λd v F1 H1 ρ1 s1 S1 r1 o1 =>
  hr OK x _ G F1 Z H1 ρ1 _ hO hX S1 o1 λds vs F2 H2 ρ2 s2 S2 hl r2 o2=>kk (d::ds) (v::vs) F2 H2 ρ2 (s1.trans s2) S2 (by simp[hl]) (.cons (r1.mono s2) r2) o2)
theorem CD{x1}(h:AEa X es ms)(hz:es.length<=1000:=by decide +kernel):AE X (.Tuple es x1 pos) (Ki ms) :=
 λOK x k G F Z H ρ Q hO hX St ok kk=>sem (Bl bQ) (h OK x _ G F Z H ρ _ hO hX St ok λds vs F1 H1 ρ1 s1 S1 hl r1 o1=>by
  refine⟨by rw[hl];exact jX hz,λq hq=>?_⟩;obtain⟨s2,S2,r2⟩:=S1.newTup hq r1
  exact kk _ _ _ _ ρ1 (s1.trans s2) S2 r2 o1)
theorem lm(h:AEa X es ms)(hz:es.length<=1000:=by decide +kernel):AEl X (.List es pos) (Kl ms) :=
 λOK x k G F Z H ρ Q hO hX St ok kk=>sem (sA bQ) (h OK x _ G F Z H ρ _ hO hX St ok λds vs F1 H1 ρ1 s1 S1 hl r1 o1=>by
  refine⟨by rw[hl];exact jX hz,λq hq=>?_⟩;obtain⟨S2,r2⟩:=S1.newLst hq r1
  exact kk _ _ _ _ ρ1 s1 S2 r2 o1)
def vC(ha:AEt X a ta):AEw X (.BoolOp .And [a] pos) ta:=λOK x k G F Z H ρ Q hO hX St ok kk=>zF (yf d4) (ha OK x k G F Z H ρ Q hO hX St ok kk)
def zt(ha:AEt X a ta)(hb:AEw X (.BoolOp .And (b::rest) pos) tb):AEw X (.BoolOp .And (a::b::rest) pos) (Kq ta tb) :=
 λOK x k G F Z H ρ Q hO hX St ok kk=>zF (Bb d4 oq) (ha OK x _ G F Z H ρ _ hO hX St ok λt F1 H1 ρ1 s1 S1 o1=>by
  cases t with
  | true=>refine qw ?_;exact hb OK x k G F1 Z H1 ρ1 Q hO hX S1 o1 λd F2 H2 ρ2 s2 S2 o2=>kk d F2 H2 ρ2 (s1.trans s2) S2 o2
  | false=>refine tq ?_;exact kk false F1 H1 ρ1 s1 S1 o1)
def CC(h:AEw X e ta):AEt X e ta:=λOK x k G F Z H ρ Q hO hX St ok kk=>qk (λpins s Z H Q I h=>oq _ pins s Z H Q I h) (h OK x k G F Z H ρ Q hO hX St ok kk)
def Ef(ha:AEt X a ta):AEt X (.UnaryOp .Not a pos) (Kj ta) :=
 λOK x k G F Z H ρ Q hO hX St ok kk=>qk (Bc d4) (ha OK x _ G F Z H ρ _ hO hX St ok λt F1 H1 ρ1 s1 S1 o1=>kk (!t) F1 H1 ρ1 s1 S1 o1)
def CB(ha:AEb X a ta)(he:∀whole,isTrue a X.env whole=(do let v <-whole;standAt a.pos;holding [v] (truthy v))):AEt X a ta :=
 λOK x k G F Z H ρ Q hO hX St ok kk=>qk (oB aN he) (ha OK x _ G F Z H ρ _ hO hX St ok λt F1 H1 ρ1 s1 S1 o1=>⟨t,rfl,kk t F1 H1 ρ1 s1 S1 o1⟩)
def Ff(hc:AEt X c tc)(ha:AE X a ma)(hb:AE X b mb):AE X (.IfExp c a b pos) (eIf tc ma mb) :=
 λOK x k G F Z H ρ Q hO hX St ok kk=>sem (uC d4 aN aN) (hc OK x _ G F Z H ρ _ hO hX St ok λt F1 H1 ρ1 s1 S1 o1=>by
  cases t with
  | true=>refine qw ?_;exact ha OK x k G F1 Z H1 ρ1 Q hO hX S1 o1 λd v F2 H2 ρ2 s2 S2 r2 o2=>kk d v F2 H2 ρ2 (s1.trans s2) S2 r2 o2
  | false=>refine tq ?_;exact hb OK x k G F1 Z H1 ρ1 Q hO hX S1 o1 λd v F2 H2 ρ2 s2 S2 r2 o2=>kk d v F2 H2 ρ2 (s1.trans s2) S2 r2 o2)
def RepL.ors{ds:List D}(h:RepL K F vs ds):ORs K F H vs ds:=by
 induction vs generalizing ds with
 | nil=>cases h;exact .nil
 | cons v vs ih=>cases h with
  | cons a b=>exact .cons (.inl a) (ih b)
theorem gT{p:Pos}{r:List V->Hp->VK->Prop}{f:List D->Option D}(hc:CallR X (.type T) r)(hf:iy X.K r f)(hm:X.mg x=none)(hv:bootBuiltins x=some (.type T))(ha:AEa X (e::es) ms)(hg:Gl X x:=by rfl)
  (hn:x ≠ "__name__":=by decide) (hdb:(x==("__debug__" : Str))=false:=by decide) (he:starEach (e::es) X.env=(false,eval e X.env)::starEach es X.env:=by rfl) (hpl:(backTo pos (starEach es X.env)).any (·.1)=false:=by rfl):AE X (.Call (.Name x p) (e::es) [] pos) (Fc f ms) :=
 λOK y k G F Z H ρ Q hO hX St ok kk=>sem (jt hc hg hm hv bQ hn hdb he hpl) (ha OK y _ G F Z H ρ _ hO hX St ok λds vs F1 H1 ρ1 s1 S1 _ r1 o1=>by
  obtain⟨res,e,o'⟩:=gy hO o1
  exact hf G F1 Z H1 ρ1 vs ds res Q S1 (RepL.ors r1) e λw F2 H2 s2 S2 r3=>kk res w F2 H2 ρ1 (s1.trans s2) S2 r3 o')
end
structure Walk(K:Fg)(J:It)(ds:List D)(F:Hp):Prop where
 go:∀(i:Nat) (G:Gh) (F2:Hp) (Z:L2.St) (H2:Hp) (ρ:En),Same F F2->StOk K G F2 Z H2 ρ->i<ds.length->J.go i H2
 yld:∀(i:Nat) (G:Gh) (F2:Hp) (Z:L2.St) (H2:Hp) (ρ:En) (x:V) (H3:Hp) (d:D),Same F F2->StOk K G F2 Z H2 ρ->ds[i]? = some d->J.yld i H2 x H3->∃F3,Same F2 F3/\StOk K G F3 Z H3 ρ/\Rep K F3 x d
 stop:∀(G:Gh) (F2:Hp) (Z:L2.St) (H2:Hp) (ρ:En),Same F F2->StOk K G F2 Z H2 ρ->J.stop ds.length H2
def zv{ds:List D}(h:SqL K F a vs)(r:RepL K F vs ds):Walk K (Itl K a) ds F where
 go:=λi G F2 Z H2 ρ s S hi=>by
  have hi':i<vs.length:=by rw[r.length];exact hi
  exact⟨vs,vs[i],S.fh.seq (s.seq h),by simp[hi']⟩
 yld:=λi G F2 Z H2 ρ x H3 d s S hd ⟨e,q⟩=>by
  subst e;obtain⟨v,e1,e2⟩:=r.get hd;have:=q vs (S.fh.seq (s.seq h));rw[e1]at this
  cases this
  exact⟨F2,Same.refl _,S,e2.mono s⟩
 stop:=λG F2 Z H2 ρ s S=>⟨vs,S.fh.seq (s.seq h),by rw[r.length];exact au _⟩
def Au{ds:List D}(h:SqT K F a vs)(r:RepL K F vs ds):Walk K (Itt K a) ds F where
 go:=λi G F2 Z H2 ρ s S hi=>by
  have hi':i<vs.length:=by rw[r.length];exact hi
  exact⟨vs,vs[i],gG S.fh (gG s h),by simp[hi']⟩
 yld:=λi G F2 Z H2 ρ x H3 d s S hd ⟨e,q⟩=>by
  subst e;obtain⟨v,e1,e2⟩:=r.get hd;have:=q vs (gG S.fh (gG s h));rw[e1]at this
  cases this
  exact⟨F2,Same.refl _,S,e2.mono s⟩
 stop:=λG F2 Z H2 ρ s S=>⟨vs,gG S.fh (gG s h),by rw[r.length];exact au _⟩
def hG(lo:Int)(n:Nat):List D:=(List.range n).map λ(i:Nat)=>PyData.int (lo+(i:Int))
def gx(lo:Int)(n:Nat):(hG lo n).length=n:=by simp[hG]
def nL(lo:Int)(n:Nat):Walk K (Itr lo n) (hG lo n) F where
 go:=λi G F2 Z H2 ρ s S hi=>by rw[gx]at hi;exact hi
 yld:=λi G F2 Z H2 ρ x H3 d s S hd ⟨e,q⟩=>by
  subst e q;have e':(hG lo n)[i]? = some d:=hd;unfold hG at e';rw[ku]at e';have hi:i<n:=by
   have:=(List.getElem?_eq_some_iff.mp hd).1;rw[gx]at this;exact this
  rw[K6 hi]at e'
  cases e'
  exact⟨F2,Same.refl _,S,.int _⟩
 stop:=λG F2 Z H2 ρ s S=>by rw[gx];exact au _
@[irreducible] def iC(X:Cx)(tg iter:Expr):TI:=λZ H R=>∀(pins:zzk) (s:Shared),Inv X pins Z H s->wpAny (model X.prog X.w) X.A (eval iter X.env) (λv s1=>wpAny (model X.prog X.w) X.A (pyIter v) (PIE X pins Z tg R) X.xe s1) X.xe s
theorem su:PI X tg e (iC X tg e):=λpins s Z H R I h=>by unfold iC at h;exact h pins s I
theorem AR{t:TI}(h:PI X tg e t)(q:t Z H R):iC X tg e Z H R:=by unfold iC;exact λpins s I=>h pins s Z H R I q
def AI(X:Cx)(tg e:Expr)(p:Pu (List D)):Prop :=
 ∀(G:Gh) (F:Hp) (Z:L2.St) (H:Hp) (ρ:En) (R:It->Hp->Prop),StOk X.K G F Z H ρ->W X G F Z ρ (p ρ) (λds F' H'=>∀J,Walk X.K J ds F'->R J H')->iC X tg e Z H R
def AEi{S:Type}(X:Cx)(tg e:Expr)(m:Ev S (List D)):Prop :=
 ∀(OK:M S->Prop) (x:Ex->En->M S) (k:List D->En->M S) (G:Gh) (F:Hp) (Z:L2.St) (H:Hp) (ρ:En) (R:It->Hp->Prop),KOk OK->XL X OK x G->StOk X.K G F Z H ρ->OK (m x k ρ) ->
  (∀ds J F' H' ρ',Same F F'->StOk X.K G F' Z H' ρ'->Walk X.K J ds F'->OK (k ds ρ')->R J H')->iC X tg e Z H R
def dQ{ps:Pu (List D)}(h:AI X tg e ps):AEi (S:=S) X tg e (ePu ps):=λOK x k G F Z H ρ Q hO hX St ok kk=>h G F Z H ρ Q St (W.of hO hX ok λd F' H' s S' o v r=>kk d v F' H' ρ s S' r o)
def zE:D->Option (List D)
 | .list ds=>some ds
 | .tuple ds=>some ds
 | _=>none
def gX(i:Int):Bool:=decide (-(2^62)<=i)&&decide (i<2^62)
def dY{i:Int}(h:gX i=true) : -(2^62)<=i/\i<2^62:=by
 unfold gX at h;simp only[ai,zzi]at h;exact h
def bZ:List D->Option (List D)
 | [.int j]=>if gX j then some (hG 0 j.toNat)else none
 | _=>none
def eH:List D->Option (List D)
 | [.int i,.int j]=>if gX i&&gX j then some (hG i (j - i).toNat)else none
 | _=>none
def Ca{S:Type}(f:List D->Option (List D))(ms:Ev S (List D)):Ev S (List D):=λx k ρ=>ms x (λds ρ1=>(oM (f ds)).on (λe=>x e ρ1) (λr=>k r ρ1)) ρ
section
variable {a:Expr} {pp:Pu D} {ps:Pa (List D)} {m:Ev S D} {ms:Ev S (List D)}
def AQ{d:D}{ds:List D}(s:Same F H)(r:Rep X.K F v d)(hd:zE d=some ds)(k:∀J,Walk X.K J ds F->R J H) :
  (∃a,v=.ref a/\(∃xs,SqL X.K H a xs)/\R (Itl X.K a) H)\/∃a,v=.ref a/\(∃xs,SqT X.K H a xs)/\R (Itt X.K a) H:=by
 cases d with
 | list xs =>
  cases hd
  obtain⟨a,vs,rfl,h1,h2⟩:=r.lst_inv;exact .inl ⟨_,rfl,⟨_,s.seq h1⟩,k _ (zv h1 h2)⟩
 | tuple xs =>
  cases hd
  obtain⟨a,vs,rfl,h1,h2⟩:=r.tup_inv;exact .inr ⟨_,rfl,⟨_,SqT.of (s _ _ h1)⟩,k _ (Au (SqT.of h1) h2)⟩
 | _=>exact noS hd
def qT{ds out:List D}(r:RepL X.K F vs ds)(h:bZ ds=some out)(k:∀J,Walk X.K J out F->R J H):∃j,vs=[.int j] /\ -(2^62)<=j/\j<2^62/\R (Itr 0 j.toNat) H:=by
 unfold bZ at h;split at h
 ·rename_i j;split at h
  ·rename_i hs
   cases h
   obtain⟨v,rfl,r1⟩:=r.one_inv;obtain rfl:=r1.int_inv;exact⟨j,rfl,(dY hs).1,(dY hs).2,k _ (nL 0 j.toNat)⟩
  ·cases h
 ·cases h
def zM{ds out:List D}(r:RepL X.K F vs ds)(h:eH ds=some out)(k:∀J,Walk X.K J out F->R J H) :
  ∃i j,vs=[.int i,.int j]/\(-(2^62)<=i/\i<2^62 /\ -(2^62)<=j/\j<2^62)/\R (Itr i (j - i).toNat) H:=by
 unfold eH at h;split at h
 ·rename_i i j;split at h
  ·rename_i hs
   cases h
   rw[ai]at hs;obtain⟨v,u,rfl,r1,r3⟩:=r.two_inv;obtain rfl:=r1.int_inv;obtain rfl:=r3.int_inv;exact⟨i,j,rfl,⟨(dY hs.1).1,(dY hs.1).2,(dY hs.2).1,(dY hs.2).2⟩,k _ (nL i (j - i).toNat)⟩
  ·cases h
 ·cases h
def dC(hg:Gl X "range")(hm:X.mg "range" = none)(ha:AA X [a] ps)(hs:starEach [a] X.env=[(false,eval a X.env)]):AI X tg (.Call (.Name "range" p) [a] [] pos) (lF bZ ps) :=
 λG F Z H ρ R S w=>AR (qU hg hm bQ hs) (ha G F Z H ρ _ _ _ S w λds vs F1 H1 s1 S1 _ r1 w1=>by
  obtain⟨out,hd,k⟩:=w1.opt
  exact qT r1 hd (k F1 H1 (Same.refl _) S1))
def mB(hg:Gl X "range")(hm:X.mg "range" = none)(ha:AA X [a,b] ps)(hs:starEach [a,b] X.env=[(false,eval a X.env),(false,eval b X.env)])(hs2:starEach [b] X.env=[(false,eval b X.env)]):AI X tg (.Call (.Name "range" p) [a,b] [] pos) (lF eH ps) :=
 λG F Z H ρ R S w=>AR (zQ hg hm bQ hs hs2) (ha G F Z H ρ _ _ _ S w λds vs F1 H1 s1 S1 _ r1 w1=>by
  obtain⟨out,hd,k⟩:=w1.opt
  exact zM r1 hd (k F1 H1 (Same.refl _) S1))
def xK(hg:Gl X "range")(hm:X.mg "range" = none)(ha:AEa X [a] ms)(hs:starEach [a] X.env=[(false,eval a X.env)]):AEi X tg (.Call (.Name "range" p) [a] [] pos) (Ca bZ ms) :=
 λOK x k G F Z H ρ R hO hX St ok kk=>AR (qU hg hm bQ hs) (ha OK x _ G F Z H ρ _ hO hX St ok λds vs F1 H1 ρ1 s1 S1 _ r1 o1=>by
  obtain⟨out,hd,o⟩:=gy hO o1
  exact qT r1 hd λJ wk=>kk out J F1 H1 ρ1 s1 S1 wk o)
end
abbrev Tg(S:Type):=D->(En->M S)->En->M S
def fV(ρ:En)(i:Nat):Bool:=decide (i<ρ.length)&&(match ρ[i]? with
 | some (some (.op _))=>false
 | _=>true)
def cJ(h:fV ρ i=true):i<ρ.length/\∀c,ρ[i]? ≠ some (some (.op c)):=by
 unfold fV at h;rw[ai]at h;refine⟨by simpa using h.1,λc e=>?_⟩;rw[e]at h;exact absurd h.2 (by simp)
@[irreducible] def qI(X:Cx)(tg:Expr):TG:=λv Z H Q=>∀(pins:zzk) (s:Shared) (u:Value),Inv X pins Z H s->RelV v u->wpAny (model X.prog X.w) X.A (assign tg X.env u) (λ_ s'=>∃σ' H',Inv X pins σ' H' s'/\Q σ' H') X.xe s
@[irreducible] def nP(X:Cx)(tgs:List Expr):TGs:=λvs Z H Q=>∀(pins:zzk) (s:Shared) (us:List Value),Inv X pins Z H s->Vals vs us->wpAny (model X.prog X.w) X.A (assignInOrder ((assignEach tgs X.env).map (·.2)) us) (λ_ s'=>∃σ' H',Inv X pins σ' H' s'/\Q σ' H') X.xe s
theorem oF:PG X tg (qI X tg):=λpins s Z H v u Q I r h=>by unfold qI at h;exact h pins s u I r
theorem yq{tgs:List Expr}:PGs X tgs (nP X tgs):=λpins s Z H vs us Q I r h=>by unfold nP at h;exact h pins s us I r
theorem HD{t:TG}{Q:L2.St->Hp->Prop}(h:PG X tg t)(q:t v Z H Q):qI X tg v Z H Q:=by unfold qI;exact λpins s u I r=>h pins s Z H v u Q I r q
theorem Ew{tgs:List Expr}{t:TGs}{Q:L2.St->Hp->Prop}(h:PGs X tgs t)(q:t vs Z H Q):nP X tgs vs Z H Q:=by unfold nP;exact λpins s us I r=>h pins s Z H vs us Q I r q
def AG{S:Type}(X:Cx)(n:Nat)(tg:Expr)(st:Tg S):Prop :=
 ∀(OK:M S->Prop) (k:En->M S) (G:Gh) (F:Hp) (Z:L2.St) (H:Hp) (ρ:En) (v:V) (d:D) (Q:L2.St->Hp->Prop),KOk OK->StOk X.K G F Z H ρ->Rep X.K F v d->OK (st d k ρ) ->
  (∀σ' ρ',StOk X.K G F σ' H ρ'->(∀j,j<n->σ'[j]? = Z[j]? /\ ρ'[j]? = ρ[j]?)->σ'.length=Z.length->ρ'.length=ρ.length->OK (k ρ')->Q σ' H)->qI X tg v Z H Q
def AGs{S:Type}(X:Cx)(n:Nat)(tgs:List Expr)(st:List D->(En->M S)->En->M S):Prop :=
 ∀(OK:M S->Prop) (k:En->M S) (G:Gh) (F:Hp) (Z:L2.St) (H:Hp) (ρ:En) (vs:List V) (ds:List D) (Q:L2.St->Hp->Prop),KOk OK->StOk X.K G F Z H ρ->RepL X.K F vs ds->OK (st ds k ρ) ->
  (∀σ' ρ',StOk X.K G F σ' H ρ'->(∀j,j<n->σ'[j]? = Z[j]? /\ ρ'[j]? = ρ[j]?)->σ'.length=Z.length->ρ'.length=ρ.length->OK (k ρ')->Q σ' H)->nP X tgs vs Z H Q
def IV{S:Type}(i:Nat):Tg S:=λd k ρ=>match fV ρ i with
 | true=>k (ρ.set i (some (.fz d)))
 | false=>.bad
def IU{S:Type}:List D->(En->M S)->En->M S
 | [],k,ρ=>k ρ
 | _,_,_=>.bad
def GQ{S:Type}(t:Tg S)(ts:List D->(En->M S)->En->M S):List D->(En->M S)->En->M S
 | d::ds,k,ρ=>t d (λρ1=>ts ds k ρ1) ρ
 | [],_,_=>.bad
def un2{S:Type}(d:D)(k:D->D->M S):M S:=match d with
 | .tuple [a,b]=>k a b
 | _=>.bad
def E8{S:Type}(ts:List D->(En->M S)->En->M S):Tg S:=λd k ρ=>un2 d λa b=>ts [a,b] k ρ
section
theorem bA(hn:n<=i)(hN:X.N.Nodup)(hi:X.N[i]? = some x:=by rfl)(hx:Loc X.env.scope x:=by exact lo rfl)(hf:X.fn x=true\/X.env.scope.names.lookup x=some .local:=by first|exact .inl rfl|exact .inr rfl):AG (S:=S) X n (.Name x pos) (IV i):=by
 intro OK k G F Z H ρ v d Q hO S r ok kk;unfold IV at ok;split at ok
 ·rename_i ho;obtain⟨hl,hop⟩:=cJ ho;refine HD (Dm hN hi hx hf) ?_;exact kk _ _ (S.store hop hl (.inl ⟨d,rfl,r⟩)) (λj hj=>⟨eE (by lia),eE (by lia)⟩) (by simp) (by simp) ok
 ·exact(hO ok).elim
theorem nI:AGs (S:=S) X n [] IU:=by
 intro OK k G F Z H ρ vs ds Q hO S r ok kk
 cases ds with
 | nil =>
  cases r
  exact Ew Dl ⟨rfl,kk Z ρ S (λ_ _=>⟨rfl,rfl⟩) rfl rfl ok⟩
 | cons d ds=>exact(hO ok).elim
def eT{st:Tg S}{sts:List D->(En->M S)->En->M S}(h1:AG X n e st)(h2:AGs X n es sts)
  (hs:(assignEach (e::es) X.env).map (·.2)=assign e X.env::(assignEach es X.env).map (·.2)):AGs X n (e::es) (GQ st sts):=by
 intro OK k G F Z H ρ vs ds Q hO S r ok kk
 cases ds with
 | nil=>exact(hO ok).elim
 | cons d ds =>
  cases r with
  | cons rv rr =>
   refine Ew (Bj oF yq hs) ⟨_,_,rfl,?_⟩;refine h1 OK _ G F Z H ρ _ d _ hO S rv ok λσ1 ρ1 S1 kp1 l1 m1 o1=>?_
   exact h2 OK k G F σ1 H ρ1 _ ds _ hO S1 rr o1 λσ2 ρ2 S2 kp2 l2 m2 o2=>kk σ2 ρ2 S2 (λj hj=>⟨(kp2 j hj).1.trans (kp1 j hj).1,(kp2 j hj).2.trans (kp1 j hj).2⟩) (l2.trans l1) (m2.trans m1) o2
def Ee{kk l:Nat}{sts:List D->(En->M S)->En->M S}{st:Tg S}(hc:X.calm=true)(h:AGs X n es sts)(hn:(assignEach es X.env).length=l)(hst:(assignEach es X.env).findIdx? (·.1)=none)
  (hw:∀(OK:M S->Prop) d k ρ,KOk OK->OK (st d k ρ)->∃ds,d=.tuple ds/\ds.length=l/\OK (sts ds k ρ)):AG X n (.Tuple es kk pos) st:=by
 intro OK k G F Z H ρ v d Q hO S r ok k2;obtain⟨ds,rfl,hl,ok⟩:=hw OK d k ρ hO ok
 cases r with
 | tup h1 h2 =>
  refine HD (FU hc yq hn hst) ⟨_,_,rfl,SqT.of (S.fh _ _ h1),by rw[h2.length];exact hl,?_⟩;exact h OK k G F Z H ρ _ ds _ hO S h2 ok k2
def nJ{kk:Nat}{sts:List D->(En->M S)->En->M S}(hc:X.calm=true)(h:AGs X n es sts)(hn:(assignEach es X.env).length=2)(hst:(assignEach es X.env).findIdx? (·.1)=none):AG X n (.Tuple es kk pos) (E8 sts) :=
 Ee hc h hn hst λOK d k ρ hO o=>by
  unfold E8 un2 at o;split at o
  ·exact⟨_,rfl,rfl,o⟩
  ·exact(hO o).elim
end
abbrev SM(S:Type):=KS S->En->M S
structure EOk{S:Type}(X:Cx)(OK:M S->Prop)(K:KS S)(G:Gh)(F:Hp)(E:Ends):Prop where
 nx:∀F' σ' H' ρ',Same F F'->StOk X.K G F' σ' H' ρ'->OK (K.nx ρ')->E.nx σ' H'
 rt:∀F' σ' H' ρ' d v,Same F F'->StOk X.K G F' σ' H' ρ'->Rep X.K F' v d->OK (K.rt d ρ')->E.rt v H'
 rl:∀F' σ' H' ρ' c v,Same F F'->StOk X.K G F' σ' H' ρ'->Frs X.K G F' σ' H' ρ' v c->OK (K.rl c ρ')->E.rt v H'
 bk:∀F' σ' H' ρ',Same F F'->StOk X.K G F' σ' H' ρ'->OK (K.bk ρ')->E.bk σ' H'
 ct:∀F' σ' H' ρ',Same F F'->StOk X.K G F' σ' H' ρ'->OK (K.ct ρ')->E.ct σ' H'
def EOk.up{OK:M S->Prop}{K:KS S}{E:Ends}(h:EOk X OK K G F E)(s:Same F F'):EOk X OK K G F' E :=
 ⟨λF2 σ' H' ρ' s2=>h.nx F2 σ' H' ρ' (s.trans s2),λF2 σ' H' ρ' d v s2=>h.rt F2 σ' H' ρ' d v (s.trans s2),λF2 σ' H' ρ' d v s2=>h.rl F2 σ' H' ρ' d v (s.trans s2),λF2 σ' H' ρ' s2=>h.bk F2 σ' H' ρ' (s.trans s2),λF2 σ' H' ρ' s2=>h.ct F2 σ' H' ρ' (s.trans s2)⟩
@[irreducible] def mG(X:Cx)(st:Stmt):TS:=λE Z H=>∀(pins:zzk) (s:Shared),Inv X pins Z H s->wpAny (model X.prog X.w) X.A (exec st X.env) (SP X pins E) X.xe s
@[irreducible] def mH(X:Cx)(sts:List Stmt):TS:=λE Z H=>∀(pins:zzk) (s:Shared),Inv X pins Z H s->wpAny (model X.prog X.w) X.A (execs sts X.env) (SP X pins E) X.xe s
section
variable {sts:List Stmt} {E:Ends} {t:TS}
theorem Bf:PS X st (mG X st):=λpins s Z H E I h=>by unfold mG at h;exact h pins s I
theorem eF:PSs X sts (mH X sts):=λpins s Z H E I h=>by unfold mH at h;exact h pins s I
theorem iz(h:PS X st t)(q:t E Z H):mG X st E Z H:=by unfold mG;exact λpins s I=>h pins s Z H E I q
theorem Fz(h:PSs X sts t)(q:t E Z H):mH X sts E Z H:=by unfold mH;exact λpins s I=>h pins s Z H E I q
end
def AS{S:Type}(X:Cx)(st:Stmt)(m:SM S):Prop :=
 ∀(OK:M S->Prop) (K:KS S) (G:Gh) (F:Hp) (Z:L2.St) (H:Hp) (ρ:En) (E:Ends),KOk OK->XL X OK K.x G->StOk X.K G F Z H ρ->OK (m K ρ)->EOk X OK K G F E->mG X st E Z H
def ASs{S:Type}(X:Cx)(st:List Stmt)(m:SM S):Prop :=
 ∀(OK:M S->Prop) (K:KS S) (G:Gh) (F:Hp) (Z:L2.St) (H:Hp) (ρ:En) (E:Ends),KOk OK->XL X OK K.x G->StOk X.K G F Z H ρ->OK (m K ρ)->EOk X OK K G F E->mH X st E Z H
section
def EA:SM S:=λK ρ=>K.nx ρ
def JD(m n:SM S):SM S:=λK ρ=>m { K with nx:=λρ1=>n K ρ1 } ρ
def sIf(c:Ev S Bool)(m n:SM S):SM S:=λK ρ=>c K.x (λb ρ1=>if b then m K ρ1 else n K ρ1) ρ
def sTo(sh:List Kd)(m:SM S):SM S:=λK ρ=>m { K with nx:=λρ1=>rdk sh (λs=>K.nx (wr sh s)) ρ1 } ρ
def HH(i:Nat)(m:Ev S D):SM S:=λK ρ=>m K.x (λd ρ1=>match fV ρ1 i with
 | true=>K.nx (ρ1.set i (some (.fz d)))
 | false=>.bad) ρ
def HF(i:Nat)(m:Ev S (List D)):SM S:=λK ρ=>m K.x (λds ρ1=>match fV ρ1 i with
 | true=>K.nx (ρ1.set i (some (.ol (.l ds))))
 | false=>.bad) ρ
def JE(m:Ev S D):SM S:=λK ρ=>m K.x K.rt ρ
def HI(m:Ev S (List D)):SM S:=λK ρ=>m K.x (λds=>K.rl (.l ds)) ρ
def Ez(i:Nat):SM S:=λK ρ=>match ρ[i]? with
 | some (some (.ol c))=>K.rl c (ρ.set i none)
 | _=>.bad
def HN(m:Ev S D):SM S:=λK ρ=>m K.x (λ_ ρ1=>K.nx ρ1) ρ
def HL(i:Nat)(m:SM S):SM S:=λK ρ=>match ρ[i]? with
 | some (some (.ol c))=>if c.isI then .bad else m K (ρ.set i (some (.fz c.d)))
 | _=>.bad
def rW(ρ:En)(i:Nat)(ds:List D):En:=match ρ[i]? with
 | some (some (.op _))=>ρ.set i (some (.op (.l ds)))
 | _=>ρ.set i (some (.ol (.l ds)))
def HK(i:Nat)(f:List D->List D->Option (List D))(ms:Ev S (List D)):SM S:=λK ρ=>match iT ρ i with
 | some _=>ms K.x (λas ρ1=>match iT ρ1 i with
  | some ds=>(oM (f ds as)).on (λe=>K.x e ρ1) (λds'=>K.nx (rW ρ1 i ds'))
  | none=>.bad) ρ
 | none=>.bad
def cu{T:Type}(step:T->D->(T->M S)->M S):List D->T->(T->M S)->M S
 | [],s,k=>k s
 | d::r,s,k=>step s d (λs'=>cu step r s' k)
@[reducible] def jK(sh:List Kd)(K:KS S)(kn:SOf sh->M S):KS S:={ K with
  nx:=λρ3=>rdk sh kn ρ3
  ct:=λρ3=>rdk sh kn ρ3
  bk:=λρ3=>rdk sh (λs'=>K.nx (wr sh s')) ρ3 }
def FG(sh:List Kd)(it:Ev S (List D))(t:Tg S)(mb:SM S):SM S:=λK ρ=>it K.x (λds ρ1=>rdk sh (λs=>cu (λs d kn=>t d (λρ2=>mb (jK sh K kn) ρ2) (wr sh s)) ds s (λs'=>K.nx (wr sh s'))) ρ1) ρ
def cV{T:Type}(step:T->(T->M S)->M S):Nat->T->M S
 | 0,_=>.bad
 | n+1,s=>step s (λs'=>cV step n s')
def v8(sh:List Kd)(fuel:Nat)(c:Ev S Bool)(mb:SM S):SM S:=λK ρ=>rdk sh (λs=>cV (λs kn=>c K.x (λb ρ2=>if b then mb (jK sh K kn) ρ2 else rdk sh (λs'=>K.nx (wr sh s')) ρ2) (wr sh s)) fuel s) ρ
end
def mI(ρ:En)(i:Nat)(ds ds0:List D)(h:iT ρ i=some ds0):rW ρ i ds=ρ.set i ((ρ[i]?.join).map fun | .op _=>.op (.l ds)|_=>.ol (.l ds)):=by
 unfold iT at h;unfold rW;split at h
 ·rename_i q;rw[q];rfl
 ·rename_i q;rw[q];rfl
 ·cases h
def fG{OK:M S->Prop}(hO:KOk OK){sh:List Kd}{k:SOf sh->M S}(h:OK (rdk sh k ρ)):∃s,rd sh ρ=some s/\OK (k s):=by
 unfold rdk at h;split at h
 ·rename_i s e;exact⟨s,e,h⟩
 ·exact(hO h).elim
section
variable {sts rest:List Stmt} {m n:SM S} {c a:Expr} {me:Ev S D} {mt:Ev S Bool} {ml:Ev S (List D)} {tpos:Pos}
theorem bE:ASs (S:=S) X [] EA:=λOK K G F Z H ρ E hO hX St ok eo=>Fz yl (eo.nx F Z H ρ (Same.refl _) St ok)
def aq(h1:AS X st m)(h2:ASs X rest n):ASs X (st::rest) (JD m n):=λOK K G F Z H ρ E hO hX St ok eo =>
 Fz (oC Bf eF) (h1 OK { K with nx:=λρ1=>n K ρ1 } G F Z H ρ _ hO hX St ok ⟨λF' σ' H' ρ' s S' o=>h2 OK K G F' σ' H' ρ' E hO hX S' o (eo.up s),eo.rt,eo.rl,eo.bk,eo.ct⟩)
def aD(h1:AS X st m):ASs X [st] m:=λOK K G F Z H ρ E hO hX St ok eo=>Fz (Df Bf) (h1 OK K G F Z H ρ E hO hX St ok eo)
theorem D9:AS (S:=S) X (.Pass pos) EA:=λOK K G F Z H ρ E hO hX St ok eo=>iz Dg (eo.nx F Z H ρ (Same.refl _) St ok)
def cb{A B:List Stmt}(hc:AEt X c mt)(ha:ASs X A m)(hb:ASs X B n):AS X (.If c A B pos) (sIf mt m n):=λOK K G F Z H ρ E hO hX St ok eo =>
 iz (Ie d4 eF eF) (hc OK K.x _ G F Z H ρ _ hO hX St ok λt F1 H1 ρ1 s1 S1 o1=>by
  cases t with
  | true=>exact ha OK K G F1 Z H1 ρ1 E hO hX S1 o1 (eo.up s1)
  | false=>exact hb OK K G F1 Z H1 ρ1 E hO hX S1 o1 (eo.up s1))
def aL{sh:List Kd}(h:AS X st m):AS X st (sTo sh m):=λOK K G F Z H ρ E hO hX St ok eo =>
 h OK { K with nx:=λρ1=>rdk sh (λs=>K.nx (wr sh s)) ρ1 } G F Z H ρ E hO hX St ok ⟨λF' σ' H' ρ' s S' o=>by
  obtain⟨s',e',o'⟩:=fG hO o
  exact eo.nx F' σ' H' _ s (S'.rd e') o',eo.rt,eo.rl,eo.bk,eo.ct⟩
def G5(h:AS X st m):AS X st (HL i m):=λOK K G F Z H ρ E hO hX St ok eo=>by
 unfold HL at ok;split at ok
 ·rename_i ds q;obtain⟨a,ea,_⟩:=St.ow i _ (.inl q);split at ok
  ·exact(hO ok).elim
  rename_i hI;obtain⟨F2,s2,S2,_⟩:=St.settleC (by simpa using hI) q ea;exact h OK K G F2 Z H _ E hO hX S2 ok (eo.up s2)
 ·exact(hO ok).elim
def bg(he:AE X e me):AS X (.Return (some e) pos) (JE me):=λOK K G F Z H ρ E hO hX St ok eo =>
 iz (wu aN) (he OK K.x K.rt G F Z H ρ _ hO hX St ok λd v F1 H1 ρ1 s1 S1 r1 o1=>eo.rt F1 Z H1 ρ1 d v s1 S1 r1 o1)
def D8(he:AEl X e ml):AS X (.Return (some e) pos) (HI ml):=λOK K G F Z H ρ E hO hX St ok eo =>
 iz (wu aN) (he OK K.x (λds=>K.rl (.l ds)) G F Z H ρ _ hO hX St ok λd v F1 H1 ρ1 s1 S1 r1 o1=>eo.rl F1 Z H1 ρ1 (.l d) v s1 S1 r1 o1)
theorem _root_.L3.StOk.drop(S:StOk K G F Z H ρ)(hi:∀c,ρ[i]? ≠ some (some (.op c))):StOk K G F Z H (ρ.set i none):=by
 refine S.weak (by simp) (λj av e=>?_) (λj c e=>?_)
 ·by_cases hj:j=i
  ·subst hj;exfalso;by_cases hl:j<ρ.length
   ·rw[gn hl]at e;cases e
   ·rw[List.getElem?_eq_none_iff.mpr (by simp;lia)]at e;cases e
  ·rw[eE (Ne.symm hj)]at e;exact e
 ·have hj:j≠i:=by rintro rfl;exact hi c e
  rw[eE (Ne.symm hj)];exact e
theorem D7(hN:X.N[i]? = some x)(hv:Vis X.env.scope x)(hd:(x==("__debug__" : Str))=false:=by decide)(hcd:(x==("__classdict__" : Str))=false:=by decide):AS (S:=S) X (.Return (some (.Name x pos')) pos) (Ez i):=λOK K G F Z H ρ E hO hX St ok eo =>
 iz (wu (dh hN hv hd hcd)) (by
  unfold Ez at ok;split at ok
  ·rename_i ds q;obtain⟨a,ea,oa⟩:=St.ow i _ (.inl q);refine⟨_,ea,eo.rl F Z H _ ds (.ref a) (Same.refl _) (St.drop λc e=>by rw[q]at e;cases e) ⟨a,rfl,oa,λj f ho e2=>?_⟩ ok⟩;have hl:i<ρ.length:=(List.getElem?_eq_some_iff.mp q).1;by_cases hj:j=i
   ·subst hj;rcases ho with ho|ho<;>(rw[gn hl]at ho;cases ho)
   ·have ho':own ρ j f:=by
     unfold own at ho ⊢;rw[eE (Ne.symm hj)]at ho;exact ho
    exact hj (St.dj j i _ _ a ho' (.inl q) e2 ea)
  ·exact(hO ok).elim)
theorem aQ(hN:X.N.Nodup)(he:AE X e me)(hi:X.N[i]? = some x:=by rfl)(hx:Loc X.env.scope x:=by exact lo rfl)(hs:swapsWith e (some (.Name x pos')) pos.line X.env=pure false:=by rfl)(hf:X.fn x=true\/X.env.scope.names.lookup x=some .local:=by exact .inl rfl) :
  AS X (.Assign [.Name x pos'] e pos) (HH i me):=λOK K G F Z H ρ E hO hX St ok eo =>
 iz (sr hN hi hx aN hs hf) (he OK K.x _ G F Z H ρ _ hO hX St ok λd v F1 H1 ρ1 s1 S1 r1 o1=>by
  split at o1
  ·rename_i ho;obtain⟨hl,hop⟩:=cJ ho;exact eo.nx F1 _ H1 _ s1 (S1.store hop hl (.inl ⟨d,rfl,r1⟩)) o1
  ·exact(hO o1).elim)
theorem gj(hN:X.N.Nodup)(he:AEl X e ml)(hi:X.N[i]? = some x:=by rfl)(hx:Loc X.env.scope x:=by exact lo rfl)(hs:swapsWith e (some (.Name x pos')) pos.line X.env=pure false:=by rfl)(hf:X.fn x=true\/X.env.scope.names.lookup x=some .local:=by exact .inl rfl) :
  AS X (.Assign [.Name x pos'] e pos) (HF i ml):=λOK K G F Z H ρ E hO hX St ok eo =>
 iz (sr hN hi hx aN hs hf) (he OK K.x _ G F Z H ρ _ hO hX St ok λd v F1 H1 ρ1 s1 S1 r1 o1=>by
  split at o1
  ·rename_i ho;obtain⟨hl,hop⟩:=cJ ho;exact eo.nx F1 _ H1 _ s1 (S1.store hop hl (.inr ⟨.l d,rfl,r1⟩)) o1
  ·exact(hO o1).elim)
def eL(he:AE X e me)(hs:swapsWith e none pos.line X.env=pure false):AS X (.Expr e pos) (HN me):=λOK K G F Z H ρ E hO hX St ok eo =>
 iz (ym aN hs) (he OK K.x _ G F Z H ρ _ hO hX St ok λd v F1 H1 ρ1 s1 S1 r1 o1=>eo.nx F1 Z H1 ρ1 s1 S1 o1)
end
section
variable {m n mb:SM S} {c a o:Expr} {me mi:Ev S D} {mt:Ev S Bool} {ml ms:Ev S (List D)} {tpos apos cpos:Pos}
def G6{iter:Expr}{body:List Stmt}{sh:List Kd}{t:Tg S}(hp:PassesOwn (model X.prog X.w) X.A X.env X.xe)(hc:X.calm=true)(hi:AEi X tg iter ml)(hg:AG X 0 tg t)(hb:ASs X body mb)
  (hs:∀x,foldedSetIterable iter X.env x=pure x):AS X (.For tg iter body [] pos) (FG sh ml t mb):=λOK K G F Z H ρ E hO hX St ok eo =>
 iz (FQ hp hc su oF eF hs) (hi OK K.x _ G F Z H ρ _ hO hX St ok λds J F1 H1 ρ1 s1 S1 wk o1=>by
  obtain⟨s0,e0,o0⟩:=fG hO o1;have S0:=S1.rd e0;clear o1;generalize hstep:(λ(s:SOf sh) d (kn:SOf sh->M S)=>t d (λρ2=>mb (jK sh K kn) ρ2) (wr sh s))=step at o0;refine⟨λi m σ' H'=>∃F' s,m=ds.length - i/\i<=ds.length/\Same F1 F'/\StOk X.K G F' σ' H' (wr sh s)/\OK (cu step (ds.drop i) s (λs'=>K.nx (wr sh s'))),⟨ds.length,F1,s0,rfl,di _,Same.refl _,S0,o0⟩,?_⟩;rintro i m σ' H' ⟨F',s,rfl,hi,s2,S2,go⟩;by_cases hlt:i<ds.length
  ·have ed:ds.drop i=ds[i]::ds.drop (i+1):=oz hlt;rw[ed]at go;dsimp only[cu]at go;rw[<-hstep]at go;have again:∀F5 σ5 H5 ρ5,Same F' F5->StOk X.K G F5 σ5 H5 ρ5->OK (rdk sh (λs'=>cu step (ds.drop (i+1)) s' λs'=>K.nx (wr sh s')) ρ5) ->
     ∃m',m'<ds.length - i/\∃F' s,m'=ds.length - (i+1)/\i+1<=ds.length/\Same F1 F'/\StOk X.K G F' σ5 H5 (wr sh s)/\OK (cu step (ds.drop (i+1)) s (λs'=>K.nx (wr sh s'))):=λF5 σ5 H5 ρ5 s5 S5 o5=>by
    obtain⟨s',e',o'⟩:=fG hO o5;exact⟨ds.length - (i+1),by omega,F5,s',rfl,hlt,s2.trans s5,S5.rd e',o'⟩
   refine .inr ⟨wk.go i G F' σ' H' _ s2 S2 hlt,λσ4 H4=>∃m',m'<ds.length - i/\∃F' s,m'=ds.length - (i+1)/\i+1<=ds.length/\Same F1 F'/\StOk X.K G F' σ4 H4 (wr sh s)/\OK (cu step (ds.drop (i+1)) s (λs'=>K.nx (wr sh s'))),λσ4 H4 h4=>h4,λx H2 y=>?_⟩;obtain⟨F3,s3,S3,r3⟩:=wk.yld i G F' σ' H' _ x H2 ds[i] s2 S2 (by simp[hlt]) y;refine hg OK _ G F3 σ' H2 (wr sh s) x ds[i] _ hO S3 r3 go λσ3 ρ3 S4 _ _ _ o4=>?_
   rw[hstep]at o4;refine hb OK (jK sh K λs'=>cu step (ds.drop (i+1)) s' λs'=>K.nx (wr sh s')) G F3 σ3 H2 ρ3 _ hO hX S4 o4 ⟨λF5 σ5 H5 ρ5 s5 S5 o5=>?_,λF5 σ5 H5 ρ5 d v s5=>eo.rt F5 σ5 H5 ρ5 d v ((s1.trans (s2.trans s3)).trans s5),λF5 σ5 H5 ρ5 d v s5=>eo.rl F5 σ5 H5 ρ5 d v ((s1.trans (s2.trans s3)).trans s5),λF5 σ5 H5 ρ5 s5 S5 o5=>?_,λF5 σ5 H5 ρ5 s5 S5 o5=>?_⟩
   ·exact again F5 σ5 H5 ρ5 (s3.trans s5) S5 o5
   ·obtain⟨s',e',o'⟩:=fG hO o5;exact eo.nx F5 σ5 H5 _ ((s1.trans (s2.trans s3)).trans s5) (S5.rd e') o'
   ·exact again F5 σ5 H5 ρ5 (s3.trans s5) S5 o5
  ·have ei:i=ds.length:=by omega
   subst ei;rw[List.drop_length]at go
   exact .inl ⟨wk.stop G F' σ' H' _ s2 S2,eo.nx F' σ' H' _ (s1.trans s2) S2 go⟩)
def Cw{body:List Stmt}{sh:List Kd}{fuel:Nat}(hp:PassesOwn (model X.prog X.w) X.A X.env X.xe)(hc:AEt X c mt)(hb:ASs X body mb):AS X (.While c body [] pos) (v8 sh fuel mt mb):=λOK K G F Z H ρ E hO hX St ok eo =>
 iz (Be hp d4 eF) (by
  obtain⟨s0,e0,o0⟩:=fG hO ok;have S0:=St.rd e0;clear ok;generalize hstep:(λ(s:SOf sh) (kn:SOf sh->M S)=>mt K.x (λb ρ2=>if b then mb (jK sh K kn) ρ2 else rdk sh (λs'=>K.nx (wr sh s')) ρ2) (wr sh s))=step at o0;refine⟨λm σ' H'=>∃F' s,Same F F'/\StOk X.K G F' σ' H' (wr sh s)/\OK (cV step m s),⟨fuel,F,s0,Same.refl _,S0,o0⟩,?_⟩;rintro m σ' H' ⟨F',s,s2,S2,go⟩
  cases m with
  | zero=>exact(hO go).elim
  | succ m =>
   dsimp only[cV]at go;rw[<-hstep]at go;refine hc OK K.x _ G F' σ' H' (wr sh s) _ hO hX S2 go λt F1 H1 ρ1 s1 S1 o1=>?_
   cases t with
   | false =>
    obtain⟨s',e',o'⟩:=fG hO (show OK (rdk sh (λs'=>K.nx (wr sh s')) ρ1)from o1);exact eo.nx F1 σ' H1 _ (s2.trans s1) (S1.rd e') o'
   | true =>
    have o1':OK (mb (jK sh K λs'=>cV (λ(s:SOf sh) (kn:SOf sh->M S)=>mt K.x (λb ρ2=>if b then mb (jK sh K kn) ρ2 else rdk sh (λs'=>K.nx (wr sh s')) ρ2) (wr sh s)) m s') ρ1):=o1;rw[hstep]at o1';have again:∀F5 σ5 H5 ρ5,Same F1 F5->StOk X.K G F5 σ5 H5 ρ5->OK (rdk sh (λs'=>cV step m s') ρ5)->∃m',m'<m+1/\∃F' s,Same F F'/\StOk X.K G F' σ5 H5 (wr sh s)/\OK (cV step m' s):=λF5 σ5 H5 ρ5 s5 S5 o5=>by
     obtain⟨s',e',o'⟩:=fG hO o5;exact⟨m,wT _,F5,s',(s2.trans s1).trans s5,S5.rd e',o'⟩
    refine qw ⟨λσ4 H4=>∃m',m'<m+1/\∃F' s,Same F F'/\StOk X.K G F' σ4 H4 (wr sh s)/\OK (cV step m' s),λσ4 H4 h4=>h4,?_⟩;refine hb OK (jK sh K λs'=>cV step m s') G F1 σ' H1 ρ1 _ hO hX S1 o1' ⟨λF5 σ5 H5 ρ5 s5 S5 o5=>again F5 σ5 H5 ρ5 s5 S5 o5,λF5 σ5 H5 ρ5 d v s5=>eo.rt F5 σ5 H5 ρ5 d v ((s2.trans s1).trans s5),λF5 σ5 H5 ρ5 d v s5=>eo.rl F5 σ5 H5 ρ5 d v ((s2.trans s1).trans s5),λF5 σ5 H5 ρ5 s5 S5 o5=>?_,λF5 σ5 H5 ρ5 s5 S5 o5=>again F5 σ5 H5 ρ5 s5 S5 o5⟩;obtain⟨s',e',o'⟩:=fG hO o5
    exact eo.nx F5 σ5 H5 _ ((s2.trans s1).trans s5) (S5.rd e') o')
def ko{ds:List D}(St:StOk K G F Z H ρ)(h:iT ρ i=some ds):∃a vs,Z[i]? = some (some (.ref a))/\H a=some (.lst vs)/\RepL K F vs ds:=by
 obtain⟨a,ea,oa⟩:=St.ow i _ (kq h);obtain⟨vs,h1,h2⟩:=oa.he;exact⟨a,vs,ea,h1,h2⟩
def yw{a:Addr}{ds ds':List D}{vs':List V}(St:StOk K G F Z H ρ)(h:iT ρ i=some ds)(ha:Z[i]? = some (some (.ref a)))(r:RepL K F vs' ds') :
  StOk K G F Z (upd H a (.lst vs')) (rW ρ i ds'):=by
 rw[mI ρ i ds' ds h];exact St.change (kq h) ha (c':=.l ds') ⟨_,aT,r⟩
def lR(ds as:List D):Option (List D):=match as with
 | [d]=>if ds.length<sizeLine then some (ds++[d])else none
 | _=>none
def ik(hN:X.N[i]? = some x)(hv:Vis X.env.scope x)(he:AEa X [e] ms)
  (hbase:attributeBase (.Name x pos') "append" X.env (eval (.Name x pos') X.env)=eval (.Name x pos') X.env)
  (hfew:((backTo cpos (starEach [e] X.env)).all (λx=>!x.1)&&(backToKw cpos (keywordEach [] X.env)).all (λx=>x.1.isSome)
   && decide ([e].length+([]:List Keyword).length+(if([]:List Keyword).isEmpty then 0 else 1)<30))=true)
  (hline:(apos.endLine==cpos.line)=true) (hs:starEach [e] X.env=(false,eval e X.env)::starEach [] X.env) (hplain:(backTo cpos (starEach [] X.env)).any (·.1)=false)
  (hsw:swapsWith (.Call (.Attribute (.Name x pos') "append" apos) [e] [] cpos) none pos.line X.env=pure false) (hd:(x==("__debug__" : Str))=false:=by decide) (hcd:(x==("__classdict__" : Str))=false:=by decide) :
  AS X (.Expr (.Call (.Attribute (.Name x pos') "append" apos) [e] [] cpos) pos) (HK i lR ms):=λOK K G F Z H ρ E hO hX St ok eo =>
 iz (ym (Ii PySem.F.plainAttrs_list PySem.F.slot_list_append PySem.F.type_list_append zW (dh hN hv hd hcd) bQ hbase hfew hline hs hplain) hsw) (by
  unfold HK at ok;split at ok
  case h_2=>exact(hO ok).elim
  ·rename_i ds0 h0;obtain⟨a,vs0,ea,hh,_⟩:=ko St h0;refine⟨_,ea,.inl ⟨rfl,vs0,.inl (.inl hh)⟩,he OK K.x _ G F Z H ρ _ hO hX St ok λas ws F1 H1 ρ1 s1 S1 _ r1 o1=>?_⟩;split at o1
   ·rename_i ds hds;obtain⟨ds',hf,o2⟩:=gy hO o1;obtain⟨a',vs,ea',hh',rv⟩:=ko S1 hds;rw[ea]at ea';injection ea' with ea';injection ea' with ea';injection ea' with ea';subst ea';unfold lR at hf;split at hf
    ·split at hf
     ·rename_i hz
      cases hf
      cases r1 with
      | cons ra rb =>
       cases rb
       refine⟨a,vs,_,rfl,rfl,hh',by rw[rv.length];exact hz,?_⟩;exact eo.nx F1 Z _ _ s1 (yw S1 hds ea (rv.append (.cons ra .nil))) o2
     ·cases hf
    ·cases hf
   ·exact(hO o1).elim)
end
def map_some_get{l:List α}{x:α}:(l.map some)[i]? = some (some x)↔l[i]? = some x:=by
 rw[ku]
 cases l[i]? <;> simp
open Classical in
noncomputable def bx(G:Gh)(Z:L2.St)(ρ:En)(H:Hp)(ex:Option Addr):Hp:=λb=>if(∃(i:Nat) (c:OC),own ρ i c/\Z[i]? = some (some (V.ref b)))/\some b≠ex then H b else G.O b
def setC(ρ:En)(j:Nat)(c:OC):En:=ρ.set j ((ρ[j]?.join).map fun | .op _=>.op c|_=>.ol c)
section
variable {ds:List D}
def cL(S:StOk K G F Z H ρ){b:Addr}{o:HO}(h:G.O b=some o):bx G Z ρ H ex b=some o:=by
 unfold bx;rw[ac]
 ·exact h
 ·rintro⟨⟨i,c,ho,e⟩,_⟩;obtain⟨a,e',oa⟩:=S.ow i c ho;rw[e]at e';injection e' with e';injection e' with e';injection e' with e';subst e';rw[oa.no]at h;cases h
def fZ{b:Addr}(ho:own ρ i c)(e:Z[i]? = some (some (V.ref b)))(hx:some b≠ex):bx G Z ρ H ex b=H b:=by
 unfold bx;rw[ak ⟨⟨i,c,ho,e⟩,hx⟩]
def rE(S:StOk K G F Z H ρ):Same (bx G Z ρ H ex) H:=λb o h=>by
 unfold bx at h;split at h
 ·exact h
 ·exact S.oh b o h
def _root_.L3.Held.notup{o:HO}(h:Held K F H a c)(e:H a=some o):Aq o:=by
 cases c with
 | l ds=>obtain⟨vs,h1,_⟩:=h;rw[h1]at e;cases e;exact True.intro
 | t es=>obtain⟨vs,h1,_⟩:=h;rw[h1]at e;cases e;exact True.intro
 | k es=>obtain⟨vs,h1,_⟩:=h;rw[h1]at e;cases e;exact True.intro
 | i x ns ds=>obtain⟨C,dx,fs,h1,_⟩:=h;rw[h1]at e;cases e;exact True.intro
def rF(S:StOk K G F Z H ρ):∀b o,bx G Z ρ H ex b=some o->F b=none/\Aq o:=λb o h=>by
 unfold bx at h;split at h
 ·rename_i hc;obtain⟨⟨i,c,ho,e⟩,_⟩:=hc;obtain⟨a,e',oa⟩:=S.ow i c ho;rw[e]at e';injection e' with e';injection e' with e';injection e' with e';subst e';exact⟨oa.nf,oa.he.notup h⟩
 ·exact S.fo b o h
def jZ{av:AV}(h:((ds.map AV.fz).map some)[i]? = some (some av)):∃d,av=.fz d/\ds[i]? = some d:=by
 rw[map_some_get,ku]at h
 cases q:ds[i]? with
 | none=>rw[q]at h;cases h
 | some d=>rw[q]at h;cases h;exact⟨d,rfl,rfl⟩
def gB(h:own ((ds.map AV.fz).map some) i c):False:=by
 rcases h with h|h<;>(obtain⟨d,z,_⟩:=jZ h;cases z)
def dw(S:StOk K G F Z H ρ)(r:RepL K F vs ds):StOk K ⟨λ_=>none,bx G Z ρ H none,F⟩ F (vs.map some) H ((ds.map AV.fz).map some):=by
 refine⟨S.fh,rE S,rF S,by simp[r.length],λi d h=>?_,λi c h=>(gB h).elim,λi j c e a h=>(gB h).elim,λi a h=>(nomatch h),λi c h=>?_,Same.refl _⟩
 ·obtain⟨d',z,e⟩:=jZ h
  cases z
  obtain⟨v,e1,e2⟩:=r.get e;exact⟨v,map_some_get.mpr e1,e2⟩
 ·obtain⟨d',z,e⟩:=jZ h;cases z
def h8{avs':List AV}(S:StOk K G F Z H ρ)(s1:Same F F')(S1:StOk K ⟨λ_=>none,bx G Z ρ H none,F⟩ F' (vs.map some) H' (avs'.map some)) :
  StOk K G F' Z H' ρ/\∀v c,Frs K ⟨λ_=>none,bx G Z ρ H none,F⟩ F' (vs.map some) H' (avs'.map some) v c->Frs K G F' Z H' ρ v c:=by
 have oo:∀b,bx G Z ρ H none b=none->G.O b=none:=λb h=>by
  cases q:G.O b with
  | none=>rfl
  | some o=>rw[cL S q]at h;cases h
 refine⟨⟨S1.fh,λb o h=>S1.oh b o (cL S h),λb o h=>S1.fo b o (cL S h),S.ln,λi d h=>?_,λi c h=>?_,S.dj,S.pp,S.pq,S.fb.trans s1⟩,λv cc h=>?_⟩
 ·obtain⟨v,e,r⟩:=S.fz i d h;exact⟨v,e,r.mono s1⟩
 ·obtain⟨a,e,oa⟩:=S.ow i c h;obtain⟨o,ho⟩:=oa.he.some;have q:bx G Z ρ H none a=some o:=by rw[fZ h e (by simp)];exact ho
  exact⟨a,e,(S1.fo a o q).1,oa.no,(oa.he.mono s1).at (by rw[S1.oh a o q,ho])⟩
 ·obtain⟨a,rfl,oa,_⟩:=h;refine⟨a,rfl,⟨oa.nf,oo a oa.no,oa.he⟩,λi e ho q=>?_⟩;obtain⟨a',e',oa'⟩:=S.ow i e ho;rw[q]at e';injection e' with e';injection e' with e';injection e' with e';subst e';obtain⟨o,hh⟩:=oa'.he.some;have:=oa.no;rw[show(⟨λ_=>none,bx G Z ρ H none,F⟩:Gh).O a=bx G Z ρ H none a from rfl,fZ ho q (by simp),hh]at this
  cases this
def P1(a:Addr):Nat->Option Addr
 | 0=>some a
 | _=>none
def jy(S:StOk K G F Z H ρ)(hj:own ρ j c)(ha:Z[j]? = some (some (V.ref a)))(r:RepL K F vs ds) :
  StOk K ⟨P1 a,bx G Z ρ H (some a),F⟩ F ((V.ref a::vs).map some) H ((AV.op c::ds.map AV.fz).map some):=by
 obtain⟨a',e',oa⟩:=S.ow j c hj;rw[ha]at e';injection e' with e';injection e' with e';injection e' with e';subst e';have at0:∀i d,own ((AV.op c::ds.map AV.fz).map some) i d->i=0/\d=c:=λi d h=>by
  cases i with
  | zero=>rcases h with h|h<;>(simp at h);exact⟨rfl,h.symm⟩
  | succ i=>exact(gB (ds:=ds) (i:=i) (c:=d) (by unfold own at h ⊢;simpa using h)).elim
 refine⟨S.fh,rE S,rF S,by simp[r.length],λi d h=>?_,λi d h=>?_,λi k d e b h1 h2 _ _=>?_,λi b h=>?_,λi d h=>?_,Same.refl _⟩
 ·cases i with
  | zero=>simp at h
  | succ i =>
   obtain⟨d',z,e⟩:=jZ (ds:=ds) (i:=i) (av:=.fz d) (by simpa using h)
   cases z
   obtain⟨v,e1,e2⟩:=r.get e;exact⟨v,by simpa using e1,e2⟩
 ·obtain⟨rfl,rfl⟩:=at0 i d h;refine⟨a,rfl,oa.nf,?_,oa.he⟩;show bx G Z ρ H (some a) a=none;unfold bx;rw[ac (by simp)];exact oa.no
 ·rw[(at0 i d h1).1,(at0 k e h2).1]
 ·cases i with
  | zero=>cases h;exact⟨rfl,c,rfl⟩
  | succ i=>cases h
 ·cases i with
  | zero=>exact⟨a,rfl⟩
  | succ i =>
   obtain⟨d',z,e⟩:=jZ (ds:=ds) (i:=i) (av:=.op d) (by simpa using h)
   cases z
def j6{c':OC}{l:List AV}(S:StOk K G F Z H ρ)(hj:own ρ j c)(ha:Z[j]? = some (some (V.ref a)))(s1:Same F F')
  (S1:StOk K ⟨P1 a,bx G Z ρ H (some a),F⟩ F' ((V.ref a::vs).map some) H' ((AV.op c'::l).map some)) :
  StOk K G F' Z H' (setC ρ j c')/\∀v cc,Frs K ⟨P1 a,bx G Z ρ H (some a),F⟩ F' ((V.ref a::vs).map some) H' ((AV.op c'::l).map some) v cc->Frs K G F' Z H' (setC ρ j c') v cc:=by
 have oo:∀b,bx G Z ρ H (some a) b=none->G.O b=none:=λb h=>by
  cases q:G.O b with
  | none=>rfl
  | some o=>rw[cL S q]at h;cases h
 obtain⟨a',e',oa⟩:=S.ow j c hj;rw[ha]at e';injection e' with e';injection e' with e';injection e' with e';subst e';have hl:j<ρ.length:=by rcases hj with h|h<;>exact(List.getElem?_eq_some_iff.mp h).1
 generalize hav:((ρ[j]?.join).map λ(x:AV)=>match x with | .op _=>AV.op c'|_=>AV.ol c')=av;have hset:setC ρ j c'=ρ.set j av:=by rw[<-hav];rfl
 rw[hset];have ne:∀i,i≠j->(ρ.set j av)[i]? = ρ[i]?:=λi hi=>eE (Ne.symm hi)
 have atj:(ρ.set j av)[j]? = some av:=gn hl;have kind:(ρ[j]? = some (some (.ol c))/\av=some (.ol c'))\/(ρ[j]? = some (some (.op c))/\av=some (.op c')):=by
  rcases hj with h|h
  ·exact .inl ⟨h,by rw[<-hav,h];rfl⟩
  ·exact .inr ⟨h,by rw[<-hav,h];rfl⟩
 have owni:∀i e,own (ρ.set j av) i e->(i=j/\e=c')\/(i≠j/\own ρ i e):=λi e h=>by
  by_cases hi:i=j
  ·subst hi;unfold own at h;rw[atj]at h;rcases kind with ⟨_,k⟩|⟨_,k⟩<;>rw[k]at h<;>rcases h with h|h<;>cases h<;>exact .inl ⟨rfl,rfl⟩
  ·unfold own at h ⊢;rw[ne i hi]at h;exact .inr ⟨hi,h⟩
 have nea:∀i e b,i≠j->own ρ i e->Z[i]? = some (some (V.ref b))->b≠a:=λi e b hi ho q z=>by
  subst z;exact hi (S.dj i j e c b ho hj q ha)
 have own1:OwnAt K ⟨P1 a,bx G Z ρ H (some a),F⟩ F' H' a c':=by
  obtain⟨b,e1,ob⟩:=S1.ow 0 c' (.inr rfl);have:V.ref a=V.ref b:=by simpa using e1
  injection this with this;subst this;exact ob
 refine⟨⟨S1.fh,λb o h=>S1.oh b o (cL S h),λb o h=>S1.fo b o (cL S h),by simpa using S.ln,λi d h=>?_,λi e h=>?_,λi k d e b h1 h2=>?_,λi b h=>?_,λi d h=>?_,S.fb.trans s1⟩,λv cc h=>?_⟩
 ·by_cases hi:i=j
  ·subst hi;rw[atj]at h;rcases kind with ⟨_,k⟩|⟨_,k⟩<;>rw[k]at h<;>cases h
  ·rw[ne i hi]at h;obtain⟨v,e,r⟩:=S.fz i d h;exact⟨v,e,r.mono s1⟩
 ·rcases owni i e h with ⟨rfl,rfl⟩|⟨hi,ho⟩
  ·exact⟨a,ha,own1.nf,oa.no,own1.he⟩
  ·obtain⟨b,eb,ob⟩:=S.ow i e ho;obtain⟨o,hh⟩:=ob.he.some;have q:bx G Z ρ H (some a) b=some o:=by rw[fZ ho eb (λz=>nea i e b hi ho eb (Option.some.inj z))];exact hh
   exact⟨b,eb,(S1.fo b o q).1,ob.no,(ob.he.mono s1).at (by rw[S1.oh b o q,hh])⟩
 ·have f:∀i e,own (ρ.set j av) i e->∃d,own ρ i d:=λi e h=>by
   rcases owni i e h with ⟨rfl,_⟩|⟨_,ho⟩
   ·exact⟨c,hj⟩
   ·exact⟨e,ho⟩
  exact S.dj i k _ _ b (f i d h1).choose_spec (f k e h2).choose_spec
 ·obtain⟨q1,e,q2⟩:=S.pp i b h;refine⟨q1,?_⟩;by_cases hi:i=j
  ·subst hi;rcases kind with ⟨k1,k⟩|⟨k1,k⟩
   ·rw[k1]at q2;cases q2
   ·exact⟨c',by rw[atj,k]⟩
  ·exact⟨e,by rw[ne i hi];exact q2⟩
 ·by_cases hi:i=j
  ·subst hi;rcases kind with ⟨k1,k⟩|⟨k1,k⟩
   ·rw[atj,k]at h;cases h
   ·exact S.pq i c k1
  ·rw[ne i hi]at h;exact S.pq i d h
 ·obtain⟨b,rfl,ob,nn⟩:=h;refine⟨b,rfl,⟨ob.nf,oo b ob.no,ob.he⟩,λi e ho q=>?_⟩;rcases owni i e ho with ⟨rfl,_⟩|⟨hi,ho'⟩
  ·rw[ha]at q;injection q with q;injection q with q;injection q with q;subst q;exact nn 0 c' (.inr rfl) rfl
  ·obtain⟨b',eb,ob'⟩:=S.ow i e ho';rw[q]at eb;injection eb with eb;injection eb with eb;injection eb with eb;subst eb;obtain⟨o,hh⟩:=ob'.he.some;have:=ob.no;rw[show(⟨P1 a,bx G Z ρ H (some a),F⟩:Gh).O b=bx G Z ρ H (some a) b from rfl,fZ ho' q (λz=>nea i e b hi ho' q (Option.some.inj z)),hh]at this
   cases this
end
abbrev fzs(ds:List D):En:=(ds.map AV.fz).map some
def KD:KS D:=⟨λ_=>.ret .none,λd _=>.ret d,λ_ _=>.bad,λ_=>.bad,λ_=>.bad,λe _=>.exc e⟩
def asL{S:Type}(c:OC)(k:List D->M S):M S:=match c with
 | .l ds=>k ds
 | _=>.bad
def KL:KS (List D):=⟨λ_=>.bad,λ_ _=>.bad,λc _=>asL c .ret,λ_=>.bad,λ_=>.bad,λe _=>.exc e⟩
def at0{S:Type}(ρ:En)(k:List D->M S):M S:=match (ρ[0]? : Option (Option AV))with
 | some (some (AV.op (OC.l f)))=>k f
 | _=>.bad
def K1:KS (D×List D):=⟨λρ=>at0 ρ λf=>.ret (.none,f),λd ρ=>at0 ρ λf=>.ret (d,f),λ_ _=>.bad,λ_=>.bad,λ_=>.bad,λe _=>.exc e⟩
def il(K:Fg)(G:Gh)(E:XK){α:Type}(m:M α)(C:α->Prop):Prop:=match m with
 | .ret a=>C a
 | .exc x=>∀F' H' Cl dd,GOk G F' H'->XR K F' Cl dd x->E (.ref Cl) dd H'
 | .bad=>False
def spD(K:Fg)(n:Nat)(mf:List D->M D):Sp:=λvs H Q E=>∃G F ds,vs.length=n/\StOk K G F (vs.map some) H (fzs ds)/\il K G E (mf ds) λd=>∀v F' H',Same F F'->StOk K G F' (vs.map some) H' (fzs ds)->Rep K F' v d->Q v H'
def spL(K:Fg)(n:Nat)(mf:List D->M (List D)):Sp:=λvs H Q E=>∃G F ds,vs.length=n/\StOk K G F (vs.map some) H (fzs ds)/\il K G E (mf ds) λd=>∀v F' H',Same F F'->StOk K G F' (vs.map some) H' (fzs ds)->Frs K G F' (vs.map some) H' (fzs ds) v (.l d)->Q v H'
def sp1(K:Fg)(n:Nat)(mf:List D->List D->M (D×List D)):Sp:=λvs H Q E=>∃G F f ds,vs.length=n/\StOk K G F (vs.map some) H (some (.op (.l f))::fzs ds)/\il K G E (mf f ds) λr =>
 ∀v F' H',Same F F'->StOk K G F' (vs.map some) H' (some (.op (.l r.2))::fzs ds)->Rep K F' v r.1->Q v H'
section
variable {ds:List D}
def tM(S:StOk K G F (vs.map some) H (fzs ds))(s1:Same F F')(S1:StOk K G F' Z H' ρ):StOk K G F' (vs.map some) H' (fzs ds):=by
 refine⟨S1.fh,S1.oh,S1.fo,S.ln,λi d q=>?_,λi c q=>(gB q).elim,λi j c e a q=>(gB q).elim,S.pp,S.pq,S1.fb⟩;obtain⟨v,e,r⟩:=S.fz i d q;exact⟨v,e,r.mono s1⟩
def zh(S1:StOk K G F' Z H' ρ)(h:Frs K G F' Z H' ρ v c):Frs K G F' (vs.map some) H' (fzs ds) v c:=by
 obtain⟨a,rfl,oa,_⟩:=h;exact⟨a,rfl,oa,λi e q=>(gB q).elim⟩
def own1{f:List D}(h:own (some (.op (.l f))::fzs ds) i c):i=0/\c=.l f:=by
 cases i with
 | zero=>rcases h with h|h<;>simp at h;exact⟨rfl,h.symm⟩
 | succ i=>exact(gB (ds:=ds) (i:=i) (c:=c) (by unfold own at h ⊢;simpa using h)).elim
def Cp{f f':List D}(S:StOk K G F (vs.map some) H (some (.op (.l f))::fzs ds))(s1:Same F F')(S1:StOk K G F' Z H' ρ)(h0:ρ[0]? = some (some (.op (.l f')))) :
  StOk K G F' (vs.map some) H' (some (.op (.l f'))::fzs ds)/\∀v c,Frs K G F' Z H' ρ v c->Frs K G F' (vs.map some) H' (some (.op (.l f'))::fzs ds) v c:=by
 obtain⟨a,ha⟩:=S1.pq 0 _ h0;obtain⟨e1,_⟩:=S1.pp 0 a ha;obtain⟨e2,_⟩:=S.pp 0 a ha;obtain⟨b,eb,ob⟩:=S1.ow 0 _ (.inr h0);rw[e1]at eb;injection eb with eb;injection eb with eb;injection eb with eb;subst eb;have only:∀i b,G.P i=some b->i=0:=λi b h=>by
  obtain⟨_,c,q⟩:=S.pp i b h;exact(own1 (.inr q)).1
 refine⟨⟨S1.fh,S1.oh,S1.fo,S.ln,λi d q=>?_,λi c q=>?_,λi j c e b q1 q2 _ _=>?_,λi b q=>?_,λi c q=>?_,S1.fb⟩,λv c h=>?_⟩
 ·cases i with
  | zero=>simp at q
  | succ i =>
   obtain⟨v,e,r⟩:=S.fz (i+1) d (by simpa using q);exact⟨v,e,r.mono s1⟩
 ·obtain⟨rfl,rfl⟩:=own1 q;exact⟨a,e2,ob⟩
 ·rw[(own1 q1).1,(own1 q2).1]
 ·have:=only i b q;subst this;exact⟨(S.pp 0 b q).1,_,rfl⟩
 ·obtain⟨rfl,_⟩:=own1 (.inr q);exact⟨a,ha⟩
 ·obtain⟨b,rfl,ob2,nn⟩:=h;refine⟨b,rfl,ob2,λi e q z=>?_⟩;obtain⟨rfl,rfl⟩:=own1 q;rw[e2]at z;injection z with z;injection z with z;injection z with z;subst z;exact nn 0 _ (.inr h0) e1
end
section
variable {P:Program} {w:World} {mg:zzl} {base:Heap} {qual:Str} {fd:FuncData} {N ps:List Str}
def nU{ds:List D}(hl:vs.length=ps.length)(S0:StOk K G F (vs.map some) H (fzs ds)):StOk K G F (L2.start N vs) H (fzs ds++List.replicate (N.length - ps.length) none):=by
 have e0:L2.start N vs=vs.map some++List.replicate (N.length - ps.length) none:=by unfold L2.start;rw[hl]
 rw[e0];exact S0.grow _
def Af{sp:Sp}(Fn:Fun K x qual st f fd)(S:FnScope N ps (aE st))(len:∀vs H Q E,sp vs H Q E->vs.length=ps.length)
  (hbody:∀(cdv:Value) (A:Around) (outer:List Env) (s:Shared) (H:Hp) (vs:List V) (Q:VK) (E:XK),Room k (A.deeper (envOfC qual (aE st) s.heap.objs.size f cdv))->sp vs H Q E ->
   ∃t,PSs (lc (CX1 P w) P w K mg base N qual (aE st) f cdv A outer s H E) (bS st) t/\t { nx:=λ_ H'=>Q .non H',rt:=Q } (start N vs) H):FnOk P w K mg base (CX1 P w) (k+1) f fd ps sp:=by
 obtain⟨oc,od,kV,doc,pm,an,cdv,ct,osl,rfl,lk,hcd⟩:=Fn.ex;exact IY lk hcd S len λA outer s H vs Q E hr hsp=>hbody cdv A outer s H vs Q E hr hsp
def va{C:α->Prop}{N:List Str}{qual:Str}{scope:Scope}{cdv:Value}{outer:List Env}{s:Shared}{e:Ex}(h:il K G E (M.exc e:M α) C):XW (lc (CX1 P w) P w K mg base N qual scope f cdv A outer s H E) G F ρ e :=
 λF' H' s' a Cl dd pins Z g _ I xs _ xr=>DC I xs (h F' H' Cl dd g xr)
theorem cW{mb:SM D}{mf:List D->M D}(Fn:Fun K x qual st f fd)(Sc:FnScope N ps (aE st))
  (hb:∀(cdv:Value) (A:Around) (outer:List Env) (s:Shared) (H:Hp) (E:XK),Room k (A.deeper (envOfC qual (aE st) s.heap.objs.size f cdv)) ->
   ASs (lc (CX1 P w) P w K mg base N qual (aE st) f cdv A outer s H E) (bS st) mb)
  (hm:∀ds,ds.length=ps.length->mf ds=mb KD (fzs ds++List.replicate (N.length - ps.length) none)):FnOk P w K mg base (CX1 P w) (k+1) f fd ps (spD K ps.length mf):=by
 refine Af Fn Sc (λvs H Q E h=>?_) (λcdv A outer s H vs Q E hr h=>?_)
 ·obtain⟨_,_,_,h1,_⟩:=h;exact h1
 ·obtain⟨G,F0,ds,h1,S0,e⟩:=h;have hl:ds.length=ps.length:=by have:=S0.ln;simp at this;lia
  rw[hm ds hl]at e;refine⟨_,eF,hb cdv A outer s H E hr (λm=>il K G E m _) KD G F0 _ H _ _ (λz=>z) (λF ρ e z=>va z) (nU h1 S0) e ?_⟩;exact⟨λF' σ' H' ρ' s S' o=>(by exact o .non F' H' s (tM S0 s S') .non),λF' σ' H' ρ' d' v s S' r o=>(by exact o v F' H' s (tM S0 s S') r),λF' σ' H' ρ' d' v s S' r o=>(o:False).elim,λF' σ' H' ρ' s S' o=>(o:False).elim,λF' σ' H' ρ' s S' o=>(o:False).elim⟩
def G9{k:List D->M S}{C:S->Prop}(h:il K G E (asL c k) C):∃ds,c=.l ds/\il K G E (k ds) C:=by
 cases c with
 | l ds=>exact⟨ds,rfl,h⟩
 | _=>exact(h:False).elim
theorem GR{mb:SM (List D)}{mf:List D->M (List D)}(Fn:Fun K x qual st f fd)(Sc:FnScope N ps (aE st))
  (hb:∀(cdv:Value) (A:Around) (outer:List Env) (s:Shared) (H:Hp) (E:XK),Room k (A.deeper (envOfC qual (aE st) s.heap.objs.size f cdv)) ->
   ASs (lc (CX1 P w) P w K mg base N qual (aE st) f cdv A outer s H E) (bS st) mb)
  (hm:∀ds,ds.length=ps.length->mf ds=mb KL (fzs ds++List.replicate (N.length - ps.length) none)):FnOk P w K mg base (CX1 P w) (k+1) f fd ps (spL K ps.length mf):=by
 refine Af Fn Sc (λvs H Q E h=>?_) (λcdv A outer s H vs Q E hr h=>?_)
 ·obtain⟨_,_,_,h1,_⟩:=h;exact h1
 ·obtain⟨G,F0,ds,h1,S0,e⟩:=h;have hl:ds.length=ps.length:=by have:=S0.ln;simp at this;lia
  rw[hm ds hl]at e;refine⟨_,eF,hb cdv A outer s H E hr (λm=>il K G E m _) KL G F0 _ H _ _ (λz=>z) (λF ρ e z=>va z) (nU h1 S0) e ?_⟩;exact⟨λF' σ' H' ρ' s S' o=>(o:False).elim,λF' σ' H' ρ' d' v s S' r o=>(o:False).elim,λF' σ' H' ρ' d' v s S' r o=>(by obtain⟨ds',rfl,o⟩:=G9 o;exact o v F' H' s (tM S0 s S') (zh S' r)),λF' σ' H' ρ' s S' o=>(o:False).elim,λF' σ' H' ρ' s S' o=>(o:False).elim⟩
def Ct{k:List D->M S}{C:S->Prop}(h:il K G E (at0 ρ k) C):∃f,ρ[0]? = some (some (AV.op (OC.l f)))/\il K G E (k f) C:=by
 unfold at0 at h;split at h
 ·rename_i f q;exact⟨f,q,h⟩
 ·exact h.elim
def CV{ds g:List D}(hl:vs.length=ps.length)(S0:StOk K G F (vs.map some) H (some (.op (.l g))::fzs ds)):StOk K G F (L2.start N vs) H (some (.op (.l g))::fzs ds++List.replicate (N.length - ps.length) none):=by
 have e0:L2.start N vs=vs.map some++List.replicate (N.length - ps.length) none:=by unfold L2.start;rw[hl]
 rw[e0];exact S0.grow _
theorem lY{mb:SM (D×List D)}{mf:List D->List D->M (D×List D)}(Fn:Fun K x qual st f fd)(Sc:FnScope N ps (aE st))
  (hb:∀(cdv:Value) (A:Around) (outer:List Env) (s:Shared) (H:Hp) (E:XK),Room k (A.deeper (envOfC qual (aE st) s.heap.objs.size f cdv)) ->
   ASs (lc (CX1 P w) P w K mg base N qual (aE st) f cdv A outer s H E) (bS st) mb)
  (hm:∀g ds,ds.length+1=ps.length->mf g ds=mb K1 (some (.op (.l g))::fzs ds++List.replicate (N.length - ps.length) none)):FnOk P w K mg base (CX1 P w) (k+1) f fd ps (sp1 K ps.length mf):=by
 refine Af Fn Sc (λvs H Q E h=>?_) (λcdv A outer s H vs Q E hr h=>?_)
 ·obtain⟨_,_,_,_,h1,_⟩:=h;exact h1
 ·obtain⟨G,F0,g,ds,h1,S0,e⟩:=h;have hl:ds.length+1=ps.length:=by have:=S0.ln;simp at this;lia
  rw[hm g ds hl]at e;refine⟨_,eF,hb cdv A outer s H E hr (λm=>il K G E m _) K1 G F0 _ H _ _ (λz=>z) (λF ρ e z=>va z) (CV h1 S0) e ?_⟩;refine⟨λF' σ' H' ρ' s S' o=>?_,λF' σ' H' ρ' d' v s S' rv o=>?_,λF' σ' H' ρ' d' v s S' r o=>(o:False).elim,λF' σ' H' ρ' s S' o=>(o:False).elim,λF' σ' H' ρ' s S' o=>(o:False).elim⟩
  ·obtain⟨f',q,e'⟩:=Ct o;exact e' .non F' H' s (Cp S0 s S' q).1 .non
  ·obtain⟨f',q,e'⟩:=Ct o;exact e' v F' H' s (Cp S0 s S' q).1 rv
end
structure CF(P:Program)(w:World)(K:Fg)(mg:zzl)(base:Heap)(x:Str)(k:Nat)(sp:Sp):Prop where
 ex:∃(f:Addr) (fd:FuncData) (ps:List Str),FnOk P w K mg base (CX1 P w) k f fd ps sp/\mg x=some (.ref f)/\PySem.W.keepIn K (.ref f)=true/\L2.Binds K fd ps []
def JX(mf:List D->M D)(ps:Pa D):Pu D:=λρ=>ps (λds=>mf ds) ρ
def JW(mf:List D->M (List D))(ps:Pa (List D)):Pu (List D):=λρ=>ps (λds=>mf ds) ρ
section
def Km(mf:List D->M D)(ms:Ev S (List D)):Ev S D:=λx k ρ=>ms x (λds ρ1=>(mf ds).on (λe=>x e ρ1) (λd=>k d ρ1)) ρ
def Ko(mf:List D->List D->M (D×List D))(i:Nat)(ms:Ev S (List D)):Ev S D:=λx k ρ=>ms x (λds ρ1=>match iT ρ1 i with
 | some f=>(mf f ds).on (λe=>x e ρ1) (λr=>k r.1 (rW ρ1 i r.2))
 | none=>.bad) ρ
end
def EX(X:Cx)(G:Gh)(Z:L2.St):XK:=λc dd H'=>∃x ρ F1 F' C,c=.ref C/\XW X G F1 ρ x/\GOk G F' H'/\FzOk X.K F' Z ρ/\XR X.K F' C dd x
theorem XS.older{h:Heap}{lo lo':Nat}{e:Addr}(xs:XS H h lo e C dd)(hl:lo'<=lo):XS H h lo' e C dd:=by
 obtain⟨oe,vs,q,c,d,z,z1,k⟩:=xs.obj;refine⟨cr hl xs.yg,xs.trk,oe,vs,q,c,d,z,z1,k.imp id ?_⟩;rintro⟨T,oT,ts,k,ne,l,r⟩;exact⟨T,oT,ts,k,ne,cr hl l,r⟩
def qb(X:Cx)(Z:L2.St)(E:XK):Prop:=∀(pins:zzk) (H:Hp) (s:Shared) (e:Value) (s':Shared),Inv X pins Z H s->CX1 X.prog X.w X.stack H s E e s'->X.xe e s'
def oG:qb X Z (EX X G Z):=λpins H s e s' I h=>by
 obtain⟨a,C,dd,H',rfl,ho,hb,un,hk,xs,x,ρ,F1,F',C',ec,xw,g,fz,xr⟩:=h
 cases ec
 refine xw F' H' s' a C dd pins Z g fz (I.call' ho un hk hb λb z=>absurd z (by simp)) (xs.older I.sz) (λp hp z=>?_) xr;exact absurd (bo (ax (I.pin p hp).1) (xs.tb z).2.1) (pI _)
def EX.of{x:Ex}{p:Nat->Option Addr}(S:StOk X.K G F Z H ρ)(xw:XW X G F ρ x)(g:GOk ⟨p,bx G Z ρ H ex,F⟩ F' H')(xr:XR X.K F' C dd x):EX X G Z (.ref C) dd H' :=
 ⟨x,ρ,F,F',C,rfl,xw,⟨g.fh,λb o h=>g.oh b o (cL S h),λb o h=>g.fo b o (cL S h),S.fb.trans g.fb⟩,S.fzok g.fb,xr⟩
section
variable {fd:FuncData} {ps:List Str} {sp:Sp}
def v9{pins:zzk}{s:Shared}{us:List Value}(F:FnOk X.prog X.w X.K X.mg X.base (CX1 X.prog X.w) k f fd ps sp)(hr:Room k X.A)(hb:L2.Binds X.K fd ps [])(hx:qb X Z E)
  (I:Inv X pins Z H s) (r:Vals vs us) (h:sp vs H Q E):wpAny (model X.prog X.w) X.A (call (.ref f) us) (EP X pins Z Q) X.xe s:=by
 have hl:(us++[]).length=ps.length:=by rw[ig,<-r.length];exact F.len _ _ _ _ h
 have bb:=hb s us I.kIn hl;rw[ig]at bb;refine wpAny_call (Lf (F.run X.A X.stack s H ⟨us,[]⟩ us vs Q E hr I.env0 bb r h) λr s' hq=>?_)
 cases r with
 | error e=>exact hx pins H s e s' I hq
 | ok fl =>
  cases fl with
  | ret u=>exact I.after hq
  | next=>exact False.elim hq
  | brk=>exact False.elim hq
  | cont=>exact False.elim hq
theorem iD(F:FnOk X.prog X.w X.K X.mg X.base (CX1 X.prog X.w) k f fd ps sp)(hr:Room k X.A)(hg:Gl X x)(hm:X.mg x=some (.ref f))(hk:PySem.W.keepIn X.K (.ref f)=true)(hb:L2.Binds X.K fd ps [])(hx:qb X Z E)
  (hdb:(x==("__debug__" : Str))=false) (he:starEach (e::es) X.env=(false,eval e X.env)::starEach es X.env) (hpl:(backTo pos (starEach es X.env)).any (·.1)=false)
  (h:eM X (e::es) Z H λvs H1=>sp vs H1 Q E):dX X (.Call (.Name x p) (e::es) [] pos) Z H Q:=by
 unfold dX;intro pins s I;unfold eM at h;refine xv (kQ I hg hm ?_ hdb);refine Lw (h₀:=X.base) I.ok.mod.kin hk (thn (h pos pins s I) λus s1 ⟨vs,H1,I1,r,q⟩=>⟨I1.kIn,?_⟩) he hpl;exact v9 F hr hb hx I1 r q
end
section
variable {mf:List D->M D} {ml:List D->M (List D)} {m1:List D->List D->M (D×List D)} {m1L:List D->List D->M (List D×List D)} {pn:Pos} {ps:Pa D} {pl:Pa (List D)} {ms:Ev S (List D)}
theorem dP(C:CF X.prog X.w X.K X.mg X.base x k (spD X.K n mf))(hr:Room k X.A)(ha:AA X (e::es) ps)(hg:Gl X x:=by rfl)(hn:(e::es).length=n:=by rfl)
  (hdb:(x==("__debug__" : Str))=false:=by decide) (he:starEach (e::es) X.env=(false,eval e X.env)::starEach es X.env:=by rfl) (hpl:(backTo pos (starEach es X.env)).any (·.1)=false:=by rfl):AP X (.Call (.Name x p) (e::es) [] pos) (JX mf ps):=by
 obtain⟨f,fd,pl,Fn,h1,h2,h3⟩:=C.ex;intro G F Z H ρ Q St w;refine iD Fn hr hg h1 h2 h3 (oG (G:=G)) hdb he hpl ?_;refine ha G F Z H ρ _ _ _ St w λds vs F1 H1 s1 S1 hl r1 w1=>?_
 show spD X.K n mf vs H1 Q (EX X G Z)
 cases hd:mf ds with
 | bad=>rw[hd]at w1;exact w1.elim
 | exc e =>
  rw[hd]at w1;exact⟨_,F1,ds,hl.trans hn,dw S1 r1,by rw[hd];exact λF' H' Cl dd g xr=>EX.of S1 w1 g xr⟩
 | ret d =>
  rw[hd]at w1;refine⟨_,F1,ds,hl.trans hn,dw S1 r1,?_⟩;rw[hd];intro v F2 H2 s2 S2 r2;obtain⟨S3,t3⟩:=h8 (avs':=ds.map AV.fz) S1 s2 S2;exact w1 F2 H2 s2 S3 v r2
theorem Je(C:CF X.prog X.w X.K X.mg X.base x k (spL X.K n ml))(hr:Room k X.A)(ha:AA X (e::es) pl)(hg:Gl X x:=by rfl)(hn:(e::es).length=n:=by rfl)
  (hdb:(x==("__debug__" : Str))=false:=by decide) (he:starEach (e::es) X.env=(false,eval e X.env)::starEach es X.env:=by rfl) (hpl:(backTo pos (starEach es X.env)).any (·.1)=false:=by rfl):AL X (.Call (.Name x p) (e::es) [] pos) (JW ml pl):=by
 obtain⟨f,fd,pz,Fn,h1,h2,h3⟩:=C.ex;intro G F Z H ρ Q St w;refine iD Fn hr hg h1 h2 h3 (oG (G:=G)) hdb he hpl ?_;refine ha G F Z H ρ _ _ _ St w λds vs F1 H1 s1 S1 hl r1 w1=>?_
 show spL X.K n ml vs H1 Q (EX X G Z)
 cases hd:ml ds with
 | bad=>rw[hd]at w1;exact w1.elim
 | exc e =>
  rw[hd]at w1;exact⟨_,F1,ds,hl.trans hn,dw S1 r1,by rw[hd];exact λF' H' Cl dd g xr=>EX.of S1 w1 g xr⟩
 | ret d =>
  rw[hd]at w1;refine⟨_,F1,ds,hl.trans hn,dw S1 r1,?_⟩;rw[hd];intro v F2 H2 s2 S2 r2;obtain⟨S3,t3⟩:=h8 (avs':=ds.map AV.fz) S1 s2 S2;exact w1 F2 H2 s2 S3 v (t3 v _ r2)
def zB{f g:List D}(h:iT ρ i=some g):rW ρ i f=setC ρ i (.l f):=mI ρ i f g h
theorem Jg(C:CF X.prog X.w X.K X.mg X.base x k (spD X.K n mf))(hr:Room k X.A)(ha:AEa X (e::es) ms)(hg:Gl X x:=by rfl)(hn:(e::es).length=n:=by rfl)
  (hdb:(x==("__debug__" : Str))=false:=by decide) (he:starEach (e::es) X.env=(false,eval e X.env)::starEach es X.env:=by rfl) (hpl:(backTo pos (starEach es X.env)).any (·.1)=false:=by rfl):AE X (.Call (.Name x p) (e::es) [] pos) (Km mf ms):=by
 obtain⟨f,fd,pl,Fn,h1,h2,h3⟩:=C.ex;intro OK y kk G F Z H ρ Q hO hX St ok k2;refine iD Fn hr hg h1 h2 h3 (oG (G:=G)) hdb he hpl ?_;refine ha OK y _ G F Z H ρ _ hO hX St ok λds vs F1 H1 ρ1 s1 S1 hl r1 o1=>?_
 show spD X.K n mf vs H1 Q (EX X G Z)
 cases hd:mf ds with
 | bad=>rw[hd]at o1;exact(hO o1).elim
 | exc e =>
  rw[hd]at o1;exact⟨_,F1,ds,hl.trans hn,dw S1 r1,by rw[hd];exact λF' H' Cl dd g xr=>EX.of S1 (hX F1 ρ1 e o1) g xr⟩
 | ret d =>
  rw[hd]at o1;refine⟨_,F1,ds,hl.trans hn,dw S1 r1,?_⟩;rw[hd];intro v F2 H2 s2 S2 r2;obtain⟨S3,t3⟩:=h8 (avs':=ds.map AV.fz) S1 s2 S2;exact k2 d v F2 H2 ρ1 (s1.trans s2) S3 r2 o1
def xB{OK:M S->Prop}{z:Ex->En->M S}{kk:List D->En->M S}{Q:List V->Hp->Prop}(hN:X.N[i]? = some y)(hv:Vis X.env.scope y)(hd:(y==("__debug__" : Str))=false)(hcd:(y==("__classdict__" : Str))=false)
  (ha:AEa X es ms) (he:starEach (.Name y pn::es) X.env=(false,eval (.Name y pn) X.env)::starEach es X.env) (hO:KOk OK) (hX:XL X OK z G) (St:StOk X.K G F Z H ρ) (ok:OK (ms z (λds ρ1=>match iT ρ1 i with|some f=>kk (.list f::ds) ρ1|none=>.bad) ρ))
  (h0:(iT ρ i).isSome=true)
  (k2:∀a f ds vs F' H' ρ',Same F F'->StOk X.K G F' Z H' ρ'->iT ρ' i=some f->Z[i]? = some (some (V.ref a))->vs.length=es.length->RepL X.K F' vs ds->OK (kk (.list f::ds) ρ')->Q (.ref a::vs) H'):eM X (.Name y pn::es) Z H Q:=by
 obtain⟨f0,hf0⟩:=Option.isSome_iff_exists.mp h0;obtain⟨a,_,ea,_,_⟩:=ko St hf0;refine v6 (eG (dh hN hv hd hcd) bQ he) ⟨_,ea,?_⟩;refine ha OK z _ G F Z H ρ _ hO hX St ok λds vs F1 H1 ρ1 s1 S1 hl r1 o1=>?_
 split at o1
 ·rename_i f hf;exact k2 a f ds vs F1 H1 ρ1 s1 S1 hf ea hl r1 o1
 ·exact(hO o1).elim
def ck{S α:Type}(i:Nat)(m:Ev S α):Ev S α:=λx k ρ=>match (iT ρ i).isSome with
 | true=>m x k ρ
 | false=>.bad
def pP{ds f:List D}(S:StOk K G F Z H ρ)(hj:iT ρ j=some f)(ha:Z[j]? = some (some (V.ref a)))(r:RepL K F vs ds) :
  StOk K ⟨P1 a,bx G Z ρ H (some a),F⟩ F ((V.ref a::vs).map some) H (some (.op (.l f))::fzs ds):=jy S (kq hj) ha r
theorem bH(C:CF X.prog X.w X.K X.mg X.base x k (sp1 X.K n m1))(hr:Room k X.A)(ha:AEa X es ms)(hg:Gl X x:=by rfl)(hN:X.N[i]? = some y:=by rfl)(hv:Vis X.env.scope y:=by exact vi rfl)(hn:es.length+1=n:=by rfl)
  (hdb:(x==("__debug__" : Str))=false:=by decide) (he:starEach (.Name y pn::es) X.env=(false,eval (.Name y pn) X.env)::starEach es X.env:=by rfl) (hpl:(backTo pos (starEach es X.env)).any (·.1)=false:=by rfl)
  (hd:(y==("__debug__" : Str))=false:=by decide) (hcd:(y==("__classdict__" : Str))=false:=by decide):AE X (.Call (.Name x p) (.Name y pn::es) [] pos) (ck i (Ko m1 i ms)):=by
 obtain⟨f,fd,pl,Fn,h1,h2,h3⟩:=C.ex;intro OK z kk G F Z H ρ Q hO hX St ok k2;unfold ck at ok;split at ok
 case h_2=>exact(hO ok).elim
 rename_i h0;refine iD Fn hr hg h1 h2 h3 (oG (G:=G)) hdb he hpl ?_;refine xB (OK:=OK) (z:=z) (kk:=λl ρ1=>match l with | .list f::ds=>(m1 f ds).on (λe=>z e ρ1) (λr=>kk r.1 (rW ρ1 i r.2))|_=>.bad) hN hv hd hcd ha he hO hX St ok h0 λa f ds vs F1 H1 ρ1 s1 S1 hf ea hl r1 o1=>?_
 have o1':OK ((m1 f ds).on (λe=>z e ρ1) (λr=>kk r.1 (rW ρ1 i r.2))):=o1;show sp1 X.K n m1 (V.ref a::vs) H1 Q (EX X G Z)
 cases hd:m1 f ds with
 | bad=>rw[hd]at o1';exact(hO o1').elim
 | exc e =>
  rw[hd]at o1';exact⟨_,F1,f,ds,by simp[hl];exact hn,pP S1 hf ea r1,by rw[hd];exact λF' H' Cl dd g xr=>EX.of S1 (hX F1 ρ1 e o1') g xr⟩
 | ret r =>
  rw[hd]at o1';refine⟨_,F1,f,ds,by simp[hl];exact hn,pP S1 hf ea r1,?_⟩;rw[hd];intro v F2 H2 s2 S2 r2;obtain⟨S3,t3⟩:=j6 (c':=.l r.2) (l:=ds.map AV.fz) S1 (kq hf) ea s2 S2;rw[<-zB hf]at S3;exact k2 r.1 v F2 H2 _ (s1.trans s2) S3 r2 o1'
end
def _root_.L2.Room.m(r:Room k A)(h:j<=k:=by decide):Room j A:=r.mono h
theorem bn(r:Room k A):A.units+1100<cLine:=by have:=r.un;lia
def noX{S:Type}(m:M S):M S:=match m with
 | .ret s=>.ret s
 | _=>.bad
def ju(s:S):noX (M.ret s)=.ret s:=rfl
def cj(step:D->M (Option D)):List D->M (List D)
 | []=>.ret []
 | d::r=>bd (noX (step d)) λo=>bd (cj step r) λxs=>.ret (o.toList++xs)
def vj{step:D->M (Option D)}:∀{ds:List D} {e:Ex},cj step ds≠.exc e
 | [],e,h=>by cases h
 | d::r,e,h=>by
  unfold cj at h
  cases hs:step d with
  | ret o =>
   rw[hs,ju,j7]at h
   cases hr:cj step r with
   | ret xs=>rw[hr]at h;cases h
   | exc e'=>exact vj hr
   | bad=>rw[hr]at h;cases h
  | exc e'=>rw[hs]at h;cases h
  | bad=>rw[hs]at h;cases h
def ET(k:Nat)(it:Pu (List D))(t:Tg (Option D))(pt:Pu Bool)(pe:Pu D):Pu (List D):=λρ=>bd (it ρ) λds =>
 bd (cj (λd=>t d (λρ1=>bd (pt ρ1) λb=>if b then bd (pe ρ1) λv=>.ret (some v)else .ret none) (ρ++List.replicate k none)) ds) fJ
def dH{T:Type}(step:T->D->M (Option D×T)):List D->T->M (List D×T)
 | [],s=>.ret ([],s)
 | d::r,s=>bd (noX (step s d)) λp=>bd (dH step r p.2) λq=>.ret (p.1.toList++q.1,q.2)
def vh{T:Type}{step:T->D->M (Option D×T)}:∀{ds:List D} {s:T} {e:Ex},dH step ds s≠.exc e
 | [],s,e,h=>by cases h
 | d::r,s,e,h=>by
  unfold dH at h
  cases hs:step s d with
  | ret o =>
   rw[hs,ju,j7]at h
   cases hr:dH step r o.2 with
   | ret xs=>rw[hr]at h;cases h
   | exc e'=>exact vh hr
   | bad=>rw[hr]at h;cases h
  | exc e'=>rw[hs]at h;cases h
  | bad=>rw[hs]at h;cases h
def B9{S:Type}(sh:List Kd)(k:Nat)(it:Ev S (List D))(t:Tg (Option D×SOf sh))(et:Ev (Option D×SOf sh) Bool)(ee:Ev (Option D×SOf sh) D):Ev S (List D):=λx kk ρ=>it x (λds ρ1=>rdk sh (λs =>
 (dH (λs d=>t d (λρ2=>et (λe _=>.exc e) (λb ρ3=>if b then ee (λe _=>.exc e) (λv ρ4=>rdk sh (λs'=>.ret (some v,s')) (ρ4.take sh.length)) ρ3 else rdk sh (λs'=>.ret (none,s')) (ρ3.take sh.length)) ρ2) (wr sh s++List.replicate k none)) ds s).on
  (λe=>x e ρ1) (λq=>(fJ q.1).on (λe=>x e ρ1) (λout=>kk out (wr sh q.2)))) ρ1) ρ
def Ik:Pu Bool:=λ_=>.ret true
def ATs(X:Cx)(ifs:List Expr)(p:Pu Bool):Prop :=
 ∀(G:Gh) (F:Hp) (Z:L2.St) (H:Hp) (ρ:En) (Q:Bool->Hp->Prop),StOk X.K G F Z H ρ->W X G F Z ρ (p ρ) (λd F' H'=>Q d H')->∀(pins:zzk) (s:Shared),Inv X pins Z H s ->
  wpAny (model X.prog X.w) X.A (forIn ifs true λc r=>if r=true then do let ok <-isTrue c X.env (eval c X.env);pure (ForInStep.yield ok)else pure (ForInStep.yield r)) (TP X pins Z Q) X.xe s
def dO:ATs X [] Ik:=λG F Z H ρ Q S w pins s I=>De pins s Z H Q I (w F H (Same.refl _) S)
def zm{c:Expr}{p:Pu Bool}(h:AT X c p):ATs X [c] p:=λG F Z H ρ Q S w pins s I=>Dc d4 pins s Z H Q I (h G F Z H ρ Q S w)
def Ek{S:Type}(X:Cx)(ifs:List Expr)(m:Ev S Bool):Prop :=
 ∀(OK:M S->Prop) (x:Ex->En->M S) (k:Bool->En->M S) (G:Gh) (F:Hp) (Z:L2.St) (H:Hp) (ρ:En) (Q:Bool->Hp->Prop),KOk OK->XL X OK x G->StOk X.K G F Z H ρ->OK (m x k ρ) ->
  (∀d F' H' ρ',Same F F'->StOk X.K G F' Z H' ρ'->OK (k d ρ')->Q d H')->∀(pins:zzk) (s:Shared),Inv X pins Z H s ->
  wpAny (model X.prog X.w) X.A (forIn ifs true λc r=>if r=true then do let ok <-isTrue c X.env (eval c X.env);pure (ForInStep.yield ok)else pure (ForInStep.yield r)) (TP X pins Z Q) X.xe s
def lj{ifs:List Expr}{p:Pu Bool}(h:ATs X ifs p):Ek (S:=S) X ifs (ePu p):=λOK x k G F Z H ρ Q hO hX St ok kk=>h G F Z H ρ Q St (W.of hO hX ok λd F' H' s S' o=>kk d F' H' ρ s S' o)
def W.rets{m:M α}{a:α}{C:α->Hp->Hp->Prop}(e:m=.ret a)(h:∀F' H',Same F F'->StOk X.K G F' Z H' ρ->C a F' H'):W X G F Z ρ m C:=by subst e;exact h
def As:∀(sh:List Kd) (s:SOf sh),(wr sh s).length=sh.length:=by
 intro sh
 induction sh with
 | nil=>intro s;rfl
 | cons a r ih=>intro s;cases a<;>simp[wr,ih]
inductive CIv{τ:Type}(K:Fg)(G:Gh)(Z:L2.St)(k:Nat)(ds:List D)(F1:Hp)(en:τ->En)(go:Nat->τ->List D->Prop)(out:List D):Nat->Nat->List V->L2.St->Hp->Prop
 | mk {i:Nat} {vs:List V} {σ':L2.St} {H':Hp} (F':Hp) (acc rest:List D) (s:τ) (hi:i<=ds.length) (s2:Same F1 F') (S2:StOk K G F' σ' H' (en s)) (kp:∀j,j<Z.length->σ'[j]? = Z[j]?) (hl:σ'.length=Z.length+k) (rp:RepL K F' vs acc) (g:go i s rest) (eo:out=acc++rest):CIv K G Z k ds F1 en go out i (ds.length - i) vs σ' H'
theorem CIv.on{τ:Type}{ds:List D}{F1:Hp}{en:τ->En}{go:Nat->τ->List D->Prop}{out:List D}{σ':L2.St}(F':Hp)(acc rest:List D)(s:τ)(hi:i<ds.length)(s2:Same F1 F')(S2:StOk K G F' σ' H' (en s))(kp:∀j,j<Z.length->σ'[j]? = Z[j]?)(hl:σ'.length=Z.length+k)(rp:RepL K F' vs acc)(g:go (i+1) s rest)(eo:out=acc++rest):∃m',m'<ds.length - i/\CIv K G Z k ds F1 en go out (i+1) m' vs σ' H' :=
 ⟨ds.length - (i+1),by lia,⟨F',acc,rest,s,hi,s2,S2,kp,hl,rp,g,eo⟩⟩
def xu{step:D->M (Option D)}{d:D}{r rest:List D}(h:cj step (d::r)=.ret rest):∃o rest',step d=.ret o/\cj step r=.ret rest'/\rest=o.toList++rest':=by
 unfold cj at h
 cases hs:step d with
 | bad=>rw[hs]at h;cases h
 | exc e=>rw[hs]at h;cases h
 | ret o =>
  rw[hs,ju,j7]at h
  cases hr:cj step r with
  | bad=>rw[hr]at h;cases h
  | exc e=>rw[hr]at h;cases h
  | ret rest'=>rw[hr,j7]at h;cases h;exact⟨o,rest',rfl,rfl,rfl⟩
def w9{T:Type}{step:T->D->M (Option D×T)}{d:D}{r rest:List D}{s sf:T}(h:dH step (d::r) s=.ret (rest,sf)):∃o sn rest',step s d=.ret (o,sn)/\dH step r sn=.ret (rest',sf)/\rest=o.toList++rest':=by
 unfold dH at h
 cases hs:step s d with
 | bad=>rw[hs]at h;cases h
 | exc e=>rw[hs]at h;cases h
 | ret o =>
  obtain⟨o,sn⟩:=o;rw[hs,ju,j7]at h
  cases hr:dH step r sn with
  | bad=>rw[hr]at h;cases h
  | exc e=>rw[hr]at h;cases h
  | ret q'=>obtain⟨rest',sf'⟩:=q';rw[hr,j7]at h;cases h;exact⟨o,sn,rest',rfl,hr,rfl⟩
def rM{A B:Type}{m:M A}{f:A->M B}{b:B}(h:bd m f=.ret b):∃a,m=.ret a/\f a=.ret b:=by
 cases m with
 | bad=>cases h
 | exc e=>cases h
 | ret a=>exact⟨a,rfl,h⟩
section
def uc(X:Cx)(N':List Str)(scope:Scope)(tg:Expr):TG:=λv Z H Q=>∀cl s H0 fp C,qI (bw X N' scope cl s H0 fp C) tg v Z H Q
def ub(X:Cx)(N':List Str)(scope:Scope)(ifs:List Expr):TT:=λZ H Q=>∀cl s0 H0 fp C,∀(pins:zzk) (s:Shared),Inv (bw X N' scope cl s0 H0 fp C) pins Z H s ->
  wpAny (model X.prog X.w) (bw X N' scope cl s0 H0 fp C).A (forIn ifs true λc r=>if r=true then do let ok <-isTrue c (bw X N' scope cl s0 H0 fp C).env (eval c (bw X N' scope cl s0 H0 fp C).env);pure (ForInStep.yield ok)else pure (ForInStep.yield r)) (TP (bw X N' scope cl s0 H0 fp C) pins Z Q) (bw X N' scope cl s0 H0 fp C).xe s
def ud(X:Cx)(N':List Str)(scope:Scope)(e:Expr):TE:=λZ H Q=>∀cl s H0 fp C,dX (bw X N' scope cl s H0 fp C) e Z H Q
variable {elt iter:Expr} {ifs:List Expr} {scope:Scope} {N':List Str}
theorem DW{it:Pu (List D)}{t:Tg (Option D)}{pt:Pu Bool}{pe:Pu D}(hi:AI X tg iter it)
  (hg:∀cl s H fp C,AG (bw X N' scope cl s H fp C) X.N.length tg t) (ht:∀cl s H fp C,ATs (bw X N' scope cl s H fp C) ifs pt) (he:∀cl s H fp C,AP (bw X N' scope cl s H fp C) elt pe)
  (hσ:Z.length=X.N.length) (St:StOk X.K G F Z H ρ) (w:W X G F Z ρ (ET k it t pt pe ρ) λds F' H'=>∀v,Frs X.K G F' Z H' ρ v (.l ds)->Q v H') :
  xT (iC X tg iter) k (uc X N' scope tg) (ub X N' scope ifs) (ud X N' scope elt) Z H Q:=by
 refine hi G F Z H ρ _ St (w.bind.imp λds F1 H1 s1 S1 w1 J wk=>?_);have hP:∀i a,G.P i=some a->i<Z.length:=λi a h=>(List.getElem?_eq_some_iff.mp (S1.pp i a h).1).1
 have hln:Z.length=ρ.length:=S1.ln;have wc:=w1.bind;revert wc;generalize hstep:(λd=>t d (λρ1=>bd (pt ρ1) λb=>if b then bd (pe ρ1) λv=>.ret (some v)else .ret none) (ρ++List.replicate k none))=step;intro wc
 cases hcc:cj step ds with
 | bad=>rw[hcc]at wc;exact wc.elim
 | exc e=>exact(vj hcc).elim
 | ret out =>
  rw[hcc]at wc;have wf:∀F' H',Same F1 F'->StOk X.K G F' Z H' ρ->W X G F' Z ρ (fJ out) λds F' H'=>∀v,Frs X.K G F' Z H' ρ v (.l ds)->Q v H':=wc
  have hfit:out.length<=sizeLine:=(wf F1 H1 (Same.refl _) S1).fit.1;have fin:∀F' H',Same F1 F'->StOk X.K G F' Z H' ρ->∀v,Frs X.K G F' Z H' ρ v (.l out)->Q v H':=λF' H' s' S'=>(wf F' H' s' S').fit.2 F' H' (Same.refl _) S'
  have grown:∀{F' H' σ' ρ'},StOk X.K G F' σ' H' ρ'->(∀j,j<Z.length->σ'[j]? = Z[j]? /\ ρ'[j]? = ρ[j]?)->σ'.length=Z.length+k->StOk X.K G F' σ' H' (ρ++List.replicate k none):=λ{F' H' σ' ρ'} S' kp hl=>by
   refine S'.weak (by have:=S'.ln;simp;lia) (λi av q=>?_) (λi c q=>?_)
   ·have q':=gS q;have hi:i<Z.length:=by rw[hln];exact(List.getElem?_eq_some_iff.mp q').1
    rw[(kp i hi).2];exact q'
   ·obtain⟨a,ha⟩:=S'.pq i c q;have hi:=hP i a ha;rw[de (by lia),<-(kp i hi).2];exact q
  refine⟨CIv X.K G Z k ds F1 (λ_:Unit=>ρ++List.replicate k none) (λi _ rest=>cj step (ds.drop i)=.ret rest) out,
   ⟨_,⟨F1,[],out,(),di _,Same.refl _,S1.grow k,λj hj=>by rw[de hj],by simp,.nil,hcc,rfl⟩⟩,?_⟩
  rintro i m vs σ' H' ⟨F',acc,rest,_,hi,s2,S2,kp,hlen,rp,go,eo⟩;refine⟨by rw[rp.length];rw[eo,zzf]at hfit;lia,?_⟩;by_cases hlt:i<ds.length
  ·refine .inr ⟨wk.go i G F' σ' H' _ s2 S2 hlt,λx H2 y cl s0 H0 fp C=>?_⟩;obtain⟨F3,s3,S3,r3⟩:=wk.yld i G F' σ' H' _ x H2 ds[i] s2 S2 (nc hlt) y;rw[oz hlt]at go;obtain⟨o,rest',hst,hr,er⟩:=xu go;subst er;clear go;rw[<-hstep]at hst;refine hg cl s0 H0 fp C (λm=>m=.ret o) _ G F3 σ' H2 _ x ds[i] _ (λz=>nomatch z) S3 r3 hst λσ3 ρ3 S4 kp3 hl3 ml3 o4=>?_
   have kp':∀j,j<Z.length->σ3[j]? = Z[j]? /\ ρ3[j]? = ρ[j]?:=λj hj=>⟨((kp3 j (by lia)).1).trans (kp j hj),by rw[(kp3 j (by lia)).2,de (by lia)]⟩
   obtain⟨b,hpt,o4⟩:=rM o4;intro cl s0 H0 fp C;refine ht cl s0 H0 fp C G F3 σ3 H2 ρ3 _ S4 (W.rets hpt λF5 H5 s5 S5=>?_)
   cases b with
   | true =>
    refine qw ?_;obtain⟨v,hpe,o5⟩:=rM (m:=pe ρ3) o4
    cases o5
    intro cl s0 H0 fp C;refine he cl s0 H0 fp C G F5 σ3 H5 ρ3 _ S5 (W.rets hpe λF6 H6 s6 S6 u ru=>?_);exact CIv.on F6 (acc++[v]) rest' () hlt (((s2.trans s3).trans s5).trans s6) (grown S6 kp' (by lia)) (λj hj=>(kp' j hj).1) (by lia) ((rp.mono ((s3.trans s5).trans s6)).append (.cons ru .nil)) hr (by rw[eo];simp)
   | false =>
    refine tq ?_;have o4':(M.ret none:M (Option D))=M.ret o:=o4
    cases o4'
    exact CIv.on F5 acc rest' () hlt ((s2.trans s3).trans s5) (grown S5 kp' (by lia)) (λj hj=>(kp' j hj).1) (by lia) (rp.mono (s3.trans s5)) hr (by rw[eo];simp)
  ·have ei:i=ds.length:=by lia
   subst ei;rw[List.drop_length]at go
   cases go
   rw[ig]at eo;subst eo;refine .inl ⟨wk.stop G F' σ' H' _ s2 S2,λp hp=>?_⟩;have Ssh:=S2.shrink (n:=Z.length) (by simp;lia) hP;have e1:σ'.take Z.length=Z:=nO kp rfl;have e2:(ρ++List.replicate k none).take Z.length=ρ:=by rw[hln,List.take_left]
   rw[e1,e2]at Ssh;obtain⟨S5,r5⟩:=Ssh.newLst hp rp;exact fin F' _ s2 S5 _ r5
theorem gp{it:Pu (List D)}{t:Tg (Option D)}{pt:Pu Bool}{pe:Pu D}(hc:X.calm=true)(Sc:CompOk X N' k scope)(hi:AI X tg iter it)
  (hg:∀cl s H fp C,AG (bw X N' scope cl s H fp C) X.N.length tg t) (ht:∀cl s H fp C,ATs (bw X N' scope cl s H fp C) ifs pt) (he:∀cl s H fp C,AP (bw X N' scope cl s H fp C) elt pe)
  (hs:∀x,foldedSetIterable iter X.env x=pure x:=by exact λ_=>rfl):AL X (.ListComp elt [⟨tg,iter,ifs,0⟩] scope pos) (ET k it t pt pe):=by
 intro G F Z H ρ Q St w;unfold dX;intro pins s I;refine yt (wi:=iC X tg iter) (g:=uc X N' scope tg) (tc:=ub X N' scope ifs) (te:=ud X N' scope elt) hc Sc (λx hx hf=>I.ok.has x.1 (Sc.free x hx hf)) su
  (λcl s H fp C pins s' Z H v u Q I r h=>oF pins s' Z H v u Q I r (h cl _ _ fp C)) (λcl s H fp C pins s' Z H Q I h=>h cl _ _ fp C pins s' I) (λcl s H fp C pins s' Z H Q I h=>aN pins s' Z H Q I (h cl _ _ fp C)) hs pins s Z H Q I (DW hi hg ht he I.len St w)
theorem vb{sh:List Kd}{it:Ev S (List D)}{t:Tg (Option D×SOf sh)}{et:Ev (Option D×SOf sh) Bool}{ee:Ev (Option D×SOf sh) D}{OK:M S->Prop}{x:Ex->En->M S}{kk:List D->En->M S}(hi:AEi X tg iter it)
  (hg:∀cl s H fp C,AG (bw X N' scope cl s H fp C) X.N.length tg t) (ht:∀cl s H fp C,Ek (bw X N' scope cl s H fp C) ifs et) (he:∀cl s H fp C,AE (bw X N' scope cl s H fp C) elt ee)
  (hσ:Z.length=X.N.length) (hO:KOk OK) (hX:XL X OK x G) (St:StOk X.K G F Z H ρ) (ok:OK (B9 sh k it t et ee x kk ρ)) (k2:∀ds v F' H' ρ',Same F F'->StOk X.K G F' Z H' ρ'->Frs X.K G F' Z H' ρ' v (.l ds)->OK (kk ds ρ')->Q v H') :
  xT (iC X tg iter) k (uc X N' scope tg) (ub X N' scope ifs) (ud X N' scope elt) Z H Q:=by
 refine hi OK x _ G F Z H ρ _ hO hX St ok λds J F1 H1 ρ1 s1 S1 wk o1=>?_
 obtain⟨s0,e0,o0⟩:=fG hO o1;clear o1;have S0:=S1.rd e0;have hshl:sh.length=Z.length:=(As sh s0).symm.trans S0.ln.symm;have hlen0:∀s:SOf sh,(wr sh s).length=Z.length:=λs=>(As sh s).trans hshl
 have hP:∀i a,G.P i=some a->i<Z.length:=λi a h=>(List.getElem?_eq_some_iff.mp (S1.pp i a h).1).1
 revert o0;generalize hstep:(λ(s:SOf sh) d=>t d (λρ2=>et (λe _=>.exc e) (λb ρ3=>if b then ee (λe _=>.exc e) (λv ρ4=>rdk sh (λs'=>.ret (some v,s')) (ρ4.take sh.length)) ρ3 else rdk sh (λs'=>.ret (none,s')) (ρ3.take sh.length)) ρ2) (wr sh s++List.replicate k none))=step;intro o0
 cases hcc:dH step ds s0 with
 | bad=>rw[hcc]at o0;exact(hO o0).elim
 | exc e=>exact(vh hcc).elim
 | ret q =>
  obtain⟨out,sf⟩:=q;rw[hcc,Gk]at o0;obtain⟨hfit,o0⟩:=GT hO o0;have again:∀{F' H' σ' ρ'} {s':SOf sh},StOk X.K G F' σ' H' ρ'->(∀j,j<Z.length->σ'[j]? = Z[j]?)->σ'.length=Z.length+k->rd sh (ρ'.take sh.length)=some s'->StOk X.K G F' σ' H' (wr sh s'++List.replicate k none):=λ{F' H' σ' ρ' s'} S' kp hl e'=>by
   obtain⟨h1,h2,h3⟩:=iR sh _ s' e';have hρ':ρ'.length=Z.length+k:=by rw[<-S'.ln];exact hl
   refine S'.weak (by simp[hlen0];lia) (λi av q=>?_) (λi c q=>?_)
   ·have q':=gS q;have:=h2 i av q';have hi:i<sh.length:=by
     have:=(List.getElem?_eq_some_iff.mp this).1;rw[da]at this;lia
    rw[gu hi]at this;exact this
   ·obtain⟨a,ha⟩:=S'.pq i c q;have hi:=hP i a ha;rw[de (by rw[hlen0];exact hi)];exact h3 i c (by rw[gu (by lia)];exact q)
  refine⟨CIv X.K G Z k ds F1 (λs=>wr sh s++List.replicate k none) (λi s rest=>dH step (ds.drop i) s=.ret (rest,sf)) out,
   ⟨_,⟨F1,[],out,s0,di _,Same.refl _,S0.grow k,λj hj=>by rw[de hj],by simp,.nil,hcc,rfl⟩⟩,?_⟩
  rintro i m vs σ' H' ⟨F',acc,rest,sc,hi,s2,S2,kp,hlen,rp,go,eo⟩;refine⟨by rw[rp.length];rw[eo,zzf]at hfit;lia,?_⟩;by_cases hlt:i<ds.length
  ·refine .inr ⟨wk.go i G F' σ' H' _ s2 S2 hlt,λx H2 y cl sx H0 fp C=>?_⟩;obtain⟨F3,s3,S3,r3⟩:=wk.yld i G F' σ' H' _ x H2 ds[i] s2 S2 (nc hlt) y;rw[oz hlt]at go;obtain⟨o,sn,rest',hst,hr,er⟩:=w9 go;subst er;clear go;rw[<-hstep]at hst;refine hg cl sx H0 fp C (λm=>m=.ret (o,sn)) _ G F3 σ' H2 _ x ds[i] _ (λz=>nomatch z) S3 r3 hst λσ3 ρ3 S4 kp3 hl3 ml3 o4=>?_
   have kp':∀j,j<Z.length->σ3[j]? = Z[j]?:=λj hj=>((kp3 j (by lia)).1).trans (kp j hj)
   intro cl sx H0 fp C;refine ht cl sx H0 fp C (λm=>m=.ret (o,sn)) (λe _=>.exc e) _ G F3 σ3 H2 ρ3 _ (λz=>nomatch z) (λF ρ e z=>nomatch z) S4 o4 λb F5 H5 ρ5 s5 S5 o5=>?_
   cases b with
   | true =>
    refine qw ?_;intro cl sx H0 fp C;refine he cl sx H0 fp C (λm=>m=.ret (o,sn)) (λe _=>.exc e) _ G F5 σ3 H5 ρ5 _ (λz=>nomatch z) (λF ρ e z=>nomatch z) S5 o5 λv u F6 H6 ρ6 s6 S6 ru o6=>?_
    obtain⟨s',e',o'⟩:=fG (OK:=λm=>m=.ret (o,sn)) (λz=>nomatch z) o6
    cases o'
    exact CIv.on F6 (acc++[v]) rest' sn hlt (((s2.trans s3).trans s5).trans s6) (again S6 kp' (by lia) e') kp' (by lia) ((rp.mono ((s3.trans s5).trans s6)).append (.cons ru .nil)) hr (by rw[eo];simp)
   | false =>
    refine tq ?_;obtain⟨s',e',o'⟩:=fG (OK:=λm=>m=.ret (o,sn)) (λz=>nomatch z) o5
    cases o'
    exact CIv.on F5 acc rest' sn hlt ((s2.trans s3).trans s5) (again S5 kp' (by lia) e') kp' (by lia) (rp.mono (s3.trans s5)) hr (by rw[eo];simp)
  ·have ei:i=ds.length:=by lia
   subst ei;rw[List.drop_length]at go
   cases go
   rw[ig]at eo;subst eo;refine .inl ⟨wk.stop G F' σ' H' _ s2 S2,λp hp=>?_⟩;have Ssh:=S2.shrink (n:=Z.length) (by simp[hlen0]) hP;have e1:σ'.take Z.length=Z:=nO kp rfl;have e2:(wr sh sf++List.replicate k none).take Z.length=wr sh sf:=by rw[<-hlen0 sf,List.take_left]
   rw[e1,e2]at Ssh;obtain⟨S5,r5⟩:=Ssh.newLst hp rp;exact k2 _ _ F' _ _ (s1.trans s2) S5 r5 o0
theorem lq{sh:List Kd}{it:Ev S (List D)}{t:Tg (Option D×SOf sh)}{et:Ev (Option D×SOf sh) Bool}{ee:Ev (Option D×SOf sh) D}(hc:X.calm=true)(Sc:CompOk X N' k scope)(hi:AEi X tg iter it)
  (hg:∀cl s H fp C,AG (bw X N' scope cl s H fp C) X.N.length tg t) (ht:∀cl s H fp C,Ek (bw X N' scope cl s H fp C) ifs et) (he:∀cl s H fp C,AE (bw X N' scope cl s H fp C) elt ee)
  (hs:∀x,foldedSetIterable iter X.env x=pure x:=by exact λ_=>rfl):AEl X (.ListComp elt [⟨tg,iter,ifs,0⟩] scope pos) (B9 sh k it t et ee):=by
 intro OK x kk G F Z H ρ Q hO hX St ok k2;unfold dX;intro pins s I;refine yt (wi:=iC X tg iter) (g:=uc X N' scope tg) (tc:=ub X N' scope ifs) (te:=ud X N' scope elt) hc Sc (λx hx hf=>I.ok.has x.1 (Sc.free x hx hf)) su
  (λcl s H fp C pins s' Z H v u Q I r h=>oF pins s' Z H v u Q I r (h cl _ _ fp C)) (λcl s H fp C pins s' Z H Q I h=>h cl _ _ fp C pins s' I) (λcl s H fp C pins s' Z H Q I h=>aN pins s' Z H Q I (h cl _ _ fp C)) hs pins s Z H Q I (vb hi hg ht he I.len hO hX St ok k2)
theorem vx{spos:Pos}{sh:List Kd}{it:Ev S (List D)}{t:Tg (Option D×SOf sh)}{et:Ev (Option D×SOf sh) Bool}{ee:Ev (Option D×SOf sh) D}
  (hN:X.N.Nodup) (hy:X.N[i]? = some y) (hly:Loc X.env.scope y) (hfn:X.fn y=true\/X.env.scope.names.lookup y=some .local) (hc:X.calm=true) (Sc:CompOk X N' k scope) (hi:AEi X tg iter it)
  (hg:∀cl s H fp C,AG (bw X N' scope cl s H fp C) X.N.length tg t) (ht:∀cl s H fp C,Ek (bw X N' scope cl s H fp C) ifs et) (he:∀cl s H fp C,AE (bw X N' scope cl s H fp C) elt ee)
  (hsw:swapsWith (.ListComp elt [⟨tg,iter,ifs,0⟩] scope pos) (some (.Name y pos')) spos.line X.env=pure true) (hs:∀x,foldedSetIterable iter X.env x=pure x) :
  AS X (.Assign [.Name y pos'] (.ListComp elt [⟨tg,iter,ifs,0⟩] scope pos) spos) (HH i (eZ (B9 sh k it t et ee))):=by
 intro OK K G F Z H ρ E hO hX St ok eo;unfold mG;intro pins s I;refine wn (wi:=iC X tg iter) (g:=uc X N' scope tg) (tc:=ub X N' scope ifs) (te:=ud X N' scope elt) hN hy hly hfn hc Sc (λx hx hf=>I.ok.has x.1 (Sc.free x hx hf)) su
  (λcl s H fp C pins s' Z H v u Q I r h=>oF pins s' Z H v u Q I r (h cl _ _ fp C)) (λcl s H fp C pins s' Z H Q I h=>h cl _ _ fp C pins s' I) (λcl s H fp C pins s' Z H Q I h=>aN pins s' Z H Q I (h cl _ _ fp C)) hsw hs pins s Z H E I ?_
 refine vb hi hg ht he I.len hO hX St ok λds v F' H' ρ' s S' r o=>?_
 have o':OK (match fV ρ' i with|true=>K.nx (ρ'.set i (some (.fz (.list ds))))|false=>.bad):=o;split at o'
 ·rename_i ho;obtain⟨hl,hop⟩:=cJ ho;obtain⟨F2,s2,S2,r2⟩:=S'.settle (v:=v) (ds:=ds) r;exact eo.nx F2 _ H' _ (s.trans s2) (S2.store hop hl (.inl ⟨_,rfl,r2⟩)) o'
 ·exact(hO o').elim
end
end L4
namespace HT
open PySem PySem.Spec PyProof.Rows
section
variable {prog:Program}{w:World}{A:Around}{E:zzj}{s:Shared}
def getItem_tuple_all{t sl:Addr}{items:Array Value}{vl vu:Value}{lo hi:Option Int}{Q:zzj}(ht:IsTup s.heap t items)(hs:s.heap.IsSliceOf sl vl vu .none)(pl:IsPart vl lo)(pu:IsPart vu hi)
  (hw:sIx items.size 0 lo=0/\sIx items.size items.size hi=items.size) (h:Q (.ref t) s):wpAny (model prog w) A (getItem (.ref t) (.ref sl)) Q E s:=by
 obtain⟨os,hos,hcs,hds⟩:=id hs;have hTs:s.TypeIs (.ref sl) "slice":=⟨os,hos,hcs⟩;unfold getItem
 try with_reducible refine om ?_
 first|refine zza (zzb ?_)|skip
 refine zza (wpAny_sequenceKey ht.typeIs (by decide) ?_)
 refine zza (K9 (name:=Str.ofString "__getitem__") ht.typeIs wE
  (wP wE ht.typeIs entry_tuple_getitem ?_ (args_tuple_getitem _ _)))
 show wpAny _ _ (Builtin.Tuple.tupleItemsOf (.ref t) >>= _) _ _ s;refine zza (tupleItemsOf_ ht ?_);refine zza (La hTs ?_);rw[ak (by decide)];refine zza (gK hs pl pu ?_);have hyes:((((sIx items.size 0 lo:Nat):Int)==0&&(1:Int)==1&&(sIx items.size items.size hi - sIx items.size 0 lo)==items.size)=true):=by
  rw[hw.1,hw.2];simp
 show wpAny _ _ (if(((sIx items.size 0 lo:Nat):Int)==0&&(1:Int)==1&&(sIx items.size items.size hi - sIx items.size 0 lo)==items.size)=true then _ else _) _ _ s;rw[ak hyes];obtain⟨o,ho,hc,n,hd⟩:=id ht;have hex:∀{Q':Bool->Shared->Prop},Q' true s->wpAny (model prog w) A.in1 (Builtin.Tuple.tupleIsExact (.ref t)) Q' E s:=λ{Q'} q=>by
  unfold Builtin.Tuple.tupleIsExact;refine zza (La ht.typeIs (zzb ?_));exact q
 first
  | exact zza (hex (zza (LU (zzb ⟨_,rfl,zzb h⟩))))
  | exact zza (zza (hex (zza (LU (zzb (zzb ⟨_,rfl,zzb h⟩))))))
end
end HT
namespace L4
open PySem PySem.Spec PyProof.Rows L2 L3
variable {X:Cx}{K:Fg}{pos:Pos}{e a b:Expr}{x:Str}
def cutD(ds:List D)(lo hi:Option Int):List D:=(ds.drop (HT.sIx ds.length 0 lo)).take (HT.sIx ds.length ds.length hi - HT.sIx ds.length 0 lo)
def zc{F:Hp}{vs:List V}{ds:List D}(r:RepL K F vs ds)(lo hi:Option Int):RepL K F (vd vs lo hi) (cutD ds lo hi):=by
 unfold vd cutD;rw[r.length];exact(r.drop _).take _
def JL(K:Fg):V->Option Int->Option Int->Hp->VK->Prop:=λx lo hi H Q=>∃a xs,x=.ref a/\SqT K H a xs/\(HT.sIx xs.length 0 lo=0/\HT.sIx xs.length xs.length hi=xs.length)/\Q x H
def sl_tupA:SlR X (JL X.K):=by
 intro pins s Z H x v vl vu lo hi sl Q I rx hs pl pu h;obtain⟨a,xs,rfl,hx,hw,q⟩:=h
 cases rx
 obtain⟨its,r,ht,hz⟩:=I.tuple hx;have hlen:its.toArray.size=xs.length:=by rw[be];exact r.length.symm
 refine⟨"tuple",_,PyProof.Rows.slot_tuple_getitem.lookup,ht.typeIs,?_⟩;exact HT.getItem_tuple_all ht hs pl pu (by rw[hlen];exact hw) ⟨.ref a,H,I,rfl,q⟩
def JS:Pu (Option Int):=λ_=>.ret none
def asI(d:D):M (Option Int):=match d with
 | .int i=>.ret (some i)
 | _=>.bad
def JV(p:Pu D):Pu (Option Int):=λρ=>bd (p ρ) asI
def Kh(d:D)(lo hi:Option Int):Option D:=match d with
 | .tuple ds=>some (.tuple (cutD ds lo hi))
 | .list ds=>some (.list (cutD ds lo hi))
 | _=>none
def APo(X:Cx)(e:Option Expr)(p:Pu (Option Int)):Prop :=
 ∀(G:Gh) (F:Hp) (Z:L2.St) (H:Hp) (ρ:En) (Q:Option Int->Hp->Prop),StOk X.K G F Z H ρ->W X G F Z ρ (p ρ) (λd F' H'=>Q d H')->∀(pins:zzk) (s:Shared),Inv X pins Z H s ->
  wpAny (model X.prog X.w) X.A (evalPart e X.env) (λu s'=>∃o H',Inv X pins Z H' s'/\IsPart u o/\Q o H') X.xe s
def Hs(X:Cx)(e:Option Expr):TO:=λZ H Q=>∀(pins:zzk) (s:Shared),Inv X pins Z H s->wpAny (model X.prog X.w) X.A (evalPart e X.env) (λu s'=>∃o H',Inv X pins Z H' s'/\IsPart u o/\Q o H') X.xe s
def Bg{e:Option Expr}:PO X e (Hs X e):=λpins s Z H Q I h=>h pins s I
section
variable {lo hi:Option Expr} {p:Pu D} {pl ph:Pu (Option Int)} {p2:Pos}
def bF:APo X none JS:=λG F Z H ρ Q S w pins s I=>Dj pins s Z H Q I (w F H (Same.refl _) S)
def bm(h:AP X e p):APo X (some e) (JV p):=λG F Z H ρ Q S w pins s I=>Di aN pins s Z H Q I (h G F Z H ρ _ S (w.bind.imp λd F1 H1 s1 S1 w1 v r=>by
 cases r with
 | int i=>exact⟨i,rfl,w1 F1 H1 (Same.refl _) S1⟩
 | bl b=>exact w1.elim
 | non=>exact w1.elim
 | str i=>exact w1.elim
 | tup _ _=>exact w1.elim
 | lst _ _=>exact w1.elim
 | dct _ _ _=>exact w1.elim
 | dck _ _ _=>exact w1.elim
 | exc _ _ _ _ _=>exact w1.elim
 | fn _=>exact w1.elim))
end
def Br(f g:D->D->Option Bool)(a b c:Pu D):Pu Bool:=λρ=>bd (a ρ) λx=>bd (b ρ) λy=>bd (oM (f x y)) λt=>if t then bd (c ρ) λz=>oM (g y z)else .ret false
section
variable {c:Expr} {pa pb pc:Pu D} {op op':CmpOp} {r r':R2} {f g:D->D->Option Bool}
def Cg{G:Gh}{F H:Hp}{Z:L2.St}{ρ:En}{Q:VK}(hf:OpB X.K r f)(hg:OpB X.K r' g)(ha:AO X a pa)(hb:AO X b pb)(hc:AO X c pc)(S:StOk X.K G F Z H ρ)(w:W X G F Z ρ (Br f g pa pb pc ρ) λt F' H'=>Q (.bl t) H') :
  AH r r' (dX X a) (dX X b) (dX X c) Z H Q :=
 ha G F Z H ρ _ S (w.bind.imp λdx F1 H1 s1 S1 w1 x hx=>hb G F1 Z H1 ρ _ S1 (w1.bind.imp λdy F2 H2 s2 S2 w2 y hy=>by
  have w3:=w2.bind;obtain⟨t,e,k⟩:=w3.opt;refine hf G F2 Z H2 ρ x y dx dy t _ S2 ((hx.mono s2).or S2) (hy.or S2) e ⟨t,rfl,?_⟩;have w4:=k F2 H2 (Same.refl _) S2
  cases t with
  | true =>
   refine qw ?_
   exact hc G F2 Z H2 ρ _ S2 ((show W X G F2 Z ρ (bd (pc ρ) λz=>oM (g dy z)) _ from w4).bind.imp λdz F3 H3 s3 S3 w5 z hz=>by
    obtain⟨t',e',k'⟩:=w5.opt
    exact hg G F3 Z H3 ρ y z dy dz t' _ S3 ((hy.mono s3).or S3) (hz.or S3) e' (k' F3 H3 (Same.refl _) S3))
  | false =>
   refine tq ?_
   exact(show W X G F2 Z ρ (.ret false) _ from w4) F2 H2 (Same.refl _) S2))
def pX(ho:OpR X (compareOp op) r)(ho':OpR X (compareOp op') r')(hf:OpB X.K r f)(hg:OpB X.K r' g)(ha:AO X a pa)(hb:AO X b pb)(hc:AO X c pc)(hm:lastMarks [op,op'] [b,c]=false):AT X (.Compare a [op,op'] [b,c] pos) (Br f g pa pb pc) :=
 λG F Z H ρ Q S w=>qk (Bd ho ho' aN aN aN hm) (Cg (Q:=λx H'=>∃k,x=.bl k/\Q k H') hf hg ha hb hc S (w.imp λt F' H' _ _ q=>⟨t,rfl,q⟩))
end
def jF(d e:D):Option Bool:=match d,e with
 | .bool a,.bool b=>some (a==b)
 | _,.none=>some (isNone d)
 | _,_=>none
section
def sB:OpR X (compareOp .Is) (rD2 X.K jF):=by
 intro pins s Z H x y v u Q I rx ry ⟨d,e,b,r1,r2,ho,q⟩;unfold jF at ho;split at ho
 ·cases ho
  obtain rfl:=r1.bool_inv;obtain rfl:=r2.bool_inv
  cases rx
  cases ry
  exact PyProof.Rows.is_bool ⟨.bl _,H,I,rfl,q⟩
 ·exact Do pins s Z H x y v u Q I rx ry ⟨d,.none,b,r1,r2,by rw[<-ho];rfl,q⟩
 ·cases ho
end
def boolsOf:List D->Option (List Bool)
 | []=>some []
 | .bool b::r=>match boolsOf r with
  | some l=>some (b::l)
  | none=>none
 | _=>none
def pS:∀{ds:List D} {bs:List Bool},boolsOf ds=some bs->ds=bs.map PyData.bool
 | [],_,h=>by cases h;rfl
 | .bool i::r,ns,h=>by
  dsimp only[boolsOf]at h;split at h
  ·rename_i l e;cases h;rw[pS e];rfl
  ·cases h
 | .none::_,_,h=>by cases h
 | .int _::_,_,h=>by cases h
 | .str _::_,_,h=>by cases h
 | .list _::_,_,h=>by cases h
 | .tuple _::_,_,h=>by cases h
 | .dict _::_,_,h=>by cases h
def vt(bs:List Bool):boolsOf (bs.map PyData.bool)=some bs:=by
 induction bs with
 | nil=>rfl
 | cons b r ih=>simp[boolsOf,ih]
def n9{K:Fg}{F:Hp}:∀{vs:List V} {bs:List Bool},RepL K F vs (bs.map PyData.bool)->vs=bs.map V.bl
 | _,[],h=>by cases h;rfl
 | _,n::r,h=>by
  cases h with
  | cons a b=>cases a;rw[n9 b];rfl
def nN:∀{bs:List Bool} {us:List Value},Vals (bs.map V.bl) us->us=bs.map Value.bool
 | [],_,h=>by cases h;rfl
 | n::r,_,h=>by
  cases h with
  | cons a b=>cases a;rw[nN b];rfl
def B2:List D->Option Bool
 | [.list ds]=>(boolsOf ds).map λbs=>bs.all id
 | _=>none
def wj(K:Fg)(f:List Bool->Bool):List V->Hp->VK->Prop:=λxs H Q=>∃a bs,xs=[.ref a]/\SqL K H a (bs.map V.bl)/\Q (.bl (f bs)) H
def Bw{f:List Bool->Bool}{g:List D->Option Bool}(hg:∀l b,g l=some b->∃bs,l=[.list (bs.map PyData.bool)]/\b=f bs):xP K (wj K f) g:=by
 intro G F Z H ρ xs ds res Q S o e k;obtain⟨bs,rfl,rfl⟩:=hg _ _ e;obtain⟨v,r,rfl,ho,hr⟩:=bB o;obtain rfl:=bR hr;obtain⟨a,vs,rfl,h1,h2⟩:=ho.list S.fh;rw[n9 h2]at h1;exact⟨a,bs,rfl,h1,k⟩
def Gp:xP K (wj K λbs=>bs.all id) B2:=Bw λl b h=>by
 unfold B2 at h;split at h
 ·obtain⟨bs,e,rfl⟩:=Option.map_eq_some_iff.mp h;exact⟨bs,by rw[pS e],rfl⟩
 ·cases h
def z8{prog:Program}{w:World}{A:Around}{E:zzj}{s:Shared}{l:Addr}{its:Array Value}{Q:zzj}(hl:s.heap.IsList l its)
  (h:∀s₂:Shared,s₂={ s with heap:=s.heap.push { cls:=.type "list_iterator",data:=.fields #[.ref l,.int 0 0] } } ->
   (s₂.heap.IsListIter s.heap.objs.size l 0/\s₂.heap.IsList l its)->l≠s.heap.objs.size->Q (.ref s.heap.objs.size) s₂) :
  wpAny (model prog w) A (pyIter (.ref l)) Q E s:=by
 have hlt:l<s.heap.objs.size:=by obtain⟨_,e,_⟩:=hl;exact ax e
 exact wpAny_pyIter_list hl (h _ rfl ⟨⟨_,zze _ rfl,rfl,rfl⟩,hl.push _⟩ (bj hlt))
def t9{prog:Program}{w:World}{A:Around}(bs:List Bool):TruthOf prog w A (λi v=>(bs.map Value.bool).toArray[i]? = some v) (λi=>bs.getD i false):=λi v s Q E hP hQ=>by
 dsimp only at hP hQ;rw[Mg,ku]at hP;obtain⟨b,e,rfl⟩:=Option.map_eq_some_iff.mp hP;rw[K0,e]at hQ;exact ES hQ
def all_range(bs:List Bool):(List.range bs.length).all (λi=>bs.getD i false)=bs.all id:=by
 induction bs with
 | nil=>rfl
 | cons b r ih =>
  rw[bi,List.range_succ_eq_map,LP,List.all_map,LP];simp only[List.getD_cons_zero,id_eq];congr 1
def Ck(hc:X.calm=true):CallR X (.builtin "all") (wj X.K λbs=>bs.all id):=by
 intro pins s Z H xs us Q I r h;obtain⟨a,bs,rfl,hq,q⟩:=h;obtain⟨u,rfl,ru⟩:=Vals.one r
 cases ru
 obtain⟨its,rv,pl,hz⟩:=I.list hq;rw[nN rv]at pl;refine call_all_walk (z8 pl.isList λs₂ e st hlI=>?_);subst e;refine⟨_,_,_,_,_,_,_,rfl,Walks.list (A:=X.A.in1) (I.ok.hd hc) _ a hlI (bs.map Value.bool).toArray,st,t9 bs,λh' tk hk=>?_⟩;refine⟨.bl (bs.all id),H,I.kept (old_kept hk),?_,q⟩;show _=_;rw[<-all_range bs];simp
def rA:List D->Option (List D)
 | [.list ds]=>some ds
 | [.tuple ds]=>some ds
 | _=>none
def HV(K:Fg):List V->Hp->VK->Prop:=λxs H Q=>∃p ys,xs=[.ref p]/\(SqL K H p ys\/SqT K H p ys)/\∀l,H l=none->Q (.ref l) (upd H l (.lst ys))
def Ds:vS K (HV K) rA:=by
 intro G F Z H ρ xs ds res Q S o e k;unfold rA at e;split at e
 ·cases e
  obtain⟨v,r,rfl,ho,hr⟩:=bB o;obtain rfl:=bR hr;obtain⟨a,vs,rfl,h1,h2⟩:=ho.list S.fh;refine⟨a,vs,rfl,.inl h1,λl hl=>?_⟩;obtain⟨S2,r2⟩:=S.newLst hl h2;exact k _ F _ (Same.refl _) S2 r2
 ·cases e
  obtain⟨v,r,rfl,ho,hr⟩:=bB o;obtain rfl:=bR hr;obtain⟨a,vs,rfl,h1,h2⟩:=ho.tuple S.fh;refine⟨a,vs,rfl,.inr h1,λl hl=>?_⟩;obtain⟨S2,r2⟩:=S.newLst hl h2;exact k _ F _ (Same.refl _) S2 r2
 ·cases e
def DT:List D->Option D
 | [.int i]=>some (.int i)
 | [.bool b]=>some (.int (if b then 1 else 0))
 | _=>none
def Gn:iy K (λxs H Q=>(∃i,xs=[.int i]/\Q (.int i) H)\/∃k,xs=[.bl k]/\Q (.int (if k then 1 else 0)) H) DT:=by
 intro G F Z H ρ xs ds res Q S o e k;unfold DT at e;split at e
 ·cases e
  obtain⟨v,r,rfl,ho,hr⟩:=bB o;obtain rfl:=bR hr;exact .inl ⟨_,by rw[ho.int],k _ F H (Same.refl _) S (.int _)⟩
 ·cases e
  obtain⟨v,r,rfl,ho,hr⟩:=bB o;obtain rfl:=bR hr;exact .inr ⟨_,by rw[ho.bool],k _ F H (Same.refl _) S (.int _)⟩
 ·cases e
def u5:List D->Option D
 | [.int i]=>if i.natAbs.log2<1920 then some (.str (toString i))else none
 | _=>none
def wB:iy K (λxs H Q=>∃i,xs=[.int i]/\i.natAbs.log2<1920/\Q (.str (toString i)) H) u5:=by
 intro G F Z H ρ xs ds res Q S o e k;unfold u5 at e;split at e
 ·split at e
  ·rename_i hz
   cases e
   obtain⟨v,r,rfl,ho,hr⟩:=bB o;obtain rfl:=bR hr;exact⟨_,by rw[ho.int],hz,k _ F H (Same.refl _) S (.str _)⟩
  ·cases e
 ·cases e
def nH{v:V}{u:Value}{d:D}(hg:Gl X x)(hm:X.mg x=some u)(r:RelV v u)(rp:∀F,Rep X.K F v d)(hd:(x==("__debug__" : Str))=false):AP X (.Name x pos) (zR d) :=
 pY (yr hg hm r hd) rp
section
variable {S:Type}
def putD(ds:List D)(j d:D):Option (List D):=match j with
 | .int k=>(ixN ds.length k).map λq=>ds.set q d
 | _=>none
def JF(i:Nat)(mi me:Ev S D):SM S:=λK ρ=>me K.x (λd ρ1=>match iT ρ1 i with
 | some _=>mi K.x (λj ρ2=>match iT ρ2 i with
  | some ds=>(oM (putD ds j d)).on (λe=>K.x e ρ2) (λds'=>K.nx (rW ρ2 i ds'))
  | none=>.bad) ρ1
 | none=>.bad) ρ
variable {mi me:Ev S D} {pos' tpos apos cpos:Pos} {ml:Ev S (List D)}
def Cy{i:Nat}(hN:X.N[i]? = some x)(hv:Vis X.env.scope x)(hi:AE X b mi)(he:AE X e me)(ha:∀v,assign (.Subscript (.Name x pos') b tpos) X.env v=(do
   let ov <-holding [v] (eval (.Name x pos') X.env)
   let iv <-holding [v,ov] (eval b X.env)
   standAt tpos
   holding [v,ov,iv] (setItem ov iv v)
   release [v,ov,iv] []))
  (hs:swapsWithSole [.Subscript (.Name x pos') b tpos] e pos.line X.env=pure false) (hw:swappedStores [.Subscript (.Name x pos') b tpos] e X.env=pure none)
  (h1:(assignEach [.Subscript (.Name x pos') b tpos] X.env).map (·.2)=[assign (.Subscript (.Name x pos') b tpos) X.env])
  (hd:(x==("__debug__" : Str))=false:=by decide) (hcd:(x==("__classdict__" : Str))=false:=by decide):AS X (.Assign [.Subscript (.Name x pos') b tpos] e pos) (JF i mi me):=λOK K G F Z H ρ E hO hX St ok eo =>
 iz (FS aN (FV (dh hN hv hd hcd) aN set_list ha) hs hw h1) (he OK K.x _ G F Z H ρ _ hO hX St ok λd v F1 H1 ρ1 s1 S1 r1 o1=>by
  split at o1
  case h_2=>exact(hO o1).elim
  rename_i ds0 hd0;obtain⟨a,vs0,ea,_,_⟩:=ko S1 hd0;refine⟨_,ea,hi OK K.x _ G F1 Z H1 ρ1 _ hO hX S1 o1 λj u F2 H2 ρ2 s2 S2 r2 o2=>?_⟩;split at o2
  case h_2=>exact(hO o2).elim
  rename_i ds hds;obtain⟨ds',hp,o3⟩:=gy hO o2;obtain⟨a',vs,ea',hh,rv⟩:=ko S2 hds;rw[ea]at ea';injection ea' with ea';injection ea' with ea';injection ea' with ea';subst ea';unfold putD at hp;split at hp
  ·rename_i k;obtain⟨q,hq,rfl⟩:=Option.map_eq_some_iff.mp hp;obtain rfl:=r2.int_inv;refine⟨a,vs,k,q,rfl,rfl,hh,by rw[rv.length];exact hq,?_⟩;exact eo.nx F2 Z _ _ (s1.trans s2) (yw S2 hds ea (RepL.set (r1.mono s2) q rv)) o3
  ·cases hp)
end
def kindB(k:NameKind):Option NameKind->Bool
 | some k'=>k==k'
 | none=>false
def tF(N N':List Str)(k:Nat)(scope sc:Scope):Bool :=
 (scope.kind==.function)&&(N'.length==N.length+k)&&scope.names.all (λy=>y.2 != .cell)&&scope.names.all (λy=>y.2 != .local||kindB .local (scope.names.lookup y.1))
  && ((List.range N.length).all λi=>match N'[i]? with
   | some x=>!(kindB .free (scope.names.lookup x)||kindB .local (scope.names.lookup x)||kindB .cell (scope.names.lookup x))||(N[i]? == some x&&kindB .free (scope.names.lookup x))
   | none=>true)
  && scope.names.all (λy=>y.2 != .free||kindB .cell (sc.names.lookup y.1)||kindB .free (sc.names.lookup y.1))
def kS{k:NameKind}{o:Option NameKind}(h:kindB k o=true):o=some k:=by
 cases o with
 | none=>cases h
 | some k'=>simp[kindB]at h;rw[h]
def BR{k:NameKind}{o:Option NameKind}(h:o=some k):kindB k o=true:=by subst h;simp[kindB]
def bT{N N':List Str}{k:Nat}{scope sc:Scope}(h:tF N N' k scope sc=true)(hN:X.N=N)(hs:X.env.scope=sc):CompOk X N' k scope:=by
 subst hN hs;simp only[tF,ai,gh,IG,ii,bne_iff_ne,ne_eq]at h;obtain⟨⟨⟨⟨⟨h1,h2⟩,h3⟩,h4⟩,h5⟩,h6⟩:=h;refine⟨h1,h2,λy hy=>h3 y hy,λy hy hl=>?_,λi x hi hx _ hk=>?_,λy hy hf=>?_⟩
 ·rcases h4 y hy with z|z
  ·exact absurd hl z
  ·exact kS z
 ·have:=h5 i (List.mem_range.mpr hi);rw[hx]at this;simp only[ii,ny,ai,IG]at this;rcases this with z|⟨z1,z2⟩
  ·exfalso;rcases hk with hk|hk|hk<;>simp[BR hk]at z
  ·exact⟨z1,kS z2⟩
 ·rcases h6 y hy with (z|z)|z
  ·exact absurd hf z
  ·exact .inl (kS z)
  ·exact .inr (kS z)
section
variable {S:Type} {ms:Ev S (List D)}
def JG(i j:Nat)(ms:Ev S (List D)):SM S:=λK ρ=>ms K.x (λds ρ1=>match ds with
 | [u,v]=>(match fV ρ1 i&&fV (ρ1.set i (some (.fz u))) j with
  | true=>K.nx ((ρ1.set i (some (.fz u))).set j (some (.fz v)))
  | false=>.bad)
 | _=>.bad) ρ
def Cz{i j:Nat}{y:Str}{px py pt:Pos}{kt k2 pt2}(hc:X.calm=true)(hN:X.N.Nodup)(hi:X.N[i]? = some x)(hj:X.N[j]? = some y)(hij:i≠j)
  (hx:X.env.scope.names.lookup x=some .local) (hy:X.env.scope.names.lookup y=some .local) (ha:AEa X [a,b] ms)
  (hw:swappedStores [.Tuple [.Name x px,.Name y py] kt pt] (.Tuple [a,b] k2 pt2) X.env=pure (some [x,y]))
  (hs:swapsWithSole [.Tuple [.Name x px,.Name y py] kt pt] (.Tuple [a,b] k2 pt2) pos.line X.env=pure false) :
  AS X (.Assign [.Tuple [.Name x px,.Name y py] kt pt] (.Tuple [a,b] k2 pt2) pos) (JG i j ms):=λOK K G F Z H ρ E hO hX St ok eo =>
 iz (FP hc hN hi hj hij hx hy bQ hw hs) (ha OK K.x _ G F Z H ρ _ hO hX St ok λds vs F1 H1 ρ1 s1 S1 hl r1 o1=>by
  split at o1
  ·split at o1
   ·rename_i _ u v _ hok;rw[ai]at hok;obtain⟨h1,h2⟩:=cJ hok.1;obtain⟨h3,h4⟩:=cJ hok.2
    cases r1 with
    | cons ra rb =>
     cases rb with
     | cons rb rc =>
      cases rc
      refine⟨_,_,rfl,eo.nx F1 _ H1 _ s1 ?_ o1⟩;exact(S1.store h2 h1 (.inl ⟨u,rfl,ra⟩)).store h4 h3 (.inl ⟨v,rfl,rb⟩)
   ·exact(hO o1).elim
  ·exact(hO o1).elim)
end
def z6{H:Hp}{a:Addr}{ns:List Int}{mf:List D->M D}(hS:SqL K H a (ns.map V.int))(h:mf [.list (ns.map PyData.int)]=.ret (.bool true)):spD K 1 mf [.ref a] H (λv _=>v=.bl true) λ_ _ _=>False:=by
 refine⟨⟨λ_=>none,λ_=>none,H⟩,H,[.list (ns.map PyData.int)],rfl,⟨Same.refl _,λb o z=>(nomatch z),λb o z=>(nomatch z),rfl,λi d z=>?_,λi c z=>(gB (ds:=[.list (ns.map PyData.int)]) z).elim,λi j c e a z=>(gB (ds:=[.list (ns.map PyData.int)]) z).elim,λi a z=>(nomatch z),λi c z=>?_,Same.refl _⟩,?_⟩
 ·obtain⟨d',e,q⟩:=jZ (ds:=[.list (ns.map PyData.int)]) z
  cases e
  cases i with
  | zero=>simp at q;subst q;exact⟨_,rfl,.lst hS (RepL.ints ns)⟩
  | succ i=>simp at q
 ·obtain⟨d',e,q⟩:=jZ (ds:=[.list (ns.map PyData.int)]) z
  cases e
 ·rw[h];intro v F' H' s S' r
  cases r
  rfl
end L4
namespace HT
end HT
namespace L4
open PySem PySem.Spec PyProof.Rows L2 L3
variable {S:Type}
noncomputable def jC{S T:Type}:(T->D->(T->M S)->M S)->List D->T->(T->M S)->M S:=Classical.choose (⟨@cu S T,rfl⟩:∃f,f = @cu S T)
def e8{T:Type} : @jC S T = @cu S T:=Classical.choose_spec (⟨@cu S T,rfl⟩:∃f,f = @cu S T)
noncomputable def rR{S T:Type}:(T->(T->M S)->M S)->Nat->T->M S:=Classical.choose (⟨@cV S T,rfl⟩:∃f,f = @cV S T)
def qC{T:Type} : @rR S T = @cV S T:=Classical.choose_spec (⟨@cV S T,rfl⟩:∃f,f = @cV S T)
section
noncomputable def AZ(sh:List Kd)(it:Ev S (List D))(t:Tg S)(mb:SM S):SM S:=λK ρ=>it K.x (λds ρ1=>rdk sh (λs=>jC (λs d kn=>t d (λρ2=>mb (jK sh K kn) ρ2) (wr sh s)) ds s (λs'=>K.nx (wr sh s'))) ρ1) ρ
noncomputable def rZ(sh:List Kd)(fuel:Nat)(c:Ev S Bool)(mb:SM S):SM S:=λK ρ=>rdk sh (λs=>rR (λs kn=>c K.x (λb ρ2=>if b then mb (jK sh K kn) ρ2 else rdk sh (λs'=>K.nx (wr sh s')) ρ2) (wr sh s)) fuel s) ρ
def AY(sh:List Kd)(it:Ev S (List D))(t:Tg S)(mb:SM S):AZ sh it t mb=FG sh it t mb:=by
 unfold AZ FG;rw[e8]
def v7(sh:List Kd)(fuel:Nat)(c:Ev S Bool)(mb:SM S):rZ sh fuel c mb=v8 sh fuel c mb:=by
 unfold rZ v8;rw[qC]
variable {X:Cx} {mb:SM S} {c:Expr} {mt:Ev S Bool} {ml:Ev S (List D)} {pos:Pos}
theorem eK{tg iter:Expr}{body:List Stmt}{sh:List Kd}{t:Tg S}(hp:PassesOwn (model X.prog X.w) X.A X.env X.xe)(hc:X.calm=true)(hi:AEi X tg iter ml)(hg:AG X 0 tg t)(hb:ASs X body mb)
  (hs:∀x,foldedSetIterable iter X.env x=pure x:=by exact λ_=>rfl):AS X (.For tg iter body [] pos) (AZ sh ml t mb):=by
 rw[AY];exact G6 hp hc hi hg hb hs
def rP{body:List Stmt}{sh:List Kd}{fuel:Nat}(hp:PassesOwn (model X.prog X.w) X.A X.env X.xe)(hc:AEt X c mt)(hb:ASs X body mb):AS X (.While c body [] pos) (rZ sh fuel mt mb):=by
 rw[v7];exact Cw hp hc hb
end
end L4
namespace HT
end HT
namespace PySem
end PySem
namespace L4
open PySem PySem.Spec PyProof.Rows L2 L3
def Bq{X:Cx}{pins:zzk}{Z:L2.St}{H:Hp}{s:Shared}{ch:List Addr}{x y:V}{x' y':Value}{t:Nat}{h2:Heap}(I:Inv X pins Z H s)(hf:∀c∈ch,lB X pins H c)(ru:RelV x x')(ru2:RelV y y')
  (keep2:∀c o,c∉ch->s.heap.get? c=some o->h2.get? c=some o) (tup2:h2.get? s.heap.objs.size=some { cls:=.type "tuple",data:=.seq #[x',y'] }) :
  Inv X pins Z (upd H s.heap.objs.size (.tup [x,y])) { s with heap:=h2,toks:=t }:=by
 have fr:=I.fresh;have nit:∀c o,H c=some o->c∉ch:=λc o e m=>by rw[(hf c m).1]at e;cases e
 have hok:HOk X.prog X.w (upd H s.heap.objs.size (.tup [x,y])) h2:=λc ob e=>by
  by_cases hb:c=s.heap.objs.size
  ·subst hb;rw[aT]at e
   cases e
   exact⟨by show 2<=sizeLine;decide,[x',y'],.cons ru (.cons ru2 .nil),⟨_,tup2,rfl,_,rfl⟩,⟨_,tup2,rfl⟩⟩
  ·rw[aI hb]at e;refine(I.hok c ob e).stay (λc' v' hc' e'=>?_) (λc' e'=>by rw[aI (aY e' fr)];exact e') λc' ys e'=>by rw[aI (aY e' fr)];exact e'
   rcases hc' with z'|z'
   ·rw[z']at e' ⊢;exact keep2 c v' (nit c ob e) e'
   ·exact keep2 c' v' (nit c' _ z') e'
 refine I.step (g':=s.gens) (d':=s.drawn) (t':=t) (h':=h2) (ch:=ch) (λc hc=>?_) (λc o _ _ hch e _=>keep2 c o hch e) (λc o _ _ hch e _=>⟨o.slots,keep2 c o hch e⟩)
  (λc o _ e n=>by rw[aI (bj (ax e))];exact n) (λc o hch e=>⟨o,keep2 c o hch e⟩)
  (λc ys e=>by rw[aI (aY e fr)];exact e) (λc o u' e=>by rw[aI (aY e fr)];exact e) (λc ps e=>⟨#[],by rw[aI (aY e fr),e];simp⟩) (λm hm=>?_) hok I.bare
 ·obtain⟨f0,f1,f2,f3,f4,f5⟩:=hf c hc;exact⟨f3,f1,f4,f5⟩
 ·obtain⟨o,es,ep,ho',r⟩:=hm;exact⟨o,es,ep,keep2 _ o (λm=>(hf _ m).2.1 rfl) ho',r⟩
def g9{env:Env}:∀{names:List (Str×NameKind)} {x:Str},names.lookup x=some .free ->
  (names.map λ(n,k)=>if(k==NameKind.free&&env.scope.kind==.function&&env.kindOf n==some .cell)then(n,NameKind.cell)else(n,k)).lookup x=some .cell
  \/ (names.map λ(n,k)=>if(k==NameKind.free&&env.scope.kind==.function&&env.kindOf n==some .cell)then(n,NameKind.cell)else(n,k)).lookup x=some .free
 | [],_,h=>by simp at h
 | (n,k)::r,x,h=>by
  rw[ba];dsimp only;by_cases hc:(k==NameKind.free&&env.scope.kind==.function&&env.kindOf n==some .cell)=true
  ·rw[ak hc];by_cases hx:(x==n)=true
   ·left;simp[ib,hx]
   ·simp only[ib,Bool.not_eq_true]at h hx ⊢;rw[hx]at h ⊢;exact g9 h
  ·rw[ac hc];by_cases hx:(x==n)=true
   ·right;simp only[ib,hx]at h ⊢;exact h
   ·simp only[ib,Bool.not_eq_true]at h hx ⊢;rw[hx]at h ⊢;exact g9 h
def Ah{X:Cx}{N N':List Str}{k:Nat}{scope sc:Scope}{cl:List (Str×Addr)}{s2:Shared}{H2:Hp}{fp:List Addr}{C:Addr}(h:tF N N' k scope sc=true)(hc:sc.names.all (λy=>y.2 != .cell)=true) :
  CompOk (bw X N sc cl s2 H2 fp C) N' k scope:=by
 have q:CompOk { X with N:=N,env:={ X.env with scope:=sc } } N' k scope:=bT h rfl rfl;refine⟨q.kind,q.len,q.nocell,q.names,q.outer,λy hy hf=>?_⟩;rcases q.free y hy hf with z|z
 ·exfalso;have z':sc.names.lookup y.1=some .cell:=z;rw[gh]at hc;have:∀(l:List (Str×NameKind)) (x:Str),(∀y∈l,y.2≠.cell)->l.lookup x≠some .cell:=λl x=>by
   induction l with
   | nil=>intro _ e;cases e
   | cons a l ih =>
    intro hl e;rw[ib]at e;split at e
    ·exact hl a (by simp) (by simpa using e)
    ·exact ih (λy hy=>hl y (by simp[hy])) e
  exact this _ _ (λy hy=>by simpa using hc y hy) z'
 ·exact g9 (env:=X.env) (names:=sc.names) z
end L4
namespace HT
end HT
namespace PySem
open Sem (wp)
open AutoSeq1 (wpAny_loadPart')
end PySem
namespace L3
open PySem PySem.Spec PyProof.Rows L2 L4
def B4{X:Cx}{pins:zzk}{Z:L2.St}{H:Hp}{s:Shared}{e it:Addr}{i:Nat}{x:V}{x':Value}{tk:Nat}{h2:Heap}(I:Inv X pins Z H s)(fe:lB X pins H e)(ft:lB X pins H it)(ru:RelV x x')
  (keep2:∀b o,b≠e->b≠it->s.heap.get? b=some o->h2.get? b=some o) (tup2:h2.get? s.heap.objs.size=some { cls:=.type "tuple",data:=.seq #[.int i tk,x'] }) :
  Inv X pins Z (upd H s.heap.objs.size (.tup [.int i,x])) { s with heap:=h2,toks:=tk+1 }:=by
 refine Bq (ch:=[e,it]) I (λc hc=>?_) (⟨tk,rfl⟩:RelV (.int i) (.int i tk)) ru (λb o hch q=>keep2 b o (λz=>hch (by rw[z];exact am)) (λz=>hch (by rw[z];exact zzg _ am)) q) tup2;rcases List.mem_cons.mp hc with rfl|hb
 ·exact fe
 ·rw[List.mem_singleton.mp hb];exact ft
def u9(ds:List D):List D:=ds.zipIdx.map λp=>PyData.tuple [.int (p.2:Int),p.1]
def kX(ds:List D):(u9 ds).length=ds.length:=by simp[u9]
end L3
namespace L4
open PySem PySem.Spec PyProof.Rows L2 L3
variable {G:Gh}{F:Hp}{Z:L2.St}{ρ:En}{p:Addr}{o:HO}
def Gh.add(G:Gh)(p:Addr)(o:HO):Gh:={ G with O:=upd G.O p o }
def _root_.L3.StOk.hold{K:Fg}{H:Hp}(S:StOk K G F Z H ρ)(hp:H p=some o)(fp:F p=none)(ne:∀(i:Nat) (e:OC),own ρ i e->Z[i]? ≠ some (some (V.ref p)))(nt:Aq o:=by exact True.intro):StOk K (Gh.add G p o) F Z H ρ:=by
 refine⟨S.fh,λb u e=>?_,λb u e=>?_,S.ln,S.fz,λi c h=>?_,S.dj,S.pp,S.pq,S.fb⟩
 ·by_cases hb:b=p
  ·subst hb;rw[show(Gh.add G b o).O b=some o from aT]at e
   cases e;exact hp
  ·rw[show(Gh.add G p o).O b=G.O b from aI hb]at e;exact S.oh b u e
 ·by_cases hb:b=p
  ·subst hb;rw[show(Gh.add G b o).O b=some o from aT]at e
   cases e
   exact⟨fp,nt⟩
  ·rw[show(Gh.add G p o).O b=G.O b from aI hb]at e;exact S.fo b u e
 ·obtain⟨a,e,oa⟩:=S.ow i c h;refine⟨a,e,oa.nf,?_,oa.he⟩;have:a≠p:=λz=>ne i c h (by rw[e,z])
  exact(show(Gh.add G p o).O a=G.O a from aI this).trans oa.no
def _root_.L3.StOk.unhold{K:Fg}{H:Hp}(hn:G.O p=none)(S:StOk K (Gh.add G p o) F Z H ρ) :
  StOk K G F Z H ρ/\H p=some o/\F p=none/\∀(i:Nat) (e:OC),own ρ i e->Z[i]? ≠ some (some (V.ref p)):=by
 have at_p:(Gh.add G p o).O p=some o:=aT;have tP:∀b,b≠p->(Gh.add G p o).O b=G.O b:=λb hb=>aI hb
 have nb:∀b u,G.O b=some u->b≠p:=λb u e z=>by rw[z,hn]at e;cases e
 refine⟨⟨S.fh,λb u e=>S.oh b u ((tP b (nb b u e)).trans e),λb u e=>S.fo b u ((tP b (nb b u e)).trans e),S.ln,S.fz,λi c h=>?_,S.dj,S.pp,S.pq,S.fb⟩,S.oh p o at_p,(S.fo p o at_p).1,λi c h e=>?_⟩
 ·obtain⟨a,e,oa⟩:=S.ow i c h;have:a≠p:=λz=>by have:=oa.no;rw[z,at_p]at this;cases this
  exact⟨a,e,oa.nf,(tP a this).symm.trans oa.no,oa.he⟩
 ·obtain⟨a,e',oa⟩:=S.ow i c h;rw[e]at e';injection e' with e';injection e' with e';injection e' with e';have:=oa.no;rw[<-e',at_p]at this
  cases this
def W.held{X:Cx}{α:Type}{m:M α}{C:α->Hp->Hp->Prop}(hn:G.O p=none)(h:W X G F Z ρ m C) :
  W X (Gh.add G p o) F Z ρ m λa F' H'=>C a F' H':=by
 cases m with
 | ret a=>exact λF2 H2 s2 S2=>h F2 H2 s2 (S2.unhold hn).1
 | exc x =>
  have nb:∀b u,G.O b=some u->b≠p:=λb u e z=>by rw[z,hn]at e;cases e
  have tP:∀b u,G.O b=some u->(Gh.add G p o).O b=some u:=λb u e=>(show(Gh.add G p o).O b=G.O b from aI (nb b u e)).trans e
  exact λF' H' s' a C dd pins Z g fz I xs hp xr=>h F' H' s' a C dd pins Z ⟨g.fh,λb u e=>g.oh b u (tP b u e),λb u e=>g.fo b u (tP b u e),g.fb⟩ fz I xs hp xr
 | bad=>exact h
def Il(pa:Pu (List D))(pb:Pu D):Pu (List D):=λρ=>bd (pa ρ) λds=>bd (pb ρ) λy=>oM (oO (.list ds) y)
def Hc{X:Cx}{a b:Expr}{pos:Pos}{pa:Pu (List D)}{pb:Pu D}(ha:AL X a pa)(hb:AO X b pb):AL X (.BinOp a .Mult b pos) (Il pa pb) :=
 λG F Z H ρ Q S w=>sem (Bo Gg aN aN) (ha G F Z H ρ _ S (w.bind.imp λds F1 H1 s1 S1 w1 v fr=>by
  obtain⟨p,rfl,oa,ne⟩:=fr;obtain⟨vs,h1,h2⟩:=oa.he;have S1':=S1.hold h1 oa.nf ne;refine hb (Gh.add G p (.lst vs)) F1 Z H1 ρ _ S1' ((W.held oa.no w1.bind).imp λy F2 H2 s2 S2 w2 u hu=>?_);obtain⟨S2',g1,g2,g3⟩:=S2.unhold oa.no;obtain⟨res,e,kk⟩:=w2.opt
  cases y<;>try (cases e)
  rename_i k';dsimp only[oO]at e;split at e
  case isFalse=>cases e
  rename_i hc
  cases e
  simp only[ai,zzi]at hc;have hi:u=.int k':=(hu.or S2).int;subst hi;refine⟨p,k',vs,rfl,rfl,g1,hc.1.1,hc.1.2,by rw[h2.length];exact hc.2,λq hq=>?_⟩;obtain⟨S3,r3⟩:=S2'.newLst hq (RepL.rep (h2.mono s2) k'.toNat)
  exact kk F2 _ (Same.refl _) S3 _ r3))
end L4
namespace HT
end HT
namespace L4
open PySem PySem.Spec PyProof.Rows L2 L3 PySem.W
section
variable {prog:Program}{w:World}{A:Around}{E:zzj}{K:Frag}{C D fI:Addr}{h:Heap}{g:Array GenState}{d:Drawn}{t:Nat}{os:OsState}{rest:List Value}
abbrev wD(h:Heap)(C:Addr)(rest:List Value):Heap:=(h.push { cls:=.type "tuple",data:=.seq rest.toArray }).push { cls:=.ref C,data:=.fields #[.ref h.objs.size,.none,.none,.none,.bool false,.none] }
def qZ{b:Addr}{o:Obj}(q:h.get? b=some o):(wD h C rest).get? b=some o:=zzc _ (zzc _ q)
def yF:(wD h C rest).get? (h.objs.size+1)=some { cls:=.ref C,data:=.fields #[.ref h.objs.size,.none,.none,.none,.bool false,.none] }:=by
 have z:=zze (h.push { cls:=.type "tuple",data:=.seq rest.toArray }) (o:={ cls:=.ref C,data:=.fields #[.ref h.objs.size,.none,.none,.none,.bool false,.none] }) rfl
 rwa [xt]at z
def td(X:K.In h)(c:XC K C D fI){Q:Fin->Shared->Prop}(hz:rest.length<=sizeLine)
  (hq:wpAny (model prog w) A (call (.ref fI) (.ref (h.objs.size+1)::rest)) (λr s'=>r=.none/\Q (.done (.ret (.ref (h.objs.size+1)))) s') E ⟨wD h C rest,g,d,t,os⟩) :
  wpAny (model prog w) A (Builtin.«type.__call__» ⟨.ref C::rest,[]⟩) Q E ⟨h,g,d,t,os⟩:=by
 obtain⟨nm,q,N,bs,sn,sub,ab,col,dd,k0,k1,k2,k3,k5,lk⟩:=c.obj;have hC:=X _ _ lk;have T:OwnTail h bmV (.ref D::bmV):=tail_of_in X c.tl;have B:=F.excBase_ValueError
 repeat (first|with_reducible refine Lb hC ?_|with_reducible refine wpAny_madeBy_exc hC ?_|wp_step)
 refine codeAny_call_builtin_code (K8 _ B.quiet) (wpAny_check_new_subT B T hC (codeAny_exc_new_subT B T hC ?_ hz));show wpAny _ _ _ _ _ _;have X1:K.In (wD h C rest):=X.keeps λb o z=>qZ z
 have LI:=looks_findIn (M:=model prog w) X1 c.ini;have LB:=bind_fn (M:=model prog w) X1 (.ref (h.objs.size+1)) c.fn;have hC1:=qZ (rest:=rest) (C:=C) hC;have yes:(Value.ref C::.ref D::bmV).contains (.ref C)=true:=by simp
 unfold isInstance
 repeat (first|with_reducible refine Lb yF ?_|(with_reducible refine wpAny_isSubtype_exc hC1 ?_;rw[yes])|wp_step)
 show wpAny _ _ (typeLookup (.ref C) _) _ _ _;refine LI.at ?_;refine om (zza (LB.at ?_));refine zza (li hq (λr s' z=>?_) λ_ _ z=>z);obtain⟨rfl,z⟩:=z
 wp_walk
 exact z
def call_exc(X:K.In h)(c:XC K C D fI){Q:zzj}(hz:rest.length<=sizeLine)
  (hq:wpAny (model prog w) (A.under (.builtin "type.__call__" ⟨.ref C::rest,[]⟩)) (call (.ref fI) (.ref (h.objs.size+1)::rest)) (λr s'=>r=.none/\Q (.ref (h.objs.size+1)) s') E ⟨wD h C rest,g,d,t,os⟩) :
  wpAny (model prog w) A (call (.ref C) rest) Q E ⟨h,g,d,t,os⟩:=by
 obtain⟨nm,q,N,bs,sn,sub,ab,col,dd,k0,k1,k2,k3,k5,lk⟩:=c.obj;have hC:=X _ _ lk;have f1:=tc_lookup;have f2:=tc_bind (.ref C);have ty:(⟨h,g,d,t,os⟩:Shared).TypeIs (.ref C) "type":=⟨_,hC,rfl⟩;refine wpAny_call (codeAny_of_tree ?_);show wpAny _ _ (callAny (.ref C) _) _ _ _
 repeat (any_goals (first|assumption|with_reducible refine Lb hC ?_|wp_step))
 refine⟨rfl,codeAny_call_builtin_at (K8 _ (by decide +kernel)) entry_typeCall (wpAny_check_type_call_sub hC (td X c hz ?_))⟩;exact hq
end
end L4
namespace L4
open PySem PySem.Spec PyProof.Rows L2 L3
variable {C e fI:Addr}{X:Cx}{H H' F:Hp}{pos:Pos}{E:zzj}{Z:L2.St}{A:Around}{K:Fg}{pins:zzk}{Q:Unit->Shared->Prop}{w:World}{dd:Option Addr}{f x n:Str}{k:Nat}{fl:List Str}
def XN(e C:Addr)(dd:Option Addr):Heap->Prop:=λh=>∃oe vs,h.get? e=some oe/\oe.cls=.ref C/\oe.dict=dd/\oe.data=.fields vs/\1<vs.size/\vs[1]? = some .none
section
variable {P:Program} {h h':Heap} {dx:Addr} {fs:List (Str×V)}
def XN.ok(x:XN e C dd h):ObjOk P w H' h e (.ext (XN e C dd)):=by
 obtain⟨oe,vs,q,r⟩:=x;exact⟨⟨oe,vs,q,r⟩,⟨oe,q⟩,λh1 h2 ⟨o,vs,z,r⟩ k=>⟨o,vs,k o z,r⟩⟩
def XD.ok(x:XD dx fs h):ObjOk P w H' h dx (.ext (XD dx fs)):=by
 obtain⟨mA,n,r⟩:=x;obtain⟨o,es,ep,q,z⟩:=id n;exact⟨⟨mA,n,r⟩,⟨o,q⟩,λh1 h2 ⟨m,n,r⟩ k=>⟨m,n.at λo q=>k o q,r⟩⟩
def Hq{fr:List Addr}{o1 o2:HO}(ea:∃φ,H e=some (.ext φ))(hd:h.objs.size<=dx)(hn:H dx=none)(heo:∃o,h'.get? e=some o)(k:∀b o,b≠e->h.get? b=some o->h'.get? b=some o):Un fr [] H (upd (upd H dx o1) e o2) h h':=by
 obtain⟨φ,ea⟩:=ea;have nd:∀b o,h.get? b=some o->b≠dx:=λb o q=>bj (bo (ax q) hd)
 have ne:∀b,H b=none->b≠e:=λb n z=>by subst z;rw[ea]at n;cases n
 have kp:∀b u,H b=some u->(∀φ,u≠.ext φ)->(upd (upd H dx o1) e o2) b=some u:=λb u q nu=>by
  rw[aI (λz=>by subst z;rw[ea]at q;cases q;exact nu _ rfl),aI (λz=>by subst z;rw[hn]at q;cases q)];exact q
 refine⟨λb o q n _ _=>k b o (ne b n) q,λb o q n _ _=>⟨o.slots,k b o (ne b n) q⟩,λb o q n _=>?_,λb o q _=>?_,λb xs q=>kp b _ q (λ_ z=>by cases z),λb o u q=>kp b _ q (λ_ z=>by cases z),λb ps q=>⟨#[],?_⟩⟩
 ·rw[aI (ne b n),aI (nd b o q)];exact n
 ·by_cases z:b=e
  ·subst z;exact heo
  ·exact⟨o,k b o z q⟩
 ·rw[kp b _ q (λ_ z=>by cases z)];simp
def GP{o1 o2:HO}(ok:HOk P w H h)(ea:∃φ,H e=some (.ext φ))(hn:H dx=none)(k:∀b o,b≠e->h.get? b=some o->h'.get? b=some o)
  (h1:ObjOk P w (upd (upd H dx o1) e o2) h' dx o1) (h2:ObjOk P w (upd (upd H dx o1) e o2) h' e o2):HOk P w (upd (upd H dx o1) e o2) h':=λa o q=>by
 obtain⟨φ,ea⟩:=ea;have kp:∀b u,H b=some u->(∀φ,u≠.ext φ)->(upd (upd H dx o1) e o2) b=some u:=λb u r nu=>by
  rw[aI (λz=>by subst z;rw[ea]at r;cases r;exact nu _ rfl),aI (λz=>by subst z;rw[hn]at r;cases r)];exact r
 by_cases z:a=e
 ·subst z;rw[aT]at q;cases q;exact h2
 ·rw[aI z]at q;by_cases y:a=dx
  ·subst y;rw[aT]at q;cases q;exact h1
  ·rw[aI y]at q;refine(ok a o q).stay (λb u hb r=>k b u (λx=>?_) r) (λb r=>kp b _ r (λ_ z=>by cases z)) λb xs r=>kp b _ r (λ_ z=>by cases z)
   subst x;rcases hb with rfl|hb
   ·exact z rfl
   ·rw[ea]at hb;cases hb
end
section
variable {s:Shared} {D dx:Addr} {y:V} {u:Value} {fs:List (Str×V)}
def HC(I:Inv X pins Z H s)(ea:H e=some (.ext (XN e C none)))(c:XC X.K C D fI)(n:NoAttr X.K C f)(ry:RelV y u)
  (h:∀s' dx,H dx=none->dx≠e->Inv X pins Z (upd (upd H dx (.ext (XD dx [(f,y)]))) e (.ext (XN e C (some dx)))) s'->Q () s'):wpAny (model X.prog X.w) A (setAttr (.ref e) f u) Q E s:=by
 obtain⟨⟨oe,vs,q,q1,q2,q3,q4,q5⟩,_⟩:=I.hok e _ ea;obtain⟨cd,k1,k2,k3⟩:=tG c;refine AN (bmB:=bmV) I.kIn q q1 (by unfold PySem.W.notCls;rw[q3]) q2 c.sa k1 k2 k3 n λh' dx tk hd ns he kp=>?_
 have hn:H dx=none:=I.hok.fresh hd;have nx:dx≠e:=λz=>by subst z;rw[ea]at hn;cases hn
 have xn:XN e C (some dx) h':=⟨_,vs,he,q1,rfl,q3,q4,q5⟩;have xd:XD dx [(f,y)] h':=by
  refine⟨_,ns,λg hg=>?_,λg=>?_⟩
  ·by_cases z:g=f
   ·subst z;exact List.mem_singleton.mpr rfl
   ·exact absurd (show(if g=f then some u else none)=none from ac z) hg
  ·by_cases z:g=f
   ·subst z;rw[show List.lookup g [(g,y)]=some y by simp[List.lookup],show(if g=g then some u else none)=some u from ak rfl];exact ry
   ·rw[show List.lookup g [(f,y)]=none by simp[List.lookup,beq_eq_false_iff_ne.mpr z],show(if g=f then some u else none)=none from ac z];exact True.intro
 exact h _ dx hn nx (I.un (Hq ⟨_,ea⟩ hd hn ⟨_,he⟩ kp) (GP I.hok ⟨_,ea⟩ hn kp xd.ok xn.ok))
theorem HB(I:Inv X pins Z H s)(ea:H e=some (.ext (XN e C (some dx))))(hd:H dx=some (.ext (XD dx fs)))(c:XC X.K C D fI)(n:NoAttr X.K C f)(hl:fs.length<=900)(ry:RelV y u)
  (h:∀s',Inv X pins Z (upd H dx (.ext (XD dx (dS f y fs)))) s'->Q () s'):wpAny (model X.prog X.w) A (setAttr (.ref e) f u) Q E s:=by
 obtain⟨⟨oe,vs,q,q1,q2,q3,q4,q5⟩,_⟩:=I.hok e _ ea;obtain⟨⟨mA,na,wi,r⟩,_⟩:=I.hok dx _ hd;obtain⟨cd,k1,k2,k3⟩:=tG c;have ne:dx≠e:=λz=>by
  subst z;obtain⟨o,es,ep,z1,z2,_⟩:=na;rw[q]at z1;cases z1;rw[q3]at z2;cases z2
 refine AM (D:=D) I.kIn q q1 (by unfold PySem.W.notCls;rw[q3]) q2 ne na wi (by rw[zzd];omega) c.sa k1 k2 k3 n λh' tk ns kp=>?_
 have xd:XD dx (dS f y fs) h':=by
  refine⟨_,ns,λg hg=>?_,λg=>?_⟩
  ·by_cases z:g=f
   ·rw[z];exact(gQ f y fs).1
   ·refine(gQ f y fs).2 g (wi g λz'=>hg ?_);show(if g=f then some u else mA g)=none;rw[ac z];exact z'
  ·show RelO ((dS f y fs).lookup g) (if g=f then some u else mA g);rw[iX];by_cases z:g=f
   ·rw[ak z,ak z];exact ry
   ·rw[ac z,ac z];exact r g
 obtain⟨o',es',ep',z',_⟩:=id ns;exact h _ (I.write (x:=dx) (e:=dx) (by rw[hd];exact True.intro) (.inl rfl) (λb o nb z=>kp b o nb z) ⟨o',z'⟩ xd.ok)
end
def sX1(C:Addr)(f:Str)(i:Nat):TS:=λD Z H=>∃e y,Z[0]? = some (some (.ref e))/\Z[i]? = some (some y)/\H e=some (.ext (XN e C none))/\∀dx,H dx=none->dx≠e->D.nx Z (upd (upd H dx (.ext (XD dx [(f,y)]))) e (.ext (XN e C (some dx))))
def sX2(C:Addr)(f:Str)(i:Nat):TS:=λD Z H=>∃e y dx fs,Z[0]? = some (some (.ref e))/\Z[i]? = some (some y)/\H e=some (.ext (XN e C (some dx)))/\H dx=some (.ext (XD dx fs))/\fs.length<=900/\D.nx Z (upd H dx (.ext (XD dx (dS f y fs))))
section
variable {D:Addr} {o value:Expr} {i:Nat} {pos':Pos}
def Ic(c:XC X.K C D fI)(n:NoAttr X.K C f)(ha:PE X o (zy 0))(hv:PE X value (zy i))(hs:swapsWith value (some (.Attribute o f pos')) pos.line X.env=pure false):PS X (.Assign [.Attribute o f pos'] value pos) (sX1 C f i):=by
 intro pins s Z H Dd I h;obtain⟨e,y,h0,hi,he,k⟩:=h;refine Lh (thn (hv pins s Z H (λv H'=>v=y/\H'=H) I ⟨y,hi,rfl,rfl⟩) λu s1 ⟨y',H1,I1,ry,e1,e2⟩=>thn (ha pins s1 Z H1 (λv H'=>v=.ref e/\H'=H) (by rw[e2]at I1 ⊢;exact I1) ⟨_,h0,rfl,e2⟩) λov s2 ⟨x,H2,I2,rx,e3,e4⟩=>?_) hs;subst e1 e2 e3 e4;obtain rfl:ov=Value.ref e:=rx;exact HC I2 he c n ry λs3 dx hn ne I3=>⟨Z,_,I3,k dx hn ne⟩
def Ib(c:XC X.K C D fI)(n:NoAttr X.K C f)(ha:PE X o (zy 0))(hv:PE X value (zy i))(hs:swapsWith value (some (.Attribute o f pos')) pos.line X.env=pure false):PS X (.Assign [.Attribute o f pos'] value pos) (sX2 C f i):=by
 intro pins s Z H Dd I h;obtain⟨e,y,dx,fs,h0,hi,he,hd,hl,k⟩:=h;refine Lh (thn (hv pins s Z H (λv H'=>v=y/\H'=H) I ⟨y,hi,rfl,rfl⟩) λu s1 ⟨y',H1,I1,ry,e1,e2⟩=>thn (ha pins s1 Z H1 (λv H'=>v=.ref e/\H'=H) (by rw[e2]at I1 ⊢;exact I1) ⟨_,h0,rfl,e2⟩) λov s2 ⟨x,H2,I2,rx,e3,e4⟩=>?_) hs;subst e1 e2 e3 e4;obtain rfl:ov=Value.ref e:=rx;exact HB I2 he hd c n hl ry λs3 I3=>⟨Z,_,I3,k⟩
end
def spI(C:Addr)(fl:List Str):Sp:=λvs H Q _=>∃e args,vs=.ref e::args/\args.length=fl.length/\H e=some (.ext (XN e C none)) /\
 ((fl=[]/\Q .non H)\/(fl≠[]/\∀dx,H dx=none->dx≠e->Q .non (upd (upd H dx (.ext (XD dx (fl.zip args)))) e (.ext (XN e C (some dx))))))
section
variable {P:Program} {mg:zzl} {base:Heap} {qual:Str} {st:Stmt} {f:Addr} {fd:FuncData} {D:Addr} {f1 f2 q1 q2 self:Str} {a1 a2 a3 a4 b1 b2 b3 b4:Pos}
theorem IP(Fn:Fun K "__init__" qual st f fd)(Sc:FnScope [self,q1,q2] [self,q1,q2] (aE st))(hb:bS st=[.Assign [.Attribute (.Name self a1) f1 a2] (.Name q1 a3) a4,.Assign [.Attribute (.Name self b1) f2 b2] (.Name q2 b3) b4])(c:XC K C D f)(n:NoAttr K C f1)(n2:NoAttr K C f2)(ne12:f1≠f2)
  (v0:Vis (aE st) self:=by first|exact Or.inl rfl|exact Or.inr (Or.inl rfl)|exact Or.inr (Or.inr rfl)) (v1:Vis (aE st) q1:=by first|exact Or.inl rfl|exact Or.inr (Or.inl rfl)|exact Or.inr (Or.inr rfl)) (v2:Vis (aE st) q2:=by first|exact Or.inl rfl|exact Or.inr (Or.inl rfl)|exact Or.inr (Or.inr rfl))
  (d0:(self==("__debug__" : Str))=false:=by decide) (d1:(q1==("__debug__" : Str))=false:=by decide) (d2:(q2==("__debug__" : Str))=false:=by decide) (c0:(self==("__classdict__" : Str))=false:=by decide) (c1:(q1==("__classdict__" : Str))=false:=by decide) (c2:(q2==("__classdict__" : Str))=false:=by decide):FnOk P w K mg base (CX1 P w) (k+1) f fd [self,q1,q2] (spI C [f1,f2]):=by
 refine Af Fn Sc (λvs H Q E h=>?_) (λcdv A outer s H vs Q E hr h=>?_)
 ·obtain⟨e,args,rfl,hl,_⟩:=h;simp at hl ⊢;exact hl
 ·obtain⟨e,args,rfl,hl,he,h⟩:=h
  match args,hl with
  | [y,z],_ =>
   rw[hb];refine⟨_,oC (Ic (i:=1) c n (dh rfl v0 d0 c0) (dh rfl v1 d1 c1) rfl) (oC (Ib (i:=2) c n2 (dh rfl v0 d0 c0) (dh rfl v2 d2 c2) rfl) yl),e,y,rfl,rfl,he,λdx hn ne=>?_⟩;rcases h with ⟨h,_⟩|⟨_,h⟩
   ·cases h
   ·refine⟨e,z,dx,[(f1,y)],rfl,rfl,aT,by rw[aI ne,aT],by simp,?_⟩;have e1:dS f2 z [(f1,y)]=[(f1,y),(f2,z)]:=by
     show(if f1=f2 then(f1,z)::[]else(f1,y)::dS f2 z [])=_;rw[ac ne12];rfl
    have e2:∀(a b:HO),upd (upd (upd H dx a) e b) dx (.ext (XD dx [(f1,y),(f2,z)]))=upd (upd H dx (.ext (XD dx [(f1,y),(f2,z)]))) e b:=λa b=>by
     funext q;unfold upd;by_cases q1:q=dx
     ·rw[ak q1];rw[ac (λz=>ne (q1▸z)),ak q1]
     ·rw[ac q1];by_cases q2:q=e
      ·rw[ak q2,ak q2]
      ·rw[ac q2,ac q2,ac q1,ac q1]
    rw[e1];show Q .non _;rw[e2];exact h dx hn ne
end
section
variable {M:Model} {s:Shared} {env:Env} {D:Addr}
def uA{x:Sem Value}{Q:Flow->Shared->Prop}(c:XC K C D fI)(hh:A.handled=none)
  (h:wpAny M A x (λv s1=>∃e oe vs,v=.ref e/\K.In s1.heap/\s1.heap.get? e=some oe/\oe.cls=.ref C/\oe.data=.fields vs/\vs[1]? = some .none/\E (.ref e) s1) E s) :
  wpAny M A (raiseStmt env (some x) none) Q E s:=by
 obtain⟨nm,q,N,bs,sn,sub,ab,col,dd,k0,k1,k2,k3,k5,lk⟩:=c.obj;have isB:(Value.ref C::.ref D::bmV).contains (.type "BaseException")=true:=by rfl
 unfold raiseStmt;refine zza (li h (λv s1 z=>?_) λ_ _ z=>z);obtain⟨e,oe,vs,rfl,X,he,hc,hd,h1,hE⟩:=z;obtain⟨hp,g,d,t,os⟩:=s1;have hC:=X _ _ lk
 repeat (first|(with_reducible refine Lb he ?_;rw[hc])|with_reducible refine Lb hC ?_|(with_reducible refine wpAny_isSubtype_exc hC ?_;rw[isB])|with_reducible refine ut he hd h1 ?_|wp_step)
 exact wpAny_raiseNew_none hh hE
end
def MadeX(H H':Hp)(e C:Addr)(fl:List Str)(vs:List V)(dd:Option Addr):Prop :=
 (fl=[]/\dd=none/\H'=upd H e (.ext (XN e C none)))\/(fl≠[]/\∃dx,dd=some dx/\H dx=none/\dx≠e/\H'=upd (upd (upd H e (.ext (XN e C none))) dx (.ext (XD dx (fl.zip vs)))) e (.ext (XN e C (some dx))))
section
variable {s:Shared} {D:Addr} {fd:FuncData} {ps:List Str} {us:List Value} {vs:List V} {Q:zzj}
def BW(I:Inv X pins Z H s):Inv X pins Z (upd H (s.heap.objs.size+1) (.ext (XN (s.heap.objs.size+1) C none))) { s with heap:=wD s.heap C us }:=by
 have I1:=I.kept (h':=s.heap.push { cls:=.type "tuple",data:=.seq us.toArray }) (t':=s.toks) λb u q=>zzc _ q
 refine I1.laid (a:=s.heap.objs.size+1) (t':=s.toks) (h':=wD s.heap C us) (λb u q=>zzc _ q) (Nat.le_of_eq (xt _ _)) ?_;exact XN.ok ⟨_,_,yF,rfl,rfl,rfl,(show 1<6 from by decide),rfl⟩
def zI(c:XC X.K C D fI)(Fn:FnOk X.prog X.w X.K X.mg X.base (CX1 X.prog X.w) k fI fd ps (spI C fl))(hr:Room (k+1) X.A)(hb:L2.Binds X.K fd ps [])(I:Inv X pins Z H s)(r:Vals vs us)(hl:vs.length=fl.length)(hz:us.length<=sizeLine)
  (h:∀e dd H' s',s.heap.objs.size<=e->Inv X pins Z H' s'->MadeX H H' e C fl vs dd->H' e=some (.ext (XN e C dd))->Q (.ref e) s'):wpAny (model X.prog X.w) X.A (call (.ref C) us) Q E s:=by
 have I2:=BW (C:=C) (us:=us) I;have hn:H (s.heap.objs.size+1)=none:=I.hok.fresh (LH _);obtain⟨hp,g,d,t,os⟩:=s;have sp:∀E',spI C fl (V.ref (hp.objs.size+1)::vs) (upd H (hp.objs.size+1) (.ext (XN (hp.objs.size+1) C none))) (λv H'=>v=.non/\∃dd,MadeX H H' (hp.objs.size+1) C fl vs dd/\H' (hp.objs.size+1)=some (.ext (XN (hp.objs.size+1) C dd))) E':=by
  intro E';refine⟨_,vs,rfl,hl,aT,?_⟩;by_cases z:fl=[]
  ·exact .inl ⟨z,rfl,none,.inl ⟨z,rfl,rfl⟩,aT⟩
  ·exact .inr ⟨z,λdx q ne=>⟨rfl,some dx,.inr ⟨z,dx,rfl,by rw[aI ne]at q;exact q,ne,rfl⟩,aT⟩⟩
 have r2:Vals (V.ref (hp.objs.size+1)::vs) (Value.ref (hp.objs.size+1)::us):=.cons rfl r;have hl2:((Value.ref (hp.objs.size+1)::us)++[]).length=ps.length:=by
  have e:=r2.length;rw[Fn.len _ _ _ _ (sp λ_ _ _=>False)]at e;rw[ig];exact e.symm
 refine call_exc I.kIn c hz (wpAny_call (Lf (Fn.run _ X.stack _ _ ⟨Value.ref (hp.objs.size+1)::us,[]⟩ (Value.ref (hp.objs.size+1)::us) _ _ (λ_ _ _=>False) (hr.make C us []) (I2.env0.make C us []) (by
  have:=hb _ (Value.ref (hp.objs.size+1)::us) I2.kIn hl2;rw[ig]at this
  exact this) r2 (sp _)) λr s' q=>?_))
 cases r with
 | error e=>obtain⟨_,_,_,_,_,_,_,_,_,_,z⟩:=q;exact z.elim
 | ok fl' =>
  cases fl' with
  | ret u =>
   obtain⟨v,H',I3,rv,ev,dd,mk,he⟩:=I2.after q;subst ev;exact⟨rv,h _ dd H' s' (LH _) I3 mk he⟩
  | next=>exact False.elim q
  | brk=>exact False.elim q
  | cont=>exact False.elim q
end
structure CCl(P:Program)(w:World)(K:Fg)(mg:zzl)(base:Heap)(x:Str)(k:Nat)(fl:List Str):Prop where
 ex:∃C D fI fd ps,XC K C D fI/\FnOk P w K mg base (CX1 P w) k fI fd ps (spI C fl)/\L2.Binds K fd ps []/\mg x=some (.ref C)/\XQ K C x/\PySem.W.keepIn K (.ref C)=true/\(∀f∈fl,NoAttr K C f)/\PySem.W.exmOne K (.ref C) (.ref C)=some true
def FE{S:Type}(x:Str)(fl:List Str)(ms:Ev S (List D)):SM S:=λK ρ=>ms K.x (λds ρ1=>K.x ⟨x,fl.zip ds⟩ ρ1) ρ
def CP:∀{fl:List Str} {vs:List V} {ds:List D},RepL K F vs ds->fl.length=vs.length->Paired (λ(p:Str×V) (q:Str×D)=>p.1=q.1/\Rep K F p.2 q.2) (fl.zip vs) (fl.zip ds)
:=by
 intro fl vs ds r h
 induction vs generalizing fl ds with
 | nil=>cases r;rw[List.zip_nil_right,List.zip_nil_right];exact .nil
 | cons v vs ih=>cases r with
  | cons a b=>cases fl with
   | nil=>cases h
   | cons f fl=>exact .cons ⟨rfl,a⟩ (ih b (Nat.succ.inj h))
section
variable {s:Shared} {vs:List V} {ds:List D} {G:Gh} {ρ:En}
def A6(I:Inv X pins Z H' s)(hs:X.s₀.heap.objs.size<=e)(hn:H e=none)(mk:MadeX H H' e C fl vs dd)(he:H' e=some (.ext (XN e C dd)))(St:StOk X.K G F Z H ρ)(r:RepL X.K F vs ds)(hl:fl.length=vs.length)
  (hc:XQ X.K C x) (xw:XW X G F ρ ⟨x,fl.zip ds⟩):X.xe (.ref e) s:=by
 obtain⟨⟨oe,ws,q1,q2,q3,q4,q5,q6⟩,_⟩:=I.hok e _ he;have I2:Inv X pins Z (upd H' e (.ext (XO e C dd))) s:=by
  have:=I.write (x:=e) (e:=e) (o:=.ext (XO e C dd)) (h':=s.heap) (t':=s.toks) (by rw[he];exact True.intro) (.inl rfl) (λb u _ z=>z) ⟨_,q1⟩ (XO.ok ⟨oe,q1,q2,q3,by unfold PySem.W.notCls;rw[q4]⟩);exact this
 have low:∀b u,b≠e->H b=some u->upd H' e (.ext (XO e C dd)) b=some u:=λb u ne z=>by
  rw[aI ne];rcases mk with ⟨_,_,rfl⟩|⟨_,dx,_,hd,_,rfl⟩
  ·rw[aI ne];exact z
  ·rw[aI ne,aI (λy=>by subst y;rw[hd]at z;cases z),aI ne];exact z
 have ne:∀b u,H b=some u->b≠e:=λb u z y=>by subst y;rw[hn]at z;cases z
 have xs:XS (upd H' e (.ext (XO e C dd))) s.heap X.s₀.heap.objs.size e C dd:=⟨hs,aT,oe,ws,q1,q2,q3,q4,q5,.inl q6⟩;have nt:∀b,¬ jD s.heap e b:=λb ⟨oe',vs',z1,z2,z3⟩=>by
  rw[q1]at z1;cases z1;rw[q4]at z2;cases z2;rw[q6]at z3;cases z3
 have fh0:Same F (upd H' e (.ext (XO e C dd))):=λb u z=>low b u (ne b u (St.fh b u z)) (St.fh b u z)
 have oh0:Same G.O (upd H' e (.ext (XO e C dd))):=λb u z=>low b u (ne b u (St.oh b u z)) (St.oh b u z)
 rcases mk with ⟨z,rfl,_⟩|⟨z,dx,rfl,hd,nx,rfl⟩
 ·subst z;refine xw F _ s e C none pins Z ⟨fh0,oh0,St.fo,St.fb⟩ (St.fzok (Same.refl _)) I2 xs (λp _=>nt p.1) ⟨hc,[],.inl ⟨rfl,rfl⟩,.nil⟩
 ·have fd:F dx=none:=St.fh.free hd;have od:G.O dx=none:=St.oh.free hd;have sm:Same F (upd F dx (.ext (XD dx (fl.zip vs)))):=eP fd;refine xw (upd F dx (.ext (XD dx (fl.zip vs)))) _ s e C (some dx) pins Z ⟨λb u z=>?_,oh0,λb u z=>?_,St.fb.trans sm⟩ (St.fzok sm) I2 xs (λp _=>nt p.1) ⟨hc,_,.inr ⟨dx,rfl,aT⟩,CP (r.mono sm) hl⟩
  ·by_cases y:b=dx
   ·subst y;rw[aT]at z
    cases z
    rw[aI nx,aI nx,aT]
   ·rw[aI y]at z;exact fh0 b u z
  ·rw[aI (aY z od)];exact St.fo b u z
end
section
variable {S:Type} {p cpos:Pos} {e:Expr} {es:List Expr} {ms:Ev S (List D)}
theorem vy(C:CCl X.prog X.w X.K X.mg X.base x k fl)(hr:Room (k+1) X.A)(hg:Gl X x)(ha:AEa X (e::es) ms)(hn:(e::es).length=fl.length)(hz:fl.length<=1000)
  (hdb:(x==("__debug__" : Str))=false) (he:starEach (e::es) X.env=(false,eval e X.env)::starEach es X.env) (hpl:(backTo cpos (starEach es X.env)).any (·.1)=false) :
  AS X (.Raise (some (.Call (.Name x p) (e::es) [] cpos)) none pos) (FE x fl ms):=by
 obtain⟨Cl,D,fI,fd,ps,c,Fn,hb,hm,hc,kp,_⟩:=C.ex;intro OK K G F Z H ρ E hO hX St ok eo;unfold mG;intro pins s I;rw[arm_exec_Raise];refine zza (Ba (uA c hr.hd ?_));refine zza (li (xv (kQ I hg hm (Lw (h₀:=X.base) I.ok.mod.kin kp (Q:=λv s1=>∃e oe vs,v=.ref e/\X.K.In s1.heap/\s1.heap.get? e=some oe/\oe.cls=.ref Cl/\oe.data=.fields vs/\vs[1]? = some .none/\X.xe (.ref e) s1) ?_ he hpl) hdb)) (λv s3 z=>zza (Ba (zzb z))) λ_ _ z=>z);have ar:eM X (e::es) Z H λvs H1=>∃F1 ρ1 ds,StOk X.K G F1 Z H1 ρ1/\vs.length=(e::es).length/\RepL X.K F1 vs ds/\OK (K.x ⟨x,fl.zip ds⟩ ρ1) :=
  ha OK K.x _ G F Z H ρ _ hO hX St ok λds vs F1 H1 ρ1 s1 S1 hl r1 o1=>⟨F1,ρ1,ds,S1,hl,r1,o1⟩
 unfold eM at ar;refine thn (ar cpos pins s I) λus s1 ⟨vs,H1,I1,rv,F1,ρ1,ds,S1,hl,r1,o1⟩=>⟨I1.kIn,?_⟩
 have hlv:vs.length=fl.length:=hl.trans hn;refine zI (vs:=vs) c Fn hr hb I1 rv hlv (by rw[List.nil_append,<-rv.length,hlv];exact jX hz) λa dd H2 s2 hs I2 mk hh=>?_
 obtain⟨⟨oe,ws,q1,q2,q3,q4,q5,q6⟩,_⟩:=I2.hok a _ hh;exact⟨a,oe,ws,rfl,I2.kIn,q1,q2,q4,q6,A6 I2 (cr I1.sz hs) (I1.hok.fresh hs) mk hh S1 r1 hlv.symm hc (hX F1 ρ1 _ o1)⟩
end
section
variable {prog:Program} {s:Shared} {env:Env}
def Ac{t:Expr}{b0:Stmt}{suite:List Stmt}{rest:List ExceptHandler}{Q:Flow->Shared->Prop}
  (h:wpAny (model prog w) (A.mark (some (.ref e))) (eval t env) (λc s1=>K.In s1.heap/\PySem.W.exmOne K (.ref C) c=some true/\(∃oe,s1.heap.get? e=some oe/\oe.cls=.ref C) /\
   wpAny (model prog w) (A.mark (some (.ref e))) (setFlight (.ref e) none) (λ_ s2=>wpAny (model prog w) (A.mark (some (.ref e))) (storeName env n (.ref e)) (λ_ s3 =>
    wpAny (model prog w) (A.mark (some (.ref e))) (execs (b0::suite) env) (λf s4=>wpAny (model prog w) A (do bindName env n .none;unbindBehindTheSuite env n pos) (λ_ s5=>Q f s5) E s4) (λ_ _=>False) s3) (λ_ _=>False) s2) (λ_ _=>False) s1) (λ_ _=>False) s) :
  wpAny (model prog w) A (handleBy (.ref e) env (.ExceptHandler (some t) (some n) (b0::suite) pos::rest)) Q E s:=by
 refine wpAny_handleBy_cons (codeAny_handlers_test (li h (λc s1 z=>?_) λ_ _ z=>z.elim)) (λz=>nomatch z);obtain⟨X,hx,⟨oe,he,hc⟩,k⟩:=z;have LT:PySem.W.Looks (model prog w) s1.heap (typeOf (.ref e)) (.ref C):=hc▸(PySem.W.Looks.ld he).andThen .now;obtain⟨hp,g,d,tk,os⟩:=s1;refine(PySem.W.exm_one (M:=model prog w) X LT hx).at ?_;refine codeAny_handlers_suite_as (li k (λ_ s2 k2=>li k2 (λ_ s3 k3=>li k3 (λf s4 k4=>k4) λ_ _ z=>z.elim) λ_ _ z=>z.elim) λ_ _ z=>z.elim)
theorem name_goes{m:zzl}(hl:env.kindOf n=some .local)(hn:s.heap.Ns env.locals m)(hk:env.scope.kind=.function)
  (k:∀h' v t',h'.Ns env.locals (λy=>if y=n then v else m y)->Heap.SameBut env.locals s.heap h'->Q () { s with heap:=h',toks:=t' }):wpAny (model prog w) A (do bindName env n .none;unbindBehindTheSuite env n pos) Q E s:=by
 have hc:(env.scope.kind==.class||(env.scope.kind==.module&&env.locals != env.globals))=false:=by rw[hk];rfl
 refine zza (Lc (wpAny_storeName_local hl hn (λh1 n1 b1=>?_) hc));simp only[unbindBehindTheSuite,unbindName];refine wpAny_onRaise (zza (wpAny_point (zza ?_)));unfold deleteName;simp only[hl,hc];rw[ac (by decide)];refine zza (wpAny_nsDel_keeps n1 λh2 v n2 b2=>?_);simp only[Lr,Option.isSome_some,wo,ls,yi];refine zzb (wpAny_point (k h2 v _ ?_ (b1.trans b2)));refine(show(λy=>if y=n then v else if y=n then some Value.none else m y)=(λy=>if y=n then v else m y)from ?_)▸n2;funext y;by_cases q:y=n
 ·rw[ak q,ak q]
 ·rw[ac q,ac q,ac q]
end
section
variable {s:Shared} {j:Nat}
def DL(I:Inv X pins Z H s)(hN:X.N.Nodup)(hj:X.N[j]? = some n)(hl:X.env.kindOf n=some .local)
  (k:∀s',Inv X pins (Z.set j none) H s'->Q () s'):wpAny (model X.prog X.w) A (do bindName X.env n .none;unbindBehindTheSuite X.env n pos) Q E s:=by
 obtain⟨m,hn,hv⟩:=id I.loc;refine name_goes hl hn I.ok.kind λh' v t' n1 b1=>k _ ?_
 have neL:∀b o,X.s₀.heap.get? b=some o->b≠X.env.locals:=λb o q=>bj (bo (ax q) I.ok.above)
 refine⟨I.ok,I.os,I.bare,⟨λb o q z hb hx=>?_,λb o q z hb hx=>?_,I.base.free,λb o q hx=>?_,I.base.tups,I.base.frzs,I.base.tbls⟩,⟨_,n1,λi x u q1 q2 q3=>?_⟩,λx c q=>?_,I.free,I.freeC,λp hp=>?_,λb o q=>?_,by simpa using I.len⟩
 ·exact(b1.2 b (neL b o q)).trans (I.base.keep b o q z hb hx)
 ·obtain⟨sl,r⟩:=I.base.slot b o q z hb hx;exact⟨sl,(b1.2 b (neL b o q)).trans r⟩
 ·obtain⟨o',r⟩:=I.base.there b o q hx;exact⟨o',(b1.2 b (neL b o q)).trans r⟩
 ·have ne:i≠j:=λz=>by
   subst z;have hi:i<Z.length:=by rw[I.len];exact(List.getElem?_eq_some_iff.mp q1).1
   rw[gn hi]at q2
   cases q2
  rw[eE (Ne.symm ne)]at q2;obtain⟨w',r,l⟩:=hv i x u q1 q2 q3;refine⟨w',r,?_⟩;rcases l with ⟨l1,l2⟩|⟨l1,c,l2,l3⟩
  ·refine .inl ⟨l1,?_⟩;have nx:x≠n:=λz=>by subst z;exact ne (oW hN q1 hj)
   show(if x=n then v else m x)=_;rw[ac nx];exact l2
  ·refine .inr ⟨l1,c,l2,?_⟩;obtain⟨oc,g1,g2⟩:=l3;exact⟨oc,(b1.2 c (I.cne x c l2)).trans g1,g2⟩
 ·obtain⟨v',oc,g1,g2⟩:=I.cell x c q;exact⟨v',oc,(b1.2 c (I.cne x c q)).trans g1,g2⟩
 ·obtain⟨g1,g2,g3,g4⟩:=I.pin p hp;exact⟨(b1.2 p.1 g3).trans g1,g2,g3,g4⟩
 ·refine(I.hok b o q).stay (λc u hc r=>(b1.2 c ?_).trans r) (λ_ r=>r) λ_ _ r=>r
  rintro rfl;rcases hc with z|z
  ·rw[<-z,I.free]at q;cases q
  ·rw[I.free]at z;cases z
abbrev cau(X:Cx)(e:Addr):Cx:={ X with A:=X.A.mark (some (.ref e)),calm:=false,xe:=λ_ _=>False }
def rD(I:Inv X pins Z H s):Inv (cau X e) pins Z H s :=
 ⟨⟨I.ok.mod,I.ok.kind,I.ok.glob,I.ok.blt,I.ok.above,I.ok.inj,I.ok.has,I.ok.cab,(λz=>nomatch z),I.ok.frames,I.ok.stk,I.ok.exf,I.ok.bs,I.ok.bsz,I.ok.noex,I.ok.exfs,I.ok.funs,I.ok.frf⟩,I.os,I.bare,I.base,I.loc,I.cell,I.free,I.freeC,I.pin,I.hok,I.len⟩
def xx(h:X.calm=true->X.A.handled=none)(I:Inv (cau X e) pins Z H s):Inv X pins Z H s :=
 ⟨⟨I.ok.mod,I.ok.kind,I.ok.glob,I.ok.blt,I.ok.above,I.ok.inj,I.ok.has,I.ok.cab,h,I.ok.frames,I.ok.stk,I.ok.exf,I.ok.bs,I.ok.bsz,I.ok.noex,I.ok.exfs,I.ok.funs,I.ok.frf⟩,I.os,I.bare,I.base,I.loc,I.cell,I.free,I.freeC,I.pin,I.hok,I.len⟩
end
def Jr(K:Fg)(ta:TE)(f:Str):TE:=λZ H Q=>ta Z H λx H1=>∃a C D fI dx fv v,x=.ref a/\XC K C D fI/\NoAttr K C f/\H1 a=some (.ext (XO a C (some dx)))/\H1 dx=some (.ext (XD dx fv))/\fv.lookup f=some v/\Q v H1
def FW{o:Expr}{ta:TE}(ha:PE X o ta)(hb:attributeBase o f X.env (eval o X.env)=eval o X.env):PE X (.Attribute o f pos) (Jr X.K ta f):=by
 intro pins s Z H Q I h;refine zk hb (thn (ha pins s Z H _ I h) λu s1 ⟨x,H1,I1,rx,a,C,D,fI,dx,fv,v,ex,c,n,h1,h2,l,q⟩=>?_);subst ex;obtain rfl:u=Value.ref a:=rx;obtain⟨⟨oe,q1,q2,q3,q4⟩,_⟩:=I1.hok a _ h1;obtain⟨⟨mA,na,wi,r⟩,_⟩:=I1.hok dx _ h2;obtain⟨cd,k1,k2,k3⟩:=tG c;obtain⟨od,z1,hlk⟩:=lS na;have It:PySem.W.InstAt s1.heap a oe C (some od):=⟨q1,q2,q4,by rw[q3];exact z1⟩;obtain⟨u,hu,ru⟩:=RelO.some_of (v:=v) (o:=mA f) (by rw[<-l];exact r f);have lk:PySem.W.lookIn f od=some (some u):=by rw[hlk,hu]
 refine DN I1.kIn It c.ga c.gr (by unfold PySem.W.mroIn;rw[k1,wS,k2];rfl) (PySem.W.findObj_own (by unfold PySem.W.hasDictIn;rw[k1];exact k3) n rfl lk) (rh ru) ⟨v,H1,I1.tok _,ru,q⟩
section
variable {M:Model} {s:Shared} {lo:Nat}
theorem flight_again(fs:List Addr)(xs:XS H s.heap lo e C dd)(k:∀h',Mv fs s.heap h' e->XS H h' lo e C dd->Q () { s with heap:=h' }):wpAny M A (setFlight (.ref e) none) Q E s:=by
 obtain⟨oe,vs,he,hc,hdd,hd,hz,tb⟩:=xs.obj;simp only[setFlight];rcases tb with tb|⟨T,oT,ts,tb,hTe,hTl,hTn,hT,hTd,t3⟩
 ·refine zza (ut he hd tb ?_);rw[ac (by decide)];exact zzb (k s.heap ⟨λ_ _ q _ _ _=>q,λb o q _ _=>⟨o.slots,q⟩,λb o q=>⟨o,q⟩⟩ xs)
 ·refine zza (ut he hd tb ?_);rw[ak (by simp)];have z3:3<ts.size:=(Array.getElem?_eq_some_iff.mp t3).1;have isT:jD s.heap e T:=⟨oe,vs,he,hd,tb⟩;have off:∀b,b≠T->(s.heap.update T (Obj.mapFields (·.setIfInBounds 3 ((none:Option Addr).elim Value.none λf=>rawInt f)))).get? b=s.heap.get? b:=λb hb=>ou _ _ (Ne.symm hb)
  have T0:(s.heap.update T (Obj.mapFields (·.setIfInBounds 3 ((none:Option Addr).elim Value.none λf=>rawInt f)))).get? T=some (oT.mapFields (·.setIfInBounds 3 ((none:Option Addr).elim Value.none λf=>rawInt f))):=ng _ hT (ul (ir hTd _));have nt:∀b,¬ jD s.heap e b->b≠T:=λb z q=>z (q▸isT)
  refine GU hT hTd z3 (k _ ⟨λb o q _ _ z=>(off b (nt b z)).trans q,λb o q _ z=>⟨o.slots,(off b (nt b z)).trans q⟩,λb o q=>?_⟩ ⟨xs.yg,xs.trk,oe,vs,(off e (Ne.symm hTe)).trans he,hc,hdd,hd,hz,.inr ⟨T,_,_,tb,hTe,hTl,hTn,T0,ir hTd _,by simp[z3]⟩⟩);by_cases z:b=T
  ·subst z;exact⟨_,T0⟩
  ·exact⟨o,(off b z).trans q⟩
end
def _root_.L3.StOk.setdead{G:Gh}{ρ:En}(S:StOk K G F Z H ρ){j:Nat}(hj:∀av,ρ[j]? ≠ some (some av))(u:Option V):StOk K G F (Z.set j u) H ρ:=by
 have ne:∀i av,ρ[i]? = some (some av)->i≠j:=λi av q z=>by subst z;exact hj av q
 have at_:∀i av,ρ[i]? = some (some av)->(Z.set j u)[i]? = Z[i]?:=λi av q=>eE (Ne.symm (ne i av q))
 have ao:∀i c,own ρ i c->(Z.set j u)[i]? = Z[i]?:=λi c q=>by rcases q with q|q<;>exact at_ i _ q
 refine⟨S.fh,S.oh,S.fo,by simpa using S.ln,λi d q=>by rw[at_ i _ q];exact S.fz i d q,λi c q=>by rw[ao i c q];exact S.ow i c q,λi k c e a q1 q2 z1 z2=>?_,λi a q=>?_,S.pq,S.fb⟩
 ·rw[ao i c q1]at z1;rw[ao k e q2]at z2;exact S.dj i k c e a q1 q2 z1 z2
 ·obtain⟨z1,c,z2⟩:=S.pp i a q;exact⟨by rw[at_ i _ z2];exact z1,c,z2⟩
theorem av(i:Nat)(hN:X.N[i]? = some x:=by rfl)(hv:Vis X.env.scope x:=by exact vi rfl)
  (hd:(x==("__debug__" : Str))=false:=by decide) (hcd:(x==("__classdict__" : Str))=false:=by decide):AP X (.Name x pos) (Gc i):=Hb hN hv hd hcd
end L4
namespace L3
open PySem PySem.Spec PyProof.Rows L2 L4
variable {K:Fg}
def gH{F F':Hp}{a:Addr}{vs:List V}(s:Same F F')(h:SqL K F a vs):SqL K F' a vs:=s.seq h
def Ei(K:Fg)(a:Addr):It :=
 ⟨λi H=>∃xs x,SqL K H a xs/\xs[i]? = some x,λi H y H'=>∃p x,(∀xs,SqL K H a xs->xs[i]? = some x)/\H p=none/\y=.ref p/\H'=upd H p (.tup [.int i,x]),λi H=>∃xs,SqL K H a xs/\xs.length<=i⟩
theorem vX{P:Program}{w:World}{elts:List Expr}{x1:Nat}{pos:Pos}(a it e:Addr)(hai:a≠it)(hei:e≠it)(hea:e≠a) :
  Turn P w K (.Tuple elts x1 pos) (Ei K a) [e,it] e (λi h=>(∃old,IsEnum h e it i old)/\h.IsListIter it a i) where
 mem:=by simp
 obj:=λi h st b hb=>by
  obtain⟨⟨old,he⟩,o,e1,c,d⟩:=st;rcases List.mem_cons.mp hb with rfl|hb
  ·exact⟨_,he,λv z=>nomatch z⟩
  ·rw[List.mem_singleton.mp hb];exact⟨o,e1,λv z=>by rw[d]at z;cases z⟩
 keep:=λi h h' st k=>by
  obtain⟨⟨old,he⟩,ht⟩:=st;exact⟨⟨old,k e (by simp) _ he⟩,ht.at λo e=>k it (by simp) o e⟩
 item:=by
  intro X hP hw hK hc i pins s Z H E I hf st hg;subst hP hw hK;obtain⟨xs,x,hq,hx⟩:=hg;obtain⟨its,rv,p,hz⟩:=I.list hq;obtain⟨u,hu,ru⟩:=rv.get hx;obtain⟨⟨old,he⟩,ht⟩:=st;have D:=Draws.list (prog:=X.prog) (w:=X.w) (A:=X.A.in1) (I.ok.hd hc) it a hai its.toArray;have hi:i<its.toArray.size:=by simpa using(List.getElem?_eq_some_iff.mp hu).1
  have fe:=hf e (by simp);have ft:=hf it (by simp);refine wpAny_pyNext_enum_itemD D he ⟨ht,p.isList⟩ hi hei (by simp[hei,hea]) λx' h' tk hP ho hs' hT hsz hk=>?_
  have ex:x'=u:=by
   have:its.toArray[i]? = some x':=hP;rw[Mg,hu]at this;exact(Option.some.inj this).symm
  subst ex;refine⟨_,rfl,wpAny_letOwnedTupleGo_enum ho λh2 he2 sb2=>?_⟩;have hpe:s.heap.objs.size≠e:=u8 (ax he);have hpi:s.heap.objs.size≠it:=by obtain⟨o,e1,_⟩:=ht;exact u8 (ax e1)
  have keep2:∀b o,b≠e->b≠it->s.heap.get? b=some o->h2.get? b=some o:=λb o h1 h2' q=>(sb2.2 b h1).trans (hk b o h1 h2' q)
  have tup2:h2.get? s.heap.objs.size=some { cls:=.type "tuple",data:=.seq #[.int i tk,x'] }:=(sb2.2 _ hpe).trans hT;have I1:Inv X pins Z (upd H s.heap.objs.size (.tup [.int i,x])) { s with heap:=h2,toks:=tk+1 }:=B4 I fe ft ru keep2 tup2;refine⟨.ref s.heap.objs.size,_,I1,rfl,⟨_,x,λys hy=>by rw[I.list_inj hy hq];exact hx,I.fresh,rfl,rfl⟩,⟨⟨_,by simpa using he2⟩,?_⟩,λb hb=>?_⟩
  ·obtain⟨o,e1,r⟩:=hs'.1;exact⟨o,(sb2.2 it (Ne.symm hei)).trans e1,r⟩
  ·rcases List.mem_cons.mp hb with rfl|hb
   ·rw[aI (Ne.symm hpe)];exact fe.1
   ·rw[List.mem_singleton.mp hb,aI (Ne.symm hpi)];exact ft.1
 done:=by
  intro X hP hw hK hc i pins s Z H E I hf st hg;subst hP hw hK;obtain⟨xs,hq,hx⟩:=hg;obtain⟨its,rv,p,hz⟩:=I.list hq;obtain⟨⟨old,he⟩,ht⟩:=st;obtain⟨g0,g1,g2,g3,g4,g5⟩:=hf it (by simp);have hl:=rv.length;have D:=Draws.list (prog:=X.prog) (w:=X.w) (A:=X.A.in1) (I.ok.hd hc) it a hai its.toArray;have hT:s.TypeIs (.ref e) "enumerate":=⟨_,he,rfl⟩;unfold pyNext
  refine zza (wpAny_attempt (K9 (name:=Str.ofString "__next__") hT F.slot_enumerate_next
   (wP F.slot_enumerate_next hT F.entry_enumerate_next ?_ (F.args_enumerate_next_1 _))))
  show wpAny _ _ (field (.ref e) 2 >>= _) _ _ _;refine zza (ut he rfl (x:=.ref it) rfl ?_);refine zza (wpAny_nextOf_list_end (I.ok.hd hc) ht p.isList (by simp;lia) λh' x he' hx'=>?_);obtain⟨o,ho,hcl⟩:=hx';refine zza (wpAny_isInstance (T := "StopIteration") (b:=true) ⟨o,ho,hcl⟩ isSubtype_stop ?_);exact zzb ⟨rfl,I.turned (t':=s.toks) (λb o hb e=>he' b o hb e) g0 g1 g3 g4 g5⟩
 self:=λ_ _ _ _ _ st h=>by
  obtain⟨⟨old,he⟩,ht⟩:=st;exact wpAny_pyIter_enum he h
def vU{F:Hp}{a:Addr}{vs:List V}{ds:List D}(h:SqL K F a vs)(r:RepL K F vs ds):Walk K (Ei K a) (u9 ds) F where
 go:=λi G F2 Z H2 ρ s S hi=>by
  have hi':i<vs.length:=by rw[r.length];rw[kX]at hi;exact hi
  exact⟨vs,vs[i],gH S.fh (gH s h),by simp[hi']⟩
 yld:=λi G F2 Z H2 ρ x H3 d s S hd ⟨p,y,hy,hp,hx,hH⟩=>by
  subst hx hH;unfold u9 at hd;rw[ku,List.getElem?_zipIdx]at hd
  cases q:ds[i]? with
  | none=>rw[q]at hd;cases hd
  | some d' =>
   rw[q]at hd;simp at hd;subst hd;obtain⟨v,e1,e2⟩:=r.get q;have:=hy vs (gH S.fh (gH s h));rw[e1]at this
   cases this
   obtain⟨s2,S2,r2⟩:=S.newTup hp (RepL.cons (Rep.int (i:Int)) (RepL.cons (e2.mono s) RepL.nil));exact⟨_,s2,S2,r2⟩
 stop:=λG F2 Z H2 ρ s S=>⟨vs,gH S.fh (gH s h),by rw[r.length,kX];exact au _⟩
def GO(K:Fg)(tl:TA):TI:=λZ H R=>tl Z H λxs H1=>∃a,xs=[.ref a]/\(∃ys,SqL K H1 a ys)/\R (Ei K a) H1
def Bi{X:Cx}{e:Expr}{tl:TA}{elts:List Expr}{x1:Nat}{tp p pos:Pos}(hg:Gl X "enumerate")(hm:X.mg "enumerate" = none)(ha:PA X [e] tl)(hs:starEach [e] X.env=[(false,eval e X.env)]) :
  PI X (.Tuple elts x1 tp) (.Call (.Name "enumerate" p) [e] [] pos) (GO X.K tl):=by
 intro pins s Z H R I h;refine xv (o7 I hg hm (show bootBuiltins "enumerate" = some (.type "enumerate") by decide +kernel) ?_ (by decide) (by decide));refine FI (thn (ha pos pins s Z H _ I h) λus s1 ⟨vs,H1,I1,r1,q1⟩=>?_) hs rfl;obtain⟨a,rfl,⟨ys,hq⟩,q⟩:=q1;obtain⟨u,rfl,ru⟩:=L2.Vals.one r1
 cases ru
 obtain⟨its,rv,pt,hz⟩:=I1.list hq;have alt:a<s1.heap.objs.size:=by obtain⟨o,e1,_⟩:=pt.isList;exact ax e1
 refine call_enumerate_list pt.isList λh' he ht hsz hk=>?_
 refine wpAny_pyIter_enum (s:={ s1 with heap:=h' }) he ?_;refine⟨s1.heap.objs.size+1,[s1.heap.objs.size+1,s1.heap.objs.size],_,_,H1,rfl,I1.kept (t':=s1.toks) hk,vX a s1.heap.objs.size (s1.heap.objs.size+1) (bj alt) (Nat.succ_ne_self _) (u8 (pi alt)),⟨⟨_,he⟩,ht⟩,λb hb=>?_,q⟩;rcases List.mem_cons.mp hb with rfl|hb
 ·exact I1.fpOk (LH _) (I1.hok.fresh (LH _))
 ·rw[List.mem_singleton.mp hb];exact I1.fpOk (au _) (I1.hok.fresh (au _))
end L3
namespace L4
open PySem PySem.Spec PyProof.Rows L2 L3
variable {X:Cx}{e tg:Expr}{F H:Hp}{K:Fg}
def j4:List D->Option (List D)
 | [.list ds]=>some (u9 ds)
 | _=>none
section
variable {p pos tp:Pos} {elts:List Expr} {x1:Nat}
def B5{vs:List V}{ds out:List D}{R:It->Hp->Prop}(s:Same F H)(r:RepL X.K F vs ds)(h:j4 ds=some out)(k:∀J,Walk X.K J out F->R J H) :
  ∃a,vs=[.ref a]/\(∃ys,SqL X.K H a ys)/\R (Ei X.K a) H:=by
 unfold j4 at h;split at h
 ·cases h
  obtain⟨v,rfl,r1⟩:=r.one_inv;obtain⟨a,vs,rfl,a1,a2⟩:=r1.lst_inv;exact⟨_,rfl,⟨_,s.seq a1⟩,k _ (vU a1 a2)⟩
 ·cases h
def vB{ps:Pa (List D)}(hg:Gl X "enumerate")(hm:X.mg "enumerate" = none)(ha:AA X [e] ps)(hs:starEach [e] X.env=[(false,eval e X.env)]):AI X (.Tuple elts x1 tp) (.Call (.Name "enumerate" p) [e] [] pos) (lF j4 ps) :=
 λG F Z H ρ R S w=>AR (Bi hg hm bQ hs) (ha G F Z H ρ _ _ _ S w λds vs F1 H1 s1 S1 _ r1 w1=>by
  obtain⟨out,hd,k⟩:=w1.opt
  exact B5 S1.fh r1 hd (k F1 H1 (Same.refl _) S1))
end
inductive Ty where
 | tup|lst|str
def Ty.s:Ty->String
 | .tup => "tuple"
 | .lst => "list"
 | .str => "str"
def onT{S:Type}(t:Ty)(d:D)(m:M S):M S:=match t,d with
 | .tup,.tuple _=>m
 | .lst,.list _=>m
 | .str,.str _=>m
 | _,_=>.bad
def tyW(K:Fg)(T:String)(x:V)(H:Hp):Prop:=tyV K T x H\/(T = "tuple" /\ ∃p xs,x=.ref p/\H p=some (.tup xs))
def Fp{pins:zzk}{Z:L2.St}{s:Shared}{T:String}{x:V}{v:Value}(I:Inv X pins Z H s)(r:RelV x v)(ty:tyW X.K T x H) :
  s.TypeIs v T/\∀a,v=.ref a->∃ob,s.heap.get? a=some ob/\ob.dict=none:=by
 rcases ty with ty|⟨rfl,p,xs,rfl,h⟩
 ·exact Aw I r ty
 ·cases r
  obtain⟨_,its,_,⟨o,e,c,_⟩,ob,e2,d⟩:=I.hok p _ h;refine⟨⟨o,e,c⟩,λa q=>?_⟩
  cases q
  exact⟨ob,e2,d⟩
def A8(K:Fg)(f:D->List D->Option D):V->List V->Hp->VK->Prop:=λx xs H Q=>∃G F Z ρ d ds res,StOk K G F Z H ρ/\OR K F H x d/\RepL K F xs ds/\f d ds=some res /\
 ∀y F' H',Same F F'->StOk K G F' Z H' ρ->Rep K F' y res->Q y H'
def A7(K:Fg)(f:D->List D->Option (List D)):V->List V->Hp->VK->Prop:=λx xs H Q=>∃G F Z ρ d ds res,StOk K G F Z H ρ/\OR K F H x d/\RepL K F xs ds/\f d ds=some res /\
 ∀y F' H',Same F F'->StOk K G F' Z H' ρ->Frs K G F' Z H' ρ y (.l res)->Q y H'
def tMt(K:Fg)(T:String)(r:V->List V->Hp->VK->Prop)(to:TE)(t:TA):TE:=λZ H Q=>to Z H λx H1=>tyW K T x H1/\t Z H1 λxs H2=>r x xs H2 Q
section
variable {o:Expr} {es:List Expr} {to:TE} {t:TA} {name:Str} {apos cpos:Pos} {T id:String} {r:V->List V->Hp->VK->Prop}
def sv(pa:PlainAttrs T)(slot:Slot T name id)(hty:typeOf (.builtin id)=pure (.type "method_descriptor"))(hm:MtR X id r)(ho:PE X o to)(ha:PA X (e::es) t)
  (hbase:attributeBase o name X.env (eval o X.env)=eval o X.env)
  (hfew:((backTo cpos (starEach (e::es) X.env)).all (λx=>!x.1)&&(backToKw cpos (keywordEach [] X.env)).all (λx=>x.1.isSome)
   && decide ((e::es).length+([]:List Keyword).length+(if([]:List Keyword).isEmpty then 0 else 1)<30))=true)
  (hline:(apos.endLine==cpos.line)=true) (hs:starEach (e::es) X.env=(false,eval e X.env)::starEach es X.env) (hplain:(backTo cpos (starEach es X.env)).any (·.1)=false) :
  PE X (.Call (.Attribute o name apos) (e::es) [] cpos) (tMt X.K T r to t):=by
 intro pins s Z H Q I h;refine wpAny_Call_method_late hbase hfew hline rfl (thn (ho pins s Z H _ I h) λv s1 ⟨x,H1,I1,r1,ty,q1⟩=>?_);obtain⟨h1,h2⟩:=Fp I1 r1 ty;refine⟨T,id,pa,slot,hty,h1,h2,?_⟩;have hA:=ha cpos pins s1 Z H1 _ I1 q1;rw[hs]at hA ⊢;refine Calls.callWith_builtin (by show(false||(backTo cpos (starEach es X.env)).any (·.1))=false;rw[hplain]<;>rfl) (Calls.evalArgs_plain ?_);exact thn hA λus s2 ⟨vs,H2,I2,r2,q2⟩=>hm pins s2 Z H2 x vs v us Q I2 r1 r2 q2
end
def Io(t:Ty)(f:D->List D->Option D)(po:Pu D)(ps:Pa D):Pu D:=λρ=>bd (po ρ) λd=>onT t d (ps (λds=>oM (f d ds)) ρ)
def Gd(t:Ty)(f:D->List D->Option (List D))(po:Pu D)(ps:Pa (List D)):Pu (List D):=λρ=>bd (po ρ) λd=>onT t d (ps (λds=>oM (f d ds)) ρ)
def Bu{α:Type}{G:Gh}{Z:L2.St}{ρ:En}{t:Ty}{d:D}{m:M α}{C:α->Hp->Hp->Prop}{v:V}(S:StOk X.K G F Z H ρ)(hv:VO X.K F Z ρ v d)(w:W X G F Z ρ (onT t d m) C) :
  tyW X.K t.s v H/\W X G F Z ρ m C:=by
 have o:=hv.or S
 cases t with
 | tup =>
  cases d with
  | tuple ds =>
   have r:=o.tup'
   cases r with
   | tup h1 h2=>exact⟨.inr ⟨rfl,_,_,rfl,S.fh _ _ h1⟩,w⟩
  | _=>exact False.elim w
 | lst =>
  cases d with
  | list ds =>
   obtain⟨a,vs,rfl,h1,h2⟩:=o.list S.fh;exact⟨.inl (.inl ⟨rfl,_,h1⟩),w⟩
  | _=>exact False.elim w
 | str =>
  cases d with
  | str ds =>
   rw[o.str];exact⟨.inl rfl,w⟩
  | _=>exact False.elim w
section
variable {o:Expr} {es:List Expr} {name:Str} {apos cpos:Pos} {id:String} {po:Pu D} {ps:Pa D} {pl:Pa (List D)} {ty:Ty}
def nG{f:D->List D->Option D}(pa:PlainAttrs ty.s)(slot:Slot ty.s name id)(hty:typeOf (.builtin id)=pure (.type "method_descriptor"))(hm:MtR X id (A8 X.K f))(ho:AO X o po)(ha:AA X (e::es) ps)
  (hbase:attributeBase o name X.env (eval o X.env)=eval o X.env)
  (hfew:((backTo cpos (starEach (e::es) X.env)).all (λx=>!x.1)&&(backToKw cpos (keywordEach [] X.env)).all (λx=>x.1.isSome)
   && decide ((e::es).length+([]:List Keyword).length+(if([]:List Keyword).isEmpty then 0 else 1)<30))=true)
  (hline:(apos.endLine==cpos.line)=true) (hs:starEach (e::es) X.env=(false,eval e X.env)::starEach es X.env) (hplain:(backTo cpos (starEach es X.env)).any (·.1)=false) :
  AP X (.Call (.Attribute o name apos) (e::es) [] cpos) (Io ty f po ps) :=
 λG F Z H ρ Q S w=>sem (sv pa slot hty hm aN bQ hbase hfew hline hs hplain) (ho G F Z H ρ _ S (w.bind.imp λd F1 H1 s1 S1 w1 v hv=>by
  obtain⟨ht,w2⟩:=Bu S1 hv w1;refine⟨ht,ha G F1 Z H1 ρ _ _ _ S1 w2 λds vs F2 H2 s2 S2 _ r2 w3=>?_⟩;obtain⟨res,e,k⟩:=w3.opt
  exact⟨G,F2,Z,ρ,d,ds,res,S2,(hv.mono s2).or S2,r2,e,λy F3 H3 s3 S3 r3=>k F3 H3 s3 S3 y r3⟩))
def tR{f:D->List D->Option (List D)}(pa:PlainAttrs ty.s)(slot:Slot ty.s name id)(hty:typeOf (.builtin id)=pure (.type "method_descriptor"))(hm:MtR X id (A7 X.K f))(ho:AO X o po)(ha:AA X (e::es) pl)
  (hbase:attributeBase o name X.env (eval o X.env)=eval o X.env)
  (hfew:((backTo cpos (starEach (e::es) X.env)).all (λx=>!x.1)&&(backToKw cpos (keywordEach [] X.env)).all (λx=>x.1.isSome)
   && decide ((e::es).length+([]:List Keyword).length+(if([]:List Keyword).isEmpty then 0 else 1)<30))=true)
  (hline:(apos.endLine==cpos.line)=true) (hs:starEach (e::es) X.env=(false,eval e X.env)::starEach es X.env) (hplain:(backTo cpos (starEach es X.env)).any (·.1)=false) :
  AL X (.Call (.Attribute o name apos) (e::es) [] cpos) (Gd ty f po pl) :=
 λG F Z H ρ Q S w=>sem (sv pa slot hty hm aN bQ hbase hfew hline hs hplain) (ho G F Z H ρ _ S (w.bind.imp λd F1 H1 s1 S1 w1 v hv=>by
  obtain⟨ht,w2⟩:=Bu S1 hv w1;refine⟨ht,ha G F1 Z H1 ρ _ _ _ S1 w2 λds vs F2 H2 s2 S2 _ r2 w3=>?_⟩;obtain⟨res,e,k⟩:=w3.opt
  exact⟨G,F2,Z,ρ,d,ds,res,S2,(hv.mono s2).or S2,r2,e,λy F3 H3 s3 S3 r3=>k F3 H3 s3 S3 y r3⟩))
end
def Itc(x:Str):It:=⟨λi _=>i<x.cps.size,λi H v H'=>H'=H/\∃c,x.cps[i]? = some c/\v=.str ⟨#[c]⟩,λi _=>x.cps.size<=i⟩
def Ay{P:Program}{w:World}(it:Addr)(ty:String)(hty:ty = "str_ascii_iterator" \/ ty = "str_iterator")(x:Str)(t:Tok):Turn P w K tg (Itc x) [it] it (λi h=>h.IsStrIter it ty x t i) where
 mem:=by simp
 obj:=λi h st b hb=>by
  have e:b=it:=by simpa using hb
  subst e;obtain⟨o,e,c,d⟩:=st;exact⟨o,e,λv z=>by rw[d]at z;cases z⟩
 keep:=λi h h' st k=>by
  obtain⟨o,e,r⟩:=st;exact⟨o,k it (by simp) o e,r⟩
 item:=by
  intro X hP hw hK hc i pins s Z H E I hf st hg;subst hP hw hK;obtain⟨f0,f1,f2,f3,f4,f5⟩:=hf it (by simp)
  have go:∀(W:Walks X.prog X.w X.A it [it] [it] x.cps.size (SignAt x) (λi h=>h.IsStrIter it ty x t i)),(∀o:Obj,o.cls=.type ty->True)->wpAny (model X.prog X.w) X.A (pyNext (.ref it)) (λr s1=>∃u,r=some u /\
   wpAny (model X.prog X.w) X.A (letOwnedTupleGo tg (.ref it) u) (λ_ s2=>∃y H',Inv X pins Z H' s2/\RelV y u/\(Itc x).yld i H y H'/\s2.heap.IsStrIter it ty x t (i+1)/\∀b∈[it],H' b=none) E s1) E s:=λW _=>by
   refine W.item i s _ _ hg st λv h' tk hv st' kk=>?_
   obtain⟨c,u,hc',rfl⟩:=hv;have I1:Inv X pins Z H { s with heap:=h',toks:=tk }:=I.turned (λb o hb e=>kk b o (by simpa using hb) e) f0 f1 f3 f4 f5;obtain⟨o,e,cl,d⟩:=id st';refine⟨_,rfl,yW (s:={ s with heap:=h',toks:=tk }) (n:=ty) e cl d ?_ ⟨.str ⟨#[c]⟩,H,I1,⟨u,rfl⟩,⟨rfl,c,hc',rfl⟩,st',λb hb=>(hf b hb).1⟩⟩;rcases hty with rfl|rfl<;>decide
  rcases hty with rfl|rfl
  ·exact go (Walks.strAscii (I.ok.hd hc) it x t) λ_ _=>trivial
  ·exact go (Walks.strWide (I.ok.hd hc) it x t) λ_ _=>trivial
 done:=by
  intro X hP hw hK hc i pins s Z H E I hf st hg;subst hP hw hK;obtain⟨f0,f1,f2,f3,f4,f5⟩:=hf it (by simp);have hx:x.cps[i]? = none:=by
   have:x.cps.size<=i:=hg;simp;omega
  rcases hty with rfl|rfl
  ·exact wpAny_pyNext_ascii_end (I.ok.hd hc) st hx λh' eb=>⟨rfl,I.turned (t':=s.toks) (λb o hb e=>eb b o hb e) f0 f1 f3 f4 f5⟩
  ·exact wpAny_pyNext_wide_end (I.ok.hd hc) st hx λh' eb=>⟨rfl,I.turned (t':=s.toks) (λb o hb e=>eb b o hb e) f0 f1 f3 f4 f5⟩
 self:=λ_ _ _ _ _ st h=>by
  rcases hty with rfl|rfl
  ·exact wpAny_pyIter_striter_ascii st h
  ·exact wpAny_pyIter_striter_wide st h
def pO(x:Str):List D:=x.cps.toList.map λc=>.str ⟨#[c]⟩
def Av(x:Str):Walk K (Itc x) (pO x) F where
 go:=λi G F2 Z H2 ρ s S hi=>by
  unfold pO at hi;rw[zzd,ce]at hi;exact hi
 yld:=λi G F2 Z H2 ρ y H3 d s S hd ⟨e,c,hc,q⟩=>by
  subst e q;unfold pO at hd;rw[ku,gi,hc]at hd
  cases hd
  exact⟨F2,Same.refl _,S,.str _⟩
 stop:=λG F2 Z H2 ρ s S=>by
  unfold pO;rw[zzd,ce];exact au _
def gq:D->Option (List D)
 | .str x=>some (pO x)
 | d=>zE d
def JU(p:Pu D):Pu (List D):=λρ=>bd (p ρ) λd=>oM (gq d)
def IR(K:Fg)(tl:TE):TI:=λZ H R=>tl Z H λx H1=>((∃a,x=.ref a/\(∃xs,SqL K H1 a xs)/\R (Itl K a) H1)\/∃a,x=.ref a/\(∃xs,SqT K H1 a xs)/\R (Itt K a) H1)\/∃y,x=.str y/\R (Itc y) H1
def Dk{l:Expr}{tl:TE}(hl:PE X l tl):PI X tg l (IR X.K tl):=by
 intro pins s Z H R I h;refine thn (hl pins s Z H _ I h) λv s1 ⟨x,H1,I1,r1,q1⟩=>?_
 rcases q1 with (⟨a,e,⟨xs,hq⟩,q⟩|⟨a,e,⟨xs,hq⟩,q⟩)|⟨x,e,q⟩
 ·subst e
  cases r1
  obtain⟨its,rv,p,hz⟩:=I1.list hq;refine wpAny_pyIter_list p.isList ?_;refine⟨s1.heap.objs.size,[s1.heap.objs.size],_,_,H1,rfl,I1.kept (t':=s1.toks) λb o e=>zzc _ e,zx a _,⟨_,zze _ rfl,rfl,rfl⟩,λb hb=>?_,q⟩;have e:b=s1.heap.objs.size:=by simpa using hb
  subst e;exact I1.fpOk (au _) (I1.hok.fresh (au _))
 ·subst e
  cases r1
  obtain⟨its,rv,p,hz⟩:=I1.tuple hq;refine wpAny_pyIter_tuple (show s1.heap.IsTuple a its.toArray from p) ?_;refine⟨s1.heap.objs.size,[s1.heap.objs.size],_,_,H1,rfl,I1.kept (t':=s1.toks) λb o e=>zzc _ e,vV a _,⟨_,zze _ rfl,rfl,rfl⟩,λb hb=>?_,q⟩;have e:b=s1.heap.objs.size:=by simpa using hb
  subst e;exact I1.fpOk (au _) (I1.hok.fresh (au _))
 ·subst e;obtain⟨t,rfl⟩:=r1;have fin:∀(ty:String) (hty:ty = "str_ascii_iterator" \/ ty = "str_iterator") (o:Obj),o.isFreed=false->o.cls=.type ty->o.data=.fields #[.str x t,.int 0 0]->PIE X pins Z tg R (.ref s1.heap.objs.size) { s1 with heap:=s1.heap.push o }:=λty hty o hfr c d=>by
   refine⟨s1.heap.objs.size,[s1.heap.objs.size],_,_,H1,rfl,I1.kept (t':=s1.toks) λb o e=>zzc _ e,Ay _ ty hty x t,⟨_,zze _ hfr,c,d⟩,λb hb=>?_,q⟩;have e:b=s1.heap.objs.size:=by simpa using hb
   subst e;exact I1.fpOk (au _) (I1.hok.fresh (au _))
  cases ha:x.cps.all (· < 128)
  ·exact wpAny_pyIter_wide ha (fin _ (.inr rfl) _ rfl rfl rfl)
  ·exact wpAny_pyIter_ascii ha (fin _ (.inl rfl) _ rfl rfl rfl)
def zD{v:V}{d:D}{ds:List D}{R:It->Hp->Prop}(s:Same F H)(r:Rep X.K F v d)(hd:gq d=some ds)(k:∀J,Walk X.K J ds F->R J H) :
  ((∃a,v=.ref a/\(∃xs,SqL X.K H a xs)/\R (Itl X.K a) H)\/∃a,v=.ref a/\(∃xs,SqT X.K H a xs)/\R (Itt X.K a) H)\/∃y,v=.str y/\R (Itc y) H:=by
 cases d with
 | str x =>
  cases hd
  cases r
  exact .inr ⟨x,rfl,k _ (Av x)⟩
 | _=>exact .inl (AQ s r hd k)
def fk{pp:Pu D}(h:AP X e pp):AI X tg e (JU pp):=λG F Z H ρ R S w=>AR (Dk aN) (h G F Z H ρ _ S (w.bind.imp λd F1 H1 s1 S1 w1 v r1=>by
 obtain⟨ds,hd,k⟩:=w1.opt
 exact zD S1.fh r1 hd (k F1 H1 (Same.refl _) S1)))
def mQ:List D->Option D
 | [.str x]=>if decide (x.length<=640)then(PySem.intText? x).map PyData.int else none
 | l=>DT l
def EJ:List V->Hp->VK->Prop:=λxs H Q=>((∃i,xs=[.int i]/\Q (.int i) H)\/∃k,xs=[.bl k]/\Q (.int (if k then 1 else 0)) H)\/∃x n,xs=[.str x]/\x.length<=640/\PySem.intText? x=some n/\Q (.int n) H
def jz:CallR X (.type "int") EJ:=by
 intro pins s Z H xs us Q I r h0;rcases h0 with h0|⟨x,n,rfl,hl,hn,q⟩
 ·exact Al pins s Z H xs us Q I r h0
 ·obtain⟨u,rfl,ru⟩:=L2.Vals.one r;obtain⟨t,rfl⟩:=ru;exact PySem.W.KIN.call_text hn hl ⟨.int n,H,I.tok _,⟨_,rfl⟩,q⟩
def nz:iy K EJ mQ:=by
 intro G F Z H ρ xs ds res Q S o e k;by_cases hd:∃x,ds=[.str x]
 ·obtain⟨x,rfl⟩:=hd;have e':(if decide (x.length<=640)=true then(PySem.intText? x).map PyData.int else none)=some res:=e;split at e'
  ·rename_i hl;rw[zzi]at hl
   cases hn:PySem.intText? x with
   | none=>rw[hn]at e';cases e'
   | some n =>
    rw[hn]at e'
    cases e'
    obtain⟨v,r,rfl,ho,hr⟩:=bB o;obtain rfl:=bR hr;exact .inr ⟨x,n,by rw[ho.str],hl,hn,k _ F H (Same.refl _) S (.int _)⟩
  ·cases e'
 ·have e':DT ds=some res:=by
   rw[<-e];unfold mQ;split
   ·rename_i x;exact absurd ⟨x,rfl⟩ hd
   ·rfl
  exact .inl (Gn G F Z H ρ xs ds res Q S o e' k)
def qD:∀l:List (Str×Tok),Vals ((l.map (·.1)).map V.str) (strValues l)
 | []=>.nil
 | (x,t)::l=>.cons ⟨t,rfl⟩ (qD l)
def uv{K:Fg}{F:Hp}:∀l:List Str,RepL K F (l.map V.str) (l.map PyData.str)
 | []=>.nil
 | x::l=>.cons (.str x) (uv l)
section
open Builtin Builtin.Str
theorem AJ{prog:Program}{w:World}{A:Around}{E:zzj}{s:Shared}{x y:Str}{t u:Tok}{Q:zzj}(hy:(y.length==0)=false)
  (hq:∀(l:List (Str×Tok)) (k:Nat),l.map (·.1)=Txt.split x y->Q (.ref s.heap.objs.size) { s with toks:=k,heap:=s.heap.push { cls:=.type "list",data:=.seq (strValues l).toArray } })
  (hsz:x.length<=sizeLine) (hsz2:(partsBetween x (occurrences x y 0 x.length (x.length+1)) y.length).length<=sizeLine) :
  wpAny (model prog w) A (call (.builtin "str.split") [.str x t,.str y u]) Q E s:=by
 cases h1:(decide (x.length<y.length)||decide (strKind x<strKind y))
 ·cases hf:(occurrences x y 0 x.length (x.length+1)).isEmpty
  ·refine LY F.slot_str_split (LV _ _ _) F.entry_str_split (F.args_str_split_2 _ _) (meets_str_split_sep x y t u h1 hy hf hsz hsz2) ?_;show wants Q E _ { s with toks:=_,heap:=s.heap.push { cls:=.type "list",data:=.seq (strsFrom s.toks (partsBetween x (occurrences x y 0 x.length (x.length+1)) y.length)).toArray } };rw[strsFrom_eq];exact hq (numbered s.toks _) _ ((numbered_texts _ _).trans ((ac (ne_true_of_eq_false h1)).trans (ac (ne_true_of_eq_false hf))).symm)
  ·exact LY F.slot_str_split (LV _ _ _) F.entry_str_split (F.args_str_split_2 _ _) (meets_str_split_not_found x y t u h1 hy hf)
    (hq [(x,t)] s.toks ((ac (ne_true_of_eq_false h1)).trans (ak hf)).symm)
 ·exact LY F.slot_str_split (LV _ _ _) F.entry_str_split (F.args_str_split_2 _ _) (meets_str_split_cannot_occur x y t u h1)
   (hq [(x,t)] s.toks (ak h1).symm)
def nr(x y:Str):Bool:=!(y.length==0)&&decide (x.length<=sizeLine)&&decide ((partsBetween x (occurrences x y 0 x.length (x.length+1)) y.length).length<=sizeLine)&&decide ((Txt.split x y).length<=sizeLine)
end
def lZ:D->List D->Option (List D)
 | .str x,[.str y]=>if nr x y then some ((Txt.split x y).map PyData.str)else none
 | _,_=>none
def oX:MtR X "str.split" (A7 X.K lZ):=by
 intro pins s Z H x xs v us Q I rx rxs ⟨G,F,σ',ρ,d,ds,res,S,ho,hr,e,k⟩;unfold lZ at e;split at e
 case h_2=>cases e
 rename_i z y;split at e
 case isFalse=>cases e
 rename_i hc
 cases e
 unfold nr at hc;rw[ai,ai,ai,zzi,zzi,zzi,ny]at hc;obtain⟨⟨⟨h1,h2⟩,h3⟩,h4⟩:=hc;rw[ho.str]at rx;obtain⟨t,rfl⟩:=rx
 cases hr with
 | cons hy hn =>
  cases hn
  cases hy
  obtain⟨u,rfl,ru⟩:=vals1 rxs;obtain⟨t2,rfl⟩:=ru;refine AJ h1 (λl tk hl=>?_) h2 h3;have hv:=qD l;rw[hl]at hv;refine⟨.ref s.heap.objs.size,upd H s.heap.objs.size (.lst ((Txt.split z y).map V.str)),I.laid (t':=tk) (λb o q=>zzc _ q) (au _) ⟨by rw[zzd];exact h4,strValues l,0,hv,zze _ rfl⟩,rfl,?_⟩;obtain⟨S2,r2⟩:=S.newLst (I.hok.fresh (au _)) (uv (Txt.split z y));exact k _ F _ (Same.refl _) S2 r2
def strsOf:List D->Option (List Str)
 | []=>some []
 | .str x::r=>(strsOf r).map (x :: ·)
 | _::_=>none
def qK:∀{ds:List D} {xs:List Str},strsOf ds=some xs->ds=xs.map PyData.str
 | [],_,h=>by cases h;rfl
 | d::r,xs,h=>by
  cases d<;>first|(cases h;done)|skip
  rename_i x;have h:(strsOf r).map (x :: ·)=some xs:=h
  cases e:strsOf r with
  | none=>rw[e]at h;cases h
  | some ys=>rw[e]at h;cases h;rw[qK e];rfl
def nQ{K:Fg}{F:Hp}:∀{xs:List Str} {vs:List V} {its:List Value},RepL K F vs (xs.map PyData.str)->Vals vs its->∃l:List (Str×Tok),its=strValues l/\l.map (·.1)=xs
 | [],_,_,r,v=>by cases r;cases v;exact⟨[],rfl,rfl⟩
 | x::xs,_,_,r,v=>by
  cases r with
  | cons r1 r2 =>
   cases r1
   cases v with
   | cons v1 v2 =>
    obtain⟨t,rfl⟩:=v1;obtain⟨l,e1,e2⟩:=nQ r2 v2;exact⟨(x,t)::l,by rw[e1];rfl,by rw[ba,e2]⟩
def jb:D->List D->Option D
 | .str x,[.list ds]=>match strsOf ds with
  | some xs=>if JoinOk x xs then some (.str (Txt.join x xs))else none
  | none=>none
 | _,_=>none
def kD:MtR X "str.join" (A8 X.K jb):=by
 intro pins s Z H x xs v us Q I rx rxs ⟨G,F,σ',ρ,d,ds,res,S,ho,hr,e,k⟩;unfold jb at e;split at e
 case h_2=>cases e
 rename_i z es;split at e
 case h_2=>cases e
 rename_i ts hts;split at e
 case isFalse=>cases e
 rename_i hc
 cases e
 rw[ho.str]at rx;obtain⟨t,rfl⟩:=rx
 cases hr with
 | cons hy hn =>
  cases hn
  obtain⟨u,rfl,ru⟩:=vals1 rxs
  cases hy with
  | lst h1 h2 =>
   cases ru
   obtain⟨its,rv,p,hz⟩:=I.list (S.fh.seq h1);rw[qK hts]at h2;obtain⟨l,e1,e2⟩:=nQ h2 rv;subst e1;exact SC.join p.isList e2 hc λt' tk=>⟨.str _,H,I.tok tk,⟨t',rfl⟩,k _ F H (Same.refl _) S (.str _)⟩
def w6(x:Str)(lo hi:Option Int):Str:=if((Builtin.Str.strSliceIndices lo hi 1 x.length).length==x.length)=true then x else⟨((Builtin.Str.strSliceIndices lo hi 1 x.length).filterMap (x.cps[·]?)).toArray⟩
def JJ:V->Option Int->Option Int->Hp->VK->Prop:=λv lo hi H Q=>∃x,v=.str x/\(w6 x lo hi).length<=sizeLine/\Q (.str (w6 x lo hi)) H
def yv{v:Value}{o:Option Int}(h:IsPart v o):∃p:Option (Int×Tok),v=partValue p/\p.map (·.1)=o:=by
 cases h with
 | none=>exact⟨none,rfl,rfl⟩
 | int i t=>exact⟨some (i,t),rfl,rfl⟩
def sl_str:SlR X JJ:=by
 intro pins s Z H x v vl vu lo hi sl Q I rx hs pl pu h;obtain⟨z,rfl,hz,q⟩:=h;obtain⟨t,rfl⟩:=rx;obtain⟨l,rfl,el⟩:=yv pl;obtain⟨u,rfl,eu⟩:=yv pu;refine⟨"str",_,PySem.F.slot_str_getitem.lookup,LV _ _ _,?_⟩;refine wpAny_getItem_str_slice (l:=l) (u:=u) (st:=none) hs rfl ?_;have ep:slicePicked z l u none=Builtin.Str.strSliceIndices lo hi 1 z.length:=by
  unfold slicePicked;rw[el,eu];rfl
 unfold sliceMade;rw[ep];unfold w6 at q hz;split
 ·rename_i c;have c':((Builtin.Str.strSliceIndices lo hi 1 z.length).length==z.length)=true:=by
   rw[ai]at c;exact c.2
  rw[ak c']at q;exact⟨.str z,H,I,⟨t,rfl⟩,q⟩
 ·rename_i c;have c':¬ ((Builtin.Str.strSliceIndices lo hi 1 z.length).length==z.length)=true:=λh=>c (by rw[ai];exact⟨rfl,h⟩)
  rw[ac c']at q hz;exact⟨hz,.str _,H,I.tok _,⟨_,rfl⟩,q⟩
def bI(d:D)(lo hi:Option Int):Option D:=match d with
 | .str x=>if decide ((w6 x lo hi).length<=sizeLine)then some (.str (w6 x lo hi))else none
 | _=>Kh d lo hi
def Dn(p:Pu D)(l h:Pu (Option Int)):Pu D:=λρ=>bd (p ρ) λd=>bd (l ρ) λlo=>bd (h ρ) λhi=>oM (bI d lo hi)
section
variable {lo hi:Option Expr} {p:Pu D} {pl ph:Pu (Option Int)} {pos p2:Pos}
def bh(he:AO X e p)(hl:APo X lo pl)(hh:APo X hi ph):AP X (.Subscript e (.Slice lo hi none p2) pos) (Dn p pl ph) :=
 λG F Z H ρ Q S w=>sem (Bn (sl_str.or (sl_tup.or (sl_tupA.or C1))) aN Bg Bg) (he G F Z H ρ _ S (w.bind.imp λd F1 H1 s1 S1 w1 x hx =>
  hl G F1 Z H1 ρ _ S1 (w1.bind.imp λlo F2 H2 s2 S2 w2=>hh G F2 Z H2 ρ _ S2 (w2.bind.imp λhi F3 H3 s3 S3 w3=>by
   obtain⟨res,hr,k⟩:=w3.opt;have ox:=(hx.mono (s2.trans s3)).or S3
   cases d<;>try (cases hr;done)
   ·rename_i z;have hr':(if decide ((w6 z lo hi).length<=sizeLine)=true then some (PyData.str (w6 z lo hi))else none)=some res:=hr;split at hr'
    case isFalse=>cases hr'
    rename_i hz;rw[zzi]at hz
    cases hr'
    exact .inl ⟨z,ox.str,hz,k F3 H3 (Same.refl _) S3 _ (.str _)⟩
   ·cases hr
    obtain⟨a,vs,rfl,h1,h2⟩:=ox.list S3.fh;refine .inr (.inr (.inr ⟨a,vs,rfl,h1,λq hq=>?_⟩));obtain⟨S4,r4⟩:=S3.newLst hq (zc h2 lo hi);obtain⟨F5,s5,S5,r5⟩:=S4.settle r4;exact k F5 _ s5 S5 _ r5
   ·rename_i ds
    cases hr
    obtain⟨a,vs,rfl,h1,h2⟩:=ox.tuple S3.fh;by_cases hw:HT.sIx vs.length 0 lo=0/\HT.sIx vs.length vs.length hi=vs.length
    ·refine .inr (.inr (.inl ⟨a,vs,rfl,h1,hw,k F3 H3 (Same.refl _) S3 _ ?_⟩));have:cutD ds lo hi=ds:=by
      unfold cutD;rw[<-h2.length,hw.1,hw.2];simp[h2.length]
     rw[this];exact ox.tup'
    ·refine .inr (.inl ⟨a,vs,rfl,h1,hw,λq hq=>?_⟩);obtain⟨s4,S4,r4⟩:=S3.newTup hq (zc h2 lo hi)
     exact k _ _ s4 S4 _ r4))))
end
end L4
namespace TS
open PySem PyProof.Rows
variable {st:SortSt}{xs:Array Keyed}{i j z n:Nat}{p:Keyed}{Q:Option Nat->SortSt->Prop}
def kr(rk:Value->Int)(xs:Array Keyed)(i:Nat):Int:=(xs[i]?.map λp=>rk p.1).getD 0
def Asc(rk:Value->Int)(xs:Array Keyed)(lo hi:Nat):Prop:=∀i j:Nat,lo<=i->i<=j->j<hi->kr rk xs i<=kr rk xs j
def Dsc(rk:Value->Int)(xs:Array Keyed)(lo hi:Nat):Prop:=∀i j:Nat,lo<=i->i<=j->j<hi->kr rk xs j<=kr rk xs i
def np(prog:Program)(w:World)(A:Around)(s:Shared)(κ:SortKind)(rk:Value->Int)(a₀:Array Keyed):Prop :=
 ∀x y,x∈a₀.toList->y∈a₀.toList->∀(E:zzj) (Q:Bool->Shared->Prop),Q (decide (rk x.1<rk y.1)) s->wpAny (model prog w) A (keyLt' κ x.1 y.1) Q E s
abbrev Runs:=Array (Nat×Nat×Nat)
structure SB(κ:SortKind)(a₀:Array Keyed)(lo:Nat)(old:Array Keyed)(P:Runs)(st:SortSt):Prop where
 pm:(arrOf st).Perm a₀
 kd:kindOf st=κ
 fl:failedOf st=none
 kp:∀i,i<lo->(arrOf st)[i]? = old[i]?
 pe:pendingOf st=P
section
variable {prog:Program} {w:World} {A:Around} {E:zzj} {s:Shared} {κ:SortKind} {rk:Value->Int} {a₀ old:Array Keyed} {lo:Nat} {P:Runs}
def SB.sz(h:SB κ a₀ lo old P st):(arrOf st).size=a₀.size:=h.pm.size_eq
def SB.to(h:SB κ a₀ lo old P st)(hp:xs.Perm (arrOf st))(hk:∀i,i<lo->xs[i]? = (arrOf st)[i]?):SB κ a₀ lo old P (setArr st xs) :=
 ⟨hp.trans h.pm,h.kd,h.fl,λi hi=>(hk i hi).trans (h.kp i hi),h.pe⟩
def SB.mem(h:SB κ a₀ lo old P st)(e:(arrOf st)[i]? = some p):p∈a₀.toList :=
 (Array.perm_iff_toList_perm.mp h.pm).mem_iff.mp (by
  obtain⟨hl,e⟩:=Array.getElem?_eq_some_iff.mp e
  rw[<-e];simp)
def yL(e:xs[i]? = some p):kr rk xs i=rk p.1:=by unfold kr;rw[e];rfl
def uS{ys:Array Keyed}(e:xs[i]? = ys[j]?):kr rk xs i=kr rk ys j:=by unfold kr;rw[e]
def Fb{Q:Keyed->SortSt->Prop}(e:xs[i]? = some p)(q:Q p st):wpS (model prog w) A E s (elem' xs i) Q st:=by
 rw[elem'_eq,e];exact r0 q
def IE{x y:Keyed}{Q:Option Bool->SortSt->Prop}(hC:np prog w A s κ rk a₀)(hk:kindOf st=κ)(hx:x∈a₀.toList)(hy:y∈a₀.toList)(q:Q (some (decide (rk x.1<rk y.1))) st) :
  wpS (model prog w) A E s (lt' x y) Q st:=by
 rw[lt'_eq];refine kv (wpS_get ?_);rw[hk];refine kv (wpS_lift (wpAny_attempt (hC x y hx hy _ _ ⟨rfl,?_⟩)));exact r0 q
def vw{Q:Option Bool->SortSt->Prop}(hC:np prog w A s κ rk a₀)(h:SB κ a₀ lo old P st)(hi:i<a₀.size)(hj:j<a₀.size)(q:Q (some (decide (kr rk (arrOf st) i<kr rk (arrOf st) j))) st) :
  wpS (model prog w) A E s (ltAt' i j) Q st:=by
 have e1:(arrOf st)[i]? = some ((arrOf st)[i]'(by rw[h.sz];exact hi)):=ci _;have e2:(arrOf st)[j]? = some ((arrOf st)[j]'(by rw[h.sz];exact hj)):=ci _;rw[ltAt'_eq];refine kv (wpS_get ?_);refine kv (Fb e1 (kv (Fb e2 ?_)));refine IE hC h.kd (h.mem e1) (h.mem e2) ?_;rw[yL e1,yL e2]at q;exact q
def sj{Q:Unit->SortSt->Prop}(q:Q () (setArr st (mirror (arrOf st) i j ((j - i) / 2)))):wpS (model prog w) A E s (reverseSlice' i j) Q st:=by
 rw[reverseSlice'_eq];exact wpS_modify q
def wN(hj:j<=xs.size)(k:Nat):kr rk (mirror xs i j ((j - i) / 2)) k=if i<=k/\k<j then kr rk xs (i+j - 1 - k)else kr rk xs k:=by
 have e:=getElem?_mirror_all (i:=i) hj k;split
 ·rename_i c;rw[ak c]at e;exact uS e
 ·rename_i c;rw[ac c]at e;exact uS e
theorem kE{lo:Nat}(hj:j<=xs.size)(hl:lo<=i):∀k,k<lo->(mirror xs i j ((j - i) / 2))[k]? = xs[k]?:=λk hk=>by
 rw[getElem?_mirror_all hj k,ac (by lia)]
theorem oY(hj:j<=xs.size)(e:∀k,i<=k->k<j->kr rk xs k=kr rk xs (j - 1))(k:Nat):kr rk (mirror xs i j ((j - i) / 2)) k=kr rk xs k:=by
 rw[wN hj];split
 ·rename_i c;rw[e k c.1 c.2,e _ (by lia) (by lia)]
 ·rfl
abbrev Asl:=Option (Option Nat)×Nat
abbrev Dsl:=Option (Option Nat)×Nat×Nat
def upW(lo a z:Nat):StateT SortSt Sem Asl:=forIn [a:z] ((none,a):Asl) λ_ c=>do
 match <-ltAt' (lo+c.snd) (lo+c.snd - 1)with
 | some b=>if b=true then pure (ForInStep.done (none,c.snd))else pure (ForInStep.yield (none,c.snd+1))
 | _=>pure (ForInStep.done (some none,c.snd))
def B7(lo n z:Nat):StateT SortSt Sem (Option Nat):=do
 reverseSlice' lo (lo+n)
 let c <-upW lo n z
 match c.fst with
 | some r=>pure r
 | none=>pure (some c.snd)
def dnW(lo n z:Nat):StateT SortSt Sem Dsl:=forIn [n:z] ((none,n,0):Dsl) λ_ c=>do
 match <-ltAt' (lo+c.snd.fst) (lo+c.snd.fst - 1)with
 | some b =>
  if b=true then
   if c.snd.snd>0 then do
    reverseSlice' (lo+c.snd.fst - (c.snd.snd+1)) (lo+c.snd.fst)
    pure (ForInStep.yield (none,c.snd.fst+1,0))
   else pure (ForInStep.yield (none,c.snd.fst+1,0))
  else do
   match <-ltAt' (lo+c.snd.fst - 1) (lo+c.snd.fst)with
   | some g=>if g=true then pure (ForInStep.done (none,c.snd.fst,c.snd.snd))else pure (ForInStep.yield (none,c.snd.fst+1,c.snd.snd+1))
   | _=>pure (ForInStep.done (some none,c.snd.fst,c.snd.snd))
 | _=>pure (ForInStep.done (some none,c.snd.fst,c.snd.snd))
def u4(lo n z:Nat):StateT SortSt Sem (Option Nat):=do
 liftM (rule "list.sort.descending-run")
 let c <-dnW lo (n+1) z
 match c.fst with
 | some r=>pure r
 | none =>
  if c.snd.snd>0 then do
   reverseSlice' (lo+c.snd.fst - (c.snd.snd+1)) (lo+c.snd.fst)
   B7 lo c.snd.fst z
  else B7 lo c.snd.fst z
def FJ(lo z:Nat):countRun' lo z=(do
  let c <-upW lo 1 z
  match c.fst with
  | some r=>pure r
  | none =>
   if(c.snd==z)=true then pure (some c.snd)
   else if c.snd>1 then do
    match <-ltAt' lo (lo+c.snd - 1)with
    | some b=>if b=true then pure (some c.snd)else do
      reverseSlice' lo (lo+c.snd)
      u4 lo c.snd z
    | _=>pure none
   else u4 lo c.snd z):=by
 rw[countRun'_eq];unfold u4 B7 dnW upW;dsimp only;have tl:∀(x:StateT SortSt Sem Asl),(x >>= λc3=>match c3.fst with|some r=>pure r|none=>pure (some c3.snd):StateT SortSt Sem (Option Nat))=(x >>= λc3=>match c3.fst with|none=>pure (some c3.snd)|some r=>pure r):=λx=>by
  congr 1;funext c3;rcases c3 with ⟨_|r3,n3⟩<;>rfl
 congr 1;funext c;rcases c with ⟨_|r,n⟩
 ·dsimp only;split
  ·rfl
  ·split
   ·congr 1;funext x
    cases x with
    | none=>rfl
    | some b =>
     dsimp only;split
     ·rfl
     ·congr 1;funext _;congr 1;funext _;congr 1;funext c2;rcases c2 with ⟨_|r2,n2,q2⟩
      ·dsimp only;split
       ·congr 1;funext _;congr 1;funext _;congr 1;funext c3;rcases c3 with ⟨_|r3,n3⟩<;>rfl
       ·congr 1;funext _;congr 1;funext c3;rcases c3 with ⟨_|r3,n3⟩<;>rfl
      ·rfl
   ·congr 1;funext _;congr 1;funext c2;rcases c2 with ⟨_|r2,n2,q2⟩
    ·dsimp only;split
     ·congr 1;funext _;congr 1;funext _;congr 1;funext c3;rcases c3 with ⟨_|r3,n3⟩<;>rfl
     ·congr 1;funext _;congr 1;funext c3;rcases c3 with ⟨_|r3,n3⟩<;>rfl
    ·rfl
 ·rfl
end
section
variable {prog:Program} {w:World} {A:Around} {E:zzj} {s:Shared} {κ:SortKind} {rk:Value->Int} {a₀ old:Array Keyed} {lo:Nat} {P:Runs}
theorem Asc.snoc{lo m:Nat}(h:Asc rk xs lo (lo+m))(h1:1<=m)(q:¬ kr rk xs (lo+m)<kr rk xs (lo+m - 1)):Asc rk xs lo (lo+(m+1)):=λi j hi hij hj=>by
 by_cases c:j<lo+m
 ·exact h i j hi hij c
 ·by_cases c2:i=j
  ·subst c2;exact re _
  ·have e:j=lo+m:=by lia
   subst e;have:=h i (lo+m - 1) hi (by lia) (by lia);lia
theorem t7{a:Nat}{Q:Asl->SortSt->Prop}(hC:np prog w A s κ rk a₀)(hz:lo+z<=a₀.size)(h1:1<=a)(ha:a<=z)(h:SB κ a₀ lo old P st)(ho:Asc rk (arrOf st) lo (lo+a))
  (q:∀n,a<=n->n<=z->Asc rk (arrOf st) lo (lo+n)->(n=z\/kr rk (arrOf st) (lo+n)<kr rk (arrOf st) (lo+n - 1))->Q (none,n) st):wpS (model prog w) A E s (upW lo a z) Q st:=by
 refine Lq (I:=λx c st'=>st'=st/\c=(none,x)/\Asc rk (arrOf st) lo (lo+x)) (λx c st' hx hxz I=>?_) (λc st' I=>?_) ⟨rfl,rfl,ho⟩
 ·obtain⟨rfl,rfl,o⟩:=I;refine kv (vw hC h (by dsimp only;lia) (by dsimp only;lia) ?_);dsimp only;by_cases c:kr rk (arrOf st') (lo+x)<kr rk (arrOf st') (lo+x - 1)
  ·rw[ay c];exact r0 (q x hx (by lia) o (.inr c))
  ·rw[aw c];exact r0 ⟨rfl,rfl,o.snoc (by lia) c⟩
 ·obtain⟨rfl,rfl,o⟩:=I;have e:max a z=z:=by lia
  rw[e]at o ⊢;exact q z ha (au _) o (.inl rfl)
def Run(κ:SortKind)(rk:Value->Int)(a₀ old:Array Keyed)(lo z:Nat)(P:Runs)(m:Nat)(st:SortSt):Prop:=SB κ a₀ lo old P st/\1<=m/\m<=z/\Asc rk (arrOf st) lo (lo+m)
theorem B6(hC:np prog w A s κ rk a₀)(hz:lo+z<=a₀.size)(h1:1<=n)(hn:n<=z)(h:SB κ a₀ lo old P st)(ho:Dsc rk (arrOf st) lo (lo+n))
  (q:∀m st',Run κ rk a₀ old lo z P m st'->Q (some m) st'):wpS (model prog w) A E s (B7 lo n z) Q st:=by
 have hl:lo+n<=(arrOf st).size:=by rw[h.sz];lia
 have h':=h.to (mirror_perm (arrOf st) lo (lo+n) ((lo+n - lo) / 2)) (kE hl (au _));unfold B7;refine kv (sj (kv (t7 hC hz h1 hn h' (λi j hi hij hj=>?_) λm m1 m2 o _=>r0 (q m _ ⟨h',by lia,m2,o⟩))));show kr rk (mirror (arrOf st) lo (lo+n) _) i<=kr rk (mirror (arrOf st) lo (lo+n) _) j;rw[wN hl,wN hl,ak ⟨hi,by lia⟩,ak ⟨by lia,hj⟩];exact ho _ _ (by lia) (by lia) (by lia)
theorem Dsc.snoc{ys:Array Keyed}{lo m:Nat}(h:Dsc rk xs lo (lo+m))(h1:1<=m)(e:∀k,kr rk ys k=kr rk xs k)(q:kr rk xs (lo+m)<=kr rk xs (lo+m - 1)):Dsc rk ys lo (lo+(m+1)):=λi j hi hij hj=>by
 rw[e,e];by_cases c:j<lo+m
 ·exact h i j hi hij c
 ·by_cases c2:i=j
  ·subst c2;exact re _
  ·have e:j=lo+m:=by lia
   subst e;have:=h i (lo+m - 1) hi (by lia) (by lia);lia
def Flat(rk:Value->Int)(xs:Array Keyed)(lo m q:Nat):Prop:=q+1<=m/\∀k,lo+m - (q+1)<=k->k<lo+m->kr rk xs k=kr rk xs (lo+m - 1)
theorem Jb{Q:Dsl->SortSt->Prop}(hC:np prog w A s κ rk a₀)(hz:lo+z<=a₀.size)(h1:1<=n)(hn:n<=z)(h:SB κ a₀ lo old P st)(ho:Dsc rk (arrOf st) lo (lo+n))
  (q:∀m r st',SB κ a₀ lo old P st'->n<=m->m<=z->Dsc rk (arrOf st') lo (lo+m)->Flat rk (arrOf st') lo m r->Q (none,m,r) st'):wpS (model prog w) A E s (dnW lo n z) Q st:=by
 refine Lq (I:=λx c st'=>∃r,c=(none,x,r)/\SB κ a₀ lo old P st'/\Dsc rk (arrOf st') lo (lo+x)/\Flat rk (arrOf st') lo x r) (λx c st' hx hxz I=>?_) (λc st' I=>?_) ⟨0,rfl,h,ho,by lia,λk k1 k2=>by congr 1;lia⟩
 ·obtain⟨r,rfl,h',o,fl⟩:=I;have hl:lo+x<=(arrOf st').size:=by rw[h'.sz];lia
  refine kv (vw hC h' (by dsimp only;lia) (by dsimp only;lia) ?_);dsimp only;by_cases c:kr rk (arrOf st') (lo+x)<kr rk (arrOf st') (lo+x - 1)
  ·rw[ay c];rw[ak rfl];split
   ·rename_i hr;have hr':0<r:=hr;have hfl:∀k,lo+x - (r+1)<=k->k<lo+x->kr rk (arrOf st') k=kr rk (arrOf st') (lo+x - 1):=fl.2;have kp:=oY (rk:=rk) hl hfl;have fl1:=fl.1;refine kv (sj (r0 ⟨0,rfl,h'.to (mirror_perm _ _ _ _) (kE hl (by lia)),o.snoc (by lia) kp (by lia),by lia,λk k1 k2=>by congr 1;lia⟩))
   ·exact r0 ⟨0,rfl,h',o.snoc (by lia) (λ_=>rfl) (by lia),by lia,λk k1 k2=>by congr 1;lia⟩
  ·rw[aw c];rw[ac (by decide)];refine kv (vw hC h' (by lia) (by lia) ?_);by_cases c2:kr rk (arrOf st') (lo+x - 1)<kr rk (arrOf st') (lo+x)
   ·rw[ay c2];exact r0 (q x r st' h' hx (by lia) o fl)
   ·rw[aw c2];refine r0 ⟨r+1,rfl,h',o.snoc (by lia) (λ_=>rfl) (by lia),by have:=fl.1;lia,λk k1 k2=>?_⟩;have e:kr rk (arrOf st') (lo+x)=kr rk (arrOf st') (lo+x - 1):=by lia
    rw[show lo+(x+1) - 1=lo+x by lia,e];by_cases c3:k=lo+x
    ·rw[c3];exact e
    ·exact fl.2 k (by lia) (by lia)
 ·obtain⟨r,rfl,h',o,fl⟩:=I;have e:max n z=z:=by lia
  rw[e]at o fl ⊢;exact q z r st' h' hn (au _) o fl
theorem y4(hC:np prog w A s κ rk a₀)(hz:lo+z<=a₀.size)(hn:n+1<=z)(h:SB κ a₀ lo old P st)(ho:Dsc rk (arrOf st) lo (lo+(n+1)))
  (q:∀m st',Run κ rk a₀ old lo z P m st'->Q (some m) st'):wpS (model prog w) A E s (u4 lo n z) Q st:=by
 unfold u4;refine kv (wpS_lift (LU ⟨rfl,kv (Jb hC hz (by lia) hn h ho λm r st' h' m1 m2 o fl=>?_)⟩));dsimp only;have hl:lo+m<=(arrOf st').size:=by rw[h'.sz];lia
 have fl1:=fl.1;split
 ·have kp:=oY (rk:=rk) hl fl.2;refine kv (sj (B6 hC hz (by lia) m2 (h'.to (mirror_perm _ _ _ _) (kE hl (by lia))) (λi j hi hij hj=>?_) q));show kr rk (mirror (arrOf st') _ _ _) j<=kr rk (mirror (arrOf st') _ _ _) i;rw[kp,kp];exact o i j hi hij hj
 ·exact B6 hC hz (by lia) m2 h' o q
theorem FH(hC:np prog w A s κ rk a₀)(hz:lo+z<=a₀.size)(h1:1<=z)(h:SB κ a₀ lo old P st)
  (q:∀m st',Run κ rk a₀ old lo z P m st'->Q (some m) st'):wpS (model prog w) A E s (countRun' lo z) Q st:=by
 rw[FJ];refine kv (t7 hC hz (au 1) h1 h (λi j hi hij hj=>by rw[show i=j by lia];exact re _) λn n1 n2 o e=>?_);dsimp only;by_cases c:n=z
 ·rw[ak (by simpa using c)];exact r0 (q n st ⟨h,n1,n2,o⟩)
 ·rw[ac (by simpa using c)];have lt:=e.resolve_left c;split
  ·refine kv (vw hC h (by lia) (by lia) ?_);by_cases c2:kr rk (arrOf st) lo<kr rk (arrOf st) (lo+n - 1)
   ·rw[ay c2];exact r0 (q n st ⟨h,n1,n2,o⟩)
   ·rw[aw c2];dsimp only;rw[ac (by decide)];have hl:lo+n<=(arrOf st).size:=by rw[h.sz];lia
    have fl:∀k,lo<=k->k<lo+n->kr rk (arrOf st) k=kr rk (arrOf st) (lo+n - 1):=λk k1 k2=>by
     have a1:=o lo k (au _) k1 k2;have a2:=o k (lo+n - 1) k1 (by lia) (by lia);lia
    have kp:=oY (rk:=rk) hl fl;have dd:Dsc rk (arrOf st) lo (lo+n):=λi j hi hij hj=>by rw[fl i hi (by lia),fl j (by lia) hj];exact re _
    exact kv (sj (y4 hC hz (by lia) (h.to (mirror_perm _ _ _ _) (kE hl (au _))) (dd.snoc n1 kp (by lia)) q))
  ·have e1:n=1:=by lia
   subst e1;have dd:Dsc rk (arrOf st) lo (lo+1):=λi j hi hij hj=>by rw[show i=j by lia];exact re _
   exact y4 hC hz (by lia) h (dd.snoc (au _) (λ_=>rfl) (by lia)) q
def BP{src d:Nat}(hs:src<xs.size)(hd:d<=src)(k:Nat):kr rk (bubble xs src d) k=if k=src - d then kr rk xs src else if src - d<k/\k<=src then kr rk xs (k - 1)else kr rk xs k:=by
 have e:=getElem?_bubble hs d hd k;split
 ·rename_i c;rw[ak c]at e;exact uS e
 ·rename_i c;rw[ac c]at e;split
  ·rename_i c2;rw[ak c2]at e;exact uS e
  ·rename_i c2;rw[ac c2]at e;exact uS e
theorem G1{ok:Nat}{Q:Bool->SortSt->Prop}(hC:np prog w A s κ rk a₀)(hn:lo+n<=a₀.size)(hk:ok<=n)(h:SB κ a₀ lo old P st)(ho:Asc rk (arrOf st) lo (lo+ok))
  (q:∀st',SB κ a₀ lo old P st'->Asc rk (arrOf st') lo (lo+n)->Q true st'):wpS (model prog w) A E s (binarySort' lo n ok) Q st:=by
 rw[binarySort'_eq]
 refine kv (wpS_mono (Lq (I:=λk c st'=>c=(none,())/\SB κ a₀ lo old P st'/\Asc rk (arrOf st') lo (lo+min k n))
  (Q:=λc st'=>c=(none,())/\SB κ a₀ lo old P st'/\Asc rk (arrOf st') lo (lo+n)) (λk c st' hk1 hkn I=>?_) (λc st' I=>?_) ⟨rfl,h,λi j hi hij hj=>?_⟩) λc st' I=>?_)
 ·obtain⟨rfl,h',o⟩:=I;rw[show min k n=k by lia]at o;have hsz:lo+k<(arrOf st').size:=by rw[h'.sz];lia
  refine kv (wpS_mono (Lq (I:=λx c st2=>st2=st'/\∃l r,c=(none,l,r)/\l<=r/\r<=k/\r - l<=k - x /\
    (∀i,i<l->kr rk (arrOf st') (lo+i)<=kr rk (arrOf st') (lo+k))/\(∀i,r<=i->i<k->kr rk (arrOf st') (lo+k)<kr rk (arrOf st') (lo+i)))
   (Q:=λc st2=>st2=st'/\∃l r,c=(none,l,r)/\l<=k/\(∀i,i<l->kr rk (arrOf st') (lo+i)<=kr rk (arrOf st') (lo+k))/\(∀i,l<=i->i<k->kr rk (arrOf st') (lo+k)<kr rk (arrOf st') (lo+i)))
   (λx c st2 _ hx J=>?_) (λc st2 J=>?_) ⟨rfl,0,k,rfl,by lia,by lia,by lia,λi hi=>by lia,λi i1 i2=>by lia⟩) λc st2 J=>?_)
  ·obtain⟨rfl,l,r,rfl,lr,rk',sz,b1,b2⟩:=J;dsimp only;by_cases c:l>=r
   ·rw[ak c];exact r0 ⟨rfl,l,r,rfl,by lia,b1,λi i1 i2=>b2 i (by lia) i2⟩
   ·rw[ac c];refine kv (vw hC h' (by lia) (by lia) ?_);by_cases c2:kr rk (arrOf st2) (lo+k)<kr rk (arrOf st2) (lo+(l+r) / 2)
    ·rw[ay c2];refine r0 ⟨rfl,l,(l+r) / 2,rfl,by lia,by lia,by lia,b1,λi i1 i2=>?_⟩;have:=o (lo+(l+r) / 2) (lo+i) (by lia) (by lia) (by lia);lia
    ·rw[aw c2];refine r0 ⟨rfl,(l+r) / 2+1,r,rfl,by lia,by lia,by lia,λi i1=>?_,b2⟩;have:=o (lo+i) (lo+(l+r) / 2) (by lia) (by lia) (by lia);lia
  ·obtain⟨rfl,l,r,rfl,lr,rk',sz,b1,b2⟩:=J;exact⟨rfl,l,r,rfl,by lia,b1,λi i1 i2=>b2 i (by lia) i2⟩
  ·obtain⟨rfl,l,r,rfl,lk,b1,b2⟩:=J;show wpS _ _ _ _ (moveDown' (lo+k) (lo+l) >>= λ_=>pure (ForInStep.yield (none,()))) _ _;rw[moveDown'_eq];have ed:lo+k - (lo+k - (lo+l))=lo+l:=by lia
   refine kv (wpS_modify (r0 ⟨rfl,h'.to (bubble_perm _ _ _) (λi hi=>?_),λi j hi hij hj=>?_⟩))
   ·rw[getElem?_bubble hsz _ (by lia),ac (by lia),ac (by lia)]
   ·rw[show min (k+1) n=k+1 by lia]at hj;show kr rk (bubble (arrOf st2) (lo+k) (lo+k - (lo+l))) i<=kr rk (bubble (arrOf st2) (lo+k) (lo+k - (lo+l))) j;rw[BP hsz (by lia),BP hsz (by lia),ed];have t1:∀i,lo<=i->i<lo+l->kr rk (arrOf st2) i<=kr rk (arrOf st2) (lo+k):=λi i1 i2=>by
     have:=b1 (i - lo) (by lia)
     rwa [show lo+(i - lo)=i by lia]at this
    have t2:∀i,lo+l<=i->i<lo+k->kr rk (arrOf st2) (lo+k)<kr rk (arrOf st2) i:=λi i1 i2=>by
     have:=b2 (i - lo) (by lia) (by lia)
     rwa [show lo+(i - lo)=i by lia]at this
    split
    ·split
     ·exact re _
     ·split
      ·exact Int.le_of_lt (t2 _ (by lia) (by lia))
      ·lia
    ·split
     ·split
      ·lia
      ·split
       ·exact o _ _ (by lia) (by lia) (by lia)
       ·lia
     ·split
      ·exact t1 _ hi (by lia)
      ·split
       ·exact o _ _ (by lia) (by lia) (by lia)
       ·exact o _ _ (by lia) (by lia) (by lia)
 ·obtain⟨rfl,h',o⟩:=I;rw[show min (max (max ok 1) n) n=n by lia]at o;exact⟨rfl,h',o⟩
 ·by_cases c:ok=0
  ·rw[show i=j by lia];exact re _
  ·exact ho i j hi hij (by lia)
 ·obtain⟨rfl,h',o⟩:=I;exact r0 (q st' h' o)
end
abbrev SM':=StateT SortSt Sem
end TS
namespace TS
end TS
namespace TS
open PySem PyProof.Rows
section
variable {rk:Value->Int}
abbrev Le(rk:Value->Int)(x y:Keyed):Prop:=rk x.1<=rk y.1
def Cv{a:Array Keyed}(h:Asc rk a 0 a.size):a.toList.Pairwise (Le rk):=by
 rw[List.pairwise_iff_getElem];intro i j hi hj hij;have hi':i<a.size:=by simpa using hi
 have hj':j<a.size:=by simpa using hj
 have:=h i j (di _) (Lu hij) hj';rw[yL (ci hi'),yL (ci hj')]at this;simpa using this
end
end TS
namespace TS
end TS
namespace TS
end TS
namespace TS
open PySem PyProof.Rows
section
variable {rk:Value->Int}
def Cov:List (Nat×Nat×Nat)->Nat->Nat->Prop
 | [],lo,hi=>lo=hi
 | (s,n,_)::r,lo,hi=>s=lo/\1<=n/\Cov r (lo+n) hi
structure Rn(κ:SortKind)(rk:Value->Int)(a₀:Array Keyed)(hi:Nat)(st:SortSt):Prop where
 pm:(arrOf st).Perm a₀
 kd:kindOf st=κ
 fl:failedOf st=none
 cv:Cov (pendingOf st).toList 0 hi
 so:∀x∈(pendingOf st).toList,Asc rk (arrOf st) x.1 (x.1+x.2.1)
 le:hi<=a₀.size
variable {prog:Program}{w:World}{A:Around}{E:zzj}{s:Shared}{κ:SortKind}{a₀:Array Keyed}
end
end TS
namespace TS
end TS
namespace TS
open PySem PyProof.Rows
variable {vs:List Value}{n:Nat}{a:Addr}{o:Obj}
abbrev Cu:=Option Unit×Unit
def Kv(pw:Nat):SM' (ForInStep Cu):=do
 let st <-get
 match (if(pendingOf st).size>1 then(pendingOf st)[(pendingOf st).size - 2]? else none)with
 | some (_,_,o) =>
  if o<=pw then pure (.done (none,()))
  else do
   let b <-mergeAt' ((pendingOf st).size - 2)
   if(!b)=true then pure (.done (some (),()))else pure (.yield (none,()))
 | _=>pure (.done (none,()))
def addW(lo n:Nat):SM' (ForInStep (Option Unit×Nat)):=do
 modify λc=>setPending c ((pendingOf c).push (lo,n,0))
 pure (.yield (none,lo+n))
def yj(z lo n:Nat):SM' (ForInStep (Option Unit×Nat)):=do
 let st <-get
 match (pendingOf st).back? with
 | some (s1,n1,_)=>do
  let c <-forIn [0:z] ((none,()):Cu) λ_ _=>Kv (power' z (2*s1+n1) (2*s1+n1+n1+n) z)
  match c.1 with
  | some r=>pure (.done (some r,lo))
  | none=>do
   modify λc=>setPending c ((pendingOf c).modify ((pendingOf c).size - 1) λx=>(x.1,x.2.1,power' z (2*s1+n1) (2*s1+n1+n1+n) z))
   addW lo n
 | _=>addW lo n
def GC(P:Runs):Nat:=if((if P.size - 2>0 then P[P.size - 2 - 1]?.map (·.2.1)else none).any (· < (P[P.size - 2+1]?.elim 0 (·.2.1))))=true then P.size - 2 - 1 else P.size - 2
def E2:SM' (ForInStep Cu):=do
 let st <-get
 if(pendingOf st).size<=1 then pure (.done (none,()))
 else do
  let b <-mergeAt' (GC (pendingOf st))
  if(!b)=true then pure (.done (some (),()))else pure (.yield (none,()))
def CZ:sortRuns'=(do
  let st <-get
  let c <-forIn [0:(arrOf st).size] ((none,0):Option Unit×Nat) λ_ c =>
   if c.2>=(arrOf st).size then pure (.done (none,c.2))
   else do
    match <-countRun' c.2 ((arrOf st).size - c.2)with
    | some f =>
     if f<minRun' (arrOf st).size (arrOf st).size 0 then do
      liftM (rule "list.sort.binary-insertion")
      let b <-binarySort' c.2 (min ((arrOf st).size - c.2) (minRun' (arrOf st).size (arrOf st).size 0)) f
      if(!b)=true then pure (.done (some (),c.2))
      else yj (arrOf st).size c.2 (min ((arrOf st).size - c.2) (minRun' (arrOf st).size (arrOf st).size 0))
     else yj (arrOf st).size c.2 f
    | _=>pure (.done (some (),c.2))
  match c.1 with
  | some r=>pure r
  | none=>do
   let c <-forIn [0:(arrOf st).size] ((none,()):Cu) λ_ _=>E2
   match c.1 with
   | some r=>pure r
   | none=>pure ()):=by
 kernel_rfl
section
variable {z:Nat} {rk:Value->Int} {prog:Program} {w:World} {A:Around} {E:zzj} {s:Shared} {κ:SortKind} {a₀:Array Keyed}
def Rp(κ:SortKind)(rk:Value->Int)(a₀:Array Keyed)(lo n:Nat)(st:SortSt):Prop:=Rn κ rk a₀ lo st/\1<=n/\lo+n<=a₀.size/\Asc rk (arrOf st) lo (lo+n)
def zX:∀n,n<64->minRun' n n 0=n:=by decide +kernel
def zu{st:SortSt}{Q:ForInStep (Option Unit×Nat)->SortSt->Prop}(h:Rp κ rk a₀ 0 n st)(hp:pendingOf st = #[])(q:∀st',Rn κ rk a₀ n st'->(pendingOf st').size<=1->Q (.yield (none,n)) st'):wpS (model prog w) A E s (yj z 0 n) Q st:=by
 obtain⟨r,n1,le,o⟩:=h;unfold yj;refine kv (wpS_get ?_);rw[hp];show wpS (model prog w) A E s (addW 0 n) Q st;unfold addW;have e:0+n=n:=Ls n;rw[e];refine kv (wpS_modify (r0 (q _ ⟨r.pm,r.kd,r.fl,?_,λx hx=>?_,by omega⟩ ?_)))
 ·show Cov ((pendingOf st).push (0,n,0)).toList 0 n;rw[hp];exact⟨rfl,n1,by show 0+n=n;exact e⟩
 ·have hx':x∈((pendingOf st).push (0,n,0)).toList:=hx;rw[hp]at hx';rw[List.mem_singleton.mp hx'];exact o
 ·show((pendingOf st).push (0,n,0)).size<=1;rw[hp];exact au _
def CY{st:SortSt}{Q:Unit->SortSt->Prop}(hC:np prog w A s κ rk a₀)(h2:1<=a₀.size)(h64:a₀.size<64)(h:Rn κ rk a₀ 0 st)(q:∀st',(arrOf st').Perm a₀->failedOf st'=none->Asc rk (arrOf st') 0 a₀.size->Q () st')(hp0:pendingOf st = #[]):wpS (model prog w) A E s sortRuns' Q st:=by
 rw[CZ];refine kv (wpS_get ?_);have hsz:(arrOf st).size=a₀.size:=h.pm.size_eq;rw[hsz,zX _ h64];refine kv (wpS_mono (Lq (I:=λx c st'=>∃lo,c=(none,lo)/\Rn κ rk a₀ lo st'/\(x=0/\lo=0/\pendingOf st' = #[]\/lo=a₀.size/\(pendingOf st').size<=1)) (Q:=λc st'=>c=(none,a₀.size)/\Rn κ rk a₀ a₀.size st'/\(pendingOf st').size<=1) (λx c st' _ hx I=>?_) (λc st' I=>?_) ⟨0,rfl,h,.inl ⟨rfl,rfl,hp0⟩⟩) λc st' I=>?_)
 ·obtain⟨lo,rfl,r,hl⟩:=I;have rle:=r.le;dsimp only;split
  ·rcases hl with ⟨_,rfl,_⟩|⟨rfl,hp⟩
   ·omega
   ·exact r0 ⟨rfl,r,hp⟩
  ·rename_i c;rcases hl with ⟨hx0,rfl,hp⟩|⟨rfl,hp⟩
   ·have sb:SB κ a₀ 0 (arrOf st') (pendingOf st') st':=⟨r.pm,r.kd,r.fl,λ_ _=>rfl,rfl⟩;have back:∀st2 n,SB κ a₀ 0 (arrOf st') (pendingOf st') st2->1<=n->0+n<=a₀.size->Asc rk (arrOf st2) 0 (0+n)->Rp κ rk a₀ 0 n st2:=λst2 n b n1 n2 o=>by
     refine⟨⟨b.pm,b.kd,b.fl,by rw[b.pe,hp];rfl,λx hx=>?_,r.le⟩,n1,n2,o⟩;rw[b.pe,hp]at hx
     cases hx
    refine kv (FH hC (by omega) (by omega) sb λm st2 ⟨b2,m1,m2,o2⟩=>?_);dsimp only;split
    ·refine kv (wpS_lift (LU ⟨rfl,kv (G1 hC (by omega) (by omega) b2 o2 λst3 b3 o3=>?_)⟩));rw[ac (by decide)];have em:min (a₀.size - 0) a₀.size=a₀.size:=by omega
     rw[em]at o3 ⊢;exact zu (back st3 _ b3 (by omega) (by omega) o3) (by rw[b3.pe,hp]) λst4 r4 p4=>⟨_,rfl,r4,.inr ⟨rfl,p4⟩⟩
    ·have em:m=a₀.size:=by omega
     subst em;exact zu (back st2 _ b2 m1 (by omega) o2) (by rw[b2.pe,hp]) λst4 r4 p4=>⟨_,rfl,r4,.inr ⟨rfl,p4⟩⟩
   ·omega
 ·obtain⟨lo,rfl,r,hl⟩:=I;rcases hl with ⟨h0,_⟩|⟨rfl,hp⟩
  ·omega
  ·exact⟨rfl,r,hp⟩
 ·obtain⟨rfl,r,hp⟩:=I;dsimp only;refine kv (wpS_mono (Lq (I:=λx c st2=>c=(none,())/\Rn κ rk a₀ a₀.size st2/\(pendingOf st2).size<=1) (Q:=λc st2=>c=(none,())/\Rn κ rk a₀ a₀.size st2/\(pendingOf st2).size<=1) (λx c st2 _ hx I=>?_) (λc st2 I=>I) ⟨rfl,r,hp⟩) λc st2 I=>?_)
  ·obtain⟨rfl,r2,sz⟩:=I;unfold E2;refine kv (wpS_get ?_);rw[ak sz];exact r0 ⟨rfl,r2,sz⟩
  ·obtain⟨rfl,r2,sz⟩:=I;dsimp only;refine r0 (q st2 r2.pm r2.fl ?_);have cv:=r2.cv;have so:=r2.so;have hl:(pendingOf st2).toList.length<=1:=by rw[ce];exact sz
   match hP:(pendingOf st2).toList,hl,cv,so with
   | [],_,cv,_=>have:0=a₀.size:=cv;omega
   | [(a,n,p)],_,cv,so =>
    obtain⟨rfl,_,e⟩:=cv;have e':0+n=a₀.size:=e;have:=so (0,n,p) am;dsimp only at this;rw[e']at this;exact this
   | _::_::_,hl,_,_=>simp at hl
end
def mid(s:Shared)(a:Addr)(vs:List Value):Shared:={ s with heap:=((s.heap.update a (Obj.mapSeq λ_=>#[])).push (seqObj "tuple" vs.toArray 0)).push (seqObj "list" #[] 0) }
section
variable {prog:Program} {w:World} {A:Around} {E:zzj} {s:Shared} {κ:SortKind} {rk:Value->Int}
def BG{P:Fin->Shared->Prop}(ho:s.heap.get? a=some (seqObj "list" vs.toArray n))(h64:vs.length<64)
  (hk:2<=vs.length->∀Q:SortKind->Shared->Prop,Q κ (mid s a vs)->wpAny (model prog w) A (keyKind' vs.toArray) Q E (mid s a vs)) (hC:2<=vs.length->np prog w A (mid s a vs) κ rk (pairsOf vs))
  (h:∀out:Array Value,out.toList.Perm vs->out.toList.Pairwise (λx y=>rk x<=rk y)->P (.done (.ret .none)) { s with heap:=sortedHeap s.heap a vs out }):wpAny (model prog w) A (Builtin.«list.sort» ⟨[.ref a],[]⟩) P E s:=by
 have hz:vs.length<=sizeLine:=cr (Lu h64) (by decide);have hlt:=ax ho;obtain⟨ep,ho1⟩:∃ep,(s.heap.update a (Obj.mapSeq λ_=>#[])).get? a=some (seqObj "list" #[] ep):=⟨_,Mb ho λ_=>#[]⟩;have ho2:(mid s a vs).heap.get? a=some (seqObj "list" #[] ep):=by
  unfold mid;dsimp only;rw[tt,tt]
  ·exact ho1
  ·rw[si];exact bj hlt
  ·rw[LW,si];exact bj (pi hlt)
 rw[list_sort_plain];refine zza (LX ho rfl (zza (LK ho rfl (zza (seqEpoch_at ho1 rfl (zza (wpAny_newTuple (zza (wpAny_newList (om ?_)))))))  (by simpa using hz) (di _))));have mem:∀p∈(pairsOf vs).toList,p.1=p.2/\p.1∈vs:=λp hp=>by
  rw[pairsOf_toList]at hp;exact mem_zip_self hp
 have fin:∀c:SortSt,(arrOf c).Perm (pairsOf vs)->Asc rk (arrOf c) 0 (arrOf c).size->P (.done (.ret .none)) { s with heap:=sortedHeap s.heap a vs ((arrOf c).map (·.2)) }:=λc hp ha=>by
  have hp':=Array.perm_iff_toList_perm.mp hp;have e:((arrOf c).map (·.2)).toList=(arrOf c).toList.map (·.1):=by
   rw[Array.toList_map];exact K5 λp q=>(mem p (hp'.mem_iff.mp q)).1.symm
  refine h _ ?_ ?_
  ·rw[e];have:=hp'.map (·.1)
   rwa [pairsOf_toList,List.map_fst_zip (au _)]at this
  ·rw[e,Go];exact Cv ha
 have size2:∀c:SortSt,(arrOf c).Perm (pairsOf vs)->((arrOf c).map (·.2)).size<=sizeLine+1:=λc hp=>by
  rw[Array.size_map,hp.size_eq,pairsOf_size];omega
 have vz:vs.toArray.size=vs.length:=be ..;show wpAny (model prog w) A _ P E (mid s a vs);by_cases c:vs.length<2
 ·rw[ak (by rw[vz];exact c),ak (by rw[vz];exact c)];refine zza (zzb ?_);dsimp only;rw[StateT.run_pure];refine zza (zzb (zza (seqEpoch_at ho2 rfl (zza (LK ho2 rfl ?_ (di _) (size2 (SortSt.mk' general' (vs.toArray.zip vs.toArray) #[] 7 none) (Array.Perm.refl _)))))));rw[ac (by simp)];refine zzb (fin (SortSt.mk' general' (vs.toArray.zip vs.toArray) #[] 7 none) (Array.Perm.refl _) λi j _ ij hj=>?_);have hj':j<(pairsOf vs).size:=hj;rw[pairsOf_size]at hj';rw[show i=j by omega];exact re _
 ·rw[ac (by rw[vz];exact c),ac (by rw[vz];exact c)];refine zza (hk (by omega) _ ?_);have so:=CY (E:=E) (hC (by omega)) (by rw[pairsOf_size];omega) (by rw[pairsOf_size];exact h64) (hp0:=rfl) (st:=SortSt.mk' κ (vs.toArray.zip vs.toArray) #[] 7 none) (Q:=λ_ c=>(arrOf c).Perm (pairsOf vs)/\failedOf c=none/\Asc rk (arrOf c) 0 (pairsOf vs).size)
   ⟨Array.Perm.refl _,rfl,rfl,rfl,(λx hx=>by cases hx),di _⟩ (λc a1 a2 a3=>⟨a1,a2,a3⟩)
  refine zza (li so (λr s' ⟨e,a1,a2,a3⟩=>?_) λ_ _ e=>e);subst e;obtain⟨⟨⟩,c⟩:=r;dsimp only at a1 a2 a3 ⊢;refine zza (seqEpoch_at ho2 rfl (zza (LK ho2 rfl ?_ (di _) (size2 c a1))));rw[a2];dsimp only;rw[ac (by simp)];exact zzb (fin c a1 (by rw[a1.size_eq];exact a3))
def DX{l:Addr}{Q:List Value->Shared->Prop}(ho:s.heap.get? l=some o)(hc:o.cls=.type "list" \/ o.cls=.type "tuple")(hd:o.data=.seq vs.toArray n)(hz:vs.length<=sizeLine)
  (h:Q vs { s with heap:=(s.heap.push (seqObj "list" #[] 0)).update s.heap.objs.size (Obj.mapSeq (· ++ vs.toArray)) }):wpAny (model prog w) A (collect (.ref l)) Q E s:=by
 have ho':(s.heap.push (seqObj "list" #[] 0)).get? l=some o:=zzc _ ho;have e0:(s.heap.push (seqObj "list" #[] 0)).get? s.heap.objs.size=some (seqObj "list" #[] 0):=zze _ rfl;unfold collect;refine zza (wpAny_runValue (um entry_proto_collect' ?_));show wpAny (model prog w) _ (newList [] >>= λx=>again (.builtin "list.__iadd__" ⟨[x,.ref l],[]⟩)) _ _ s;refine zza (wpAny_newList (zzb ⟨K8 _ (by decide +kernel),um entry_list_iadd' ?_⟩));show wpAny (model prog w) _ (Builtin.List.listExtendWith (.ref s.heap.objs.size) (.ref l) (.ref s.heap.objs.size)) _ _ { s with heap:=s.heap.push (seqObj "list" #[] 0) };unfold Builtin.List.listExtendWith;have sz:(((· ++ vs.toArray):Array Value->Array Value) #[]).size<=sizeLine+1:=by
  show(#[]++vs.toArray).size<=_;rw[LJ,be];simp only[be,ur];omega
 have tail:wpAny (model prog w) A (do
   let o <-load s.heap.objs.size
   match o.data with
   | .seq xs _=>pure xs.toList
   | _=>unsupported "internal:collect") Q E { s with heap:=(s.heap.push (seqObj "list" #[] 0)).update s.heap.objs.size (Obj.mapSeq (· ++ vs.toArray)) }:=by
  refine zza (wpAny_load (Mb e0 _) ?_);show wpAny (model prog w) A (pure ((#[]:Array Value)++vs.toArray).toList) Q E _;rw[show((#[]:Array Value)++vs.toArray).toList=vs by simp];exact zzb h
 rcases hc with hc|hc
 ·refine zza (La (T := "list") ⟨o,ho',hc⟩ ?_);rw[ak (by rw[show(Value.type "list" == Value.type "list")=true from rfl];simp)];refine zza (LX ho' hd (zza (LX (xs:=#[]) (n:=0) e0 rfl ?_)));rw[ac (by simp)];exact zza (LK (xs:=#[]) (n:=0) e0 rfl (zzb tail) (di _) sz)
 ·refine zza (La (T := "tuple") ⟨o,ho',hc⟩ ?_);rw[ak (by rw[show(Value.type "tuple" == Value.type "tuple")=true from rfl];simp)];refine zza (LX ho' hd (zza (LX (xs:=#[]) (n:=0) e0 rfl ?_)));rw[ac (by simp)];exact zza (LK (xs:=#[]) (n:=0) e0 rfl (zzb tail) (di _) sz)
def e7(s:Shared)(vs:List Value):Shared:={ s with heap:=s.heap.push (seqObj "list" vs.toArray 0) }
theorem nV{x:Value}{Q:zzj}(col:∀(E':zzj) (Q':List Value->Shared->Prop),(∀vs s2,(vs.length<64/\∃(κ:SortKind) (rk:Value->Int),
   (2<=vs.length->∀(E':zzj) (Q:SortKind->Shared->Prop),Q κ (mid (e7 s2 vs) s2.heap.objs.size vs)->wpAny (model prog w) A.in1.in1 (keyKind' vs.toArray) Q E' (mid (e7 s2 vs) s2.heap.objs.size vs)) /\
   (2<=vs.length->np prog w A.in1.in1 (mid (e7 s2 vs) s2.heap.objs.size vs) κ rk (pairsOf vs)) /\
   ∀out:Array Value,out.toList.Perm vs->out.toList.Pairwise (λx y=>rk x<=rk y)->Q (.ref s2.heap.objs.size) { s2 with heap:=sortedHeap (e7 s2 vs).heap s2.heap.objs.size vs out })->Q' vs s2)->wpAny (model prog w) A.in1 (collect x) Q' E' s) :
  wpAny (model prog w) A (call (.builtin "sorted") [x]) Q E s:=by
 refine Calls.call_function_entry kind_sorted plain_sorted entry_sorted (args_sorted1 _) ?_;unfold Builtin.«sorted»;refine zza (m:=checkCount "sorted" 1 1 _) (zzb (zza (col _ _ λvs s2 ⟨hz,κ,rk,hk,hC,h⟩=>zza (wpAny_newList ?_))));have hg:(e7 s2 vs).heap.get? s2.heap.objs.size=some (seqObj "list" vs.toArray 0):=zze _ rfl;show wpAny _ _ _ _ _ (e7 s2 vs);exact zza (om (wP slot_list_sort ⟨_,hg,rfl⟩ entry_list_sort (BG hg hz (λc=>hk c _) hC λout a1 a2=>⟨_,rfl,zzb ⟨_,rfl,h out a1 a2⟩⟩) (args_list_sort _)))
def rT{h:Heap}{out:Array Value}{b:Addr}(hab:b≠a)(e:h.get? b=some o):(sortedHeap h a vs out).get? b=some o:=by
 have hlt:b<h.objs.size:=ax e;unfold sortedHeap;rw[Lp _ _ _ _ hab,tt _ _ _ (by rw[LW,si];exact bj (pi hlt)),tt _ _ _ (by rw[si];exact bj hlt),Lp _ _ _ _ hab];exact e
def vZ{h:Heap}{out:Array Value}(ho:h.get? a=some (seqObj "list" vs.toArray n)):∃e,(sortedHeap h a vs out).get? a=some (seqObj "list" out e):=by
 have hlt:a<h.objs.size:=ax ho;obtain⟨ep,e1⟩:∃ep,(h.update a (Obj.mapSeq λ_=>#[])).get? a=some (seqObj "list" #[] ep):=⟨_,Mb ho λ_=>#[]⟩;unfold sortedHeap;refine⟨_,Mb (n:=ep) (xs:=#[]) ?_ λ_=>out⟩;rw[tt _ _ _ (by rw[LW,si];exact bj (pi hlt)),tt _ _ _ (by rw[si];exact bj hlt)];exact e1
def Dw{b:Addr}(e:s.heap.get? b=some o):(mid (e7 s vs) s.heap.objs.size vs).heap.get? b=some o:=by
 have hlt:b<s.heap.objs.size:=ax e;unfold mid e7;dsimp only;rw[tt _ _ _ (by rw[LW,si,LW];exact bj (pi (pi hlt))),tt _ _ _ (by rw[si,LW];exact bj (pi hlt)),Lp _ _ _ _ (bj hlt)];exact zzc _ e
end
end TS
namespace L4
open PySem PySem.Spec PyProof.Rows L2 L3
variable {α:Type}
section
open HT
def wJ:∀a:List Int,lexLt a a=false
 | []=>rfl
 | x::a=>by rw[lexLt_cons,ak rfl];exact wJ a
def yI:∀{a b c:List Int},lexLt a b=true->lexLt b c=true->lexLt a c=true
 | [],[],_,h,_=>by cases h
 | [],_::_,[],_,h=>by cases h
 | [],_::_,_::_,_,_=>rfl
 | _::_,[],_,h,_=>by cases h
 | _::_,_::_,[],_,h=>by cases h
 | x::a,y::b,z::c,h1,h2=>by
  rw[lexLt_cons]at h1 h2 ⊢;by_cases e1:x=y
  ·by_cases e2:y=z
   ·rw[ak e1]at h1;rw[ak e2]at h2;rw[ak (e1.trans e2)];exact yI h1 h2
   ·rw[ac e2,zzi]at h2;rw[ac (by omega),zzi];omega
  ·rw[ac e1,zzi]at h1;by_cases e2:y=z
   ·rw[ac (by omega),zzi];omega
   ·rw[ac e2,zzi]at h2;rw[ac (by omega),zzi];omega
def oZ:∀{a b:List Int},lexLt a b=false->lexLt b a=false->a=b
 | [],[],_,_=>rfl
 | [],_::_,h,_=>by cases h
 | _::_,[],_,h=>by cases h
 | x::a,y::b,h1,h2=>by
  rw[lexLt_cons]at h1 h2;by_cases e:x=y
  ·rw[ak e]at h1;rw[ak e.symm]at h2;rw[e,oZ h1 h2]
  ·rw[ac e,ge]at h1;rw[ac (λz=>e z.symm),ge]at h2;omega
def ID{a b:List Int}(h:lexLt a b=true):lexLt b a=false:=by
 cases q:lexLt b a with
 | false=>rfl
 | true=>have:=yI h q;rw[wJ]at this;cases this
end
def Ag{p q:α->Bool}{l:List α}{x:α}(h:∀y∈l,p y=true->q y=true)(hx:x∈l)(h1:p x=false)(h2:q x=true):l.countP p<l.countP q:=by
 induction l with
 | nil=>cases hx
 | cons y l ih =>
  have hm:∀z∈l,p z=true->q z=true:=λz hz=>h z (zzg _ hz)
  have le:l.countP p<=l.countP q:=List.countP_mono_left hm;rw[List.countP_cons,List.countP_cons];rcases List.mem_cons.mp hx with rfl|hx
  ·rw[h1,h2];simp;omega
  ·have:=ih hm hx;have hy:=h y am
   cases e:p y with
   | false=>simp;omega
   | true=>rw[hy e];simp;omega
def rankOf{α:Type}(l:List α)(k:α->List Int)(x:α):Int:=(l.countP λu=>HT.lexLt (k u) (k x):Nat)
def nv{l:List α}{k:α->List Int}{x y:α}(hx:x∈l)(hy:y∈l):decide (rankOf l k x<rankOf l k y)=HT.lexLt (k x) (k y):=by
 have up:∀x y,x∈l->HT.lexLt (k x) (k y)=true->rankOf l k x<rankOf l k y:=λx y hx h=>by
  have:=Ag (p:=λu=>HT.lexLt (k u) (k x)) (q:=λu=>HT.lexLt (k u) (k y)) (l:=l) (λz _ hz=>yI hz h) hx (wJ _) h;unfold rankOf;omega
 cases e:HT.lexLt (k x) (k y)with
 | true=>exact ay (up x y hx e)
 | false =>
  rw[ge];intro z
  cases e2:HT.lexLt (k y) (k x)with
  | true=>have:=up y x hy e2;omega
  | false =>
   have ek:=oZ e e2;unfold rankOf at z;rw[ek]at z;omega
def iY:D->Bool
 | .tuple ds=>match intsOf ds with
  | some (_::_)=>true
  | _=>false
 | _=>false
def wR:D->Bool
 | .int _=>true
 | _=>false
def o8:D->Bool
 | .str x=>PyData.strOk x
 | _=>false
def dg(ds:List D):Bool:=decide (ds.length<64)&&((ds.all wR||ds.all iY)||ds.all o8)
def keyD:D->List Int
 | .int i=>[i]
 | .str x=>x.cps.toList.map λc:Nat=>(c:Int)
 | .tuple ds=>(intsOf ds).getD []
 | _=>[]
def leK(x y:D):Bool:=!HT.lexLt (keyD y) (keyD x)
def dq(ds:List D):List D:=ds.mergeSort leK
def bV(ds:List D):(dq ds).Perm ds:=List.mergeSort_perm ds leK
def Gz(x y z:D)(h1:leK x y=true)(h2:leK y z=true):leK x z=true:=by
 unfold leK at *;rw[ny]at *
 cases e:HT.lexLt (keyD z) (keyD x)with
 | false=>rfl
 | true =>
  exfalso
  cases e2:HT.lexLt (keyD x) (keyD y)with
  | true=>have:=yI e e2;rw[h2]at this;cases this
  | false=>rw[oZ e2 h1,h2]at e;cases e
def DD(x y:D):(leK x y||leK y x)=true:=by
 unfold leK
 cases e:HT.lexLt (keyD y) (keyD x)with
 | false=>rfl
 | true=>rw[ID e];rfl
def cP(ds:List D):(dq ds).Pairwise λx y=>leK x y=true:=List.pairwise_mergeSort Gz DD ds
def gJ{R:D->D->Prop}:∀{a b:List D},(∀x∈b,∀y∈b,R x y->R y x->x=y)->a.Perm b->a.Pairwise R->b.Pairwise R->a=b
 | [],b,_,hp,_,_=>by simpa using hp.symm.eq_nil
 | x::r,b,hR,hp,ha,hb=>by
  cases b with
  | nil=>exact absurd hp.length_eq (by simp)
  | cons y t =>
   rw[Lx]at ha hb;have hx:x∈y::t:=hp.mem_iff.mp am;have hy:y∈x::r:=hp.mem_iff.mpr am;have e:x=y:=by
    rcases List.mem_cons.mp hx with e|hx'
    ·exact e
    ·rcases List.mem_cons.mp hy with e|hy'
     ·exact e.symm
     ·exact hR x hx y am (ha.1 y hy') (hb.1 x hx')
   subst e;rw[gJ (λx hx y hy=>hR x (zzg _ hx) y (zzg _ hy)) (List.Perm.cons_inv hp) ha.2 hb.2]
def eC{d:D}(h:iY d=true):∃n r,d=.tuple ((n::r).map PyData.int):=by
 unfold iY at h;split at h
 ·rename_i ds;split at h
  ·rename_i n r e;exact⟨n,r,by rw[lU e]⟩
  ·cases h
 ·cases h
def jx{d:D}(h:wR d=true):∃n,d=.int n:=by
 cases d<;>first|exact⟨_,rfl⟩|cases h
def jw{d:D}(h:o8 d=true):∃x,d=.str x/\PyData.strOk x=true:=by
 cases d<;>first|exact⟨_,rfl,h⟩|cases h
def DF{ds:List D}(h:dg ds=true):∀x∈ds,∀y∈ds,keyD x=keyD y->x=y:=λx hx y hy e=>by
 unfold dg at h;rw[ai]at h;replace h:=h.2;rw[ii,ii,gh,gh,gh]at h;rcases h with (h|h)|h
 ·obtain⟨n,rfl⟩:=jx (h x hx);obtain⟨m,rfl⟩:=jx (h y hy);have e':[n]=[m]:=e;injection e' with e';rw[e']
 ·obtain⟨n,r,rfl⟩:=eC (h x hx);obtain⟨m,t,rfl⟩:=eC (h y hy);have kt:∀l:List Int,keyD (.tuple (l.map PyData.int))=l:=λl=>by
   show(intsOf (l.map PyData.int)).getD []=l;rw[jY];rfl
  rw[kt,kt]at e;rw[e]
 ·obtain⟨a,rfl,_⟩:=jw (h x hx);obtain⟨b,rfl,_⟩:=jw (h y hy);have e':a.cps.toList.map (λc:Nat=>(c:Int))=b.cps.toList.map (λc:Nat=>(c:Int)):=e;have e2:=Lz (f:=λc:Nat=>(c:Int)) (λ{x y} h=>by have h:(x:Int)=(y:Int):=h;omega) |>.mp e'
  cases a
  cases b
  congr 2;exact Array.toList_inj.mp e2
def ui{ds r:List D}(h:dg ds=true)(hp:r.Perm ds)(hs:r.Pairwise λx y=>leK x y=true):r=dq ds :=
 gJ (λx hx y hy h1 h2=>DF h x ((bV ds).mem_iff.mp hx) y ((bV ds).mem_iff.mp hy) (by
  unfold leK at h1 h2;rw[ny]at h1 h2
  exact oZ h2 h1)) (hp.trans (bV ds).symm) hs (cP ds)
def Bk{β:Type}{f:α->β}:∀{out:List β} {l:List α},out.Perm (l.map f)->∃l':List α,l'.Perm l/\l'.map f=out:=by
 intro out l h;generalize e:l.map f=m at h
 induction h generalizing l with
 | nil =>
  cases l with
  | nil=>exact⟨[],.refl _,rfl⟩
  | cons y l=>cases e
 | @cons x a b hp ih =>
  cases l with
  | nil=>cases e
  | cons y l =>
   rw[ba]at e;injection e with e1 e2;obtain⟨l',h1,h2⟩:=ih e2;exact⟨y::l',h1.cons y,by rw[ba,h2,e1]⟩
 | @swap x y a =>
  match l,e with
  | u::v::l,e =>
   rw[ba,ba]at e;injection e with e1 e2;injection e2 with e2 e3;exact⟨v::u::l,.swap _ _ _,by rw[ba,ba,e1,e2,e3]⟩
 | @trans a b c h1 h2 ih1 ih2 =>
  obtain⟨l1,p1,q1⟩:=ih2 e;obtain⟨l2,p2,q2⟩:=ih1 q1;exact⟨l2,p2.trans p1,q2⟩
end L4
namespace L4
open PySem PySem.Spec PyProof.Rows L2 L3 TS
def mO{prog:Program}{w:World}{A:Around}{s:Shared}{b fin:Bool}{Q:Bool->Shared->Prop}:∀{vs us:List Value} {ns ms:List Int} (i:Nat),IntsAre vs ns->IntsAre us ms->fin=decide (vs.length<us.length)->Q (HT.lexLt ns ms) s ->
  PySem.W.KatLex prog w A b fin Q (vs.zip us) i s
 | _,_,_,_,i,.nil,.nil,e,q=>by
  subst e;exact q
 | _,_,_,_,i,.nil,.cons _ _ _,e,q=>by
  subst e;exact q
 | _,_,_,_,i,.cons _ _ _,.nil,e,q=>by
  subst e;exact q
 | _,_,_,_,i,.cons x t h1,.cons y u h2,e,q=>by
  rw[List.zip_cons_cons];refine PySem.W.kat_cons (wpAny_eqBool_int ?_);rw[HT.lexLt_cons]at q;by_cases c:x=y
  ·rw[ak c]at q;rw[show(x==y)=true by simpa using c];exact PySem.W.kat_yes (mO (i+1) h1 h2 (by rw[e];simp) q)
  ·rw[ac c]at q;rw[show(x==y)=false by simpa using c];refine PySem.W.kat_no ?_
   cases hb:(b&&i==0)with
   | true=>exact oneLt_int q
   | false=>exact PySem.W.kat_one _ _ (lt_int q)
def triples{K:Fg}{F:Hp}:∀{vs:List V} {ds:List D} {its:List Value},RepL K F vs ds->Vals vs its->∃L:List (V×D×Value),L.map (·.1)=vs/\L.map (·.2.1)=ds/\L.map (·.2.2)=its/\∀t∈L,Rep K F t.1 t.2.1/\RelV t.1 t.2.2
 | _,_,_,.nil,r=>by cases r;exact⟨[],rfl,rfl,rfl,λ_ h=>by cases h⟩
 | _,_,_,.cons h t,r=>by
  cases r with
  | cons r rr =>
   obtain⟨L,e1,e2,e3,e4⟩:=triples t rr;refine⟨(_,_,_)::L,by rw[ba,e1],by rw[ba,e2],by rw[ba,e3],λx hx=>?_⟩;rcases List.mem_cons.mp hx with rfl|hx
   ·exact⟨h,r⟩
   ·exact e4 x hx
def t8{K:Fg}{F:Hp}:∀{L:List (V×D×Value)},(∀t∈L,Rep K F t.1 t.2.1/\RelV t.1 t.2.2)->RepL K F (L.map (·.1)) (L.map (·.2.1))/\Vals (L.map (·.1)) (L.map (·.2.2))
 | [],_=>⟨.nil,.nil⟩
 | x::L,h=>by
  obtain⟨h1,h2⟩:=h x am;obtain⟨h3,h4⟩:=t8 (L:=L) λt ht=>h t (zzg _ ht)
  exact⟨.cons h1 h3,.cons h2 h4⟩
def EG(K:Fg):List V->Hp->VK->Prop:=λxs H Q=>∃(G:Gh) (F:Hp) (Z:L2.St) (ρ:En) (x:V) (d:D) (ds:List D),xs=[x]/\StOk K G F Z H ρ/\OR K F H x d/\zE d=some ds/\dg ds=true /\
 ∀l vs,H l=none->RepL K F vs (dq ds)->Q (.ref l) (upd H l (.lst vs))
def fY:List D->Option (List D)
 | [d]=>match zE d with
  | some ds=>if dg ds then some (dq ds)else none
  | none=>none
 | _=>none
def BJ{ds:List D}(h:dg ds=true):PyData.canLayAll0 ds=true:=by
 have all:∀l:List D,(∀d∈l,d.canLay0=true)->PyData.canLayAll0 l=true:=by
  intro l
  induction l with
  | nil=>intro _;simp[PyData.canLayAll0]
  | cons a l ih =>
   intro h;simp only[PyData.canLayAll0,ai];exact⟨h a am,ih λd hd=>h d (zzg _ hd)⟩
 refine all ds λd hd=>?_
 unfold dg at h;rw[ai]at h;replace h:=h.2;rw[ii,ii,gh,gh,gh]at h;rcases h with (h|h)|h
 ·obtain⟨n,rfl⟩:=jx (h d hd);simp[PyData.canLay0]
 ·obtain⟨n,r,rfl⟩:=eC (h d hd);simp only[PyData.canLay0];refine all _ λd hd=>?_
  obtain⟨m,_,rfl⟩:=List.mem_map.mp hd;simp[PyData.canLay0]
 ·obtain⟨x,rfl,hx⟩:=jw (h d hd);simp[PyData.canLay0,hx]
def qJ{h:Heap}:∀{vs:List Value} {ns:List Str} {as:List Addr},ReadsAll h vs (ns.map PyData.str) as->StrsAre vs ns
 | _,[],_,r=>by rw[K3]at r;cases r;exact .nil
 | _,n::ns,_,r=>by
  rw[ba]at r
  cases r with
  | cons a b =>
   cases a with
   | str i t=>exact .cons n t (qJ b)
def all_strs:∀{ds:List D},ds.all o8=true->∃ns:List Str,ds=ns.map PyData.str/\∀x∈ns,PyData.strOk x=true
 | [],_=>⟨[],rfl,λx h=>nomatch h⟩
 | d::ds,h=>by
  rw[LP,ai]at h;obtain⟨n,rfl,hn⟩:=jw h.1;obtain⟨ns,rfl,hs⟩:=all_strs h.2;refine⟨n::ns,rfl,λx hx=>?_⟩;rcases List.mem_cons.mp hx with rfl|hx
  ·exact hn
  ·exact hs x hx
def BF:∀a b:List Nat,HT.lexLt (a.map λc:Nat=>(c:Int)) (b.map λc:Nat=>(c:Int))=decide (a<b)
 | [],[]=>by decide
 | [],_::_=>by simp[HT.lexLt]
 | _::_,[]=>by simp[HT.lexLt]
 | x::a,y::b=>by
  rw[ba,ba,HT.lexLt_cons,BF a b];by_cases h:x=y
  ·subst h;rw[ak rfl];exact decide_eq_decide.mpr (by rw[List.cons_lt_cons_iff];simp)
  ·rw[ac (by omega)];exact decide_eq_decide.mpr (by rw[List.cons_lt_cons_iff];simp[h])
def lT{h:Heap}:∀{vs:List Value} {ns:List Int} {as:List Addr},ReadsAll h vs (ns.map PyData.int) as->IntsAre vs ns
 | _,[],_,r=>by rw[K3]at r;cases r;exact .nil
 | _,n::ns,_,r=>by
  rw[ba]at r
  cases r with
  | cons a b =>
   cases a with
   | int i t=>exact .cons n t (lT b)
def all_ints:∀{ds:List D},ds.all wR=true->∃ns:List Int,ds=ns.map PyData.int
 | [],_=>⟨[],rfl⟩
 | d::ds,h=>by
  rw[LP,ai]at h;obtain⟨n,rfl⟩:=jx h.1;obtain⟨ns,rfl⟩:=all_ints h.2;exact⟨n::ns,rfl⟩
def qP{X:Cx}{pins:zzk}{Z σ':L2.St}{H F:Hp}{s:Shared}{G:Gh}{ρ:En}{vs:List V}{ds:List D}{its:List Value}{Q:VK}(I:Inv X pins Z H s)(S:StOk X.K G F σ' H ρ)(rl:RepL X.K F vs ds)(rv:Vals vs its)(hz:vs.length<=sizeLine)(hok:dg ds=true)
  (k:∀l vs,H l=none->RepL X.K F vs (dq ds)->Q (.ref l) (upd H l (.lst vs))):its.length<64/\∃(κ:SortKind) (rk:Value->Int),
   (2<=its.length->∀(E':zzj) (Q:SortKind->Shared->Prop),Q κ (mid (e7 s its) s.heap.objs.size its)->wpAny (model X.prog X.w) X.A.in1.in1 (keyKind' its.toArray) Q E' (mid (e7 s its) s.heap.objs.size its)) /\
   (2<=its.length->np X.prog X.w X.A.in1.in1 (mid (e7 s its) s.heap.objs.size its) κ rk (pairsOf its)) /\
   ∀out:Array Value,out.toList.Perm its->out.toList.Pairwise (λx y=>rk x<=rk y)->EP X pins Z Q (.ref s.heap.objs.size) { s with heap:=sortedHeap (e7 s its).heap s.heap.objs.size its out }:=by
 have lay:=BJ hok;have I1:Inv X pins Z H (mid (e7 s its) s.heap.objs.size its):=I.kept (t':=s.toks) λb o e=>Dw e
 obtain⟨as,ra⟩:=(bW I1).2 (rl.mono S.fh) lay rv;generalize hs1:mid (e7 s its) s.heap.objs.size its=s1 at I1 ra;have emap:its.map (SeqAt.readOf s1.heap)=ds:=SeqAt.readsAll_map ds _ _ lay ra
 let kf:Value->List Int:=λv=>keyD (SeqAt.readOf s1.heap v)
 have hmem:∀x,x∈(pairsOf its).toList->x.1∈its:=λx hx=>by
  rw[pairsOf_toList]at hx;exact(mem_zip_self hx).2
 have hzl:its.length<=sizeLine:=by rw[<-rv.length];exact hz
 have fin:∀out:Array Value,out.toList.Perm its->out.toList.Pairwise (λx y=>rankOf its kf x<=rankOf its kf y)->EP X pins Z Q (.ref s.heap.objs.size) { s with heap:=sortedHeap (e7 s its).heap s.heap.objs.size its out }:=λout o1 o2=>by
  obtain⟨L,e1,e2,e3,e4⟩:=triples rl rv;rw[<-e3]at o1;obtain⟨L',p1,p2⟩:=Bk o1;have e4':∀t∈L',Rep X.K F t.1 t.2.1/\RelV t.1 t.2.2:=λt ht=>e4 t (p1.mem_iff.mp ht)
  have rd:∀t∈L',SeqAt.readOf s1.heap t.2.2=t.2.1:=λt ht=>by
   obtain⟨a1,a2⟩:=e4' t ht;have:t.2.1∈ds:=by rw[<-e2];exact List.mem_map.mpr ⟨t,p1.mem_iff.mp ht,rfl⟩
   have al:∀l:List D,PyData.canLayAll0 l=true->∀d∈l,d.canLay0=true:=by
    intro l
    induction l with
    | nil=>intro _ d hd;cases hd
    | cons a l ih =>
     intro h d hd;simp only[PyData.canLayAll0,ai]at h;rcases List.mem_cons.mp hd with rfl|hd
     ·exact h.1
     ·exact ih h.2 d hd
   have hcl:=al ds lay _ this;obtain⟨bs,rb⟩:=(bW I1).1 (a1.mono S.fh) hcl a2;exact Mc hcl rb
  obtain⟨u1,u2⟩:=t8 e4';have es:L'.map (·.2.1)=dq ds:=by
   refine ui hok (by rw[<-e2];exact p1.map _) ?_;rw[<-p2,Go]at o2;rw[Go];refine List.Pairwise.imp_of_mem (λ{x y} hx hy h=>?_) o2;have mx:x.2.2∈its:=by rw[<-e3];exact List.mem_map.mpr ⟨x,p1.mem_iff.mp hx,rfl⟩
   have my:y.2.2∈its:=by rw[<-e3];exact List.mem_map.mpr ⟨y,p1.mem_iff.mp hy,rfl⟩
   have q:=nv (k:=kf) my mx;rw[aw (by omega)]at q;show(!HT.lexLt (keyD y.2.1) (keyD x.2.1))=true;rw[<-rd x hx,<-rd y hy];show(!HT.lexLt (kf y.2.2) (kf x.2.2))=true;rw[<-q];rfl
  rw[es]at u1;rw[p2]at u2;obtain⟨ep,he⟩:=vZ (out:=out) (show(e7 s its).heap.get? s.heap.objs.size=some (seqObj "list" its.toArray 0)from zze _ rfl);refine⟨.ref s.heap.objs.size,upd H s.heap.objs.size (.lst (L'.map (·.1))),I.laid (t':=s.toks) (λb o q=>rT (bj (ax q)) (zzc _ q)) (au _) ⟨?_,out.toList,ep,u2,?_⟩,rfl,k _ _ (I.hok.fresh (au _)) u1⟩
  ·rw[u2.length,<-p2,zzd,p1.length_eq,<-zzd (f:=λt:V×D×Value=>t.2.2),e3];exact hzl
  ·exact he
 have h64:its.length<64:=by
  have h:=hok;unfold dg at h;rw[ai,zzi]at h;rw[<-rv.length,rl.length];exact h.1
 have hok':=hok;unfold dg at hok';rw[ai]at hok';replace hok':=hok'.2;rw[ii,ii]at hok';rcases hok' with (hI|hT)|hZ
 ·obtain⟨ns,rfl⟩:=all_ints hI;have ia:IntsAre its ns:=lT ra;have kfi:∀{m:Int} {t:Tok},kf (.int m t)=[m]:=λ{m t}=>by
   show keyD (SeqAt.readOf s1.heap (.int m t))=[m];rw[Mc (d:=.int m) (by simp[PyData.canLay0]) (.int m t)];rfl
  refine⟨h64,oneType',rankOf its kf,λh2 E' Q' q=>?_,λh2 x y hx hy E' Q' q=>?_,fin⟩
  ·match its,ia,h2,q with
   | v1::v2::rest,ia,_,q =>
    rw[keyKind_ints ia];exact zzb q
  ·have hx':=hmem x hx;have hy':=hmem y hy;rw[nv hx' hy']at q;obtain⟨m1,t1,e1⟩:=ia.all _ hx';obtain⟨m2,t2,e2⟩:=ia.all _ hy';rw[e1,e2]at q ⊢;rw[kfi,kfi]at q;rw[keyLt'_oneType];refine oneLt_int ?_;have:HT.lexLt [m1] [m2]=decide (m1<m2):=by
    rw[HT.lexLt_cons];split
    ·rename_i e;rw[e];simp[HT.lexLt_nil_nil]
    ·rfl
   rw[this]at q;exact q
 ·rw[gh]at hT;have each:∀v∈its,∃(a:Addr) (o:Obj) (xs:List Value) (n:Nat) (m:Int) (ms:List Int),v=.ref a/\s1.heap.get? a=some o/\o.cls=.type "tuple" /\ o.data=.seq xs.toArray n/\IntsAre xs (m::ms)/\kf v=m::ms:=λv hv=>by
   obtain⟨dv,bs,rd,hl,_⟩:=SeqAt.readsAll_mem ds its _ lay ra v hv;have er:=Mc hl rd;have hin:dv∈ds:=by rw[<-emap,<-er];exact List.mem_map.mpr ⟨v,hv,rfl⟩
   obtain⟨m,ms,rfl⟩:=eC (hT dv hin)
   cases rd with
   | tuple g1 g2 g3 g4 =>
    rename_i a o vs' n;refine⟨a,o,vs'.toList,n,m,ms,rfl,g1,g2,by rw[g3],lT g4,?_⟩;show keyD (SeqAt.readOf s1.heap (.ref a))=_;rw[er];show(intsOf ((m::ms).map PyData.int)).getD []=_;rw[jY];rfl
  refine⟨h64,tuples' true,rankOf its kf,λh2 E' Q' q=>?_,λh2 x y hx hy E' Q' q=>?_,fin⟩
  ·have fs:∀l:List Value,(∀v∈l,v∈its)->∃fs:List Value,PySem.W.KatTups s1.heap l fs/\fs.length=l.length/\∀v∈fs,∃i t,v=.int i t:=by
    intro l
    induction l with
    | nil=>intro _;exact⟨[],trivial,rfl,λ_ h=>by cases h⟩
    | cons v l ih =>
     intro hl;obtain⟨fs,f1,f2,f3⟩:=ih λv hv=>hl v (zzg _ hv)
     obtain⟨a,o,xs,n,m,ms,rfl,g1,g2,g3,g4,_⟩:=each v (hl v am)
     cases g4 with
     | cons _ t g5 =>
      refine⟨.int m t::fs,PySem.W.KatTups.cons g1 g2 g3 (by simp) f1,by simp[f2],λv hv=>?_⟩;rcases List.mem_cons.mp hv with rfl|hv
      ·exact⟨_,_,rfl⟩
      ·exact f3 v hv
   obtain⟨fs,f1,f2,f3⟩:=fs its λ_ h=>h
   refine PySem.W.kat_kind f1 (by omega) (T:=.type "int") (λv hv=>?_) rfl q;obtain⟨i,t,rfl⟩:=f3 v hv;exact PySem.W.Looks.now
  ·have hx':=hmem x hx;have hy':=hmem y hy;rw[nv hx' hy']at q;obtain⟨a1,o1,xs1,n1,m1,ms1,e1,g1,g2,g3,g4,g5⟩:=each _ hx';obtain⟨a2,o2,xs2,n2,m2,ms2,e2,k1,k2,k3,k4,k5⟩:=each _ hy';rw[g5,k5]at q;rw[e1,e2];refine PySem.W.kat_lt g1 g3 k1 k3 ?_;have:=mO (prog:=X.prog) (w:=X.w) (A:=X.A.in1.in1) (b:=true) (Q:=Q') 0 g4 k4 rfl q;simpa using this
 ·obtain⟨ns,rfl,hst⟩:=all_strs hZ;have ia:StrsAre its ns:=qJ ra;have inS:∀v∈its,∃x t,v=.str x t/\PyData.strOk x=true:=λv hv=>by
   obtain⟨x,t,rfl⟩:=ia.all v hv;refine⟨x,t,rfl,hst x ?_⟩;rw[<-ia.strs];exact List.mem_map.mpr ⟨_,hv,rfl⟩
  have kfs:∀{m:Str} {t:Tok},PyData.strOk m=true->kf (.str m t)=m.cps.toList.map λc:Nat=>(c:Int):=λ{m t} hm=>by
   show keyD (SeqAt.readOf s1.heap (.str m t))=_;rw[Mc (d:=.str m) (by simp[PyData.canLay0,hm]) (.str m t)];rfl
  refine⟨h64,oneType',rankOf its kf,λh2 E' Q' q=>?_,λh2 x y hx hy E' Q' q=>?_,fin⟩
  ·match its,ia,h2,q with
   | v1::v2::rest,ia,_,q =>
    rw[keyKind_strs ia];exact zzb q
  ·have hx':=hmem x hx;have hy':=hmem y hy;rw[nv hx' hy']at q;obtain⟨m1,t1,e1,o1⟩:=inS _ hx';obtain⟨m2,t2,e2,o2⟩:=inS _ hy';rw[e1,e2]at q ⊢;rw[kfs o1,kfs o2,BF]at q;rw[keyLt'_oneType];exact oneLt_str q
def mm{X:Cx}:CallR X (.builtin "sorted") (EG X.K):=by
 intro pins s Z H xs us Q I r h0;obtain⟨G,F,σ',ρ,x,d,ds,rfl,S,ho,hd,hok,k⟩:=h0;obtain⟨u,rfl,ru⟩:=L2.Vals.one r;have hseq:∃(p:Addr) (o:Obj) (n:Nat) (vs:List V) (its:List Value),u=.ref p/\s.heap.get? p=some o/\(o.cls=.type "list" \/ o.cls=.type "tuple")/\o.data=.seq its.toArray n/\Vals vs its/\vs.length<=sizeLine/\RepL X.K F vs ds:=by
  cases d with
  | list es =>
   cases hd
   obtain⟨a,vs,rfl,h1,h2⟩:=ho.list S.fh
   cases ru
   obtain⟨its,rv,pl,hz⟩:=I.list h1;obtain⟨o,e1,e2,n,e3⟩:=pl.isList;exact⟨a,o,n,vs,its,rfl,e1,.inl e2,e3,rv,hz,h2⟩
  | tuple es =>
   cases hd
   obtain⟨a,vs,rfl,h1,h2⟩:=ho.tuple S.fh
   cases ru
   obtain⟨its,rv,⟨o,e1,e2,n,e3⟩,hz⟩:=I.tuple h1;exact⟨a,o,n,vs,its,rfl,e1,.inr e2,e3,rv,hz,h2⟩
  | _=>cases hd
 obtain⟨p,o,n,vs,its,rfl,hp,hcl,hdat,rv,hz,rl⟩:=hseq;have I2:Inv X pins Z H { s with heap:=(s.heap.push (seqObj "list" #[] 0)).update s.heap.objs.size (Obj.mapSeq (· ++ its.toArray)) }:=I.kept (t':=s.toks) λb o e=>by
  have hlt:b<s.heap.objs.size:=ax e;rw[Lp _ _ _ _ (bj hlt)];exact zzc _ e
 exact nV λE' Q' q=>DX hp hcl hdat (by rw[<-rv.length];exact hz) (q _ _ (qP I2 S rl rv hz hok k))
def sF{K:Fg}:vS K (EG K) fY:=by
 intro G F Z H ρ xs ds res Q S o e k;unfold fY at e;split at e
 ·rename_i d;split at e
  ·rename_i es hes;split at e
   ·rename_i hok
    cases e
    obtain⟨v,r,rfl,ho,hr⟩:=bB o;obtain rfl:=bR hr;refine⟨G,F,Z,ρ,v,d,es,rfl,S,ho,hes,hok,λl vs hl rp=>?_⟩;obtain⟨S2,r2⟩:=S.newLst hl rp;exact k _ F _ (Same.refl _) S2 r2
   ·cases e
  ·cases e
 ·cases e
end L4
namespace TS
end TS
namespace L4
open PySem PySem.Spec PyProof.Rows L2 L3 TS
def Cf{prog:Program}{w:World}{A:Around}{E:zzj}{s:Shared}{T:String}{r d:Addr}{n:Nat}{P:Nat->Value->Prop}{OK:Heap->Prop}{Q:List Value->Shared->Prop}(K:PySem.W.KdlSrc prog w T r d n P OK)(hh:A.handled=none)(hok:OK s.heap)(hn:n<=sizeLine)
  (q:∀h' tk acc,(∀b o,s.heap.get? b=some o->h'.get? b=some o)->ItemsOf P acc n->Q acc.toList { s with heap:=h',toks:=tk }):wpAny (model prog w) A (collect (.ref r)) Q E s:=by
 have hlt:=K.there _ hok;have e0:(s.heap.push (seqObj "list" #[] 0)).get? s.heap.objs.size=some (seqObj "list" #[] 0):=zze _ rfl;have key:∀R:Result->Shared->Prop,(∀h' tk acc c,(∀b o,s.heap.get? b=some o->h'.get? b=some o)->h'.get? s.heap.objs.size=some { cls:=.type "list",dict:=none,data:=.seq acc c,slots:=#[] }->ItemsOf P acc n->R (.ok (.ret (.ref s.heap.objs.size))) { s with heap:=h',toks:=tk }) ->
   codeAny (model prog w) A (.builtin "proto.collect" ⟨[.ref r],[]⟩) R s:=λR hR=>by
  refine um entry_proto_collect' ?_;rw[K2 PySem.F.plain_proto_collect _];show wpAny (model prog w) A.in1 (newList [] >>= λx=>again (.builtin "list.__iadd__" ⟨[x,.ref r],[]⟩)) _ _ s;refine zza (wpAny_newList (zzb ⟨K8 _ (by decide +kernel),um entry_list_iadd' ?_⟩));rw[K2 PySem.F.plain_list_iadd _];show wpAny (model prog w) A.in1 (Builtin.List.listExtendWith (.ref s.heap.objs.size) (.ref r) (.ref s.heap.objs.size)) _ _ { s with heap:=s.heap.push (seqObj "list" #[] 0) };exact PySem.W.kdl_extend (s:={ s with heap:=s.heap.push (seqObj "list" #[] 0) }) K hh (K.keep _ _ hok λb _ o e=>zzc _ e) _ (u8 hlt.1) (u8 hlt.2) _ 0 e0 (λh' tk acc c kp e it=>hR h' tk acc c (λb o z=>kp b o (bj (ax z)) (zzc _ z)) e it) hn
 unfold collect;refine zza (wpAny_runValue (key _ λh' tk acc c kp e it=>?_));show wpAny (model prog w) A (load s.heap.objs.size >>= _) _ _ _;exact zza (wpAny_load e (zzb (q h' tk acc kp it)))
end L4
namespace L4
open PySem PySem.Spec PyProof.Rows L2 L3
variable {x qual nm p0 y p1:Str}{K:Fg}{C f a:Addr}{X:Cx}{pos p pos':Pos}{F H:Hp}{Z:L2.St}{G:Gh}{S α:Type}{i k n j:Nat}{st:Stmt}{fd:FuncData}{ρ:En}{ms ps cs ns:List Str}{e:Expr}{v:V}{es:List Expr}{mg:zzl}{c:OC}{vs:List V}
def DB{us:List α}(h:us.length=n+1):∃a r,us=a::r/\r.length=n:=by
 cases us with
 | nil=>exact absurd h (Nat.succ_ne_zero n).symm
 | cons a r=>exact⟨a,r,rfl,Nat.succ.inj h⟩
def IK{us:List α}(h:us.length=1):∃a0,us=[a0]:=by
 obtain⟨a0,r,rfl,h0⟩:=DB h;obtain rfl:=List.eq_nil_of_length_eq_zero h0;exact⟨a0,rfl⟩
def IJ{us:List α}(h:us.length=2):∃a0 a1,us=[a0,a1]:=by
 obtain⟨a0,r,rfl,h0⟩:=DB h;obtain⟨a1,rfl⟩:=IK h0;exact⟨a0,a1,rfl⟩
def II{us:List α}(h:us.length=3):∃a0 a1 a2,us=[a0,a1,a2]:=by
 obtain⟨a0,r,rfl,h0⟩:=DB h;obtain⟨a1,a2,rfl⟩:=IJ h0;exact⟨a0,a1,a2,rfl⟩
def J0{us:List α}(h:us.length=4):∃a0 a1 a2 a3,us=[a0,a1,a2,a3]:=by
 obtain⟨a0,r,rfl,h0⟩:=DB h;obtain⟨a1,a2,a3,rfl⟩:=II h0;exact⟨a0,a1,a2,a3,rfl⟩
def pU(F:Fun K x qual st f fd)
  (h:∀(kV doc pm:Value) (an:Option Addr) (cdv ct:Value) (u0:Value),bindArgs (PySem.W.fnOf x qual (dc st) (bS st) (aE st) .none kV doc pm an cdv ct) ⟨[u0],[]⟩=pure (List.zip [p0] [u0])):Binds K fd [p0] [] :=
 F.binds λa b c d e g us hl=>by obtain⟨u0,rfl⟩:=IK hl;exact h a b c d e g u0
def pT(F:Fun K x qual st f fd)
  (h:∀(kV doc pm:Value) (an:Option Addr) (cdv ct:Value) (u0 u1:Value),bindArgs (PySem.W.fnOf x qual (dc st) (bS st) (aE st) .none kV doc pm an cdv ct) ⟨[u0,u1],[]⟩=pure (List.zip [p0,p1] [u0,u1])):Binds K fd [p0,p1] [] :=
 F.binds λa b c d e g us hl=>by obtain⟨u0,u1,rfl⟩:=IJ hl;exact h a b c d e g u0 u1
def xE{p2:Str}(F:Fun K x qual st f fd)
  (h:∀(kV doc pm:Value) (an:Option Addr) (cdv ct:Value) (u0 u1 u2:Value),bindArgs (PySem.W.fnOf x qual (dc st) (bS st) (aE st) .none kV doc pm an cdv ct) ⟨[u0,u1,u2],[]⟩=pure (List.zip [p0,p1,p2] [u0,u1,u2])):Binds K fd [p0,p1,p2] [] :=
 F.binds λa b c d e g us hl=>by obtain⟨u0,u1,u2,rfl⟩:=II hl;exact h a b c d e g u0 u1 u2
def GZ{p2 p3:Str}(F:Fun K x qual st f fd)
  (h:∀(kV doc pm:Value) (an:Option Addr) (cdv ct:Value) (u0 u1 u2 u3:Value),bindArgs (PySem.W.fnOf x qual (dc st) (bS st) (aE st) .none kV doc pm an cdv ct) ⟨[u0,u1,u2,u3],[]⟩=pure (List.zip [p0,p1,p2,p3] [u0,u1,u2,u3])):Binds K fd [p0,p1,p2,p3] [] :=
 F.binds λa b c d e g us hl=>by obtain⟨u0,u1,u2,u3,rfl⟩:=J0 hl;exact h a b c d e g u0 u1 u2 u3
def pf(tb:List (Str×Bool)):D->Option Bool
 | .dict ((.none,.str c)::_)=>tb.lookup c
 | _=>none
def EQ(tb:List (Str×Bool))(p:Pu D):Pu Bool:=λρ=>bd (p ρ) λd=>oM (pf tb d)
def Inst1(K:Fg)(cv:Value):List (Str×Bool)->Prop
 | []=>True
 | (c,b)::r=>(∃C,PySem.W.nsIn K mainGlobals c=some (some (.ref C))/\PySem.W.kitOne K (.ref C) cv=some b)/\Inst1 K cv r
def Inst1.at{K:Fg}{cv:Value}:∀{tb:List (Str×Bool)} {c:Str} {b:Bool} {C:Addr},Inst1 K cv tb->tb.lookup c=some b->PySem.W.nsIn K mainGlobals c=some (some (.ref C))->PySem.W.kitOne K (.ref C) cv=some b
 | (d,b')::r,c,b,C,h,l,n=>by
  rw[ib]at l
  cases q:c==d with
  | true =>
   rw[q]at l
   cases l
   have:c=d:=by simpa using q
   subst this;obtain⟨⟨C',n',k⟩,_⟩:=h;rw[n]at n'
   cases n'
   exact k
  | false=>rw[q]at l;exact Inst1.at h.2 l n
def B3{c:Str}{es:List (D×D)}(r:Rep K F v (.dict ((.none,.str c)::es))):∃a C dd fv,v=.ref a/\F a=some (.ext (XO a C dd))/\XQ K C c/\FX F dd fv/\es.map (·.1)=fv.map (λp=>.str p.1)/\RepL K F (fv.map (·.2)) (es.map (·.2)):=by
 cases r with
 | dct _ h _=>exact absurd (GK h) (by simp[DJ])
 | dck _ h _=>exact absurd (GL h) (by simp[DJ])
 | exc h1 q fx h2 h3=>exact⟨_,_,_,_,rfl,h1,q,fx,h2,h3⟩
def FX.xat{dd:Option Addr}{fv:List (Str×V)}(s:Same F H)(h1:F a=some (.ext (XO a C dd)))(fx:FX F dd fv):XAt H a C dd:=⟨s _ _ h1,λdx z=>by
 rcases fx with ⟨z',_⟩|⟨dx',z',y⟩
 ·rw[z']at z;cases z
 ·rw[z']at z;cases z;exact⟨_,s _ _ y⟩⟩
def FN(K:Fg)(tb:List (Str×Bool))(vc:V):List V->Hp->VK->Prop:=λxs H Q=>∃v d b,xs=[v,vc]/\Rep K H v d/\pf tb d=some b/\Q (.bl b) H
def Aa{tb:List (Str×Bool)}{d:D}{b:Bool}(h:pf tb d=some b):∃c es,d=.dict ((.none,.str c)::es)/\tb.lookup c=some b:=by
 unfold pf at h;split at h
 ·exact⟨_,_,rfl,h⟩
 ·cases h
def xA{tb:List (Str×Bool)}{vc:V}{cv:Value}(hv:RelV vc cv)(hu:∀u,RelV vc u->u=cv)(ht:Inst1 X.K cv tb):CallR X (.builtin "isinstance") (FN X.K tb vc):=by
 intro pins s Z H xs us Q I r h;obtain⟨v,d,b,rfl,rp,hb,q⟩:=h;obtain⟨u,w,rfl,ru,rw'⟩:=vals2 r;have:=hu w rw';subst this;obtain⟨c,es,rfl,hl⟩:=Aa hb;obtain⟨a,C,dd,fv,rfl,h1,xq,fx,_,_⟩:=B3 rp
 cases ru
 obtain⟨D,fI,xc⟩:=xq.xc;exact wQ I xc xq.kc (fx.xat (Same.refl _) h1) (ht.at hl xq.ns) λtk=>⟨.bl _,H,I.tok tk,rfl,q⟩
section
variable {t:Expr} {ts:List Expr} {p:Pu D} {p1 p2:Pos} {tb:List (Str×Bool)} {x1:ExprContext}
def CJ{vc:V}{cv:Value}(hv:RelV vc cv)(hu:∀u,RelV vc u->u=cv)(htb:Inst1 X.K cv tb)(hg:Gl X "isinstance")(hm:X.mg "isinstance" = none)(ht:PE X t (tC vc))(ha:AP X e p)(hs:starEach [e,t] X.env=(false,eval e X.env)::starEach [t] X.env)(hs2:starEach [t] X.env=(false,eval t X.env)::starEach [] X.env)
  (hpl:(backTo pos (starEach [t] X.env)).any (·.1)=false):AB X (.Call (.Name "isinstance" p1) [e,t] [] pos) (EQ tb p) :=
 λG F Z H ρ Q S w=>sem (gM (xA hv hu htb) hg hm (by decide +kernel) (eG aN (eG ht iS hs2) hs) (by decide) (by decide) hs hpl) (ha G F Z H ρ _ S (w.bind.imp λd F1 H1 s1 S1 w1 v hv=>by
  obtain⟨b,hb,k⟩:=w1.opt
  exact⟨v,d,b,rfl,hv.mono S1.fh,hb,k F1 H1 (Same.refl _) S1⟩))
end
def uP:List (D×D)->Str->Option D
 | (.str g,d)::r,f=>if f==g then some d else uP r f
 | _::r,f=>uP r f
 | [],_=>none
def zl(cs:List Str)(f:Str):D->Option D
 | .dict ((.none,.str c)::es)=>if cs.contains c then uP es f else none
 | _=>none
def JY(cs:List Str)(f:Str)(p:Pu D):Pu D:=λρ=>bd (p ρ) λd=>oM (zl cs f d)
def NoAtts(K:Fg)(f:Str):List Str->Prop
 | []=>True
 | c::r=>(∃C,PySem.W.nsIn K mainGlobals c=some (some (.ref C))/\NoAttr K C f)/\NoAtts K f r
def NoAtts.at{K:Fg}{f:Str}:∀{cs:List Str} {c:Str} {C:Addr},NoAtts K f cs->cs.contains c=true->PySem.W.nsIn K mainGlobals c=some (some (.ref C))->NoAttr K C f
 | d::r,c,C,h,l,n=>by
  rw[List.contains_cons,ii]at l;rcases l with q|q
  ·have:c=d:=by simpa using q
   subst this;obtain⟨⟨C',n',k⟩,_⟩:=h;rw[n]at n'
   cases n'
   exact k
  ·exact NoAtts.at h.2 q n
def q9{K:Fg}{F:Hp}{f:Str}:∀{fv:List (Str×V)} {es:List (D×D)} {d:D},es.map (·.1)=fv.map (λp=>.str p.1)->RepL K F (fv.map (·.2)) (es.map (·.2))->uP es f=some d->∃v,fv.lookup f=some v/\Rep K F v d
 | [],[],d,_,_,h=>by cases h
 | [],_::_,d,h,_,_=>by cases h
 | _::_,[],d,h,_,_=>by cases h
 | (g,v)::fv,(k,x)::es,d,h,r,l=>by
  simp only[ba,List.cons.injEq]at h;obtain⟨rfl,h⟩:=h;simp only[ba]at r
  cases r with
  | cons r1 r2 =>
   unfold uP at l;rw[ib]
   cases q:f==g with
   | true=>rw[q]at l;cases l;exact⟨v,rfl,r1⟩
   | false=>rw[q]at l;exact q9 h r2 l
def CA{o:Expr}{p:Pu D}{f:Str}(hna:NoAtts X.K f cs)(ha:AP X o p)(hb:attributeBase o f X.env (eval o X.env)=eval o X.env):AP X (.Attribute o f pos) (JY cs f p) :=
 λG F Z H ρ Q S w=>sem (FW aN hb) (ha G F Z H ρ _ S (w.bind.imp λd F1 H1 s1 S1 w1 v hv=>by
  obtain⟨b,hb,k⟩:=w1.opt;unfold zl at hb;split at hb
  case h_2=>cases hb
  rename_i c es;split at hb
  case isFalse=>cases hb
  rename_i hc;obtain⟨a,C,dd,fv,rfl,h1,xq,fx,h2,h3⟩:=B3 hv;obtain⟨D,fI,xc⟩:=xq.xc;obtain⟨u,lu,ru⟩:=q9 h2 h3 hb;rcases fx with ⟨_,rfl⟩|⟨dx,rfl,hd⟩
  ·cases lu
  ·exact⟨a,C,D,fI,dx,fv,u,rfl,xc,hna.at hc xq.ns,S1.fh _ _ h1,S1.fh _ _ hd,lu,k F1 H1 (Same.refl _) S1 u ru⟩))
abbrev _root_.L2.Cx.wishP(X:Cx)(E:zzj)(pn:zzk):Cx:={ X with xe:=E,pn:=pn }
section
variable {pins pins':zzk} {s:Shared} {E:zzj}
theorem _root_.L2.Inv.wishP(I:Inv X pins Z H s)(E:zzj):Inv (X.wishP E (X.pn++pins)) [] Z H s :=
 ⟨⟨I.ok.mod,I.ok.kind,I.ok.glob,I.ok.blt,I.ok.above,I.ok.inj,I.ok.has,I.ok.cab,I.ok.hd,I.ok.frames,I.ok.stk,I.ok.exf,I.ok.bs,I.ok.bsz,I.ok.noex,I.ok.exfs,I.ok.funs,I.ok.frf⟩,I.os,I.bare,I.base,I.loc,I.cell,I.free,I.freeC,λp hp=>I.pin p (by simpa using hp),I.hok,I.len⟩
theorem _root_.L2.Inv.unwishP(I:Inv (X.wishP E (X.pn++pins)) pins' Z H s):Inv X pins Z H s :=
 ⟨⟨I.ok.mod,I.ok.kind,I.ok.glob,I.ok.blt,I.ok.above,I.ok.inj,I.ok.has,I.ok.cab,I.ok.hd,I.ok.frames,I.ok.stk,I.ok.exf,I.ok.bs,I.ok.bsz,I.ok.noex,I.ok.exfs,I.ok.funs,I.ok.frf⟩,I.os,I.bare,I.base,I.loc,I.cell,I.free,I.freeC,λp hp=>I.pin p (Ln _ hp),I.hok,I.len⟩
def vY{Dd:Ends}{f:Flow}{s':Shared}(h:SP (X.wishP E (X.pn++pins)) [] Dd f s'):SP X pins Dd f s':=by
 cases f with
 | next=>obtain⟨σ',H',I,q⟩:=h;exact⟨σ',H',I.unwishP,q⟩
 | brk=>obtain⟨σ',H',I,q⟩:=h;exact⟨σ',H',I.unwishP,q⟩
 | cont=>obtain⟨σ',H',I,q⟩:=h;exact⟨σ',H',I.unwishP,q⟩
 | ret u=>obtain⟨v,σ',H',I,r,q⟩:=h;exact⟨v,σ',H',I.unwishP,r,q⟩
end
theorem _root_.L3.StOk.reB{B:Hp}(S:StOk K { G with B:=B } F Z H ρ)(h:Same G.B F):StOk K G F Z H ρ :=
 ⟨S.fh,S.oh,S.fo,S.ln,S.fz,λi c q=>by obtain⟨a,e,oa⟩:=S.ow i c q;exact⟨a,e,oa.nf,oa.no,oa.he⟩,S.dj,S.pp,S.pq,h⟩
def _root_.L3.StOk.toB(S:StOk K G F Z H ρ):StOk K { G with B:=F } F Z H ρ :=
 ⟨S.fh,S.oh,S.fo,S.ln,S.fz,λi c q=>by obtain⟨a,e,oa⟩:=S.ow i c q;exact⟨a,e,oa.nf,oa.no,oa.he⟩,S.dj,S.pp,S.pq,Same.refl _⟩
def Gu(ρ:En):Bool:=ρ.all λx=>match x with
 | some (.op _)=>false
 | _=>true
def kx(sh:List Kd):Bool:=sh.all λk=>match k with
 | .f=>true
 | .dead=>true
 | _=>false
def oP:∀{sh:List Kd} {s:SOf sh} {i:Nat} {av:AV},kx sh=true->(wr sh s)[i]? = some (some av)->∃d,av=.fz d
 | [],s,i,av,_,q=>by simp[wr]at q
 | .f::r,s,0,av,h,q=>by simp[wr]at q;exact⟨_,q.symm⟩
 | .f::r,s,i+1,av,h,q=>oP (sh:=r) (s:=s.2) (i:=i) (by simpa[kx]using h) (by simpa[wr]using q)
 | .dead::r,s,0,av,h,q=>by simp[wr]at q
 | .dead::r,s,i+1,av,h,q=>oP (sh:=r) (s:=s) (i:=i) (by simpa[kx]using h) (by simpa[wr]using q)
 | .o::r,s,i,av,h,q=>by simp[kx]at h
 | .p::r,s,i,av,h,q=>by simp[kx]at h
 | .t::r,s,i,av,h,q=>by simp[kx]at h
 | .k::r,s,i,av,h,q=>by simp[kx]at h
def mL{S:Type}(cs:List Str)(c:Str)(m:M S):M S:=match cs.contains c with
 | true=>m
 | false=>.bad
def Az{S A B:Type}(m:M (A ⊕ (Ex×B)))(k:A->M S)(h:Ex->B->M S):M S:=bd m λr=>match r with
 | .inl a=>k a
 | .inr p=>h p.1 p.2
def onX{S T:Type}(h:Ex->M T)(m:M S)(k:S->M T):M T:=m.on h k
def KB(sh shx:List Kd):KS (SOf sh ⊕ (Ex×SOf shx)):=⟨rdk sh λs=>.ret (.inl s),λ_ _=>.bad,λ_ _=>.bad,λ_=>.bad,λ_=>.bad,λex ρ=>rdk shx (λs=>.ret (.inr (ex,s))) ρ⟩
def KH{S:Type}(j:Nat)(K:KS S):KS S:=⟨λρ=>K.nx (ρ.set j none),λ_ _=>.bad,λ_ _=>.bad,λ_=>.bad,λ_=>.bad,λ_ _=>.bad⟩
def FD{S:Type}(j:Nat)(cs:List Str)(sh shx:List Kd)(mb:SM (SOf sh ⊕ (Ex×SOf shx)))(mh:SM S):SM S:=λK ρ=>match Gu ρ with
 | true=>Az (mb (KB sh shx) ρ) (λs=>K.nx (wr sh s)) λex s=>mL cs ex.cls (mh (KH j K) ((wr shx s).set j (some (.fz (nh ex)))))
 | false=>.bad
def HandL(K:Fg)(hv:Value):List Str->Prop
 | []=>True
 | c::r=>(∃C,PySem.W.nsIn K mainGlobals c=some (some (.ref C))/\PySem.W.exmOne K (.ref C) hv=some true)/\HandL K hv r
def HandL.at{K:Fg}{hv:Value}:∀{cs:List Str} {c:Str} {C:Addr},HandL K hv cs->cs.contains c=true->PySem.W.nsIn K mainGlobals c=some (some (.ref C))->PySem.W.exmOne K (.ref C) hv=some true
 | d::r,c,C,h,l,n=>by
  rw[List.contains_cons,ii]at l;rcases l with q|q
  ·have:c=d:=by simpa using q
   subst this;obtain⟨⟨C',n',k⟩,_⟩:=h;rw[n]at n'
   cases n'
   exact k
  ·exact HandL.at h.2 q n
section
variable {n:Str} {b0:Stmt} {body suite:List Stmt} {pC ph:Pos} {sh shx:List Kd} {hv:Value} {mb:SM (SOf sh ⊕ (Ex×SOf shx))} {mh:SM S}
theorem G4(hmx:X.mg x=some hv)(hgx:Gl X x)(hcs:HandL X.K hv cs)(hb:∀E pn,ASs (X.wishP E pn) body mb)(hh:∀a,ASs (cau X a) (b0::suite) mh)(hF:kx shx=true)
  (hN:X.N.Nodup) (hj:X.N[j]? = some n) (hnl:X.env.scope.names.lookup n=some .local) (stk:X.stack=X.env::X.outer) (frm:X.env.frame=some X.env.locals) (hdx:(x==("__debug__" : Str))=false) :
  AS X (.Try body [.ExceptHandler (some (.Name x pC)) (some n) (b0::suite) ph] [] [] pos) (FD j cs sh shx mb mh):=by
 intro OK K G F Z H ρ E hO hX St ok eo;unfold FD at ok
 cases hq:Gu ρ with
 | false=>rw[hq]at ok;exact(hO ok).elim
 | true =>
 rw[hq]at ok;dsimp only at ok;have noP:∀i a,G.P i≠some a:=λi a z=>by
  obtain⟨_,c,q⟩:=St.pp i a z;unfold Gu at hq;have:=List.all_eq_true.mp hq _ (bu q)
  cases this
 unfold mG;intro pins s I;rw[arm_exec_Try];refine zza (Ba (wpAny_tryStmt_except ?_));generalize hXE:(λ(e:Value) (s1:Shared)=>wpAny (model X.prog X.w) X.A (noteFrame e X.env) (λ_ s2=>wpAny (model X.prog X.w) X.A (setFlight e none) (λ_ s3=>wpAny (model X.prog X.w) X.A (handleBy e X.env [.ExceptHandler (some (.Name x pC)) (some n) (b0::suite) ph]) (SP X pins E) X.xe s3) X.xe s2) X.xe s1)=XE
 let E1:Ends:={ nx:=E.nx,rt:=λ_ _=>False,bk:=λ_ _=>False,ct:=λ_ _=>False }
 let OK1:M (SOf sh ⊕ (Ex×SOf shx))->Prop:=λm=>OK (Az m (λs=>K.nx (wr sh s)) λex s=>mL cs ex.cls (mh (KH j K) ((wr shx s).set j (some (.fz (nh ex))))))
 have hO1:KOk OK1:=λz=>hO z
 have bsem:mH (X.wishP XE (X.pn++pins)) body E1 Z H:=by
  refine hb XE (X.pn++pins) OK1 (KB sh shx) { G with B:=F } F Z H ρ E1 hO1 ?_ St.toB ok ⟨?_,λF' σ' H' ρ' d v s S' r o=>(hO1 o).elim,λF' σ' H' ρ' d v s S' r o=>(hO1 o).elim,λF' σ' H' ρ' s S' o=>(hO1 o).elim,λF' σ' H' ρ' s S' o=>(hO1 o).elim⟩
  ·
   intro F1 ρ1 ex o1;intro F' H' s' a C dd pins' σ' g fz I' xs hp xr;have o2:OK1 (rdk shx (λs=>.ret (.inr (ex,s))) ρ1):=o1;unfold rdk at o2
   cases hr:rd shx ρ1 with
   | none=>rw[hr]at o2;exact(hO1 o2).elim
   | some sx =>
   rw[hr]at o2;have o3:OK (mL cs ex.cls (mh (KH j K) ((wr shx sx).set j (some (.fz (nh ex)))))):=o2;unfold mL at o3
   cases hc:cs.contains ex.cls with
   | false=>rw[hc]at o3;exact(hO o3).elim
   | true =>
   rw[hc]at o3;dsimp only at o3;have I2:Inv X pins σ' H' s':=I'.unwishP;have hlo:X.s₀.heap.objs.size<=X.s₀.heap.objs.size:=au _;have hp2:∀p∈X.pn++pins,¬ jD s'.heap a p.1:=λp q=>hp p (Ln _ q)
   show XE (.ref a) s';subst hXE;refine uL (lo:=X.s₀.heap.objs.size) (base:=X.base) (env:=X.env) (outer:=X.outer) (L:=X.env.locals) (P:=X.prog) (w:=X.w) (I2.ok.frames.trans (congrArg some stk)) (stk▸I2.stack) frm I2.hok xs λh3 m3 xs3 tn=>?_
   have I3:Inv X pins σ' H' { s' with heap:=h3 }:=Inv.mv I2 (by rw[stk];exact m3) xs xs3 hlo hp2 s'.toks;have hp3:∀p∈X.pn++pins,¬ jD h3 a p.1:=λp q z=>absurd (bo (ax (I2.pin p q).1) (tn _ z)) (pI _)
   refine Ac (K:=X.K) (C:=C) (kQ (X:=cau X a) (rD I3) hgx hmx ⟨I3.kIn,hcs.at hc xr.1.ns,?_,?_⟩ hdx)
   ·obtain⟨oe,_,q1,q2,_⟩:=xs3.obj;exact⟨oe,q1,q2⟩
   refine flight_again (s:={ s' with heap:=h3 }) (frs X.stack) xs3 λh4 m4 xs4=>?_
   have I4:Inv X pins σ' H' { s' with heap:=h4 }:=Inv.mv (s:={ s' with heap:=h3 }) I3 m4 xs3 xs4 hlo hp3 s'.toks;refine eN I4 hN hj (.inl hnl) (v:=.ref a) rfl (λs5 I5=>?_) (.inr hnl);have oa:G.O a=none:=by
    cases q:G.O a with
    | none=>rfl
    | some o =>
     have h1:=g.oh a o q;rw[xs.trk]at h1
     cases h1
     exact((g.fo a _ q).2:False).elim
   obtain⟨F2,sm2,fh2,fo2,ra⟩:∃F2,Same F' F2/\Same F2 H'/\(∀b o,G.O b=some o->F2 b=none/\Aq o)/\Rep X.K F2 (.ref a) (nh ex):=by
    cases q:F' a with
    | some o =>
     have h1:=g.fh a o q;rw[xs.trk]at h1
     cases h1
     exact⟨F',Same.refl _,g.fh,g.fo,xr.rep q⟩
    | none =>
     have sm:=eP (F:=F') (o:=.ext (XO a C dd)) q;refine⟨upd F' a (.ext (XO a C dd)),sm,λb u z=>?_,λb u z=>?_,(xr.mono sm).rep aT⟩
     ·by_cases y:b=a
      ·subst y;rw[aT]at z;cases z;exact xs.trk
      ·rw[aI y]at z;exact g.fh b u z
     ·rw[aI (aY z oa)];exact g.fo b u z
   have FB:Same F F':=g.fb;have hjl:j<σ'.length:=by rw[I2.len];exact(List.getElem?_eq_some_iff.mp hj).1
   obtain⟨wl,w1,w2⟩:=iR shx ρ1 sx hr;have hjr:j<(wr shx sx).length:=by rw[wl,<-fz.ln];exact hjl
   have only:∀i av,((wr shx sx).set j (some (.fz (nh ex))))[i]? = some (some av)->∃d,av=AV.fz d:=λi av q=>by
    by_cases y:i=j
    ·rw[y,gn hjr]at q;injection q with q;injection q with q;exact⟨_,q.symm⟩
    ·rw[eE (Ne.symm y)]at q;exact oP hF q
   have noown:∀i c,¬ own ((wr shx sx).set j (some (.fz (nh ex)))) i c:=λi c q=>by
    rcases q with q|q<;>(obtain⟨d,z⟩:=only i _ q;cases z)
   have S3:StOk X.K G F2 (σ'.set j (some (V.ref a))) H' ((wr shx sx).set j (some (.fz (nh ex)))):=by
    refine⟨fh2,g.oh,fo2,by simp[wl,fz.ln],λi d q=>?_,λi c q=>(noown i c q).elim,λi k c e b q=>(noown i c q).elim,λi b z=>(noP i b z).elim,λi c q=>?_,(St.fb.trans FB).trans sm2⟩
    ·by_cases y:i=j
     ·rw[y,gn hjr]at q;injection q with q;injection q with q;injection q with q;rw[<-q,y];exact⟨_,gn hjl,ra⟩
     ·rw[eE (Ne.symm y)]at q;obtain⟨v,e1,r1⟩:=fz.fz i d (w1 i _ q);exact⟨v,by rw[eE (Ne.symm y)];exact e1,r1.mono sm2⟩
    ·obtain⟨d,z⟩:=only i _ q;cases z
   have suite':=hh a OK (KH j K) G F2 _ H' _ { nx:=λσ6 H6=>∃F6 ρ6,Same F2 F6/\StOk X.K G F6 σ6 H6 ρ6/\OK (K.nx (ρ6.set j none)),rt:=λ_ _=>False,bk:=λ_ _=>False,ct:=λ_ _=>False } hO (λ_ _ _ z=>(hO z).elim) S3 o3
    ⟨λF6 σ6 H6 ρ6 s6 S6 o6=>⟨F6,ρ6,s6,S6,o6⟩,λF' σ' H' ρ' d v s S' r o=>(hO o).elim,λF' σ' H' ρ' d v s S' r o=>(hO o).elim,λF' σ' H' ρ' s S' o=>(hO o).elim,λF' σ' H' ρ' s S' o=>(hO o).elim⟩
   unfold mH at suite';refine li (suite' pins s5 (rD I5)) (λf s6 z=>?_) λ_ _ z=>z
   cases f with
   | next =>
    obtain⟨σ6,H6,I6,F6,ρ6,s6,S6,o6⟩:=z;refine DL (xx I2.ok.hd I6) hN hj hnl λs7 I7=>⟨σ6.set j none,H6,I7,?_⟩
    have S7:StOk X.K G F6 σ6 H6 (ρ6.set j none):=by
     refine S6.weak (by simp) (λi av q=>?_) (λi c q=>?_)
     ·by_cases y:i=j
      ·rw[y,List.getElem?_set]at q;simp at q
      ·rw[eE (Ne.symm y)]at q;exact q
     ·obtain⟨b,z⟩:=S6.pq i c q;exact(noP i b z).elim
    refine eo.nx F6 _ H6 (ρ6.set j none) ((FB.trans sm2).trans s6) (S7.setdead (λav q=>?_) none) o6;rw[List.getElem?_set]at q;simp at q
   | brk=>obtain⟨_,_,_,z⟩:=z;exact z.elim
   | cont=>obtain⟨_,_,_,z⟩:=z;exact z.elim
   | ret u=>obtain⟨_,_,_,_,_,z⟩:=z;exact z.elim
  ·intro F' σ' H' ρ' s1 S' o;have o2:OK1 (rdk sh (λs=>.ret (.inl s)) ρ'):=o;unfold rdk at o2
   cases hr:rd sh ρ' with
   | none=>rw[hr]at o2;exact(hO1 o2).elim
   | some sx =>
   rw[hr]at o2;have S2:StOk X.K G F' σ' H' ρ':=S'.reB (St.fb.trans s1);exact eo.nx F' σ' H' (wr sh sx) s1 (S2.rd hr) o2
 unfold mH at bsem;refine li (bsem [] s (I.wishP XE)) (λf s1 z=>?_) λe s1 z=>by subst hXE;exact z
 have z2:=vY z
 cases f with
 | next=>exact Lo z2
 | brk=>obtain⟨_,_,_,z⟩:=z2;exact z.elim
 | cont=>obtain⟨_,_,_,z⟩:=z2;exact z.elim
 | ret u=>obtain⟨_,_,_,_,_,z⟩:=z2;exact z.elim
end
def A3:∀u,RelV (.ref a) u->u=.ref a:=λu h=>h
section
variable {ts:List Expr} {p:Pu D} {p1 p2:Pos} {tb:List (Str×Bool)}
def CI{c:Str}(h:∃C,X.mg c=some (.ref C)/\Inst1 X.K (.ref C) tb)(hgc:Gl X c)(hm:X.mg "isinstance" = none)(hg:Gl X "isinstance")(ha:AP X e p)(hs:starEach [e,.Name c p2] X.env=(false,eval e X.env)::starEach [.Name c p2] X.env)(hs2:starEach [.Name c p2] X.env=(false,eval (.Name c p2) X.env)::starEach [] X.env)
  (hpl:(backTo pos (starEach [.Name c p2] X.env)).any (·.1)=false) (hd:(c==("__debug__" : Str))=false):AB X (.Call (.Name "isinstance" p1) [e,.Name c p2] [] pos) (EQ tb p):=by
 obtain⟨C,h1,h2⟩:=h;exact CJ (vc:=.ref C) rfl A3 h2 hg hm (yr hgc h1 rfl hd) ha hs hs2 hpl
end
section
variable {n:Str} {b0:Stmt} {body suite:List Stmt} {pC ph:Pos} {sh shx:List Kd} {mb:SM (SOf sh ⊕ (Ex×SOf shx))} {mh:SM S}
def D6(h:∃hv,X.mg x=some hv/\HandL X.K hv cs)(hgx:Gl X x)(hb:∀E pn,ASs (X.wishP E pn) body mb)(hh:∀a,ASs (cau X a) (b0::suite) mh)(hF:kx shx=true)
  (hN:X.N.Nodup) (hj:X.N[j]? = some n) (hnl:X.env.scope.names.lookup n=some .local) (stk:X.stack=X.env::X.outer) (frm:X.env.frame=some X.env.locals) (hdx:(x==("__debug__" : Str))=false) :
  AS X (.Try body [.ExceptHandler (some (.Name x pC)) (some n) (b0::suite) ph] [] [] pos) (FD j cs sh shx mb mh):=by
 obtain⟨hv,h1,h2⟩:=h;exact G4 h1 hgx h2 hb hh hF hN hj hnl stk frm hdx
end
def Hl(h:(["bool", "int", "str", "list", "tuple", "dict"].all λT=>PySem.W.kitOne K (.ref C) (.type T)==some false)=true):∀T,Fq T=true->PySem.W.kitOne K (.ref C) (.type T)=some false:=λT hT=>by
 have h':∀T∈["bool", "int", "str", "list", "tuple", "dict"],PySem.W.kitOne K (.ref C) (.type T)=some false:=λT q=>by
  have:=List.all_eq_true.mp h T q;simpa using this
 apply h';simp only[Fq,ii,IG]at hT;rcases hT with ((((rfl|rfl)|rfl)|rfl)|rfl)|rfl<;>simp
section
variable {ms:Ev S (List D)}
theorem Ap{id:String}{r:List V->Hp->VK->Prop}{f:List D->Option (List D)}(hc:CallR X (.builtin id) r)(hf:vS X.K r f)(hm:X.mg x=none)(hv:bootBuiltins x=some (.builtin id))(ha:AEa X (e::es) ms)(hg:Gl X x:=by rfl)
  (hn:x ≠ "__name__":=by decide) (hdb:(x==("__debug__" : Str))=false:=by decide) (he:starEach (e::es) X.env=(false,eval e X.env)::starEach es X.env:=by rfl) (hpl:(backTo pos (starEach es X.env)).any (·.1)=false:=by rfl):AEl X (.Call (.Name x p) (e::es) [] pos) (Ca f ms) :=
 λOK y k G F Z H ρ Q hO hX St ok kk=>sem (gM hc hg hm hv bQ hn hdb he hpl) (ha OK y _ G F Z H ρ _ hO hX St ok λds vs F1 H1 ρ1 s1 S1 _ r1 o1=>by
  obtain⟨res,e,o'⟩:=gy hO o1
  exact hf G F1 Z H1 ρ1 vs ds res Q S1 (RepL.ors r1) e λw F2 H2 s2 S2 r3=>kk res w F2 H2 ρ1 (s1.trans s2) S2 r3 o')
end
section
variable {l:List α}
def ln0(h:l.length=0):l=[]:=List.eq_nil_of_length_eq_zero h
def lnS(h:l.length=n+1):∃a t,l=a::t/\t.length=n :=
 List.recOn (motive:=λl=>l.length=n+1->∃a t,l=a::t/\t.length=n) l (λh=>(Nat.succ_ne_zero n h.symm).elim) (λa t _ h=>⟨a,t,rfl,Nat.succ.inj h⟩) h
def ln1(h:l.length=1):∃a,l=[a]:=by obtain⟨a,t,e,q⟩:=lnS h;exact⟨a,by rw[e,ln0 q]⟩
def ln2(h:l.length=2):∃a b,l=[a,b]:=by obtain⟨a,t,rfl,q⟩:=lnS h;obtain⟨b,rfl⟩:=ln1 q;exact⟨a,b,rfl⟩
def ln3(h:l.length=3):∃a b c,l=[a,b,c]:=by obtain⟨a,t,rfl,q⟩:=lnS h;obtain⟨b,c,rfl⟩:=ln2 q;exact⟨a,b,c,rfl⟩
def ln4(h:l.length=4):∃a b c d,l=[a,b,c,d]:=by obtain⟨a,t,rfl,q⟩:=lnS h;obtain⟨b,c,d,rfl⟩:=ln3 q;exact⟨a,b,c,d,rfl⟩
end
section
variable {h:Heap} {T:Addr} {oc:Value} {od an:Option Addr} {osl:Array (Option Value)} {kV doc pm cdv ct:Value}
def Fa(K:Fg)(x:Str)(st:Stmt):Prop:=∃f fd,PySem.W.nsIn K mainGlobals x=some (some (.ref f))/\Fun K x x st f fd
def cG(a:PySem.W.nsIn K mainGlobals x=some (some (.ref f)))(l:K.lookup f=some ⟨oc,od,.func (PySem.W.fnOf x x (dc st) (bS st) (aE st) .none kV doc pm an cdv ct),osl⟩)
  (c:PySem.W.codeIn K cdv x=true) (k:PySem.W.keepIn K (.ref f)=true):Fa K x st:=⟨f,_,a,tD l c k⟩
def Xa(K:Fg)(x qual:Str)(st:Stmt)(fl:List Str):Prop:=∃C D f fd,PySem.W.nsIn K mainGlobals x=some (some (.ref C))/\Fun K "__init__" qual st f fd/\XC K C D f/\XQ K C x/\PySem.W.keepIn K (.ref C)=true/\(∀f∈fl,NoAttr K C f)/\PySem.W.exmOne K (.ref C) (.ref C)=some true
def Hm{D N:Addr}{qn:Str}{bs sb:List Value}{sn:List Str}{ab:Bool}{co:Option Bool}{dd:Option Addr}{k0 k1 k2 k3 k5:Option Value}{fl:List Str}
  (xa:PySem.W.nsIn K mainGlobals x=some (some (.ref C))) (xb:K.lookup C=some (excClassObj nm qn C N bs (.ref D::bmV) true sn sb ab co dd k0 k1 k2 k3 k5 "ValueError.__new__")) (xc:PySem.W.findIn K (.ref C) "__init__" = some (some (.ref f)))
  (xd:K.lookup f=some ⟨oc,od,.func (PySem.W.fnOf "__init__" qual (dc st) (bS st) (aE st) .none kV doc pm an cdv ct),osl⟩) (xe:PySem.W.codeIn K cdv qual=true) (xf:PySem.W.keepIn K (.ref f)=true) (xg:PySem.W.keepIn K (.ref C)=true)
  (xh:PySem.W.tailIn K bmV (.ref D::bmV)=true) (xi:PySem.W.typeIn K (.ref f)=some (.type "function")) (xj:PySem.W.findIn K (.ref C) "__setattr__" = some (some (.builtin "object.__setattr__"))) (xk:PySem.W.findIn K (.ref C) "__getattribute__" = some (some (.builtin "BaseException.__getattribute__")))
  (xl:PySem.W.findIn K (.ref C) "__getattr__" = some none) (xm:PySem.W.exmOne K (.ref C) (.ref C)=some true) (xp:PySem.W.findIn K (.ref C) "__class__" = some (some (.builtin "object.__class__"))) (xq:PySem.W.specialIn K (.builtin "object.__class__") "__get__" = some (some (.builtin "getset_descriptor.__get__")))
  (xr:PySem.W.takesIn K (.builtin "object.__class__")=some true) (xo:(["bool", "int", "str", "list", "tuple", "dict"].all λT=>PySem.W.kitOne K (.ref C) (.type T)==some false)=true) (xn:∀f∈fl,NoAttr K C f):Xa K x qual st fl :=
 ⟨C,D,f,_,xa,tD xd xe xf,⟨⟨nm,qn,N,bs,sn,sb,ab,co,dd,k0,k1,k2,k3,k5,xb⟩,xh,xc,xi,xj,xk,xl⟩,⟨xa,⟨_,_,⟨nm,qn,N,bs,sn,sb,ab,co,dd,k0,k1,k2,k3,k5,xb⟩,xh,xc,xi,xj,xk,xl⟩,⟨xp,xq,xr⟩,Hl xo⟩,xg,xn,xm⟩
def na0:∀f∈([]:List Str),NoAttr K C f:=λ_ h=>(nomatch h)
def naC{f:Str}{l:List Str}(h:PySem.W.findIn K (.ref C) f=some none)(t:∀f∈l,NoAttr K C f):∀g∈f::l,NoAttr K C g:=λg hg=>by
 rcases List.mem_cons.mp hg with rfl|hg
 ·exact h
 ·exact t g hg
def Gs{D:Addr}(a:PySem.W.nsIn K mainGlobals x=some (some (.ref C)))(b:PySem.W.nsIn K mainGlobals x=some (some (.ref D))):C=D:=by
 rw[a]at b;cases b;rfl
def IN:Option (Option Value)->Bool
 | some none=>true
 | _=>false
def Jd{l:List Str}(X:K.In h)(G:h.Ns mainGlobals mg)(z:(l.all λx=>IN (PySem.W.nsIn K mainGlobals x))=true):∀x∈l,mg x=none:=λx hx=>by
 have q:=List.all_eq_true.mp z x hx;generalize e:PySem.W.nsIn K mainGlobals x=o at q
 match o,q with
 | some none,_=>exact PySem.W.mg_none_of X G e
end
def eQ:List Str->List D->Str->Option D
 | n::ns,d::ds,f=>if n=f then some d else eQ ns ds f
 | _,_,_=>none
def Da:List Str->Str->List Str
 | n::ns,f=>if n=f then n::ns else n::Da ns f
 | [],f=>[f]
def oA:List Str->List D->Str->D->List D
 | n::ns,d::ds,f,e=>if n=f then e::ds else d::oA ns ds f e
 | [],_,_,e=>[e]
 | _::_,[],_,_=>[]
def yJ{f:Str}{d:D}:∀{fs:List (Str×V)} {ns:List Str} {ds:List D},fs.map (·.1)=ns->RepL K F (fs.map (·.2)) ds->eQ ns ds f=some d->∃v,fs.lookup f=some v/\Rep K F v d:=by
 intro fs
 induction fs with
 | nil=>intro ns ds h r e;subst h;cases ds<;>cases e
 | cons p fs ih =>
  obtain⟨n,v⟩:=p;intro ns ds h r e;subst h;obtain⟨d0,r',rfl,rv,rr⟩:∃d0 r',ds=d0::r'/\Rep K F v d0/\RepL K F (fs.map (·.2)) r':=by
   cases r with|cons a b=>exact⟨_,_,rfl,a,b⟩
  rw[ba,eQ]at e;rw[ib];by_cases h:n=f
  ·rw[ak h]at e
   cases e
   subst h;simp only[LQ];exact⟨v,rfl,rv⟩
  ·rw[ac h]at e;obtain⟨u,h1,h2⟩:=ih rfl rr e;have hb:(f==n)=false:=beq_eq_false_iff_ne.mpr λz=>h z.symm
   simp only[hb];exact⟨u,h1,h2⟩
def yK{f:Str}:∀{fs:List (Str×V)},f∉fs.map (·.1)->fs.lookup f=none:=by
 intro fs
 induction fs with
 | nil=>intro _;rfl
 | cons p fs ih =>
  intro h;rw[ba,mo,not_or]at h;rw[ib];have hb:(f==p.1)=false:=beq_eq_false_iff_ne.mpr h.1;simp only[hb];exact ih h.2
def yh{f:Str}{d:D}(rv:Rep K F v d):∀{fs:List (Str×V)} {ns:List Str} {ds:List D},fs.map (·.1)=ns->RepL K F (fs.map (·.2)) ds->(dS f v fs).map (·.1)=Da ns f/\RepL K F ((dS f v fs).map (·.2)) (oA ns ds f d):=by
 intro fs
 induction fs with
 | nil=>intro ns ds h r;subst h;cases r;exact⟨rfl,.cons rv .nil⟩
 | cons p fs ih =>
  obtain⟨n,u⟩:=p;intro ns ds h r;subst h;obtain⟨d0,r',rfl,ru,rr⟩:∃d0 r',ds=d0::r'/\Rep K F u d0/\RepL K F (fs.map (·.2)) r':=by
   cases r with|cons a b=>exact⟨_,_,rfl,a,b⟩
  obtain⟨h1,h2⟩:=ih rfl rr;rw[ba,Da,oA,dS];by_cases h:n=f
  ·rw[ak h,ak h,ak h];exact⟨rfl,.cons rv rr⟩
  ·rw[ac h,ac h,ac h,ba,ba,h1];exact⟨rfl,.cons ru h2⟩
structure IC(K:Fg)(x:Str)(C:Addr):Prop where
 ns:PySem.W.nsIn K mainGlobals x=some (some (.ref C))
 cl:Cls K C
def iZ(x:Str)(o:Option (Option AV)):Option (List Str×List D):=match o with
 | some (some (.ol (.i y ns ds)))=>if y=x then some (ns,ds)else none
 | some (some (.op (.i y ns ds)))=>if y=x then some (ns,ds)else none
 | _=>none
def lX{p:List Str×List D}(h:iZ x ρ[i]? = some p):own ρ i (.i x p.1 p.2):=by
 unfold iZ at h;split at h
 ·rename_i q;split at h
  ·rename_i e;cases h;subst e;exact .inl q
  ·cases h
 ·rename_i q;split at h
  ·rename_i e;cases h;subst e;exact .inr q
  ·cases h
 ·cases h
def lV{p:List Str×List D}(S:StOk K G F Z H ρ)(c:IC K x C)(h:iZ x ρ[i]? = some p) :
  ∃a dx fs,Z[i]? = some (some (V.ref a))/\H a=some (.ins C dx fs)/\fs.map (·.1)=p.1/\RepL K F (fs.map (·.2)) p.2:=by
 obtain⟨a,e,oa⟩:=S.ow i _ (lX h);obtain⟨C',dx,fs,h1,h2,h3,h4⟩:=oa.he;have:=c.ns.symm.trans h2;injection this with this;injection this with this;injection this with this;subst this;exact⟨a,dx,fs,e,h1,h3,h4⟩
def Ip(x:Str)(i:Nat)(f:Str):Pu D:=λρ=>match iZ x ρ[i]? with
 | some p=>oM (eQ p.1 p.2 f)
 | none=>.bad
theorem mz{f:Str}(c:IC X.K x C)(n:NoAttr X.K C f)(hN:X.N[i]? = some nm)(hv:Vis X.env.scope nm)(hb:attributeBase (.Name nm p) f X.env (eval (.Name nm p) X.env)=eval (.Name nm p) X.env)
  (hd:(nm==("__debug__" : Str))=false:=by decide) (hcd:(nm==("__classdict__" : Str))=false:=by decide):AP X (.Attribute (.Name nm p) f pos) (Ip x i f) :=
 λG F Z H ρ Q S w=>sem (Ga (dh hN hv hd hcd) hb)<|by
  unfold Ip at w;split at w
  ·rename_i q hq;obtain⟨a,dx,fs,e1,e2,e3,e4⟩:=lV S c hq;obtain⟨d,hd,k⟩:=w.opt;obtain⟨v,h1,h2⟩:=yJ e3 e4 hd;exact⟨_,e1,a,C,dx,fs,v,rfl,e2,c.cl,n,h1,k F H (Same.refl _) S v h2⟩
  ·exact w.elim
section
def Fy(x:Str)(ρ:En)(i:Nat)(p:List Str×List D)(f:Str)(d:D):En:=setC ρ i (.i x (Da p.1 f) (oA p.1 p.2 f d))
def HG(x:Str)(i:Nat)(f:Str)(me:Ev S D):SM S:=λK ρ=>me K.x (λd ρ1=>match iZ x ρ1[i]? with
 | some p=>if p.1.length<900 then K.nx (Fy x ρ1 i p f d)else .bad
 | none=>.bad) ρ
def yS{dx:Addr}{fs:List (Str×V)}{p:List Str×List D}{f:Str}{d:D}(S:StOk K G F Z H ρ)(c:IC K x C)(h:iZ x ρ[i]? = some p)(ea:Z[i]? = some (some (V.ref a)))
  (e3:fs.map (·.1)=p.1) (e4:RepL K F (fs.map (·.2)) p.2) (rv:Rep K F v d):StOk K G F Z (upd H a (.ins C dx (dS f v fs))) (Fy x ρ i p f d) :=
 S.change (lX h) ea ⟨C,dx,dS f v fs,aT,c.ns,(yh rv e3 e4).1,(yh rv e3 e4).2⟩
theorem nC{f:Str}{value:Expr}{me:Ev S D}(c:IC X.K x C)(n:NoAttr X.K C f)(hN:X.N[i]? = some nm)(hv:Vis X.env.scope nm)(he:AE X value me)
  (hs:swapsWith value (some (.Attribute (.Name nm p) f pos')) pos.line X.env=pure false) (hd:(nm==("__debug__" : Str))=false:=by decide) (hcd:(nm==("__classdict__" : Str))=false:=by decide) :
  AS X (.Assign [.Attribute (.Name nm p) f pos'] value pos) (HG x i f me):=λOK K G F Z H ρ E hO hX St ok eo =>
 iz (FR (dh hN hv hd hcd) aN hs) (he OK K.x _ G F Z H ρ _ hO hX St ok λd v F1 H1 ρ1 s1 S1 r1 o1=>by
  split at o1
  ·rename_i q hq;split at o1
   ·rename_i hl;obtain⟨a,dx,fs,e1,e2,e3,e4⟩:=lV S1 c hq;exact⟨_,e1,a,C,dx,fs,rfl,e2,c.cl,n,by rw[<-zzd (f:=(·.1)),e3];lia,eo.nx F1 Z _ _ s1 (yS S1 c hq e1 e3 e4 r1) o1⟩
   ·exact(hO o1).elim
  ·exact(hO o1).elim)
def Cq(o:Option D)(k:Int->M S):M S:=match o with
 | some (.int a)=>k a
 | _=>.bad
def onI(d:D)(k:Int->M S):M S:=match d with
 | .int b=>k b
 | _=>.bad
def EB(x:Str)(i:Nat)(f:Str)(me:Ev S D):SM S:=λK ρ=>match iZ x ρ[i]? with
 | some p=>Cq (eQ p.1 p.2 f) λa=>me K.x (λd ρ1=>onI d λb=>match iZ x ρ1[i]? with
  | some q=>if q.1.length<900 then K.nx (Fy x ρ1 i q f (.int (a+b)))else .bad
  | none=>.bad) ρ
 | none=>.bad
theorem zq{f:Str}{value:Expr}{me:Ev S D}{tpos:Pos}(c:IC X.K x C)(n:NoAttr X.K C f)(hN:X.N[i]? = some nm)(hv:Vis X.env.scope nm)(he:AE X value me)
  (hd:(nm==("__debug__" : Str))=false:=by decide) (hcd:(nm==("__classdict__" : Str))=false:=by decide) :
  AS X (.AugAssign (.Attribute (.Name nm p) f tpos) .Add value pos) (EB x i f me):=λOK K G F Z H ρ E hO hX St ok eo =>
 iz (zN (dh hN hv hd hcd) aN GN) (by
  unfold EB at ok;split at ok
  case h_2=>exact(hO ok).elim
  rename_i q hq;unfold Cq at ok;split at ok
  case h_2=>exact(hO ok).elim
  rename_i a0 ha;obtain⟨a,dx,fs,e1,e2,e3,e4⟩:=lV St c hq;obtain⟨v,h1,h2⟩:=yJ e3 e4 ha;refine⟨_,e1,a,C,dx,fs,v,rfl,e2,c.cl,n,h1,he OK K.x _ G F Z H ρ _ hO hX St ok λd u F1 H1 ρ1 s1 S1 r1 o1=>?_⟩;unfold onI at o1;split at o1
  case h_2=>exact(hO o1).elim
  rename_i b;split at o1
  case h_2=>exact(hO o1).elim
  rename_i q' hq';split at o1
  case isFalse=>exact(hO o1).elim
  rename_i hl;obtain⟨a',dx',fs',e1',e2',e3',e4'⟩:=lV S1 c hq';rw[e1]at e1';injection e1' with e1';injection e1' with e1';injection e1' with e1';subst e1';have hv0:=h2.int_inv;have hu0:=r1.int_inv;subst hv0 hu0
  exact⟨a0,b,rfl,rfl,dx',fs',e2',by rw[<-zzd (f:=(·.1)),e3'];lia,eo.nx F1 Z _ _ s1 (yS S1 c hq' e1 e3' e4' (.int _)) o1⟩)
end
def cO(K:Fg)(x:Str)(ns ms:List Str)(n:Nat)(mf:List D->List D->M (D×List D)):Sp:=λvs H Q E=>∃G F f ds,vs.length=n/\StOk K G F (vs.map some) H (some (.op (.i x ns f))::fzs ds)/\il K G E (mf f ds) λr =>
 ∀v F' H',Same F F'->StOk K G F' (vs.map some) H' (some (.op (.i x ms r.2))::fzs ds)->Rep K F' v r.1->Q v H'
def D5{S:Type}(x:Str)(ms:List Str)(ρ:En)(k:List D->M S):M S:=match (ρ[0]? : Option (Option AV))with
 | some (some (AV.op (OC.i y ns f)))=>if y=x/\ns=ms then k f else .bad
 | _=>.bad
def KI1(x:Str)(ms:List Str):KS (D×List D):=⟨λρ=>D5 x ms ρ λf=>.ret (.none,f),λd ρ=>D5 x ms ρ λf=>.ret (d,f),λ_ _=>.bad,λ_=>.bad,λ_=>.bad,λe _=>.exc e⟩
section
variable {F' H':Hp} {ds:List D}
def uE{c0:OC}(h:own (some (.op c0)::fzs ds) i c):i=0/\c=c0:=by
 cases i with
 | zero=>rcases h with h|h<;>simp at h;exact⟨rfl,h.symm⟩
 | succ i=>exact(gB (ds:=ds) (i:=i) (c:=c) (by unfold own at h ⊢;simpa using h)).elim
def zj{c0 c':OC}(S:StOk K G F (vs.map some) H (some (.op c0)::fzs ds))(s1:Same F F')(S1:StOk K G F' Z H' ρ)(h0:ρ[0]? = some (some (.op c'))) :
  StOk K G F' (vs.map some) H' (some (.op c')::fzs ds):=by
 obtain⟨a,ha⟩:=S1.pq 0 _ h0;obtain⟨e1,_⟩:=S1.pp 0 a ha;obtain⟨e2,_⟩:=S.pp 0 a ha;obtain⟨b,eb,ob⟩:=S1.ow 0 _ (.inr h0);rw[e1]at eb;injection eb with eb;injection eb with eb;injection eb with eb;subst eb;have only:∀i b,G.P i=some b->i=0:=λi b h=>by
  obtain⟨_,c,q⟩:=S.pp i b h;exact(uE (.inr q)).1
 refine⟨S1.fh,S1.oh,S1.fo,S.ln,λi d q=>?_,λi c q=>?_,λi j c e b q1 q2 _ _=>?_,λi b q=>?_,λi c q=>?_,S1.fb⟩
 ·cases i with
  | zero=>simp at q
  | succ i =>
   obtain⟨v,e,r⟩:=S.fz (i+1) d (by simpa using q);exact⟨v,e,r.mono s1⟩
 ·obtain⟨rfl,rfl⟩:=uE q;exact⟨a,e2,ob⟩
 ·rw[(uE q1).1,(uE q2).1]
 ·have:=only i b q;subst this;exact⟨(S.pp 0 b q).1,_,rfl⟩
 ·obtain⟨rfl,_⟩:=uE (.inr q);exact⟨a,ha⟩
end
def zp{k:List D->M S}{E:XK}{C:S->Prop}(h:il K G E (D5 x ms ρ k) C):∃f,ρ[0]? = some (some (AV.op (OC.i x ms f)))/\il K G E (k f) C:=by
 unfold D5 at h;split at h
 ·rename_i y ns f q;split at h
  ·rename_i e;obtain⟨rfl,rfl⟩:=e;exact⟨f,q,h⟩
  ·exact h.elim
 ·exact h.elim
section
variable {P:Program} {w:World} {base:Heap} {N:List Str}
theorem ja{mb:SM (D×List D)}{mf:List D->List D->M (D×List D)}(Fn:Fun K x qual st f fd)(Sc:FnScope N ps (aE st))
  (hb:∀(cdv:Value) (A:Around) (outer:List Env) (s:Shared) (H:Hp) (E:XK),Room k (A.deeper (envOfC qual (aE st) s.heap.objs.size f cdv)) ->
   ASs (lc (CX1 P w) P w K mg base N qual (aE st) f cdv A outer s H E) (bS st) mb)
  (hm:∀g ds,ds.length+1=ps.length->mf g ds=mb (KI1 y ms) (some (.op (.i y ns g))::fzs ds++List.replicate (N.length - ps.length) none)):FnOk P w K mg base (CX1 P w) (k+1) f fd ps (cO K y ns ms ps.length mf):=by
 refine Af Fn Sc (λvs H Q E h=>?_) (λcdv A outer s H vs Q E hr h=>?_)
 ·obtain⟨_,_,_,_,h1,_⟩:=h;exact h1
 ·obtain⟨G,F0,g,ds,h1,S0,e⟩:=h;have hl:ds.length+1=ps.length:=by have:=S0.ln;simp at this;lia
  have e0:L2.start N vs=vs.map some++List.replicate (N.length - ps.length) none:=by unfold L2.start;rw[h1]
  have S1:StOk K G F0 (L2.start N vs) H (some (.op (.i y ns g))::fzs ds++List.replicate (N.length - ps.length) none):=by rw[e0];exact S0.grow _
  rw[hm g ds hl]at e;refine⟨_,eF,hb cdv A outer s H E hr (λm=>il K G E m _) (KI1 y ms) G F0 _ H _ _ (λz=>z) (λF ρ e z=>va z) S1 e ?_⟩;refine⟨λF' σ' H' ρ' s S' o=>?_,λF' σ' H' ρ' d' v s S' rv o=>?_,λF' σ' H' ρ' d' v s S' r o=>(o:False).elim,λF' σ' H' ρ' s S' o=>(o:False).elim,λF' σ' H' ρ' s S' o=>(o:False).elim⟩
  ·obtain⟨f',q,e'⟩:=zp o;exact e' .non F' H' s (zj S0 s S' q) .non
  ·obtain⟨f',q,e'⟩:=zp o;exact e' v F' H' s (zj S0 s S' q) rv
end
section
def DU(x:Str)(ns ms:List Str)(mf:List D->List D->M (D×List D))(i:Nat)(me:Ev S (List D)):Ev S D:=λz k ρ=>match iZ x ρ[i]? with
 | some q=>if q.1=ns then me z (λds ρ1=>match iZ x ρ1[i]? with
  | some p=>if p.1=ns then(mf p.2 ds).on (λe=>z e ρ1) (λr=>k r.1 (setC ρ1 i (.i x ms r.2)))else .bad
  | none=>.bad) ρ else .bad
 | none=>.bad
variable {mf:List D->List D->M (D×List D)} {m:Str} {pn apos:Pos} {me:Ev S (List D)}
def vn{OK:M S->Prop}{z:Ex->En->M S}{kk:D->En->M S}{F1 H1:Hp}{ρ1:En}{Q:VK}{ds:List D}(hO:KOk OK)(hX:XL X OK z G)(s1:Same F F1)(S1:StOk X.K G F1 Z H1 ρ1)(hn:vs.length+1=n)(r1:RepL X.K F1 vs ds)(ea:Z[i]? = some (some (V.ref a)))
  (o1:OK (match iZ x ρ1[i]? with|some p=>if p.1=ns then(mf p.2 ds).on (λe=>z e ρ1) (λr=>kk r.1 (setC ρ1 i (.i x ms r.2)))else .bad|none=>.bad))
  (k2:∀d v F' H' ρ',Same F F'->StOk X.K G F' Z H' ρ'->Rep X.K F' v d->OK (kk d ρ')->Q v H'):cO X.K x ns ms n mf (V.ref a::vs) H1 Q (EX X G Z):=by
 split at o1
 case h_2=>exact(hO o1).elim
 rename_i q hq;split at o1
 case isFalse=>exact(hO o1).elim
 rename_i hns;have ho:=lX hq;rw[hns]at ho
 cases hd:mf q.2 ds with
 | bad=>rw[hd]at o1;exact(hO o1).elim
 | exc e =>
  rw[hd]at o1;exact⟨_,F1,q.2,ds,by simpa using hn,jy S1 ho ea r1,by rw[hd];exact λF' H' Cl dd g xr=>EX.of S1 (hX F1 ρ1 e o1) g xr⟩
 | ret r =>
  rw[hd]at o1;refine⟨_,F1,q.2,ds,by simpa using hn,jy S1 ho ea r1,?_⟩;rw[hd];intro v F2 H2 s2 S2 r2;obtain⟨S3,t3⟩:=j6 (c':=.i x ms r.2) (l:=ds.map AV.fz) S1 ho ea s2 S2;exact k2 r.1 v F2 H2 _ (s1.trans s2) S3 r2 o1
structure CM(P:Program)(w:World)(K:Fg)(mg:zzl)(base:Heap)(C:Addr)(m:Str)(k:Nat)(sp:Sp):Prop where
 ex:∃(f:Addr) (fd:FuncData) (ps:List Str),FnOk P w K mg base (CX1 P w) k f fd ps sp/\Meth K C m f/\L2.Binds K fd ps []
theorem dR{pl:Sem Bool}(c:IC X.K x C)(Cm:CM X.prog X.w X.K X.mg X.base C m k (cO X.K x ns ms n mf))(hm:m∉ns)(hr:Room k X.A)(hN:X.N[i]? = some nm)(hv:Vis X.env.scope nm)(ha:AEa X (e::es) me)(hn:(e::es).length+1=n)
  (hst:starEach (e::es) X.env=(false,eval e X.env)::starEach es X.env) (hpl:(backTo pos (starEach es X.env)).any (·.1)=false)
  (ht:eval (.Call (.Attribute (.Name nm pn) m apos) (e::es) [] pos) X.env=(do
   let ov <-eval (.Name nm pn) X.env
   standAt apos.atName
   let (f,first) <-holding [ov] (getMethod ov m pl)
   callWith pos f first (backTo pos (starEach (e::es) X.env)) (backToKw pos (keywordEach [] X.env))))
  (hd:(nm==("__debug__" : Str))=false:=by decide) (hcd:(nm==("__classdict__" : Str))=false:=by decide):AE X (.Call (.Attribute (.Name nm pn) m apos) (e::es) [] pos) (DU x ns ms mf i me):=by
 obtain⟨f,fd,pl,Fn,h1,h3⟩:=Cm.ex;intro OK z kk G F Z H ρ Q hO hX St ok k2;unfold DU at ok;split at ok
 case h_2=>exact(hO ok).elim
 rename_i q0 hq0;split at ok
 case isFalse=>exact(hO ok).elim
 rename_i hns;obtain⟨a,dx,fs,ea,eh,e3,e4⟩:=lV St c hq0;have ar:eM X (e::es) Z H λvs H1=>cO X.K x ns ms n mf (V.ref a::vs) H1 Q (EX X G Z) :=
  ha OK z _ G F Z H ρ _ hO hX St ok λds vs F1 H1 ρ1 s1 S1 hl r1 o1=>vn hO hX s1 S1 (by rw[hl];exact hn) r1 ea o1 k2
 unfold eM at ar;unfold dX;intro pins s I;refine PySem.W.methodCall_KW (thn (dh hN hv hd hcd pins s Z H (λy H'=>y=.ref a/\H'=H) I ⟨_,ea,rfl,rfl⟩) λu s1 hh=>?_) ht;obtain⟨y,H1,I1,rx,rfl,rfl⟩:=hh;obtain rfl:u=Value.ref a:=rx;refine pj I1 eh c.cl h1 (yK (by rw[e3,hns];exact hm)) ?_;refine Lw (first:=[.ref a]) (h₀:=X.base) I.ok.mod.kin h1.kp (thn (ar pos pins s1 I1) λus s2 hh=>?_) hst hpl;obtain⟨vs,H2,I2,r,q2⟩:=hh;exact⟨I2.kIn,v9 (us:=.ref a::us) (vs:=.ref a::vs) Fn hr h3 (oG (G:=G)) I2 (.cons rfl r) q2⟩
theorem bU{pl:Sem Bool}(c:IC X.K x C)(Cm:CM X.prog X.w X.K X.mg X.base C m k (cO X.K x ns ms 1 mf))(hm:m∉ns)(hr:Room k X.A)(hN:X.N[i]? = some nm)(hv:Vis X.env.scope nm)
  (ht:eval (.Call (.Attribute (.Name nm pn) m apos) [] [] pos) X.env=(do
   let ov <-eval (.Name nm pn) X.env
   standAt apos.atName
   let (f,first) <-holding [ov] (getMethod ov m pl)
   callWith pos f first (backTo pos (starEach [] X.env)) (backToKw pos (keywordEach [] X.env))))
  (hd:(nm==("__debug__" : Str))=false:=by decide) (hcd:(nm==("__classdict__" : Str))=false:=by decide):AE X (.Call (.Attribute (.Name nm pn) m apos) [] [] pos) (DU (S:=S) x ns ms mf i (λz k ρ=>k [] ρ)):=by
 obtain⟨f,fd,pl,Fn,h1,h3⟩:=Cm.ex;intro OK z kk G F Z H ρ Q hO hX St ok k2;unfold DU at ok;split at ok
 case h_2=>exact(hO ok).elim
 rename_i q0 hq0;split at ok
 case isFalse=>exact(hO ok).elim
 rename_i hns;obtain⟨a,dx,fs,ea,eh,e3,e4⟩:=lV St c hq0;have sp:=vn (Q:=Q) (vs:=[]) (ds:=[]) hO hX (Same.refl _) St (n:=1) rfl .nil ea ok k2;unfold dX;intro pins s I;refine PySem.W.methodCall_KW (thn (dh hN hv hd hcd pins s Z H (λy H'=>y=.ref a/\H'=H) I ⟨_,ea,rfl,rfl⟩) λu s1 hh=>?_) ht;obtain⟨y,H1,I1,rx,rfl,rfl⟩:=hh;obtain rfl:u=Value.ref a:=rx;refine pj I1 eh c.cl h1 (yK (by rw[e3,hns];exact hm)) ?_;exact PySem.W.callWith_K0 (first:=[.ref a]) I1.kIn h1.kp (v9 (us:=[.ref a]) (vs:=[.ref a]) Fn hr h3 (oG (G:=G)) I1 (.cons rfl .nil) sp)
end
section
variable {F' H':Hp}
def cK{l:List α}{a b:α}(h:l[i]? = some a):(l++[b])[i]? = some a:=by
 rw[de (List.getElem?_eq_some_iff.mp h).1];exact h
theorem StOk.more(S:StOk K G F Z H ρ)(oa:OwnAt K G F H a c)(ne:∀(i:Nat) (e:OC),own ρ i e->Z[i]? ≠ some (some (V.ref a))):StOk K G F (Z++[some (.ref a)]) H (ρ++[some (.ol c)]):=by
 have cut:∀i (av:AV),(ρ++[some (.ol c)])[i]? = some (some av)->ρ[i]? = some (some av)\/(i=ρ.length/\av=.ol c):=λi av h=>by
  rw[List.getElem?_append]at h;split at h
  ·exact .inl h
  ·rename_i hi;right;have:i - ρ.length=0:=by
    have:=(List.getElem?_eq_some_iff.mp h).1;simp at this;lia
   rw[this]at h;simp at h;exact⟨by lia,h.symm⟩
 have cutO:∀i e,own (ρ++[some (.ol c)]) i e->own ρ i e\/(i=ρ.length/\e=c):=λi e h=>by
  rcases h with h|h
  ·rcases cut i _ h with q|⟨q,z⟩
   ·exact .inl (.inl q)
   ·injection z with z;exact .inr ⟨q,z⟩
  ·rcases cut i _ h with q|⟨q,z⟩
   ·exact .inl (.inr q)
   ·cases z
 have at':(Z++[some (V.ref a)])[ρ.length]? = some (some (V.ref a)):=by rw[<-S.ln];simp
 refine⟨S.fh,S.oh,S.fo,by simp[S.ln],λi d h=>?_,λi e h=>?_,λi j d e b h1 h2 q1 q2=>?_,λi b h=>?_,λi e h=>?_,S.fb⟩
 ·rcases cut i _ h with q|⟨_,z⟩
  ·obtain⟨v,e,r⟩:=S.fz i d q;exact⟨v,cK e,r⟩
  ·cases z
 ·rcases cutO i e h with q|⟨rfl,rfl⟩
  ·obtain⟨b,e1,ob⟩:=S.ow i e q;exact⟨b,cK e1,ob⟩
  ·exact⟨a,at',oa⟩
 ·have back:∀i e,own ρ i e->(Z++[some (V.ref a)])[i]? = some (some (V.ref b))->Z[i]? = some (some (V.ref b)):=λi e h q=>by
   obtain⟨b',e1,_⟩:=S.ow i e h;rw[cK e1]at q;rw[e1];exact q
  have no:∀i e,own ρ i e->(Z++[some (V.ref a)])[i]? = some (some (V.ref b))->(Z++[some (V.ref a)])[ρ.length]? = some (some (V.ref b))->False:=λi e h q1 q2=>by
   rw[at']at q2;injection q2 with q2;injection q2 with q2;rw[<-q2]at q1;have:=back i e h (q2▸q1);exact ne i e h (q2▸this)
  rcases cutO i d h1 with z1|⟨z1,_⟩<;>rcases cutO j e h2 with z2|⟨z2,_⟩
  ·exact S.dj i j d e b z1 z2 (back i d z1 q1) (back j e z2 q2)
  ·subst z2;exact(no i d z1 q1 q2).elim
  ·subst z1;exact(no j e z2 q2 q1).elim
  ·rw[z1,z2]
 ·obtain⟨q1,e,q2⟩:=S.pp i b h;exact⟨cK q1,e,cK q2⟩
 ·rcases cut i _ h with q|⟨_,z⟩
  ·exact S.pq i e q
  ·cases z
theorem StOk.less{u:Option V}{av:AV}(S:StOk K G F Z H ρ)(S':StOk K G F' (Z++[some (.ref a)]) H' (ρ++[some (.ol c)])):StOk K G F' Z H' ρ/\RVR K G F' Z H' ρ (.ref a) (.fr c):=by
 have at':(ρ++[some (AV.ol c)])[ρ.length]? = some (some (.ol c)):=by simp
 have ats:(Z++[some (V.ref a)])[ρ.length]? = some (some (V.ref a)):=by rw[<-S.ln];simp
 have up:∀i e,own ρ i e->own (ρ++[some (.ol c)]) i e:=λi e h=>h.imp (λq=>cK q) (λq=>cK q)
 have dn:∀i (v:V),i<ρ.length->(Z++[some (V.ref a)])[i]? = some (some v)->Z[i]? = some (some v):=λi v hi h=>by
  rw[de (by rw[S.ln];exact hi)]at h;exact h
 have lt:∀i (av:AV),ρ[i]? = some (some av)->i<ρ.length:=λi av h=>(List.getElem?_eq_some_iff.mp h).1
 have lo:∀i e,own ρ i e->i<ρ.length:=λi e h=>by rcases h with h|h<;>exact lt _ _ h
 refine⟨⟨S'.fh,S'.oh,S'.fo,S.ln,λi d h=>?_,λi e h=>?_,λi j d e b h1 h2 q1 q2=>S'.dj i j d e b (up i d h1) (up j e h2) (cK q1) (cK q2),S.pp,S.pq,S'.fb⟩,a,rfl,?_,λi e h q=>?_⟩
 ·obtain⟨v,e,r⟩:=S'.fz i d (cK h);exact⟨v,dn i v (lt _ _ h) e,r⟩
 ·obtain⟨b,e1,ob⟩:=S'.ow i e (up i e h);exact⟨b,dn i _ (lo _ _ h) e1,ob⟩
 ·obtain⟨b,e1,ob⟩:=S'.ow ρ.length c (.inl at');rw[ats]at e1;injection e1 with e1;injection e1 with e1;injection e1 with e1;subst e1;exact ob
 ·have:=S'.dj i ρ.length e c a (up i e h) (.inl at') (cK q) ats;have:=lo i e h;lia
def zC(c c':OC):setC (ρ++[some (.ol c)]) ρ.length c'=ρ++[some (.ol c')]:=by
 unfold setC;simp
end
section
variable {sp:Sp}
def zJ{pins:zzk}{s:Shared}{Q:VK}{us:List Value}(M:Mk X.K C f)(F:FnOk X.prog X.w X.K X.mg X.base (CX1 X.prog X.w) k f fd ps sp)(hr:Room (k+1) X.A)(hb:L2.Binds X.K fd ps [])
  (I:Inv X pins Z H s) (r:Vals vs us)
  (h:∀x dx,H x=none->H dx=none->dx≠x->sp (.ref x::vs) (upd (upd H dx (.own x)) x (.ins C dx [])) (λv H2=>v=.non/\Q (.ref x) H2) (λ_ _ _=>False)) :
  wpAny (model X.prog X.w) X.A (call (.ref C) us) (EP X pins Z Q) X.xe s:=by
 refine L2.run_make (dvs:=[]) (ds:=[]) M F hr hb .nil (E:=λ_ _ _=>False) (λpins Z H s e s' I h=>?_) I r λx dx h1 h2 h3=>by rw[ig];exact h x dx h1 h2 h3
 obtain⟨_,_,_,_,_,_,_,_,_,_,z⟩:=h;exact z.elim
end
section
def Gv(m:M (D×List D))(k:List D->M S):M S:=match m with
 | .ret (.none,f)=>k f
 | _=>.bad
def HJ(j:Nat)(x:Str)(ms:List Str)(mf:List D->List D->M (D×List D))(me:Ev S (List D)):SM S:=λK ρ=>me K.x (λds ρ1=>Gv (mf [] ds) λf=>match fV ρ1 j with
 | true=>K.nx (ρ1.set j (some (.ol (.i x ms f))))
 | false=>.bad) ρ
structure CN(P:Program)(w:World)(K:Fg)(mg:zzl)(base:Heap)(C:Addr)(x:Str)(k:Nat)(sp:Sp):Prop where
 ex:∃(f:Addr) (fd:FuncData) (ps:List Str),FnOk P w K mg base (CX1 P w) k f fd ps sp/\Mk K C f/\L2.Binds K fd ps []/\mg x=some (.ref C)
variable {mf:List D->List D->M (D×List D)} {pos2:Pos} {me:Ev S (List D)}
theorem Ea(c:IC X.K x C)(Cn:CN X.prog X.w X.K X.mg X.base C x k (cO X.K x [] ms n mf))(hr:Room (k+1) X.A)(hg:Gl X x)
  (ha:AEa X (e::es) me) (hn:(e::es).length+1=n) (hdb:(x==("__debug__" : Str))=false) (he:starEach (e::es) X.env=(false,eval e X.env)::starEach es X.env) (hpl:(backTo pos2 (starEach es X.env)).any (·.1)=false)
  (hN:X.N.Nodup) (hi:X.N[j]? = some y) (hy:Loc X.env.scope y) (hs:swapsWith (.Call (.Name x p) (e::es) [] pos2) (some (.Name y pos')) pos.line X.env=pure false) (hf:X.fn y=true\/X.env.scope.names.lookup y=some .local) :
  AS X (.Assign [.Name y pos'] (.Call (.Name x p) (e::es) [] pos2) pos) (HJ j x ms mf me):=λOK K G F Z H ρ E hO hX St ok eo=>by
 obtain⟨f,fd,ps,Fn,Mf,hb,hm⟩:=Cn.ex;refine iz (sr hN hi hy aN hs hf) ?_;show dX X (.Call (.Name x p) (e::es) [] pos2) Z H _;unfold dX;intro pins s I;have ar:eM X (e::es) Z H λvs H1=>∀a dx,H1 a=none->H1 dx=none->dx≠a->cO X.K x [] ms n mf (.ref a::vs) (upd (upd H1 dx (.own a)) a (.ins C dx [])) (λv H2=>v=.non/\E.nx (Z.set j (some (.ref a))) H2) (λ_ _ _=>False) :=
  ha OK K.x _ G F Z H ρ _ hO hX St ok λds vs F1 H1 ρ1 s1 S1 hl r1 o1=>by
   intro a dx h1 h2 h3;unfold Gv at o1;split at o1
   case h_2=>exact(hO o1).elim
   rename_i g hd;split at o1
   case h_2=>exact(hO o1).elim
   rename_i hok;obtain⟨hlj,hop⟩:=cJ hok;have hx:(upd H1 dx (.own a)) a=none:=by rw[aI (Ne.symm h3)];exact h1
   have S2:StOk X.K G F1 Z (upd (upd H1 dx (.own a)) a (.ins C dx [])) ρ1:=(S1.lay h2).lay hx;have oa:OwnAt X.K G F1 (upd (upd H1 dx (.own a)) a (.ins C dx [])) a (.i x [] []):=⟨S1.fh.free h1,S1.oh.free h1,C,dx,[],aT,c.ns,rfl,.nil⟩;have ne:∀(i:Nat) (e:OC),own ρ1 i e->Z[i]? ≠ some (some (V.ref a)):=S1.fresh_ne h1;have S3:=StOk.more S2 oa ne;have ho:own (ρ1++[some (.ol (.i x [] []))]) ρ1.length (.i x [] []):=.inl (by simp);have hs':(Z++[some (V.ref a)])[ρ1.length]? = some (some (V.ref a)):=by rw[<-S1.ln];simp
   refine⟨_,F1,[],ds,by rw[bi,hl];exact hn,jy S3 ho hs' r1,?_⟩;rw[hd];intro v F2 H2 s2 S4 r2;obtain⟨S5,_⟩:=j6 (c':=.i x ms g) (l:=ds.map AV.fz) S3 ho hs' s2 S4;rw[zC]at S5;obtain⟨S6,r6⟩:=StOk.less (u:=none) (av:=.fz .none) S2 S5;refine⟨r2.inv,eo.nx F2 _ H2 _ (s1.trans s2) (S6.store hop hlj (.inr ⟨.i x ms g,rfl,r6⟩)) o1⟩
 unfold eM at ar;refine xv (kQ I hg hm ?_ hdb);refine Lw (h₀:=X.base) I.ok.mod.kin Mf.kp (thn (ar pos2 pins s I) λus s1 hh=>?_) he hpl;obtain⟨vs,H1,I1,r,q⟩:=hh;exact⟨I1.kIn,zJ Mf Fn hr hb I1 r q⟩
end
section
variable {m:Str} {oc:Value} {od an:Option Addr} {osl:Array (Option Value)} {kV doc pm cdv ct:Value}
def Fm(K:Fg)(C:Addr)(m qual:Str)(st:Stmt):Prop:=∃f fd,Meth K C m f/\Fun K m qual st f fd
def pA(a:PySem.W.findIn K (.ref C) m=some (some (.ref f)))(l:K.lookup f=some ⟨oc,od,.func (PySem.W.fnOf m qual (dc st) (bS st) (aE st) .none kV doc pm an cdv ct),osl⟩)
  (c:PySem.W.codeIn K cdv qual=true) (k:PySem.W.keepIn K (.ref f)=true) (i:PySem.W.isFn K (.ref f)=true):Fm K C m qual st:=⟨f,_,⟨a,i,k⟩,tD l c k⟩
def Fi(K:Fg)(C:Addr)(qual:Str)(st:Stmt):Prop:=∃f fd,Mk K C f/\Fun K "__init__" qual st f fd
def IZ(a:PySem.W.findIn K (.ref C) "__init__" = some (some (.ref f)))(l:K.lookup f=some ⟨oc,od,.func (PySem.W.fnOf "__init__" qual (dc st) (bS st) (aE st) .none kV doc pm an cdv ct),osl⟩)
  (c:PySem.W.codeIn K cdv qual=true) (k:PySem.W.keepIn K (.ref f)=true) (i:PySem.W.isFn K (.ref f)=true) (mk:PySem.W.makesIn K C=true) (kp:PySem.W.keepIn K (.ref C)=true):Fi K C qual st:=⟨f,_,⟨mk,a,i,kp⟩,tD l c k⟩
def Ci(K:Fg)(x:Str)(C:Addr)(ns:List Str):Prop:=IC K x C/\∀f∈ns,NoAttr K C f
def Jc(a:PySem.W.nsIn K mainGlobals x=some (some (.ref C)))(pg:PySem.W.plainGet K C Str.empty=true)(hd:PySem.W.hasDictIn K C=true)(po:PySem.W.plainOver K C=true)
  (sa:PySem.W.findIn K (.ref C) "__setattr__" = some (some (.builtin "object.__setattr__"))) (n:∀f∈ns,NoAttr K C f):Ci K x C ns:=⟨⟨a,⟨pg,hd,po,sa⟩⟩,n⟩
def Kc(K:Fg)(x:Str)(v:V):Prop:=∃u,PySem.W.nsIn K mainGlobals x=some (some u)/\RelV v u
def yM{u:Value}(a:PySem.W.nsIn K mainGlobals x=some (some u))(r:RelV v u):Kc K x v:=⟨u,a,r⟩
def yN{h:Heap}(X:K.In h)(G:h.Ns mainGlobals mg)(c:Kc K x v):∃u,mg x=some u/\RelV v u:=let ⟨u,a,r⟩:=c;⟨u,eg X G a,r⟩
end
def uh(K:Fg)(x:Str)(ms:List Str)(n:Nat)(mf:List D->M (List D)):Sp:=λvs H Q E=>∃G F ds,vs.length=n/\StOk K G F (vs.map some) H (fzs ds)/\il K G E (mf ds) λd =>
 ∀v F' H',Same F F'->StOk K G F' (vs.map some) H' (fzs ds)->Frs K G F' (vs.map some) H' (fzs ds) v (.i x ms d)->Q v H'
def Ha{S:Type}(x:Str)(ms:List Str)(c:OC)(k:List D->M S):M S:=match c with
 | .i y ns f=>if y=x/\ns=ms then k f else .bad
 | _=>.bad
def Ec{k:List D->M S}{E:XK}{C:S->Prop}(h:il K G E (Ha x ms c k) C):∃f,c=.i x ms f/\il K G E (k f) C:=by
 unfold Ha at h;split at h
 ·split at h
  ·rename_i e;obtain⟨rfl,rfl⟩:=e;exact⟨_,rfl,h⟩
  ·exact(h:False).elim
 ·exact(h:False).elim
def KIR(x:Str)(ms:List Str):KS (List D):=⟨λ_=>.bad,λ_ _=>.bad,λc _=>Ha x ms c .ret,λ_=>.bad,λ_=>.bad,λe _=>.exc e⟩
section
variable {P:Program} {w:World} {base:Heap} {N:List Str}
theorem DQ{mb:SM (List D)}{mf:List D->M (List D)}(Fn:Fun K x qual st f fd)(Sc:FnScope N ps (aE st))
  (hb:∀(cdv:Value) (A:Around) (outer:List Env) (s:Shared) (H:Hp) (E:XK),Room k (A.deeper (envOfC qual (aE st) s.heap.objs.size f cdv)) ->
   ASs (lc (CX1 P w) P w K mg base N qual (aE st) f cdv A outer s H E) (bS st) mb)
  (hm:∀ds,ds.length=ps.length->mf ds=mb (KIR y ms) (fzs ds++List.replicate (N.length - ps.length) none)):FnOk P w K mg base (CX1 P w) (k+1) f fd ps (uh K y ms ps.length mf):=by
 refine Af Fn Sc (λvs H Q E h=>?_) (λcdv A outer s H vs Q E hr h=>?_)
 ·obtain⟨_,_,_,h1,_⟩:=h;exact h1
 ·obtain⟨G,F0,ds,h1,S0,e⟩:=h;have hl:ds.length=ps.length:=by have:=S0.ln;simp at this;lia
  rw[hm ds hl]at e;refine⟨_,eF,hb cdv A outer s H E hr (λm=>il K G E m _) (KIR y ms) G F0 _ H _ _ (λz=>z) (λF ρ e z=>va z) (nU h1 S0) e ?_⟩;exact⟨λF' σ' H' ρ' s S' o=>(o:False).elim,λF' σ' H' ρ' d' v s S' r o=>(o:False).elim,λF' σ' H' ρ' d' v s S' r o=>(by obtain⟨ds',rfl,o2⟩:=Ec o;exact o2 v F' H' s (tM S0 s S') (zh S' r)),λF' σ' H' ρ' s S' o=>(o:False).elim,λF' σ' H' ρ' s S' o=>(o:False).elim⟩
end
section
def HM(j:Nat)(x:Str)(ms:List Str)(mf:List D->M (List D))(me:Ev S (List D)):SM S:=λK ρ=>me K.x (λds ρ1=>(mf ds).on (λe=>K.x e ρ1) (λf=>match fV ρ1 j with
 | true=>K.nx (ρ1.set j (some (.ol (.i x ms f))))
 | false=>.bad)) ρ
variable {mf:List D->M (List D)} {g:Str} {pos2:Pos} {me:Ev S (List D)}
theorem nE(C:CF X.prog X.w X.K X.mg X.base g k (uh X.K x ms n mf))(hr:Room k X.A)(hN:X.N.Nodup)(ha:AEa X (e::es) me)(hg:Gl X g:=by rfl)(hi:X.N[j]? = some y:=by rfl)(hy:Loc X.env.scope y:=by exact lo rfl)(hn:(e::es).length=n:=by rfl)
  (hdb:(g==("__debug__" : Str))=false:=by decide) (he:starEach (e::es) X.env=(false,eval e X.env)::starEach es X.env:=by rfl) (hpl:(backTo pos2 (starEach es X.env)).any (·.1)=false:=by rfl)
  (hs:swapsWith (.Call (.Name g p) (e::es) [] pos2) (some (.Name y pos')) pos.line X.env=pure false:=by rfl) (hf:X.fn y=true\/X.env.scope.names.lookup y=some .local:=by exact .inl rfl) :
  AS X (.Assign [.Name y pos'] (.Call (.Name g p) (e::es) [] pos2) pos) (HM j x ms mf me):=λOK K G F Z H ρ E hO hX St ok eo=>by
 obtain⟨f,fd,pl,Fn,h1,h2,h3⟩:=C.ex;refine iz (sr hN hi hy aN hs hf) ?_;refine iD Fn hr hg h1 h2 h3 (oG (G:=G)) hdb he hpl ?_;refine ha OK K.x _ G F Z H ρ _ hO hX St ok λds vs F1 H1 ρ1 s1 S1 hl r1 o1=>?_
 show uh X.K x ms n mf vs H1 _ (EX X G Z)
 cases hd:mf ds with
 | bad=>rw[hd]at o1;exact(hO o1).elim
 | exc e =>
  rw[hd]at o1;exact⟨_,F1,ds,hl.trans hn,dw S1 r1,by rw[hd];exact λF' H' Cl dd g xr=>EX.of S1 (hX F1 ρ1 e o1) g xr⟩
 | ret d =>
  rw[hd]at o1;refine⟨_,F1,ds,hl.trans hn,dw S1 r1,?_⟩;rw[hd];intro v F2 H2 s2 S2 r2;obtain⟨S3,t3⟩:=h8 (avs':=ds.map AV.fz) S1 s2 S2;have o1:OK (match fV ρ1 j with|true=>K.nx (ρ1.set j (some (.ol (.i x ms d))))|false=>.bad):=o1;split at o1
  case h_2=>exact(hO o1).elim
  rename_i hok;obtain⟨hlj,hop⟩:=cJ hok;exact eo.nx F2 _ H2 _ (s1.trans s2) (S3.store hop hlj (.inr ⟨.i x ms d,rfl,t3 v _ r2⟩)) o1
end
end L4
namespace WS
open PySem PySem.SetTable
variable {j i k:Nat}{xs:Array Nat}{h:Int}{α:Type}
def run(m i:Nat):List Nat:=List.range' i (runEnd m i+1 - i)
def lp(m:Nat)(q:Nat×Nat):Nat×Nat:=leap m q.1 q.2
def rdL(m:Nat):Nat->Nat×Nat->List Nat
 | 0,_=>[]
 | n+1,q=>run m q.1++rdL m n (lp m q)
def Rd(m:Nat)(h:Int):List Nat:=rdL m (turns m) (bits h % (m+1),bits h)
def Mk(m:Nat):Prop:=m=7\/m=31\/m=127
def itr(m:Nat):Nat->Nat×Nat->Nat×Nat
 | 0,q=>q
 | n+1,q=>itr m n (lp m q)
def lE(m i:Nat):i<=runEnd m i:=by unfold runEnd;split<;>omega
def wb(m i:Nat):runEnd m i<=i+9:=by unfold runEnd;split<;>omega
def A0{m:Nat}(h:i<=m):runEnd m i<=m:=by unfold runEnd;split<;>omega
def kT(m:Nat):∀(a b:Nat) (q:Nat×Nat),itr m (a+b) q=itr m b (itr m a q)
 | 0,b,q=>by rw[Ls];rfl
 | a+1,b,q=>by rw[Nat.add_right_comm];exact kT m a b (lp m q)
def yR(m:Nat):∀(n N:Nat) (q:Nat×Nat),n<N->(itr m n q).1∈rdL m N q
 | _,0,_,h=>by omega
 | 0,N+1,q,_=>by
  refine List.mem_append.mpr (.inl ?_);have:=lE m q.1;exact List.mem_range'_1.mpr ⟨au _,by show q.1<q.1+(runEnd m q.1+1 - q.1);omega⟩
 | n+1,N+1,q,h=>List.mem_append.mpr (.inr (yR m n N (lp m q) (by omega)))
def E5(m:Nat):∀(n:Nat) (q:Nat×Nat),(itr m n q).2=q.2 / 32^n
 | 0,q=>by show q.2=q.2 / 1;rw[Nat.div_one]
 | n+1,q=>by
  show(itr m n (lp m q)).2=_;rw[E5 m n,Nat.pow_succ,Nat.mul_comm,<-Nat.div_div_eq_div_mul];rfl
def IF(m:Nat)(q:Nat×Nat):(lp m q).1<=m:=Nat.le_of_lt_succ (Nat.mod_lt _ (Nat.succ_pos _))
def E6{m:Nat}:∀(n:Nat) (q:Nat×Nat),q.1<=m->(itr m n q).1<=m
 | 0,q,h=>h
 | n+1,q,_=>E6 n (lp m q) (IF m q)
def D1(h:Int):bits h<2^64:=by unfold bits;omega
def Bs(m:Nat):Nat->Nat->List Nat
 | 0,_=>[]
 | n+1,i=>i::Bs m n ((i*5+1) % (m+1))
def IH(m i:Nat):lp m (i,0)=((i*5+1) % (m+1),0):=by
 show((i*5+1+0 / 32) % (m+1),0 / 32)=_;simp
def oI(m:Nat):∀(n i j:Nat),j∈Bs m n i->∃a,a<n/\itr m a (i,0)=(j,0)
 | 0,_,_,h=>by cases h
 | n+1,i,j,h=>by
  rcases List.mem_cons.mp h with rfl|h
  ·exact⟨0,by omega,rfl⟩
  ·obtain⟨a,ha,e⟩:=oI m n _ j h;exact⟨a+1,by omega,by show itr m a (lp m (i,0))=_;rw[IH];exact e⟩
def full(m:Nat):Bool:=(List.range (m+1)).all (λj=>(Bs m (m+1) 0).contains j)&&(Bs m (m+2) 0)[m+1]? == some 0
def yx(m:Nat):∀(n i k j:Nat),(Bs m n i)[k]? = some j->itr m k (i,0)=(j,0)
 | 0,_,_,_,h=>by cases h
 | n+1,i,0,j,h=>by cases h;rfl
 | n+1,i,k+1,j,h=>by show itr m k (lp m (i,0))=_;rw[IH];exact yx m n _ k j h
def DO{m:Nat}(h:Mk m):full m=true:=by
 rcases h with rfl|rfl|rfl<;>decide +kernel
def cyc{m:Nat}(h:Mk m)(hi:i<=m)(hj:j<=m):∃n,n<=m/\itr m n (i,0)=(j,0):=by
 have f:=DO h;unfold full at f;rw[ai,gh,IG]at f;obtain⟨f1,f2⟩:=f;obtain⟨a,ha,ea⟩:=oI m _ _ _ (List.contains_iff_mem.mp (f1 i (List.mem_range.mpr (by omega))));obtain⟨b,hb,eb⟩:=oI m _ _ _ (List.contains_iff_mem.mp (f1 j (List.mem_range.mpr (by omega))));have ez:=yx m _ _ _ _ f2;by_cases hab:a<=b
 ·refine⟨b - a,by omega,?_⟩;rw[<-ea,<-kT,Nat.add_sub_cancel' hab,eb]
 ·refine⟨m+1+b - a,by omega,?_⟩;rw[<-ea,<-kT,show a+(m+1+b - a)=(m+1)+b by omega,kT,ez,eb]
def cov{m:Nat}(hm:Mk m)(h:Int)(hj:j<=m):j∈Rd m h:=by
 have h2:(itr m 13 (bits h % (m+1),bits h)).2=0:=by
  rw[E5];have:=D1 h;exact Nat.div_eq_of_lt (bo this (by decide))
 have h1:(itr m 13 (bits h % (m+1),bits h)).1<=m:=E6 13 _ (Nat.le_of_lt_succ (Nat.mod_lt _ (Nat.succ_pos _)));obtain⟨n,hn,e⟩:=cyc hm h1 hj;have:=yR m (13+n) (turns m) (bits h % (m+1),bits h) (by unfold turns;omega);rw[kT,show itr m 13 (bits h % (m+1),bits h)=((itr m 13 (bits h % (m+1),bits h)).1,0)from Prod.ext rfl h2,e]at this;exact this
def A5{m:Nat}:∀(n:Nat) (q:Nat×Nat),q.1<=m->∀j∈rdL m n q,j<=m
 | 0,_,_,_,h=>by cases h
 | n+1,q,hq,j,h=>by
  rcases List.mem_append.mp h with h|h
  ·have h':j∈List.range' q.1 (runEnd m q.1+1 - q.1):=h;have:=(List.mem_range'_1.mp h').2;have:=A0 hq;omega
  ·exact A5 n _ (IF m q) j h
def CO{m:Nat}(x:j∈Rd m h):j<=m:=A5 _ _ (Nat.le_of_lt_succ (Nat.mod_lt _ (Nat.succ_pos _))) j x
def yd{m:Nat}:∀(n:Nat) (q:Nat×Nat),(rdL m n q).length<=10*n
 | 0,_=>au _
 | n+1,q=>by
  show(run m q.1++rdL m n (lp m q)).length<=_;rw[zzf];have:=yd (m:=m) n (lp m q);have:(run m q.1).length<=10:=by
   show(List.range' _ _).length<=10;rw[List.length_range'];have:=wb m q.1;omega
  omega
def Up(xs:Array Nat):Prop:=xs.toList.Pairwise (· < ·)
def Up.lt(U:Up xs){a b u v:Nat}(h:a<b)(ha:xs[a]? = some u)(hb:xs[b]? = some v):u<v:=by
 rw[<-gi]at ha hb;obtain⟨h1,e1⟩:=List.getElem?_eq_some_iff.mp ha;obtain⟨h2,e2⟩:=List.getElem?_eq_some_iff.mp hb;have:=List.pairwise_iff_getElem.mp U a b h1 h2 h;rw[e1,e2]at this;exact this
def pV{xs:Array Nat}(U:Up xs)(j:Nat):∀(fuel lo hi:Nat),hi - lo<=fuel->lo<=hi->hi<=xs.size->(∀i u,i<lo->xs[i]? = some u->u<j)->(∀i u,hi<=i->xs[i]? = some u->j<=u) ->
  (∀i u,i<below.go xs j fuel lo hi->xs[i]? = some u->u<j)/\(∀i u,below.go xs j fuel lo hi<=i->xs[i]? = some u->j<=u)/\below.go xs j fuel lo hi<=xs.size
 | 0,lo,hi,h1,h2,h3,a,b=>by
  have:lo=hi:=by omega
  subst this;exact⟨a,b,h3⟩
 | fuel+1,lo,hi,h1,h2,h3,a,b=>by
  unfold below.go;by_cases hl:lo<hi
  ·rw[ak hl];have hm:(lo+hi) / 2<xs.size:=by omega
   have em:xs[(lo+hi) / 2]? = some (xs.getD ((lo+hi) / 2) j):=by rw[io,ci hm];rfl
   dsimp only;by_cases hv:xs.getD ((lo+hi) / 2) j<j
   ·rw[ak hv];refine pV U j fuel _ hi (by omega) (by omega) h3 (λi u hi' e=>?_) b;by_cases q:i=(lo+hi) / 2
    ·subst q;rw[em]at e;cases e;exact hv
    ·exact Nat.lt_trans (U.lt (show i<(lo+hi) / 2 by omega) e em) hv
   ·rw[ac hv];refine pV U j fuel lo _ (by omega) (by omega) (by omega) a (λi u hi' e=>?_);by_cases q:i=(lo+hi) / 2
    ·subst q;rw[em]at e;cases e;omega
    ·have:=U.lt (show(lo+hi) / 2<i by omega) em e;omega
  ·rw[ac hl];have:lo=hi:=by omega
   subst this;exact⟨a,b,h3⟩
def ie(U:Up xs)(j:Nat):(∀i u,i<below xs j->xs[i]? = some u->u<j)/\(∀i u,below xs j<=i->xs[i]? = some u->j<=u)/\below xs j<=xs.size :=
 pV U j xs.size 0 xs.size (by omega) (by omega) (au _) (λi u h=>by omega) (λi u h e=>by rw[ue h]at e;cases e)
def below_at(U:Up xs)(e:xs[i]? = some j):below xs j=i:=by
 obtain⟨a,b,c⟩:=ie U j;have hi:i<xs.size:=(Array.getElem?_eq_some_iff.mp e).1;rcases ve (below xs j) i with h|h|h
 ·have g:=ci (show below xs j<xs.size by omega);have:=b _ _ (au _) g;have:=U.lt h g e;omega
 ·exact h
 ·have:=a _ _ h e;omega
def xF(U:Up xs)(e:xs[i]? = some j):below xs (j+1)=i+1:=by
 obtain⟨a,b,c⟩:=ie U (j+1);rcases ve (below xs (j+1)) (i+1)with h|h|h
 ·have:=b i _ (by omega) e;omega
 ·exact h
 ·have g:=ci (show i+1<xs.size by omega);have:=a _ _ h g;have:=U.lt (wT i) e g;omega
def D4(U:Up xs):below xs 0=0:=by
 obtain⟨a,b,c⟩:=ie U 0;rcases Nat.eq_zero_or_pos (below xs 0)with h|h
 ·exact h
 ·have g:=ci (show 0<xs.size by omega);have:=a _ _ h g;omega
def zw(U:Up xs)(hj:j∉xs.toList):Up (insertAt xs (below xs j) j):=by
 obtain⟨a,b,c⟩:=ie U j;unfold Up;rw[LL];have ha:∀u∈xs.toList.take (below xs j),u<j:=λu hu=>by
  obtain⟨i,hi,e⟩:=List.mem_take_iff_getElem.mp hu;exact a i u (by omega) (by rw[<-gi];exact List.getElem?_eq_some_iff.mpr ⟨by omega,e⟩)
 have hb:∀u∈xs.toList.drop (below xs j),j<u:=λu hu=>by
  have hm:=sw hu;obtain⟨i,hi,e⟩:=List.mem_drop_iff_getElem.mp hu;have:=b (below xs j+i) u (by omega) (by rw[<-gi];exact List.getElem?_eq_some_iff.mpr ⟨by omega,e⟩);have:u≠j:=λz=>hj (z▸hm)
  omega
 rw[List.pairwise_append,Lx];refine⟨List.Pairwise.sublist (List.take_sublist _ _) U,⟨hb,List.Pairwise.sublist (List.drop_sublist _ _) U⟩,λu hu v hv=>?_⟩;rcases List.mem_cons.mp hv with rfl|hv
 ·exact ha u hu
 ·exact Nat.lt_trans (ha u hu) (hb v hv)
def On(m:Nat)(h:Int)(P:List Nat)(j:Nat):Prop:=∃k:Nat,(Rd m h)[k]? = some j/\∀k',k'<k->∀x,(Rd m h)[k']? = some x->x∈P
def On.mono{m:Nat}{P P':List Nat}(x:On m h P j)(s:∀y∈P,y∈P'):On m h P' j:=let ⟨k,a,b⟩:=x;⟨k,a,λk' hk y e=>s y (b k' hk y e)⟩
structure Tb(t:SetTable)(es:Array (Int×Value)):Prop where
 km:Mk t.mask
 du:t.dummies = #[]
 sz:t.place.size=es.size
 up:Up t.place
 le:∀j∈t.place.toList,j<=t.mask
 pl:t.plain=true
 fu:t.place.size<=t.mask
 rd:∀e j,(e,j)∈es.toList.zip t.place.toList->On t.mask e.1 t.place.toList j
section
variable {t:SetTable} {es:Array (Int×Value)}
def Tb.fill(T:Tb t es):t.fill=t.place.size:=by unfold SetTable.fill;rw[T.du];rfl
def Tb.fits(T:Tb t es):t.fits es.size=true:=by
 have:=T.fu;simp only[SetTable.fits,T.fill,T.sz,ai,IG,zzi,true_and];rw[<-T.sz];exact this
def Tb.odd(T:Tb t es):t.gaveWay=false:=by
 unfold SetTable.gaveWay;rcases T.km with h|h|h<;>rw[h]<;>rfl
def yV(j:Nat):has #[] j=false:=rfl
def Tb.slot_in(T:Tb t es)(e:t.place[i]? = some j):t.slot j=.live i:=by
 unfold SetTable.slot;dsimp only;rw[below_at T.up e,ak (by rw[e];exact LQ _)]
def Tb.slot_out(T:Tb t es)(h:j∉t.place.toList):t.slot j=.empty:=by
 unfold SetTable.slot;dsimp only;rw[ac,T.du,yV,ac (by decide)];intro z;have z':=eq_of_beq z;rw[<-gi]at z';exact h (bu z')
def At(m:Nat)(p:Probe)(l:List Nat):Prop:=p.dummy=none/\∃n,l=List.range' p.j (p.more+1)++rdL m n (lp m (p.i,p.perturb))
def Cr(t:SetTable)(h:Int):At t.mask (t.probeStart h) (Rd t.mask h):=by
 refine⟨rfl,t.mask+14,?_⟩;show run t.mask (bits h % (t.mask+1))++rdL t.mask (t.mask+14) (lp t.mask _)=_;unfold run probeStart;dsimp only;have:=lE t.mask (bits h % (t.mask+1));rw[show runEnd t.mask (bits h % (t.mask+1)) - bits h % (t.mask+1)+1=runEnd t.mask (bits h % (t.mask+1))+1 - bits h % (t.mask+1) by omega]
def zn{p:Probe}{x:Nat}{l:List Nat}(a:At t.mask p (x::l)):x=p.j/\(l≠[]->At t.mask (t.advance p) l):=by
 obtain⟨hd,n,e⟩:=a;rw[List.range'_succ,List.cons_append]at e;injection e with e1 e2;refine⟨e1,λhl=>?_⟩;unfold SetTable.advance;by_cases hm:p.more>0
 ·rw[ak hm];refine⟨hd,n,?_⟩;dsimp only;rw[show p.more - 1+1=p.more by omega];exact e2
 ·rw[ac hm];have h0:p.more=0:=by omega
  rw[h0]at e2
  cases n with
  | zero=>exact absurd e2 hl
  | succ n =>
   refine⟨hd,n,?_⟩;have:=lE t.mask (lp t.mask (p.i,p.perturb)).1;show l=List.range' (lp t.mask (p.i,p.perturb)).1 (runEnd t.mask (lp t.mask (p.i,p.perturb)).1 - (lp t.mask (p.i,p.perturb)).1+1)++rdL t.mask n (lp t.mask (lp t.mask (p.i,p.perturb)));rw[show runEnd t.mask (lp t.mask (p.i,p.perturb)).1 - (lp t.mask (p.i,p.perturb)).1+1=runEnd t.mask (lp t.mask (p.i,p.perturb)).1+1 - (lp t.mask (p.i,p.perturb)).1 by omega];exact e2
def E7(T:Tb t es){f:Nat->Int}{h:Int}:∀(q fuel:Nat) (p:Probe) (l:List Nat) (j0:Nat),At t.mask p l->l[q]? = some j0->j0∉t.place.toList->(∀k,k<q->∀x,l[k]? = some x->x∈t.place.toList)->q<fuel ->
  (probe.go t f h fuel p=some (.empty j0 none)/\∀k,k<q->∀i j,l[k]? = some j->t.place[i]? = some j->f i≠h) \/
  ∃(k i j:Nat) (nx:Probe),k<q/\l[k]? = some j/\t.place[i]? = some j/\f i=h/\probe.go t f h fuel p=some (.candidate j i nx)/\At t.mask nx (l.drop (k+1))/\∀k',k'<k->∀i j,l[k']? = some j->t.place[i]? = some j->f i≠h
 | q,fuel+1,p,[],j0,a,e0,hj,hu,hf=>by cases e0
 | 0,fuel+1,p,x::l,j0,a,e0,hj,hu,hf=>by
  cases e0
  obtain⟨rfl,_⟩:=zn a;refine .inl ⟨?_,λk hk=>absurd hk (by omega)⟩;unfold probe.go;rw[T.slot_out hj,a.1]
 | q+1,fuel+1,p,x::l,j0,a,e0,hj,hu,hf=>by
  have e0':l[q]? = some j0:=e0;have hl:l≠[]:=λz=>by rw[z]at e0';cases e0'
  obtain⟨rfl,hn⟩:=zn a;have hx:=hu 0 (by omega) _ rfl;obtain⟨i,hi,ei⟩:=List.getElem_of_mem hx;have ei':t.place[i]? = some p.j:=by rw[<-gi];exact List.getElem?_eq_some_iff.mpr ⟨hi,ei⟩
  have one:∀i',t.place[i']? = some p.j->i'=i:=λi' e=>by
   rcases ve i' i with z|z|z
   ·have:=T.up.lt z e ei';omega
   ·exact z
   ·have:=T.up.lt z ei' e;omega
  unfold probe.go;rw[T.slot_in ei'];dsimp only;by_cases hh:(f i==h)=true
  ·rw[ak hh];exact .inr ⟨0,i,_,_,by omega,rfl,ei',eq_of_beq hh,rfl,hn hl,λk' hk=>absurd hk (by omega)⟩
  ·rw[ac hh];have h0:∀i' j,(p.j::l)[0]? = some j->t.place[i']? = some j->f i'≠h:=λi' j e1 e2=>by
    cases e1
    rw[one i' e2];exact λz=>hh (by rw[z];exact LQ _)
   rcases E7 T q fuel _ l j0 (hn hl) e0' hj (λk hk x e=>hu (k+1) (by omega) x e) (by omega)with ⟨r,c⟩|⟨k,i2,j2,nx,r1,r2,r3,r4,r5,r6,r7⟩
   ·refine .inl ⟨r,λk hk=>?_⟩
    cases k with
    | zero=>exact h0
    | succ k=>exact c k (by omega)
   ·refine .inr ⟨k+1,i2,j2,nx,by omega,r2,r3,r4,r5,r6,λk' hk=>?_⟩
    cases k' with
    | zero=>exact h0
    | succ k'=>exact r7 k' (by omega)
def Tb.room(T:Tb t es):∃j,j<=t.mask/\j∉t.place.toList:=by
 by_cases h:∃j,j<=t.mask/\j∉t.place.toList
 ·exact h
 ·exfalso;have sub:List.range (t.mask+1) ⊆ t.place.toList:=λj hj=>by
   by_cases hm:j∈t.place.toList
   ·exact hm
   ·exact absurd ⟨j,by have:=List.mem_range.mp hj;omega,hm⟩ h
  have:=List.nodup_range.length_le_of_subset sub;rw[ke,ce]at this;have:=T.fu;omega
def rq{P:List Nat}:∀(l:List Nat) (j:Nat),j∈l->j∉P->∃(k j0:Nat),l[k]? = some j0/\j0∉P/\∀k',k'<k->∀x,l[k']? = some x->x∈P
 | [],_,h,_=>by cases h
 | x::l,j,h,hj=>by
  by_cases hx:x∈P
  ·rcases List.mem_cons.mp h with rfl|h
   ·exact absurd hx hj
   ·obtain⟨k,j0,a,b,c⟩:=rq l j h hj;refine⟨k+1,j0,a,b,λk' hk y e=>?_⟩
    cases k' with
    | zero=>cases e;exact hx
    | succ k'=>exact c k' (by omega) y e
  ·exact⟨0,x,rfl,hx,λk' hk=>absurd hk (by omega)⟩
def Tb.free(T:Tb t es)(h:Int):∃(k j0:Nat),(Rd t.mask h)[k]? = some j0/\k<10*turns t.mask/\j0∉t.place.toList/\∀k',k'<k->∀x,(Rd t.mask h)[k']? = some x->x∈t.place.toList:=by
 obtain⟨j,h1,h2⟩:=T.room;obtain⟨k,j0,a,b,c⟩:=rq _ j (cov T.km h h1) h2;refine⟨k,j0,a,?_,b,c⟩;have h3:=(List.getElem?_eq_some_iff.mp a).1;have h4:(Rd t.mask h).length<=10*turns t.mask:=yd _ _;omega
def Tb.met(T:Tb t es){j0:Nat}{e:Int×Value}(a:(Rd t.mask h)[k]? = some j0)(b:j0∉t.place.toList)(he:es[i]? = some e)(hh:e.1=h) :
  ∃(k' j:Nat),k'<k/\(Rd t.mask h)[k']? = some j/\t.place[i]? = some j:=by
 have hi:i<es.size:=(Array.getElem?_eq_some_iff.mp he).1;have hp:=ci (show i<t.place.size by rw[T.sz];exact hi);have hz:(e,t.place[i]'(by rw[T.sz];exact hi))∈es.toList.zip t.place.toList:=by
  refine bu (i:=i) ?_;rw[List.getElem?_zip_eq_some];exact⟨by rw[gi];exact he,by rw[gi];exact hp⟩
 obtain⟨k',c1,c2⟩:=T.rd _ _ hz;rw[hh]at c1 c2;rcases ve k' k with z|z|z
 ·exact⟨k',_,z,c1,hp⟩
 ·subst z;rw[a]at c1
  cases c1
  exact absurd (bu (by rw[gi];exact hp)) b
 ·exact absurd (c2 k z j0 a) b
def mem_insertAt{xs:Array α}{p:Nat}{x y:α}:y∈(insertAt xs p x).toList↔y=x\/y∈xs.toList:=by
 rw[(LZ xs p x).mem_iff,Array.toList_push];simp[or_comm]
def cC{xs:Array α}{p:Nat}{x:α}:(insertAt xs p x).size=xs.size+1:=by
 have:=(LZ xs p x).length_eq
 rwa [ce,ce,Array.size_push]at this
def vT{β:Type}{xs:List α}{ys:List β}(h:xs.length=ys.length)(p:Nat)(x:α)(y:β)(z:α×β)(hz:z∈(xs.take p++x::xs.drop p).zip (ys.take p++y::ys.drop p)):z=(x,y)\/z∈xs.zip ys:=by
 rw[List.zip_append (by simp[h])]at hz;have e:xs.zip ys=(xs.take p).zip (ys.take p)++(xs.drop p).zip (ys.drop p):=by
  rw[<-List.zip_append (by simp[h]),Er,Er]
 rw[e];simp only[List.zip_cons_cons,List.mem_append,mo]at hz ⊢;rcases hz with h|h|h
 ·exact .inr (.inl h)
 ·exact .inl h
 ·exact .inr (.inr h)
def Tb.put(T:Tb t es){x:Value}{j0:Nat}(a:(Rd t.mask h)[k]? = some j0)(b:j0∉t.place.toList)(c:∀k',k'<k->∀x,(Rd t.mask h)[k']? = some x->x∈t.place.toList)(hf:t.place.size+1<=t.mask) :
  Tb (t.put j0).1 (insertAt es (t.put j0).2 (h,x))/\(t.put j0).1.mask=t.mask/\(t.put j0).1.led=t.led/\(t.put j0).1.place.size=t.place.size+1:=by
 have e:(t.put j0).1={ t with place:=insertAt t.place (below t.place j0) j0,dummies:=#[] }:=by
  show SetTable.mk _ _ _ _ _ _ _=_;rw[T.du,yV];rfl
 have sub:∀y∈t.place.toList,y∈(insertAt t.place (below t.place j0) j0).toList:=λy hy=>mem_insertAt.mpr (.inr hy)
 rw[e];refine⟨⟨T.km,rfl,by show(insertAt _ _ _).size=(insertAt _ _ _).size;rw[cC,cC,T.sz],zw T.up b,λj hj=>?_,T.pl,by show(insertAt _ _ _).size<=_;rw[cC];exact hf,λz j hz=>?_⟩,rfl,rfl,cC⟩
 ·rcases mem_insertAt.mp hj with rfl|hj
  ·exact CO (bu a)
  ·exact T.le j hj
 ·have hz':(z,j)∈(es.toList.take (below t.place j0)++(h,x)::es.toList.drop (below t.place j0)).zip (t.place.toList.take (below t.place j0)++j0::t.place.toList.drop (below t.place j0)):=by
   have:=hz
   rwa [show(SetTable.put t j0).2=below t.place j0 from rfl,LL,LL]at this
  rcases vT (by rw[ce,ce,T.sz]) _ _ _ _ hz' with z'|z'
  ·injection z' with z1 z2;subst z1 z2;exact⟨k,a,λk' hk y e=>sub y (c k' hk y e)⟩
  ·exact(T.rd z j z').mono sub
end
section
variable {m:Nat} {ow:Array (Option Nat)}
def rm:∀(fuel i p j:Nat),layClean.free m ow fuel i p=some j->∃k:Nat,(rdL m fuel (i,p))[k]? = some j/\ow.getD j (some 0)=none/\∀k',k'<k->∀x,(rdL m fuel (i,p))[k']? = some x->∃q,ow.getD x (some 0)=some q
 | 0,_,_,_,h=>by cases h
 | fuel+1,i,p,j,h=>by
  unfold layClean.free at h;have rl:(run m i).length=runEnd m i+1 - i:=List.length_range'
  cases q:(List.range (runEnd m i+1 - i)).find? (λk=>(ow.getD (i+k) (some 0)).isNone)with
  | some k =>
   rw[q]at h
   cases h
   have h1:=List.find?_some q;have h2:=List.mem_range.mp (List.mem_of_find?_eq_some q);have gk:∀k',k'<runEnd m i+1 - i->(rdL m (fuel+1) (i,p))[k']? = some (i+k'):=λk' hk=>by
    show(run m i++rdL m fuel (lp m (i,p)))[k']? = _;rw[de (by rw[rl];exact hk)];show(List.range' _ _)[k']? = _;rw[List.getElem?_range' hk,Nat.one_mul]
   refine⟨k,gk k h2,Option.isNone_iff_eq_none.mp h1,λk' hk x e=>?_⟩;rw[gk k' (by omega)]at e
   cases e
   obtain⟨a,as,bs,e1,e2⟩:=List.find?_eq_some_iff_append.mp q;have hm:k'∈as:=by
    have ek:as.length=k:=by
     have:=congrArg (λl=>l[as.length]?) e1;simp only[lf (au _),Nat.sub_self,List.getElem?_cons_zero]at this;have hl:as.length<runEnd m i+1 - i:=by
      have:=congrArg List.length e1;rw[ke,zzf,bi]at this;omega
     rw[K6 hl]at this;exact Option.some.inj this
    have:=congrArg (λl=>l[k']?) e1;rw[K6 (by omega),de (by omega)]at this;exact bu this.symm
   have:=e2 k' hm
   cases z:ow.getD (i+k') (some 0)with
   | none=>rw[z]at this;cases this
   | some q=>exact⟨q,rfl⟩
  | none =>
   rw[q]at h;obtain⟨k,a,b,c⟩:=rm fuel _ _ j h;refine⟨(run m i).length+k,?_,b,λk' hk x e=>?_⟩
   ·show(run m i++rdL m fuel (lp m (i,p)))[_]? = _;rw[lf (by omega),Nat.add_sub_cancel_left];exact a
   ·have e':(run m i++rdL m fuel (lp m (i,p)))[k']? = some x:=e;by_cases hk':k'<(run m i).length
    ·rw[de hk']at e';rw[rl]at hk';have e2:(List.range' i (runEnd m i+1 - i))[k']? = some x:=e';rw[List.getElem?_range' hk',Nat.one_mul]at e2
     cases e2
     have:=List.find?_eq_none.mp q k' (List.mem_range.mpr hk')
     cases z:ow.getD (i+k') (some 0)with
     | none=>rw[z]at this;exact absurd rfl this
     | some q=>exact⟨q,rfl⟩
    ·rw[lf (by omega)]at e';exact c (k' - (run m i).length) (by omega) x e'
def uX:∀(fuel i p x:Nat),x∈rdL m fuel (i,p)->ow.getD x (some 0)=none->∃j,layClean.free m ow fuel i p=some j
 | 0,_,_,_,h,_=>by cases h
 | fuel+1,i,p,x,h,hx=>by
  unfold layClean.free
  cases q:(List.range (runEnd m i+1 - i)).find? (λk=>(ow.getD (i+k) (some 0)).isNone)with
  | some k=>exact⟨_,rfl⟩
  | none =>
   rcases List.mem_append.mp h with h|h
   ·have h':x∈List.range' i (runEnd m i+1 - i):=h;obtain⟨h1,h2⟩:=List.mem_range'_1.mp h';have:=List.find?_eq_none.mp q (x - i) (List.mem_range.mpr (by omega));rw[show i+(x - i)=x by omega,hx]at this;exact absurd rfl this
   ·exact uX fuel _ _ x h hx
def fmc{α β:Type}{f g:α->Option β}:∀{l:List α},(∀x∈l,f x=g x)->l.filterMap f=l.filterMap g
 | [],_=>rfl
 | x::l,h=>by rw[je,je,h x am,fmc λy hy=>h y (zzg _ hy)]
def Lv(m:Nat)(ow:Array (Option Nat)):List (Nat×Nat):=(List.range (m+1)).filterMap λj=>(ow.getD j none).map (j,·)
def mem_Lv{q:Nat}:(j,q)∈Lv m ow↔j<=m/\ow.getD j none=some q:=by
 unfold Lv;rw[List.mem_filterMap];constructor
 ·rintro⟨a,ha,e⟩
  cases z:ow.getD a none with
  | none=>rw[z]at e;cases e
  | some b =>
   rw[z]at e
   cases e
   exact⟨by have:=List.mem_range.mp ha;omega,z⟩
 ·rintro⟨a,e⟩;exact⟨j,List.mem_range.mpr (by omega),by rw[e];rfl⟩
def Hk:(Lv m ow).map (·.1)=(List.range (m+1)).filter λj=>(ow.getD j none).isSome:=by
 unfold Lv;rw[List.map_filterMap]
 induction List.range (m+1)with
 | nil=>rfl
 | cons a l ih =>
  rw[je,List.filter_cons]
  cases z:ow.getD a none with
  | none=>simpa using ih
  | some q=>simpa using ih
def Jm:((Lv m ow).map (·.1)).Pairwise (· < ·):=by rw[Hk];exact List.Pairwise.filter _ List.pairwise_lt_range
def Hj(hs:ow.size=m+1)(hj:j<=m)(h:ow.getD j none=none):(Lv m (ow.setIfInBounds j (some k))).Perm ((j,k)::Lv m ow):=by
 obtain⟨as,bs,e⟩:=List.append_of_mem (List.mem_range.mpr (show j<m+1 by omega));have nd:(as++j::bs).Nodup:=e▸List.nodup_range;rw[List.nodup_append]at nd;obtain⟨n1,n2,n3⟩:=nd;have ne:∀x,x≠j->(ow.setIfInBounds j (some k)).getD x none=ow.getD x none:=λx hx=>by
  rw[io,io,Array.getElem?_setIfInBounds_ne (λz=>hx z.symm)]
 have eq:(ow.setIfInBounds j (some k)).getD j none=some k:=by
  rw[io,Array.getElem?_setIfInBounds_self_of_lt (by omega)];rfl
 unfold Lv;rw[e,List.filterMap_append,List.filterMap_append,je,je,eq,h];have ea:as.filterMap (λx=>((ow.setIfInBounds j (some k)).getD x none).map (x,·))=as.filterMap (λx=>(ow.getD x none).map (x,·)):=fmc λx hx=>by rw[ne x (λz=>n3 x hx j am z)]
 have eb:bs.filterMap (λx=>((ow.setIfInBounds j (some k)).getD x none).map (x,·))=bs.filterMap (λx=>(ow.getD x none).map (x,·)):=fmc λx hx=>by rw[ne x (λz=>(List.nodup_cons.mp n2).1 (z▸hx))]
 rw[ea,eb];exact List.perm_middle
structure Ly(m:Nat)(hs:List Int)(ow:Array (Option Nat)):Prop where
 sz:ow.size=m+1
 pm:((Lv m ow).map (·.2)).Perm (List.range hs.length)
 rd:∀j q,(j,q)∈Lv m ow->∃h,hs[q]? = some h/\On m h ((Lv m ow).map (·.1)) j
def Ly.start:Ly m [] (Array.replicate (m+1) none):=by
 have e:Lv m (Array.replicate (m+1) none)=[]:=by
  apply List.eq_nil_iff_forall_not_mem.mpr;rintro⟨j,q⟩ h;have:=(mem_Lv.mp h).2;rw[io,Array.getElem?_replicate]at this;split at this<;>cases this
 exact⟨Array.size_replicate,by rw[e];exact .refl _,λj q h=>by rw[e]at h;cases h⟩
def Ly.step{hs:List Int}(L:Ly m hs ow)(hm:Mk m)(hl:hs.length<=m)(h:Int):∃j,layClean.free m ow (turns m) (bits h % (m+1)) (bits h)=some j/\Ly m (hs++[h]) (ow.setIfInBounds j (some hs.length)):=by
 have gd:∀x,x<=m->ow.getD x (some 0)=ow.getD x none:=λx hx=>by
  rw[io,io,ci (show x<ow.size by rw[L.sz];omega)];rfl
 have room:∃j,j<=m/\ow.getD j none=none:=by
  by_cases z:∃j,j<=m/\ow.getD j none=none
  ·exact z
  ·exfalso;have sub:List.range (m+1) ⊆ (Lv m ow).map (·.1):=λj hj=>by
    have hj':j<=m:=by have:=List.mem_range.mp hj;omega
    cases q:ow.getD j none with
    | none=>exact absurd ⟨j,hj',q⟩ z
    | some q'=>exact List.mem_map.mpr ⟨(j,q'),mem_Lv.mpr ⟨hj',q⟩,rfl⟩
   have h1:=List.nodup_range.length_le_of_subset sub;have h2:=L.pm.length_eq;rw[ke,zzd]at h1;rw[ke,zzd]at h2;omega
 obtain⟨j1,hj1,ej1⟩:=room;obtain⟨j,ej⟩:=uX (m:=m) (ow:=ow) (turns m) (bits h % (m+1)) (bits h) j1 (cov hm h hj1) (by rw[gd j1 hj1];exact ej1);obtain⟨k,a,b,c⟩:=rm _ _ _ _ ej;have hj:j<=m:=CO (h:=h) (bu a);have pm:=Hj (k:=hs.length) L.sz hj (by rw[<-gd j hj];exact b);have sub:∀y∈(Lv m ow).map (·.1),y∈(Lv m (ow.setIfInBounds j (some hs.length))).map (·.1):=λy hy=>(pm.map (·.1)).mem_iff.mpr (zzg _ hy)
 refine⟨j,ej,by rw[Array.size_setIfInBounds];exact L.sz,?_,λj' q' hq=>?_⟩
 ·rw[zzf,gt,List.range_succ];exact(pm.map λp:Nat×Nat=>p.2).trans ((List.Perm.cons _ L.pm).trans (List.perm_append_singleton _ _).symm)
 ·rcases List.mem_cons.mp (pm.mem_iff.mp hq)with z|z
  ·cases z
   refine⟨h,by rw[lf (au _),Nat.sub_self];rfl,k,a,λk' hk x e=>sub x ?_⟩;obtain⟨q,eq⟩:=c k' hk x e;have hx:x<=m:=CO (h:=h) (bu e);exact List.mem_map.mpr ⟨(x,q),mem_Lv.mpr ⟨hx,by rw[<-gd x hx];exact eq⟩,rfl⟩
  ·obtain⟨h',e1,e2⟩:=L.rd j' q' z;exact⟨h',by rw[de (List.getElem?_eq_some_iff.mp e1).1];exact e1,e2.mono sub⟩
def BE(hm:Mk m):∀(rest hs:List Int) (ow:Array (Option Nat)),Ly m hs ow->hs.length+rest.length<=m+1 ->
  ∃ow',rest.foldl (init:=some (ow,hs.length)) (λ(acc:Option (Array (Option Nat)×Nat)) h=>do
   let (owner,k) <-acc
   let j <-layClean.free m owner (turns m) (bits h % (m+1)) (bits h)
   pure (owner.setIfInBounds j (some k),k+1))=some (ow',(hs++rest).length)/\Ly m (hs++rest) ow'
 | [],hs,ow,L,_=>⟨ow,by rw[ig];rfl,by rw[ig];exact L⟩
 | h::rest,hs,ow,L,hl=>by
  rw[bi]at hl;obtain⟨j,ej,L'⟩:=L.step hm (by omega) h;obtain⟨ow',e,L2⟩:=BE hm rest (hs++[h]) _ L' (by rw[zzf,gt];omega);refine⟨ow',?_,by rw[pr]at L2;exact L2⟩;rw[ze]
  have:(do
   let (owner,k) <-some (ow,hs.length)
   let j <-layClean.free m owner (turns m) (bits h % (m+1)) (bits h)
   pure (owner.setIfInBounds j (some k),k+1))=some (ow.setIfInBounds j (some hs.length),(hs++[h]).length):=by
   show(layClean.free m ow (turns m) (bits h % (m+1)) (bits h)).bind _=_;rw[ej,zzf];rfl
  rw[this,e,pr];rfl
def GA(hm:Mk m){hs:Array Int}(hl:hs.size<=m+1):∃ow,layClean m hs=some ow/\Ly m hs.toList ow:=by
 obtain⟨ow,e,L⟩:=BE hm hs.toList [] _ Ly.start (by rw[ur,ce];omega);refine⟨ow,?_,L⟩;unfold layClean;rw[<-Array.foldl_toList];rw[show(hs.toList.foldl _ (some (Array.replicate (m+1) none,0)))=some (ow,([]++hs.toList).length)from e];rfl
def Ar{α:Type}{es:Array α}{e:α}{j:Nat}:∀(L:List (Nat×Nat)),(∀p∈L,∃x,es[p.2]? = some x)->(e,j)∈((L.map (·.2)).filterMap (es[·]?)).zip (L.map (·.1))->∃q,(j,q)∈L/\es[q]? = some e
 | [],_,h=>by cases h
 | p::L,hp,h=>by
  obtain⟨x,ex⟩:=hp p am;rw[ba,ba,je,ex]at h;rcases List.mem_cons.mp h with z|z
  ·cases z
   exact⟨p.2,am,ex⟩
  ·obtain⟨q,a,b⟩:=Ar L (λp hp'=>hp p (zzg _ hp')) z;exact⟨q,zzg _ a,b⟩
def DE(hm:Mk m){es:Array (Int×Value)}{finger moves:Nat}{led:Bool}(hl:es.size<=m):∃t' order,laid m finger moves led true (es.map (·.1))=some (t',order)/\Tb t' (order.filterMap (es[·]?))/\(order.filterMap (es[·]?)).toList.Perm es.toList/\t'.mask=m/\t'.led=led:=by
 obtain⟨ow,e,L⟩:=GA hm (hs:=es.map (·.1)) (by rw[Array.size_map];omega);have hlen:(es.map (·.1)).toList.length=es.size:=by rw[ce,Array.size_map]
 have pm:=L.pm;rw[hlen]at pm;have el:(((Lv m ow).map (·.2)).toArray.filterMap (es[·]?)).toList=((Lv m ow).map (·.2)).filterMap (es[·]?):=by rw[Array.toList_filterMap]
 have pe:(((Lv m ow).map (·.2)).toArray.filterMap (es[·]?)).toList.Perm es.toList:=by
  rw[el,<-filterMap_getElem?_range es];exact pm.filterMap _
 have hn:(Lv m ow).length=es.size:=by have:=pm.length_eq;rwa [zzd,ke]at this
 have hsz:(((Lv m ow).map (·.2)).toArray.filterMap (es[·]?)).size=es.size:=by have:=pe.length_eq;rwa [ce,ce]at this
 refine⟨{ mask:=m,place:=((Lv m ow).map (·.1)).toArray,dummies:=#[],finger,led,moves,plain:=true },((Lv m ow).map (·.2)).toArray,?_,⟨hm,rfl,?_,Jm,λj hj=>?_,rfl,?_,λz j hz=>?_⟩,pe,rfl,rfl⟩
 ·unfold laid;rw[e];rfl
 ·show((Lv m ow).map (·.1)).toArray.size=_;rw[hsz,be,zzd,hn]
 ·obtain⟨⟨j',q⟩,h1,h2⟩:=List.mem_map.mp (show j∈(Lv m ow).map (·.1)from hj)
  cases h2
  exact(mem_Lv.mp h1).1
 ·show((Lv m ow).map (·.1)).toArray.size<=m;rw[be,zzd,hn];exact hl
 ·rw[el]at hz
  obtain⟨q,a,b⟩:=Ar (Lv m ow) (λp hp=>by
   have:p.2∈List.range es.size:=pm.mem_iff.mp (List.mem_map.mpr ⟨p,hp,rfl⟩)
   exact⟨_,ci (List.mem_range.mp this)⟩) hz
  obtain⟨h,e1,e2⟩:=L.rd j q a;rw[gi,Array.getElem?_map,b]at e1
  cases e1
  exact e2
end
end WS
namespace WS
open PySem PySem.SetTable PyProof.Rows
variable {x:List Int}{a l:Addr}{h:Heap}{prog:Program}{w:World}{A:Around}{E:zzj}{Q:Bool->Shared->Prop}{xs:List (List Int×Addr)}{o:Obj}
section
variable {s:Shared}
abbrev TI(prog:Program)(w:World)(h:Heap)(x:List Int)(a:Addr):Prop:=IsTupleKey (intKind prog w) h x a
abbrev hs(prog:Program)(w:World)(x:List Int):Int:=tupleKeyHash (intKind prog w) x
def vR{vs:List Value}(h:ItemsAre (intKind prog w) x vs):∀v∈vs,∃i t,v=.int i t:=by
 induction h with
 | nil=>intro v hv;cases hv
 | cons h1 _ ih =>
  intro v hv;rcases List.mem_cons.mp hv with rfl|hv
  ·obtain⟨t,rfl⟩:=Value.isInt_shape h1;exact⟨_,t,rfl⟩
  ·exact ih v hv
def hbv(hk:TI prog w s.heap x a)(h:Q true s):wpAny (model prog w) A (hashByValue 8 (.ref a)) Q E s:=by
 have hT:=hk.typeIs;obtain⟨o,items,n,ho,_,hd,hi⟩:=hk;have hall:=vR hi;unfold hashByValue;refine zza (wpAny_specialOf hT F.slot_tuple_hash.lookup ?_);show wpAny _ _ (seqItems? (.ref a) >>= _) _ _ s;refine zza (wpAny_seqItems ho hd ?_);refine zza ?_;show wpAny _ _ (forIn items _ _) _ _ s;rw[<-Array.forIn_toList];refine wpAny_forIn_list _ (λrest r s'=>r.1=none/\s'=s/\∀v∈rest,∃i t,v=Value.int i t) _ ?_ ?_ _ _ ⟨rfl,rfl,hall⟩
 ·rintro v rest r s' ⟨hr,rfl,hall⟩;obtain⟨i,t,rfl⟩:=hall v am;refine zza (m:=hashByValue 7 (.int i t)) (wpAny_of_eq (a:=true) (by rw[hashByValue]) ?_);simp only[wo,ls,yi];exact zzb ⟨rfl,rfl,λu hu'=>hall u (zzg _ hu')⟩
 ·rintro⟨r1,r2⟩ s' ⟨hr,rfl,_⟩;simp only at hr;subst hr;exact zzb h
def Iw(hk:TI prog w s.heap x a)(h:Q false s):wpAny (model prog w) A (ofAClassStatement 8 (.ref a)) Q E s:=by
 have hT:=hk.typeIs;obtain⟨o,items,n,ho,_,hd,hi⟩:=hk;have hall:=vR hi;unfold ofAClassStatement;refine zza (La hT ?_);dsimp only;rw[ak (show(("tuple" : String) == "tuple")=true by decide)];refine zza (zzb ?_);simp only[wo,ls,yi];refine zza (wpAny_seqItems ho hd ?_);dsimp only;refine zza ?_;show wpAny _ _ (forIn items _ _) _ _ s;rw[<-Array.forIn_toList];refine wpAny_forIn_list _ (λrest r s'=>r.1=none/\s'=s/\∀v∈rest,∃i t,v=Value.int i t) _ ?_ ?_ _ _ ⟨rfl,rfl,hall⟩
 ·rintro v rest r s' ⟨hr,rfl,hall⟩;obtain⟨i,t,rfl⟩:=hall v am;refine zza (m:=ofAClassStatement 7 (.int i t)) (wpAny_of_eq (a:=false) (by rw[ofAClassStatement];intro _ z;cases z) ?_);simp only[wo,ls,yi];exact zzb ⟨rfl,rfl,λu hu'=>hall u (zzg _ hu')⟩
 ·rintro⟨r1,r2⟩ s' ⟨hr,rfl,_⟩;simp only at hr;subst hr;exact zzb h
def Fo{l:List Value}(hk:TI prog w s.heap x a)(hl:∀v∈l,∃y b,v=.ref b/\TI prog w s.heap y b)(h:Q false s):wpAny (model prog w) A (searchCouldBeSeen (.ref a) l) Q E s:=by
 unfold searchCouldBeSeen;refine zza ?_;refine wpAny_forIn_list _ (λrest r s'=>r.1=none/\s'=s/\∀v∈rest,∃y b,v=Value.ref b/\TI prog w s.heap y b) _ ?_ ?_ _ _ ⟨rfl,rfl,hl⟩
 ·rintro v rest r s' ⟨hr,rfl,hall⟩;obtain⟨y,b,rfl,hb⟩:=hall v am;have fin:∀u∈rest,∃y b,u=Value.ref b/\TI prog w s'.heap y b:=λu hu'=>hall u (zzg _ hu')
  dsimp only;split
  ·exact zzb ⟨rfl,rfl,fin⟩
  ·refine zza (wpAny_eqIsQuiet_tuple hk ?_);simp only[wo,ls,yi];refine zza (wpAny_eqIsQuiet_tuple hb ?_);simp only[wo,ls,yi];refine zza (Iw hk ?_);simp only[wo,ls,yi];refine zza (Iw hb ?_);simp only[wo,ls,yi];exact zzb ⟨rfl,rfl,fin⟩
 ·rintro⟨r1,r2⟩ s' ⟨hr,rfl,_⟩;simp only at hr;subst hr;exact zzb h
end
section
variable {s:Shared}
def f0(es:Array (Int×Value))(i:Nat):Int:=(es[i]?.map (·.1)).getD 0
def Els(prog:Program)(w:World)(h:Heap)(l:List (Int×Value)):Prop:=∀e∈l,∃y b,e=(hs prog w y,Value.ref b)/\TI prog w h y b
def zG{es:Array (Int×Value)}{ep:Nat}{t:SetTable}{Q:SetFound->Shared->Prop}(hu:A.units<cLine)(ho:s.heap.get? l=some o)(hd:o.data=.set es ep t)(T:Tb t es)(hx:TI prog w s.heap x a)(hE:Els prog w s.heap es.toList){j0:Nat}
  (ht:(∃b,(hs prog w x,Value.ref b)∈es.toList/\TI prog w s.heap x b)->Q (.there none) s) :
  ∀(q fuel:Nat) (stand:Option Probe) (L:List Nat),q<fuel->At t.mask (stand.getD (t.probeStart (hs prog w x))) L->L[q]? = some j0->q<10*turns t.mask->j0∉t.place.toList->(∀k,k<q->∀y,L[k]? = some y->y∈t.place.toList) ->
   ((∀k,k<q->∀(i j:Nat) (b:Addr),L[k]? = some j->t.place[i]? = some j->es[i]? = some (hs prog w x,Value.ref b)->¬ TI prog w s.heap x b)->Q (.free j0 false) s) ->
   wpAny (model prog w) A (setSearchFrom l (.ref a) (hs prog w x) true fuel stand) Q E s:=by
 intro q
 induction q using Nat.strongRecOn with
 | ind q ih =>
  intro fuel stand L hf ha e0 hq hj hu' hfree
  cases fuel with
  | zero=>omega
  | succ fuel =>
   unfold setSearchFrom;refine zza (sE ho hd T.fits ?_);dsimp only;rw[T.odd,ac (by decide)];have g:=E7 (f:=f0 es) T q (10*turns t.mask) _ L j0 ha e0 hj hu' hq (h:=hs prog w x);split
   ·rename_i met hm;have hm':probe.go t (f0 es) (hs prog w x) (10*turns t.mask) (stand.getD (t.probeStart (hs prog w x)))=some met:=hm;rcases g with ⟨r,c⟩|⟨k,i,j,nx,r1,r2,r3,r4,r5,r6,r7⟩
    ·rw[show met=Met.empty j0 none from Option.some.inj (hm'.symm.trans r)];dsimp only;refine zzb (hfree λk hk i j b e1 e2 e3 _=>c k hk i j e1 e2 ?_);unfold f0;rw[e3];rfl
    ·rw[show met=Met.candidate j i nx from Option.some.inj (hm'.symm.trans r5)];dsimp only;have hi:i<es.size:=by rw[<-T.sz];exact(Array.getElem?_eq_some_iff.mp r3).1
     have ei:=ci hi;obtain⟨y,b,eb,hb⟩:=hE es[i] (Array.getElem_mem_toList hi);rw[eb]at ei;have hy:hs prog w y=hs prog w x:=by have:=r4;unfold f0 at this;rw[ei]at this;exact this
     have rest:wpAny (model prog w) A (do
       let some (_,y):=es[i]? | unsupported "internal:set-entry"
       let equal <-holding [y] (eqBool y (.ref a))
       let (es',_,t') <-setState l
       if true&&equal then return .there none
       let some same:=t'.sameMemory t.moves t.mask|unsupported "set.changed-during-lookup:is-the-new-block-at-the-old-address"
       let still <-match (if same then t'.slot j else .empty)with
        | .live i'=>match es'[i']? with
         | some (_,y')=>do pure (if <-isSame y' y then some i' else none)
         | none=>pure none
        | _=>pure none
       match still with
       | none=>rule "set.search.anew";setSearchFrom l (.ref a) (hs prog w x) true fuel none
       | some i'=>if equal then return .there (some i')else setSearchFrom l (.ref a) (hs prog w x) true fuel (some nx)) Q E s:=by
      rw[ei];dsimp only;refine zza (om (wpAny_eqBool_tuple hu hb hx ?_));refine zza (sE ho hd T.fits ?_);dsimp only;by_cases exy:y=x
      ·subst exy;rw[ak (by simp)];exact zzb (ht ⟨b,eb▸Array.getElem_mem_toList hi,hb⟩)
      ·rw[ac (by simp[exy])];unfold SetTable.sameMemory;rw[ak (by simp)];dsimp only;rw[ak rfl,T.slot_in r3];dsimp only;rw[ei];dsimp only;refine zza (wpAny_isSame_ref_self (zza (zzb ?_)));rw[ak rfl];dsimp only;rw[ac (by simp[exy])];refine ih (q - (k+1)) (by omega) fuel (some nx) (L.drop (k+1)) (by omega) r6 (by rw[LA,show k+1+(q - (k+1))=q by omega];exact e0) (by omega) hj (λk' hk y e=>hu' (k+1+k') (by omega) y (by rw[LA]at e;exact e)) λc=>hfree λk' hk i' j' b' e1 e2 e3 ti=>?_
       rcases ve k' k with z|z|z
       ·refine r7 k' z i' j' e1 e2 ?_;unfold f0;rw[e3];rfl
       ·subst z;rw[r2]at e1
        cases e1
        have:i'=i:=by
         have h1:=T.slot_in e2;rw[T.slot_in r3]at h1;injection h1 with h1;exact h1.symm
        subst this;have e4:Value.ref b=Value.ref b':=congrArg Prod.snd (Option.some.inj (ei.symm.trans e3));injection e4 with e4;subst e4;exact exy (hb.inj ti)
       ·exact c (k' - (k+1)) (by omega) i' j' b' (by rw[LA,show k+1+(k' - (k+1))=k' by omega];exact e1) e2 e3 ti
     split
     ·refine zza (Fo hx (λv hv=>?_) ?_)
      ·obtain⟨e,he,rfl⟩:=List.mem_map.mp hv;have:e∈es.toList:=by
        have:=Array.mem_toList_iff.mp he;exact Array.mem_toList_iff.mpr (Array.mem_filter.mp this).1
       obtain⟨y,b,rfl,hb⟩:=hE e this;exact⟨y,b,rfl,hb⟩
      ·rw[ac (by decide)];exact rest
     ·exact rest
   ·rename_i hm;exfalso;rcases g with ⟨r,c⟩|⟨k,i,j,nx,r1,r2,r3,r4,r5,r6,r7⟩
    ·exact hm _ r
    ·exact hm _ r5
end
section
variable {s:Shared}
abbrev ent(prog:Program)(w:World)(p:List Int×Addr):Int×Value:=(hs prog w p.1,Value.ref p.2)
def Sx(prog:Program)(w:World)(h:Heap)(l:Addr)(xs:List (List Int×Addr)):Prop :=
 ∃o es ep t,h.get? l=some o/\o.ExactSet/\o.data=.set es ep t/\Tb t es/\t.place.size*5<t.mask*3/\es.toList.Perm (xs.map (ent prog w))/\t.led = !w.params.followText "set-order"
def Tis(prog:Program)(w:World)(h:Heap)(xs:List (List Int×Addr)):Prop:=∀p∈xs,TI prog w h p.1 p.2
def fS(xs:List (List Int×Addr))(p:List Int×Addr):List (List Int×Addr):=if p.1∈xs.map (·.1)then xs else xs++[p]
def rj{es es':Array (Int×Value)}{ep:Nat}{t t':SetTable}(ho:h.get? l=some o)(hd:o.data=.set es ep t):(h.update l (Obj.putSet es' t')).get? l=some { o with data:=.set es' (ep+1) t' }:=by
 have:=ng (Obj.putSet es' t') ho (by rw[putSet_of es' t' hd];rfl);rw[putSet_of es' t' hd]at this;exact this
def grow{m n:Nat}(hm:Mk m)(h1:n*5<m*3)(h2:(n+1)*5>=m*3)(h3:n<76):∃M,sizeAbove (grown (n+1))=M+1/\Mk M/\(n+1)*5<M*3/\M+1<=128:=by
 rcases hm with rfl|rfl|rfl
 ·obtain rfl:n=4:=by omega
  exact⟨31,by decide,.inr (.inl rfl),by omega,by omega⟩
 ·obtain rfl:n=18:=by omega
  exact⟨127,by decide,.inr (.inr rfl),by omega,by omega⟩
 ·omega
theorem He(hu:A.units<cLine)(hS:Sx prog w s.heap l xs)(hX:Tis prog w s.heap xs)(hx:TI prog w s.heap x a)(hn:xs.length<76)
  (h:∀r h',Heap.SameBut l s.heap h'->Sx prog w h' l (fS xs (x,a))->Q r { s with heap:=h' }):wpAny (model prog w) A (setAddHashed l (.ref a) (hs prog w x)) Q E s:=by
 obtain⟨o,es,ep,t,ho,hex,hd,T,hfu,hp,hled⟩:=hS;have hlen:es.size=xs.length:=by have:=hp.length_eq;rwa [ce,zzd]at this
 have hE:Els prog w s.heap es.toList:=λe he=>by
  obtain⟨p,hp1,rfl⟩:=List.mem_map.mp (hp.mem_iff.mp he);exact⟨p.1,p.2,rfl,hX p hp1⟩
 unfold setAddHashed;refine om ?_;show wpAny _ _ (setAddHashedIn l (.ref a) (hs prog w x) (99999+1)) _ _ _;unfold setAddHashedIn;refine zza (sE ho hd T.fits ?_);dsimp only;rw[show byScan (.ref a) es=false from rfl,ac (by decide)];obtain⟨k,j0,r1,r2,r3,r4⟩:=T.free (hs prog w x);refine zza ?_;unfold setSearch
 refine zG hu ho hd T hx hE (j0:=j0) ?A k 100000 none (Rd t.mask (hs prog w x)) (by
  have:=T.km;unfold turns at r2
  rcases this with z|z|z<;>rw[z]at r2<;>omega) (Cr t _) r1 r2 r3 r4 ?B
 case A =>
  rintro⟨b,hb,tb⟩;dsimp only;have hin:x∈xs.map (·.1):=by
   obtain⟨p,hp1,hp2⟩:=List.mem_map.mp (hp.mem_iff.mp hb);have e4:Value.ref p.2=Value.ref b:=congrArg Prod.snd hp2;injection e4 with e4;have:=hX p hp1;rw[e4]at this;exact List.mem_map.mpr ⟨p,hp1,this.inj tb⟩
  have e:s={ s with heap:=s.heap }:=by cases s;rfl
  rw[e];exact zzb (h _ _ (Heap.SameBut.refl l s.heap) ⟨o,es,ep,t,ho,hex,hd,T,hfu,by unfold fS;rw[ak hin];exact hp,hled⟩)
 case B =>
  intro hfree;dsimp only;have hout:x∉xs.map (·.1):=λhin=>by
   obtain⟨p,hp1,hp2⟩:=List.mem_map.mp hin;have hm:ent prog w p∈es.toList:=hp.mem_iff.mpr (List.mem_map.mpr ⟨p,hp1,rfl⟩);obtain⟨i,hi,ei⟩:=List.getElem_of_mem hm;have ei':es[i]? = some (hs prog w x,Value.ref p.2):=by
    rw[<-gi,List.getElem?_eq_some_iff];exact⟨hi,by rw[ei,<-hp2]⟩
   obtain⟨k',j,m1,m2,m3⟩:=T.met r1 r3 ei' rfl;have:=hX p hp1;rw[hp2]at this;exact hfree k' m1 i j p.2 m2 m3 ei' this
  have hns:t.place.size=xs.length:=by rw[T.sz,hlen]
  have hmm:t.place.size+1<=t.mask:=by
   have:=T.km;rcases this with z|z|z<;>rw[z]at hfu ⊢ <;> omega
  obtain⟨T1,q1,q2,q3⟩:=T.put (x:=.ref a) r1 r3 r4 hmm;have hp1:(insertAt es (t.put j0).2 (hs prog w x,Value.ref a)).toList.Perm ((xs++[(x,a)]).map (ent prog w)):=by
   refine(LZ es _ _).trans ?_;rw[Array.toList_push,jo];exact hp.append (.refl _)
  refine zza (sE ho hd T.fits ?_);dsimp only;rw[T1.pl,ak rfl];refine zza (hbv hx ?_);rw[ak rfl];have hsl:(insertAt es (t.put j0).2 (hs prog w x,Value.ref a)).size<=sizeLine:=by
   rw[cC,hlen];exact cr (show xs.length+1<=1000 by omega) (by decide)
  refine zza (wpAny_storeSet_of ho hd ?_ hsl);have ho1:=rj (es':=insertAt es (t.put j0).2 (hs prog w x,Value.ref a)) (t':=(t.put j0).1) ho hd;have sb:=Heap.SameBut.update s.heap l (Obj.putSet (insertAt es (t.put j0).2 (hs prog w x,Value.ref a)) (t.put j0).1);have hfl:(t.put j0).1.tooFull=decide ((xs.length+1)*5>=t.mask*3):=by
   unfold SetTable.tooFull;rw[T1.fill,q3,q1,hns]
  have hax:fS xs (x,a)=xs++[(x,a)]:=by unfold fS;rw[ac hout]
  by_cases hfull:(xs.length+1)*5>=t.mask*3
  ·rw[hfl,ay hfull,ak (by decide)];obtain⟨M,g1,g2,g3,g4⟩:=grow T.km (by rw[<-hns];exact hfu) hfull hn;have hsz1:(insertAt es (t.put j0).2 (hs prog w x,Value.ref a)).size=xs.length+1:=by rw[cC,hlen]
   obtain⟨t',order,l1,l2,l3,l4,l5⟩:=DE g2 (es:=insertAt es (t.put j0).2 (hs prog w x,Value.ref a)) (finger:=(t.put j0).1.finger) (moves:=(t.put j0).1.movedTo M) (led:=(t.put j0).1.led) (by rw[hsz1];omega);have hsz2:(order.filterMap ((insertAt es (t.put j0).2 (hs prog w x,Value.ref a))[·]?)).size=(insertAt es (t.put j0).2 (hs prog w x,Value.ref a)).size:=by have:=l3.length_eq;rwa [ce,ce]at this
   refine zza ?_;unfold setRelay;refine zza (sE ho1 rfl T1.fits ?_);dsimp only;rw[hlen,g1,ac (by have:(128:Nat)<=sizeLine:=(by decide);omega)];refine zza ?_;unfold SetTable.relaid;rw[g1,Nat.add_sub_cancel,T1.pl,l1];refine wpAny_of_eq (a:=(order.filterMap ((insertAt es (t.put j0).2 (hs prog w x,Value.ref a))[·]?),t')) ?_ ?_
   ·show(do
     if(order.filterMap ((insertAt es (t.put j0).2 (hs prog w x,Value.ref a))[·]?)).size != (insertAt es (t.put j0).2 (hs prog w x,Value.ref a)).size then unsupported "internal:set-table-lost-an-element"
     pure (order.filterMap ((insertAt es (t.put j0).2 (hs prog w x,Value.ref a))[·]?),t'))=_
    rw[ac (by rw[hsz2];simp)]
   ·dsimp only;refine wpAny_storeSet_of ho1 rfl ?_ (by rw[hsz2];exact hsl);have ho2:=rj (es':=order.filterMap ((insertAt es (t.put j0).2 (hs prog w x,Value.ref a))[·]?)) (t':=t') ho1 rfl;refine zzb (h _ _ (sb.trans (Heap.SameBut.update _ l _)) ⟨_,_,_,_,ho2,hex,rfl,l2,?_,?_,?_⟩)
    ·rw[l2.sz,hsz2,hsz1,l4];exact g3
    ·rw[hax];exact l3.trans hp1
    ·rw[l5,q2];exact hled
  ·rw[hfl,aw hfull,ac (by decide)];refine zzb (h _ _ sb ⟨_,_,_,_,ho1,hex,rfl,T1,?_,?_,?_⟩)
   ·rw[q3,q1,hns];omega
   ·rw[hax];exact hp1
   ·rw[q2];exact hled
end
section
variable {s:Shared}
def AF{h':Heap}(t:TI prog w h x a)(k:∀o,h.get? a=some o->h'.get? a=some o):TI prog w h' x a:=let ⟨o,i,n,e,r⟩:=t;⟨o,i,n,k o e,r⟩
def Es{b:Addr}(t:TI prog w h x a)(e:h.get? b=some o)(d:∀i n,o.data≠.seq i n):a≠b:=by
 rintro rfl;obtain⟨o',i,n,e',_,ed,_⟩:=t
 cases e.symm.trans e'
 exact d i n ed
def Sx.ne(S:Sx prog w h l xs)(t:TI prog w h x a):a≠l:=by
 obtain⟨o,es,ep,tb,e,_,d,_⟩:=S;exact Es t e λi n z=>by rw[d]at z;cases z
def Sx.kp{h':Heap}(S:Sx prog w h l xs)(k:∀o,h.get? l=some o->h'.get? l=some o):Sx prog w h' l xs:=let ⟨o,es,ep,tb,e,r⟩:=S;⟨o,es,ep,tb,k o e,r⟩
def IM{it p:Addr}{i:Nat}(t:TI prog w h x a)(hit:h.IsListIter it p i):a≠it:=by
 obtain⟨o,e,_,d⟩:=hit;exact Es t e λi n z=>by rw[d]at z;cases z
def vE(xs:List (List Int×Addr))(p:List Int×Addr):(fS xs p).length<=xs.length+1:=by
 unfold fS;split
 ·omega
 ·rw[zzf];exact au _
def vD{p q:List Int×Addr}(h:q∈fS xs p):q=p\/q∈xs:=by
 unfold fS at h;split at h
 ·exact .inr h
 ·rcases List.mem_append.mp h with h|h
  ·exact .inr h
  ·exact .inl (List.mem_singleton.mp h)
def pK:entryFor table "set.update.loop" = some Builtin.«set.update.loop»:=entryFor_of_tree (by kernel_rfl)
def jR:plainId "set.update.loop" = true:=by decide +kernel
def Dy{R:Result->Shared->Prop}(hh:A.handled=none)(hu:A.units+1<cLine){it p:Addr}{items:Array Value}(n1:l≠it)(n2:l≠p)(n3:it≠p):∀(rest:List (List Int×Addr)) (i:Nat) (s:Shared) (xs:List (List Int×Addr)),
  s.heap.IsListIter it p i->s.heap.IsList p items->items.toList.drop i=rest.map (λq=>Value.ref q.2)->Tis prog w s.heap rest->Sx prog w s.heap l xs->Tis prog w s.heap xs->xs.length+rest.length<=76 ->
  (∀h' tk,(∀b o,b≠l->b≠it->s.heap.get? b=some o->h'.get? b=some o)->Sx prog w h' l (rest.foldl fS xs)->R (.ok (.ret .none)) { s with heap:=h',toks:=tk }) ->
  codeAny (model prog w) A (.builtin "set.update.loop" ⟨[.ref l,.ref it],[]⟩) R s:=by
 intro rest
 induction rest with
 | nil =>
  intro i s xs hit hl hd _ hS _ _ hR;refine um pK ?_;rw[K2 jR _];show wpAny _ A.in1 (pyNext (.ref it) >>= _) _ _ s;have hx:items[i]? = none:=by
   rw[Array.getElem?_eq_none_iff,<-ce];have:=congrArg List.length hd;rw[fi,K3,ur]at this;omega
  refine zza (wpAny_pyNext_list_end (show A.in1.handled=none from hh) hit hl hx λh' e=>?_);exact zzb (hR h' s.toks (λb o _ hb z=>e b o hb z) (hS.kp λo z=>e l o n1 z))
 | cons q rest ih =>
  intro i s xs hit hl hd hT hS hX hn hR;rw[bi]at hn;refine um pK ?_;rw[K2 jR _];show wpAny _ A.in1 (pyNext (.ref it) >>= _) _ _ s;have hx:items[i]? = some (.ref q.2):=by
   have:=congrArg (λl=>l[0]?) hd;simp only[LA,Nat.add_zero,ba,List.getElem?_cons_zero,gi]at this;exact this
  refine zza (wpAny_pyNext_list_item hit hl hx λh1 it1 sb1=>?_);dsimp only;have hq:=hT q am;have tk1:∀{x a},TI prog w s.heap x a->TI prog w h1 x a:=λ{x a} t=>AF t λo e=>(sb1.2 a (IM t hit)).trans e
  have S1:Sx prog w h1 l xs:=hS.kp λo e=>(sb1.2 l n1).trans e
  have X1:Tis prog w h1 xs:=λy hy=>tk1 (hX y hy)
  have T1:Tis prog w h1 (q::rest):=λy hy=>tk1 (hT y hy)
  have l1:h1.IsList p items:=by obtain⟨o,e,r⟩:=hl;exact⟨o,(sb1.2 p (λz=>n3 z.symm)).trans e,r⟩
  refine zza (om ?_);unfold setAdd;refine om (zza (wpAny_pyHash_tuple (s:={ s with heap:=h1 }) hu (tk1 hq) ?_));refine He (s:={ s with heap:=h1,toks:=_ }) hu S1 X1 (tk1 hq) (by omega) λr h2 sb2 S2=>?_
  refine zzb ⟨plainId_quiet jR _,?_⟩;have tk2:∀{x a},TI prog w h1 x a->TI prog w h2 x a:=λ{x a} t=>AF t λo e=>(sb2.2 a (S1.ne t)).trans e
  refine ih (i+1) _ (fS xs q) (it1.at λo e=>(sb2.2 it (λz=>n1 z.symm)).trans e) (by obtain⟨o,e,r⟩:=l1;exact⟨o,(sb2.2 p (λz=>n2 z.symm)).trans e,r⟩) (by rw[<-List.drop_drop,hd];rfl) (λy hy=>tk2 (T1 y (zzg _ hy))) S2 (λy hy=>?_) (by have:=vE xs q;omega) λh' tk kp S'=>?_
  ·rcases vD hy with rfl|hy
   ·exact tk2 (tk1 hq)
   ·exact tk2 (X1 y hy)
  ·exact hR h' tk (λb o b1 b2 e=>kp b o b1 b2 ((sb2.2 b b1).trans ((sb1.2 b b2).trans e))) S'
end
end WS
set_option maxHeartbeats 3200000
namespace WS
open PySem PySem.SetTable
abbrev sX(w:World):Obj:={ cls:=.type "set",dict:=none,data:=.set #[] 0 (.fresh 0 0 (!w.params.followText "set-order")) }
section
variable {prog:Program}{w:World}{A:Around}{E:zzj}{s:Shared}
theorem Ai{v:Value}{Q₁:zzj}(h:Q₁ (.ref s.heap.objs.size) { s with heap:=s.heap.push (sX w) }) :
  codeAny (model prog w) A (.call (.builtin "set.__new__") ⟨[.type "set",v],[]⟩) (wants Q₁ E) s:=by
 refine codeAny_of_tree ?_;show wpAny _ A.in1 (do checkBuiltinCall "set.__new__" ⟨[.type "set",v],[]⟩;again (.builtin "set.__new__" ⟨[.type "set",v],[]⟩)) _ _ s;refine zza (wpAny_of_eq (F.newCall_set_1 v) (zzb ⟨plainId_quiet F.plain_set_new _,um F.entry_set_new ?_⟩));rw[K2 F.plain_set_new _];unfold Builtin.«set.__new__» Builtin.Frozenset.newClass;have hsub:=sub_set_self;obtain⟨hp,g,d,tk,os⟩:=s;dsimp only
 wp_walk
 refine wpAny_askSetting (zzb ?_);dsimp only;simp only[newObj];refine zza (wpAny_alloc (zzb ?_));exact zzb h
def tb0(led:Bool):Tb (.fresh 0 0 led) #[] where
 km:=.inl rfl
 du:=rfl
 sz:=rfl
 up:=.nil
 le:=λj h=>absurd h (by simp[SetTable.fresh])
 pl:=rfl
 fu:=di _
 rd:=λe j h=>absurd h (by simp)
def sx0{h:Heap}{l:Addr}(e:h.get? l=some (sX w)):Sx prog w h l []:=⟨_,#[],0,_,e,⟨rfl,rfl,rfl⟩,rfl,tb0 _,by show 0*5<7*3;decide,.nil,rfl⟩
theorem Ak{p:Addr}{items:Array Value}{xs:List (List Int×Addr)}{Q:zzj}(hh:A.handled=none)(hu:A.units+10<cLine)(hl:s.heap.IsList p items)(hi:items.toList=xs.map (λq=>Value.ref q.2))(hx:Tis prog w s.heap xs)(hn:xs.length<=76)
  (h:∀h' tk,(∀b o,s.heap.get? b=some o->h'.get? b=some o)->Sx prog w h' s.heap.objs.size (xs.foldl fS [])->Q (.ref s.heap.objs.size) { s with heap:=h',toks:=tk }) :
  wpAny (model prog w) A (call (.type "set") [.ref p]) Q E s:=by
 obtain⟨c,tl,hmro⟩:=F.called_set.mro;have hmade:=F.called_set.made;have hsub:=F.called_set.sub;refine wpAny_call (codeAny_of_tree ?_);show wpAny _ _ (callAny (.type "set") _) _ _ _;refine zzb ⟨K8 _ (by decide +kernel),um F.entry_type_call ?_⟩;rw[Around.under_plain (weight_type_call_type "set" [.ref p] []) rfl];have h1:=F.called_set.notType;have h2:=F.called_set.canCreate;have hct:=F.typeCall_set_1 (.ref p)
 repeat (any_goals (first|assumption|wp_step))
 refine Lf (Ai (v:=.ref p) (E:=E) (Q₁:=λobj s₁=>obj=.ref s.heap.objs.size/\s₁={ s with heap:=s.heap.push (sX w) }) ⟨rfl,rfl⟩) λr s₁ hr=>?_
 cases r with
 | error e=>exact hr
 | ok fl =>
  cases fl with
  | ret obj =>
   obtain⟨rfl,rfl⟩:=hr;have hS:(s.heap.push (sX w)).get? s.heap.objs.size=some (sX w):=zze _ rfl;have hT:Shared.TypeIs { s with heap:=s.heap.push (sX w) } (.ref s.heap.objs.size) "set":=⟨_,hS,rfl⟩;have hli:=F.called_set.init.lookup;have hbi:=F.called_set.init.bind (.ref s.heap.objs.size)
   repeat (any_goals (first|assumption|wp_step))
   refine Lf (Ix (R:=wants (λr s₂=>r=.none/\∃h' tk,s₂={ s with heap:=h',toks:=tk } /\
     Sx prog w h' s.heap.objs.size (xs.foldl fS [])/\(∀b o,s.heap.get? b=some o->h'.get? b=some o)) E) F.called_set.init.plain F.entry_set_init (check_set_init_1 hT ?_)) λr₂ s₂ hr₂=>?_
   ·obtain⟨ol,hol,hcl,nl,hdl⟩:=hl;obtain⟨ocls,odict,odata,oslots⟩:=ol;simp only at hcl hdl;subst hcl;subst hdl;have hol':(s.heap.push (sX w)).get? p=some { cls:=.type "list",dict:=odict,data:=.seq items nl,slots:=oslots }:=zzc _ hol;have hsls:=F.sub_list_set;have hslf:=F.sub_list_frozenset;have hne:(Value.type "list" == Value.type "dict")=false:=by decide
    have hl1:(s.heap.push (sX w)).IsList p items:=⟨_,hol',rfl,nl,rfl⟩;unfold Builtin.«set.__init__» noKeywords Builtin.Frozenset.updateFrom;generalize hPI:pyIter=PI
    wp_walk
    subst hPI;refine wpAny_pyIter_list hl1 ?_;refine zza (wpAny_runValue ?_);have hlS:p<s.heap.objs.size:=ax hol;have hh3:A.in1.in1.handled=none:=by simp[hh]
    refine Dy hh3 (by simp;omega) (it:=(s.heap.push (sX w)).objs.size) (p:=p) (items:=items) (by rw[xt];exact bj (wT _)) (u8 hlS) (by rw[xt];exact u8 (pi hlS)) xs 0 _ [] ⟨_,zze _ rfl,rfl,rfl⟩ (hl1.push _) (by rw[List.drop_zero];exact hi)
     (λy hy=>AF (hx y hy) λo e=>zzc _ (zzc _ e)) (sx0 (zzc _ hS)) (λy hy=>by cases hy) (by rw[ur];omega) λh' tk kp S'=>?_
    show wpAny _ _ _ _ _ _;refine zzb ?_;show wpAny _ _ (ret Value.none) _ _ _;refine zzb ⟨rfl,h',tk,rfl,S',λb o e=>?_⟩;have hb:=ax e;exact kp b o (bj hb) (by rw[xt];exact bj (pi hb)) (zzc _ (zzc _ e))
   ·cases r₂ with
    | error e=>exact hr₂
    | ok fl₂ =>
     cases fl₂ with
     | ret r =>
      obtain⟨rfl,h',tk,rfl,hS',hk'⟩:=hr₂
      repeat (any_goals (first|assumption|wp_step))
      exact h _ _ hk' hS'
     | _=>exact hr₂.elim
  | _=>exact hr.elim
end
end WS
namespace WS
open PySem PySem.SetTable PyProof.Rows
variable {i:Nat}{Q:Bool->Shared->Prop}
def pF{α:Type}:∀(l:List α) (i:Nat) (h:i<l.length),(l[i]::l.eraseIdx i).Perm l
 | a::l,0,_=>.refl _
 | a::l,i+1,h=>by
  have:=pF l i (by simpa using h);exact(List.Perm.swap _ _ _).trans (this.cons a)
def yo{α:Type}(next:Nat->Nat):∀(fuel k:Nat) (left:List α) (out:Array α),left.length<=fuel->(pickOrder.go next fuel k left out).toList.Perm (out.toList++left)
 | 0,k,left,out,h=>by
  have:left=[]:=List.length_eq_zero_iff.mp (by omega);subst this;unfold pickOrder.go;rw[ig]
 | fuel+1,k,left,out,h=>by
  unfold pickOrder.go
  cases left with
  | nil =>
   rw[List.getElem?_nil,ig]
  | cons a r =>
   have hi:next k % (a::r).length<(a::r).length:=Nat.mod_lt _ (by simp);rw[nc hi];dsimp only;refine(yo next fuel (k+1) _ _ (by rw[List.length_eraseIdx,ak hi];omega)).trans ?_;rw[Array.toList_push,pr];exact List.Perm.append_left _ (pF _ _ hi)
def zP{α:Type}(next:Nat->Nat)(xs:Array α):(pickOrder next xs).toList.Perm xs.toList:=by
 have:=yo next xs.size 0 xs.toList #[] (by rw[ce];exact au _);simpa[pickOrder]using this
def uD:Manifest.owners.lookup (String.ofList ['r', 'o', 't', 'a', 'r', 'e', 't', 'i', '_', 't', 'e', 's'].reverse)=some Manifest.sig_set_iterator:=by kernel_rfl
def slot_next:Slot "set_iterator" "__next__" "set_iterator.__next__" :=
 .of (owner := "set_iterator") (n := "__next__") (by rw[typeLookup_type,builtinLookup_eq_fast];kernel_rfl) (by decide +kernel) (by decide +kernel) (by decide +kernel)
  (by first|exact .inl (by decide +kernel)|exact .inr (by decide +kernel)) (by rw[isSubtype_type];kernel_rfl)
def entry_next:entryFor table "set_iterator.__next__" = some Builtin.«set_iterator.__next__»:=entryFor_of_tree (by kernel_rfl)
def args_next(a:Value):argsOk "set_iterator.__next__" ⟨[a],[]⟩:=by
 unfold argsOk;rw[signature?_of (id := "set_iterator.__next__") (n:=['_', '_', 't', 'x', 'e', 'n', '_', '_']) (o:=['r', 'o', 't', 'a', 'r', 'e', 't', 'i', '_', 't', 'e', 's']) (by kernel_rfl) uD];kernel_rfl
def qQ:Slot "set_iterator" "__iter__" "set_iterator.__iter__" :=
 .of (owner := "set_iterator") (n := "__iter__") (by rw[typeLookup_type,builtinLookup_eq_fast];kernel_rfl) (by decide +kernel) (by decide +kernel) (by decide +kernel)
  (by first|exact .inl (by decide +kernel)|exact .inr (by decide +kernel)) (by rw[isSubtype_type];kernel_rfl)
def wX:entryFor table "set_iterator.__iter__" = some Builtin.«dict_keyiterator.__iter__» :=
 entryFor_alias (id' := "dict_keyiterator.__iter__") (by kernel_rfl) rfl (by decide +kernel) (by kernel_rfl)
def An(a:Value):argsOk "set_iterator.__iter__" ⟨[a],[]⟩:=by
 unfold argsOk;rw[signature?_of (id := "set_iterator.__iter__") (n:=['_', '_', 'r', 'e', 't', 'i', '_', '_']) (o:=['r', 'o', 't', 'a', 'r', 'e', 't', 'i', '_', 't', 'e', 's']) (by kernel_rfl) uD];kernel_rfl
def pH:entryFor table "set.__iter__" = some Builtin.«frozenset.__iter__» :=
 entryFor_alias (id' := "frozenset.__iter__") (by kernel_rfl) rfl (by decide +kernel) (by kernel_rfl)
section
variable {prog:Program} {w:World} {A:Around} {E:zzj} {s:Shared} {l it:Addr} {o:Obj} {es:Array (Int×Value)} {ep:Nat} {t:SetTable}
def byT(w:World):Bool:=w.params.followText "set-order"
def wl(w:World)(l:Addr)(ep:Nat)(es:Array (Int×Value)):Array (Int×Value):=if byT w then pickOrder (w.params.setOrder l ep) es else es
def wl_perm:(wl w l ep es).toList.Perm es.toList:=by
 unfold wl;split
 ·exact zP _ _
 ·exact .refl _
def rQ:(wl w l ep es).size=es.size:=by have:=(wl_perm (w:=w) (l:=l) (ep:=ep) (es:=es)).length_eq;rwa [ce,ce]at this
def sl(w:World)(t:SetTable):Nat->Nat
 | 0=>0
 | i+1=>if byT w then 0 else t.place.getD i 0+1
def AK(T:Tb t es)(hb:byT w=false)(hi:i<=es.size):below t.place (sl w t i)=i:=by
 cases i with
 | zero=>exact D4 T.up
 | succ i =>
  unfold sl;rw[hb];have h:i<t.place.size:=by rw[T.sz];omega
  refine xF T.up ?_;rw[io,ci h];rfl
def v5(h:Q (byT w) s):wpAny (model prog w) A setsByText Q E s:=zza (wpAny_askSetting (zzb h))
def GW(ho:s.heap.get? l=some o)(hd:o.data=.set es ep t)(T:Tb t es)(h:Q false s):wpAny (model prog w) A (setDrawn l) Q E s:=by
 unfold setDrawn;refine zza (sE ho hd T.fits (zza (v5 (zzb ?_))));show Q (!byT w&&(!t.plain&&decide (es.size>1))) s;rw[T.pl,wo,Lg,Bool.and_false];exact h
def IA{Q:Option (Value×Nat)->Shared->Prop}(ho:s.heap.get? l=some o)(hd:o.data=.set es ep t)(T:Tb t es)(hled:t.led = !byT w)(hi:i<=es.size)
  (h:Q ((wl w l ep es)[i]?.map λe=>(e.2,sl w t (i+1))) s):wpAny (model prog w) A (setNext l (sl w t i) i ep) Q E s:=by
 unfold setNext;refine zza (sE ho hd T.fits (zza (v5 ?_)))
 cases hb:byT w with
 | true =>
  rw[ak rfl];dsimp only;rw[ac (by simp)];unfold setWalk;refine zza (zza (sE ho hd T.fits (zza (v5 ?_))));rw[hb,ak rfl];refine zza (wpAny_askSetting (zzb (zzb ?_)));have e0:∀k,sl w t k=0:=λk=>by
   cases k with
   | zero=>rfl
   | succ k =>
    show(if byT w then 0 else t.place.getD k 0+1)=0;rw[hb];rfl
  have e1:sl w t i=sl w t (i+1):=(e0 _).trans (e0 _).symm;unfold wl at h;rw[hb,ak rfl]at h;rw[e1];exact h
 | false =>
  rw[ac (by decide)];dsimp only;refine(show wpAny _ _ (if(!t.plain&&decide (es.size>1))=true then _ else _) _ _ _ from ?_);rw[ac (show ¬ ((!t.plain&&decide (es.size>1))=true) by rw[T.pl];simp)];refine zza ?_;show wpAny _ _ (if(!t.led && !es.isEmpty)=true then unsupported "set:maker-not-led" else pure ()) _ _ s;rw[ac (by rw[hled,hb];simp)];refine zzb ?_;rw[AK T hb hi];refine zzb ?_;unfold wl at h;rw[hb,ac (by decide)]at h;by_cases hs:i<es.size
  ·have h2:i<t.place.size:=by rw[T.sz];exact hs
   rw[ci hs,ci h2];rw[ci hs]at h;have:sl w t (i+1)=t.place[i]+1:=by
    show(if byT w then 0 else t.place.getD i 0+1)=_;rw[hb,ac (by decide),io,ci h2];rfl
   rw[Option.map_some,this]at h;exact h
  ·rw[ue (by omega),ue (by rw[T.sz];omega)];rw[ue (by omega)]at h;exact h
end
section
variable {prog:Program} {w:World} {A:Around} {E:zzj} {s:Shared} {l it:Addr} {o:Obj} {es:Array (Int×Value)} {ep:Nat} {t:SetTable}
def itO(w:World)(l:Addr)(t:SetTable)(n ep i:Nat):Obj:={ cls:=.type "set_iterator",data:=.fields #[.int (sl w t i) 0,.int i 0,.ref l,.int n 0,.int ep 0] }
def IsSI(w:World)(h:Heap)(it l:Addr)(t:SetTable)(n ep i:Nat):Prop:=∃o,h.get? it=some o/\o.cls=.type "set_iterator" /\ o.data=.fields #[.int (sl w t i) 0,.int i 0,.ref l,.int n 0,.int ep 0]
def IsSI.ty{n:Nat}(x:IsSI w s.heap it l t n ep i):s.TypeIs (.ref it) "set_iterator":=let ⟨o,e,c,_⟩:=x;⟨o,e,c⟩
def IsSI.kp{h h':Heap}{n:Nat}(x:IsSI w h it l t n ep i)(k:∀o,h.get? it=some o->h'.get? it=some o):IsSI w h' it l t n ep i:=let ⟨o,e,r⟩:=x;⟨o,k o e,r⟩
theorem GJ{Q:zzj}(ho:s.heap.get? l=some o)(hex:o.ExactSet)(hd:o.data=.set es ep t)(T:Tb t es)(q:Q (.ref s.heap.objs.size) { s with heap:=s.heap.push (itO w l t es.size ep 0) }) :
  wpAny (model prog w) A (pyIter (.ref l)) Q E s:=by
 have hT:s.TypeIs (.ref l) "set":=⟨o,ho,hex.1⟩;refine wpAny_pyIter_slot hT F.slot_set_iter (wP F.slot_set_iter hT pH ?_ (F.args_set_iter_1 _));unfold Builtin.«frozenset.__iter__»;refine(show wpAny (model prog w) _ (Builtin.Frozenset.sizeOf l >>= _) _ _ s from ?_);unfold Builtin.Frozenset.sizeOf;refine zza (zza (wpAny_setEntries_of ho hd T.fits (zzb (zza (GW ho hd T ?_)))));rw[ac (by decide)];refine zza (zzb (zza (wpAny_setEpoch_of ho hd T.fits (zza (ni (zzb ⟨_,rfl, "set_iterator",_,⟨_,zze _ rfl,rfl⟩,slot_next.lookup,?_⟩))))));simpa[rawInt,itO,sl]using q
def Bz{Q:Option Value->Shared->Prop}(hit:IsSI w s.heap it l t es.size ep i)(ho:s.heap.get? l=some o)(hd:o.data=.set es ep t)(T:Tb t es)(hled:t.led = !byT w)(hi:i<=es.size)
  (q1:∀(h:i<(wl w l ep es).size) (h':Heap),IsSI w h' it l t es.size ep (i+1)->Heap.SameBut it s.heap h'->Q (some (wl w l ep es)[i].2) { s with heap:=h' })
  (q2:es.size<=i->A.handled=none/\∀h',Heap.ExtBut it s.heap h'->Q none { s with heap:=h' }):wpAny (model prog w) A (pyNext (.ref it)) Q E s:=by
 obtain⟨oi,hoi,hc,hdi⟩:=id hit;have hTi:=hit.ty;unfold pyNext;refine zza (wpAny_attempt (K9 (name:=Str.ofString "__next__") hTi slot_next (wP slot_next hTi entry_next ?_ (args_next _))));unfold Builtin.«set_iterator.__next__»;refine(show wpAny (model prog w) _ (fieldsOf (.ref it) >>= _) _ _ s from zza (wpAny_fieldsOf hoi hdi ?_));dsimp only;refine zza (wpAny_setEntries_of ho hd T.fits ?_);rw[ac (by simp)];rw[we,we,we];refine zza (IA ho hd T hled hi ?_);by_cases hw:i<(wl w l ep es).size
 ·rw[ci hw];dsimp only[Option.map_some];refine zza (GU hoi hdi (by simp) ?_);have h1:=ng (h:=s.heap) (Obj.mapFields (·.setIfInBounds 0 (rawInt (sl w t (i+1))))) hoi (ul (ir hdi _));have d1:(Obj.mapFields (·.setIfInBounds 0 (rawInt (sl w t (i+1)))) oi).data=.fields #[.int (sl w t (i+1)) 0,.int i 0,.ref l,.int es.size 0,.int ep 0]:=by rw[ir hdi];simp[rawInt]
  refine zza (GU h1 d1 (by simp) ?_);refine zzb ⟨_,rfl,zzb (q1 hw _ ⟨_,ng _ h1 (ul (ir d1 _)),(LG ..).trans ((LG ..).trans hc),by rw[ir d1];simp[rawInt]⟩ ((Heap.SameBut.update ..).trans (Heap.SameBut.update ..)))⟩
 ·rw[ue (by omega)];obtain⟨hh,q⟩:=q2 (by rw[rQ]at hw;omega);dsimp only[Option.map_none];refine zza (GU hoi hdi (by simp) ?_);refine(show wpAny (model prog w) _ (newExc (.type "StopIteration") [] >>= _) _ _ _ from zza ?_);simp only[newExc,newTuple];refine zza (ni ?_ (by size_fits));refine zza (m:=firstArgMember _ _) (wpAny_of_eq (a:=Value.none) (by first|rfl|(simp only[firstArgMember];rfl)) ?_);refine ni ?_ (by size_fits);simp only[raiseNew];refine zza (wpAny_handled ?_);rw[show A.in1.handled=none from hh];refine zza (zzb (wpAny_throw ?_));refine zza (wpAny_isInstance (T := "StopIteration") (b:=true) (by exact⟨_,zze _ rfl,rfl⟩) isSubtype_stop ?_);exact zzb (q _ (((Heap.SameBut.update ..).extBut.push _).push _))
def BX(hT:s.TypeIs (.ref l) "set")(h:Q false s):wpAny (model prog w) A (Builtin.List.listLengthHint (.ref l)) Q E s:=by
 unfold Builtin.List.listLengthHint;refine zza (wpAny_specialOf hT PySem.F.slot_set_len.lookup ?_);generalize hid:("set.__len__" : String)=id0
 wp_delta
 rw[show splitId id0=some ("set", "__len__")from by subst hid;decide +kernel];subst hid;refine zza (wpAny_isInstance (T := "set") (b:=true) hT (by rw[isSubtype_type];kernel_rfl) ?_);refine wpAny_ite_split (λhab=>absurd hab (by decide)) (λ_=>?_);refine wpAny_ite_split (λ_=>?_) (λhab=>absurd (by decide +kernel) hab);refine zza (La hT ?_);exact zzb h
theorem CW(hex:o.ExactSet)(hd:o.data=.set es ep t)(T:Tb t es)(hled:t.led = !byT w):PySem.W.KdlSrc prog w "set" l l es.size (λi v=>∃e,(wl w l ep es)[i]? = some e/\v=e.2) (λh=>h.get? l=some o) where
 type:=λ_ x=>⟨o,x,hex.1⟩
 there:=λh x=>⟨ax x,ax x⟩
 keep:=λ_ _ x k=>k l (.inl rfl) o x
 notList:=by decide
 notTuple:=by decide
 hint:=λ_ _ _ _ x q=>BX ⟨o,x,hex.1⟩ q
 iter:=λA s hh x=>by
  have hne:l≠s.heap.objs.size:=bj (ax x);refine⟨_,λi h=>IsSI w h s.heap.objs.size l t es.size ep i/\h.get? l=some o,λE Q q=>GJ x hex hd T q,⟨?_,?_,?_,?_,?_⟩,⟨_,zze _ rfl,rfl,rfl⟩,zzc _ x⟩
  ·intro b hb;rw[List.mem_singleton.mp hb];exact am
  ·intro i h h' st k;exact⟨st.1.kp λo e=>k _ am o e,k l (by simp) o st.2⟩
  ·intro i s1 Q E hi st q;refine Bz st.1 st.2 hd T hled (by omega) (λhi h' a1 a2=>q _ h' s1.toks ⟨_,ci hi,rfl⟩ ⟨a1,a2.extBut l o hne st.2⟩ λb o hb e=>a2.extBut b o (λz=>hb (by simp[z])) e) λz=>absurd hi (by lia)
  ·intro s1 Q E st q;exact Bz st.1 st.2 hd T hled (au _) (λhi=>absurd hi (by rw[rQ];exact pI _)) λ_=>⟨hh,λh' a=>q h' s1.toks λb o hb e=>a b o (λz=>hb (by simp[z])) e⟩
  ·intro i s1 Q E st q;refine wpAny_pyIter_slot st.1.ty qQ (wP qQ st.1.ty wX ?_ (An _));show wpAny _ _ (ret (.ref _)) _ _ s1;exact zzb ⟨_,rfl, "set_iterator",_,st.1.ty,slot_next.lookup,q⟩
end
end WS
namespace L4
open PySem PySem.Spec PyProof.Rows L2 L3 TS WS
variable {X:Cx}
def jN(k:List Int):D:=.tuple (k.map .int)
def SW(X:Cx)(l:Addr)(zs:List (List Int×Addr)):HO:=.ext λh=>Sx X.prog X.w h l zs
def RT(K:Fg)(F:Hp)(zs:List (List Int×Addr)):Prop:=∀p∈zs,Rep K F (.ref p.2) (jN p.1)
def setOk(ds:List D):Bool:=decide (ds.length<64)&&ds.all iY
def wZ(acc:List D)(d:D):List D:=if keyD d∈acc.map keyD then acc else acc++[d]
def DV(ds:List D):List D:=ds.foldl wZ []
def DS:List D->Option (List D)
 | [.list ds]=>if setOk ds then some (dq (DV ds))else none
 | _=>none
def JM(X:Cx):List V->Hp->VK->Prop:=λxs H Q=>∃(G:Gh) (F:Hp) (Z:L2.St) (ρ:En) (x:V) (ds:List D),xs=[x]/\StOk X.K G F Z H ρ/\OR X.K F H x (.list ds)/\setOk ds=true /\
 ∀l zs,H l=none->RT X.K F zs->zs.map (λp=>jN p.1)=ds->Q (.ref l) (upd H l (SW X l (zs.foldl fS [])))
def iB(k:List Int):keyD (jN k)=k:=by
 show(intsOf (k.map PyData.int)).getD []=k;rw[jY];rfl
def mP{K:Fg}{F:Hp}{prog:Program}{w:World}:∀{vs:List V} {k:List Int} {us:List Value},RepL K F vs (k.map .int)->Vals vs us->ItemsAre (intKind prog w) k us
 | [],k,us,r,v=>by
  cases k with
  | nil=>cases v;exact .nil
  | cons _ _=>cases r
 | x::vs,k,us,r,v=>by
  cases k with
  | nil=>cases r
  | cons i k =>
   cases r with
   | cons a b =>
    have e:=a.int_inv;subst e
    cases v with
    | cons c d =>
     obtain⟨t,rfl⟩:=c;exact .cons (intKind_is _ _ _ _) (mP b d)
def El{X:Cx}{pins:zzk}{Z σ':L2.St}{H F:Hp}{s:Shared}{G:Gh}{ρ:En}(I:Inv X pins Z H s)(S:StOk X.K G F σ' H ρ):∀{vs:List V} {ds:List D} {us:List Value},RepL X.K F vs ds->Vals vs us->ds.all iY=true ->
  ∃zs:List (List Int×Addr),RT X.K F zs/\zs.map (λp=>jN p.1)=ds/\us=zs.map (λp=>Value.ref p.2)/\Tis X.prog X.w s.heap zs
 | [],ds,us,r,v,_=>by
  cases r;cases v
  exact⟨[],(λp h=>nomatch h),rfl,rfl,λp h=>nomatch h⟩
 | x::vs,ds,us,r,v,h=>by
  cases r with
  | @cons _ d _ ds a b =>
   cases v with
   | cons c e =>
    rw[LP,ai]at h;obtain⟨n,q,rfl⟩:=eC h.1;obtain⟨ad,ws,rfl,f1,f2⟩:=a.tup_inv;obtain⟨zs,z1,z2,z3,z4⟩:=El I S b e h.2
    cases c
    obtain⟨its,rv,⟨o,e1,e2,m,e3⟩,_⟩:=I.tuple (.inl (.inl (S.fh _ _ f1)));refine⟨(n::q,ad)::zs,λp hp=>?_,?_,?_,λp hp=>?_⟩
    ·rcases List.mem_cons.mp hp with rfl|hp
     ·exact a
     ·exact z1 p hp
    ·rw[ba,z2];rfl
    ·rw[ba,<-z3]
    ·rcases List.mem_cons.mp hp with rfl|hp
     ·exact⟨o,its.toArray,m,e1,e2,e3,mP f2 rv⟩
     ·exact z4 p hp
def Cj(hc:X.calm=true)(hu:X.A.units+1100<cLine):CallR X (.type "set") (JM X):=by
 intro pins s Z H xs us Q I r h0;obtain⟨G,F,σ',ρ,x,ds,rfl,S,ho,hok,k⟩:=h0;obtain⟨u,rfl,ru⟩:=L2.Vals.one r;unfold setOk at hok;rw[ai,zzi]at hok;obtain⟨a,vs,rfl,h1,h2⟩:=ho.list S.fh
 cases ru
 obtain⟨its,rv,pl,hz⟩:=I.list h1;obtain⟨o,e1,e2,n,e3⟩:=pl.isList;obtain⟨zs,z1,z2,z3,z4⟩:=El I S h2 rv hok.2;have hl:zs.length=ds.length:=by rw[<-z2,zzd]
 refine Ak (p:=a) (items:=its.toArray) (xs:=zs) (I.ok.hd hc) (by omega) ⟨o,e1,e2,n,e3⟩ z3 z4 (by omega) λh' tk kp S'=>?_
 refine⟨.ref s.heap.objs.size,upd H s.heap.objs.size (SW X s.heap.objs.size (zs.foldl fS [])),I.laid (t':=tk) kp (au _) ⟨S',?_,λh1 h2 p q=>p.kp q⟩,rfl,k _ zs (I.hok.fresh (au _)) z1 z2⟩;obtain⟨o',_,_,_,e,_⟩:=S';exact⟨o',e⟩
def kj{α β:Type}{f:α->β}:∀{l:List β} {zs:List α},l.Perm (zs.map f)->∃zs':List α,zs'.Perm zs/\l=zs'.map f
 | [],zs,h=>by
  have:zs=[]:=by have:=h.length_eq;rw[zzd]at this;exact List.length_eq_zero_iff.mp this.symm
  subst this;exact⟨[],.refl _,rfl⟩
 | x::l,zs,h=>by
  obtain⟨z,hz,rfl⟩:=List.mem_map.mp (h.mem_iff.mp am);obtain⟨as,bs,rfl⟩:=List.append_of_mem hz;have h2:(f z::l).Perm (f z::(as++bs).map f):=h.trans (by rw[jo,ba,jo];exact List.perm_middle);obtain⟨zs',p1,p2⟩:=kj h2.cons_inv;exact⟨z::zs',(p1.cons z).trans List.perm_middle.symm,by rw[ba,p2]⟩
def uj{a b:List D}(p:a.Perm b)(h:∀d∈b,iY d=true):dq a=dq b:=by
 have pm:(dq a).Perm (dq b):=((bV a).trans p).trans (bV b).symm;refine gJ (R:=λx y=>leK x y=true) (λx hx y hy h1 h2=>?_) pm (cP a) (cP b);obtain⟨n,r,rfl⟩:=eC (h x ((bV b).mem_iff.mp hx));obtain⟨n',r',rfl⟩:=eC (h y ((bV b).mem_iff.mp hy));unfold leK at h1 h2;rw[ny]at h1 h2;have:=oZ h2 h1;rw[show keyD (.tuple ((n::r).map PyData.int))=n::r from iB _,show keyD (.tuple ((n'::r').map PyData.int))=n'::r' from iB _]at this;rw[this]
def HS(X:Cx):List V->Hp->VK->Prop:=λxs H Q=>∃(G:Gh) (F:Hp) (Z:L2.St) (ρ:En) (l:Addr) (zs:List (List Int×Addr)),xs=[.ref l]/\StOk X.K G F Z H ρ/\H l=some (SW X l zs)/\RT X.K F zs/\setOk (zs.map λp=>jN p.1)=true /\
 ∀l vs,H l=none->RepL X.K F vs (dq (zs.map λp=>jN p.1))->Q (.ref l) (upd H l (.lst vs))
def BV{es:Array (Int×Value)}{acc:Array Value}(h:ItemsOf (λi v=>∃e,es[i]? = some e/\v=e.2) acc es.size):acc.toList=es.toList.map (·.2):=by
 apply List.ext_getElem?;intro j;rw[gi,ku,gi]
 cases q:acc[j]? with
 | some v =>
  obtain⟨e,e1,rfl⟩:=h.2 j v q;rw[e1];rfl
 | none =>
  have:es.size<=j:=by rw[<-h.1];exact Array.getElem?_eq_none_iff.mp q
  rw[ue this];rfl
def ya{K:Fg}{F:Hp}:∀{zs:List (List Int×Addr)},RT K F zs->RepL K F (zs.map λp=>V.ref p.2) (zs.map λp=>jN p.1)
 | [],_=>.nil
 | p::zs,h=>.cons (h p am) (ya λq hq=>h q (zzg _ hq))
def xZ:∀(zs:List (List Int×Addr)),Vals (zs.map λp=>V.ref p.2) (zs.map λp=>Value.ref p.2)
 | []=>.nil
 | p::zs=>.cons rfl (xZ zs)
def xy(hc:X.calm=true):CallR X (.builtin "sorted") (HS X):=by
 intro pins s Z H xs us Q I r h0;obtain⟨G,F,σ',ρ,l,zs,rfl,S,hl,rt,hok,k⟩:=h0;obtain⟨u,rfl,ru⟩:=L2.Vals.one r
 cases ru
 obtain⟨⟨o,es,ep,t,ho,hex,hd,T,_,hp,hled⟩,_,_⟩:=I.hok l _ hl;unfold setOk at hok;rw[ai,zzi]at hok;have hlen:es.size=zs.length:=by have:=hp.length_eq;rwa [ce,zzd]at this
 have hz:es.size<=sizeLine:=by
  rw[zzd]at hok;exact cr (show es.size<=1000 by omega) (by decide)
 refine nV λE' Q' q=>Cf (CW hex hd T hled) (I.ok.hd hc) ho hz λh' tk acc kp it=>q _ _ ?_
 have I2:Inv X pins Z H { s with heap:=h',toks:=tk }:=I.kept (t':=tk) kp;have it':ItemsOf (λi v=>∃e,(wl X.w l ep es)[i]? = some e/\v=e.2) acc (wl X.w l ep es).size:=by rw[rQ];exact it
 obtain⟨zs',p1,p2⟩:=kj (wl_perm.trans hp);have ea:acc.toList=zs'.map λp=>Value.ref p.2:=by
  rw[BV it',p2,sk];rfl
 have rt':RT X.K F zs':=λp hp=>rt p (p1.mem_iff.mp hp)
 have pd:(zs'.map λp=>jN p.1).Perm (zs.map λp=>jN p.1):=p1.map _;refine qP I2 S (ya rt') (by rw[ea];exact xZ zs') (by rw[zzd,p1.length_eq,<-hlen];exact hz) ?_ λl vs hl rp=>k l vs hl ?_
 ·unfold dg;have:(zs'.map λp=>jN p.1).all iY=true:=by
   rw[gh];intro d hd';exact List.all_eq_true.mp hok.2 d (pd.mem_iff.mp hd')
  rw[this,Bool.or_true,Bool.true_or,Bool.and_true,zzi,pd.length_eq];exact hok.1
 ·rw[<-uj pd (λd hd'=>List.all_eq_true.mp hok.2 d hd')];exact rp
def vF:∀(zs acc:List (List Int×Addr)),(zs.foldl fS acc).map (λp=>jN p.1)=(zs.map λp=>jN p.1).foldl wZ (acc.map λp=>jN p.1)
 | [],acc=>rfl
 | z::zs,acc=>by
  rw[ze,ba,ze,vF zs];congr 1;unfold fS wZ;have e:(acc.map λp=>jN p.1).map keyD=acc.map (·.1):=by
   rw[sk];exact K5 λp _=>iB p.1
  rw[e,iB];split
  ·rfl
  ·rw[jo];rfl
def pv:∀(zs acc:List (List Int×Addr)) (p:List Int×Addr),p∈zs.foldl fS acc->p∈acc\/p∈zs
 | [],acc,p,h=>.inl h
 | z::zs,acc,p,h=>by
  rcases pv zs (fS acc z) p h with h|h
  ·rcases vD h with rfl|h
   ·exact .inr am
   ·exact .inl h
  ·exact .inr (zzg _ h)
def uY:∀(zs acc:List (List Int×Addr)),(zs.foldl fS acc).length<=acc.length+zs.length
 | [],acc=>au _
 | z::zs,acc=>by
  have h1:=uY zs (fS acc z);have h2:=vE acc z;rw[ze,bi];omega
def xJ{e:Expr}{ps:Pa (List D)}{p p2 pos pos2:Pos}(hc:X.calm=true)(hu:X.A.units+1100<cLine)(hg:Gl X "sorted")(hm:X.mg "sorted" = none)(hg2:Gl X "set")(hm2:X.mg "set" = none)(ha:AAo X [e] ps)
  (he:starEach [.Call (.Name "set" p2) [e] [] pos2] X.env=[(false,eval (.Call (.Name "set" p2) [e] [] pos2) X.env)]) (he2:starEach [e] X.env=[(false,eval e X.env)]):AL X (.Call (.Name "sorted" p) [.Call (.Name "set" p2) [e] [] pos2] [] pos) (lF DS ps) :=
 λG F Z H ρ Q S w=>sem (gM (xy hc) hg hm (by decide +kernel) (eG (jt (Cj hc hu) hg2 hm2 (by decide +kernel) bQ (by decide) (by decide) he2 rfl) iS he) (by decide) (by decide) he rfl) (ha G F Z H ρ _ _ _ S w λds xs F1 H1 s1 S1 hx w1=>by
  obtain⟨res,er,k⟩:=w1.opt;have hx':=hx.ors S1;unfold DS at er;split at er
  ·rename_i es;split at er
   ·rename_i hok
    cases er
    obtain⟨v,r,rfl,ho,hr⟩:=bB hx';obtain rfl:=bR hr;refine⟨G,F1,Z,ρ,v,es,rfl,S1,ho,hok,λl zs hl rt ez=>?_⟩;have S2:StOk X.K G F1 Z (upd H1 l (SW X l (zs.foldl fS []))) ρ:=S1.lay hl;have ed:(zs.foldl fS []).map (λp=>jN p.1)=DV es:=by rw[vF,ez];rfl
    unfold setOk at hok;rw[ai,zzi]at hok;refine⟨G,F1,Z,ρ,l,zs.foldl fS [],rfl,S2,aT,λp hp=>?_,?_,λl2 vs hl2 rp=>?_⟩
    ·rcases pv zs [] p hp with h|h
     ·cases h
     ·exact rt p h
    ·unfold setOk;rw[ai,zzi,zzd,gh];refine⟨?_,λd hd=>?_⟩
     ·have:=uY zs [];rw[<-ez,zzd]at hok;rw[ur]at this;omega
     ·obtain⟨q,hq,rfl⟩:=List.mem_map.mp hd;rcases pv zs [] q hq with h|h
      ·cases h
      ·exact List.all_eq_true.mp hok.2 _ (by rw[<-ez];exact List.mem_map.mpr ⟨q,h,rfl⟩)
    ·rw[ed]at rp;obtain⟨S3,r3⟩:=S2.newLst hl2 rp;exact k F1 _ (Same.refl _) S3 _ r3
   ·cases er
  ·cases er)
end L4
namespace L4
open PySem PySem.Spec PyProof.Rows L2 L3
def CG{S:Type}{X:Cx}{e:Expr}{es:List Expr}{name:Str}{apos cpos p0:Pos}{id:String}{ms:Ev S (List D)}{x:Str}{j}{f:D->List D->Option D}(pa:PlainAttrs "str")(slot:Slot "str" name id)(hty:typeOf (.builtin id)=pure (.type "method_descriptor"))(hm:MtR X id (A8 X.K f))(ha:AEa X (e::es) ms)
  (hbase:attributeBase (.Constant (.str x) j p0) name X.env (eval (.Constant (.str x) j p0) X.env)=eval (.Constant (.str x) j p0) X.env)
  (hfew:((backTo cpos (starEach (e::es) X.env)).all (λx=>!x.1)&&(backToKw cpos (keywordEach [] X.env)).all (λx=>x.1.isSome)
   && decide ((e::es).length+([]:List Keyword).length+(if([]:List Keyword).isEmpty then 0 else 1)<30))=true)
  (hline:(apos.endLine==cpos.line)=true) (hs:starEach (e::es) X.env=(false,eval e X.env)::starEach es X.env) (hplain:(backTo cpos (starEach es X.env)).any (·.1)=false) :
  AE X (.Call (.Attribute (.Constant (.str x) j p0) name apos) (e::es) [] cpos) (Fc (f (.str x)) ms) :=
 λOK y k G F Z H ρ Q hO hX St ok kk=>sem (sv (T := "str") pa slot hty hm Bm bQ hbase hfew hline hs hplain) ⟨.inl rfl,ha OK y _ G F Z H ρ _ hO hX St ok λds vs F1 H1 ρ1 s1 S1 _ r1 o1=>by
  obtain⟨res,e,o'⟩:=gy hO o1
  exact⟨_,F1,_,ρ1,.str x,ds,res,S1,.inl (.str x),r1,e,λy F2 H2 s2 S2 r3=>kk res y F2 H2 ρ1 (s1.trans s2) S2 r3 o'⟩⟩
end L4
namespace WS
end WS
namespace L4
open PySem PySem.Spec PyProof.Rows L2 L3
def Hu(i j k:Nat)(ta:TA):TS:=λD Z H=>ta Z H λvs H1=>∃v w u,vs=[v,w,u]/\D.nx (((Z.set i (some v)).set j (some w)).set k (some u)) H1
def Dh{X:Cx}{pos:Pos}{i j k:Nat}{x y z:Str}{a b c:Expr}{ta:TA}{px py pz pt:Pos}{kt k2 pt2}(hc:X.calm=true)(hN:X.N.Nodup)(hi:X.N[i]? = some x)(hj:X.N[j]? = some y)(hk:X.N[k]? = some z)(hij:i≠j)(hik:i≠k)(hjk:j≠k)
  (hx:X.env.scope.names.lookup x=some .local) (hy:X.env.scope.names.lookup y=some .local) (hz:X.env.scope.names.lookup z=some .local) (ha:PA X [a,b,c] ta)
  (hw:swappedStores [.Tuple [.Name x px,.Name y py,.Name z pz] kt pt] (.Tuple [a,b,c] k2 pt2) X.env=pure (some [x,y,z]))
  (hs:swapsWithSole [.Tuple [.Name x px,.Name y py,.Name z pz] kt pt] (.Tuple [a,b,c] k2 pt2) pos.line X.env=pure false) :
  PS X (.Assign [.Tuple [.Name x px,.Name y py,.Name z pz] kt pt] (.Tuple [a,b,c] k2 pt2) pos) (Hu i j k ta):=by
 intro pins s Z H D I h;rw[exec_Assign_arm];refine zza (Ba ?_);rw[hs];refine zza (zzb ?_);rw[ac (by decide)];refine zza (Tuple_ (thn (ha _ pins s Z H _ I h) λus s1 ⟨vs,H1,I1,r1,q1⟩=>?_));obtain⟨v,w,u,e1,q1⟩:=q1;subst e1;obtain⟨u1,u2,u3,rfl,rv,rw',ru⟩:∃u1 u2 u3,us=[u1,u2,u3]/\RelV v u1/\RelV w u2/\RelV u u3:=by
  cases r1 with
  | cons p q =>
   cases q with
   | cons p' q' =>
    cases q' with
    | cons p2 q2 =>
     cases q2
     exact⟨_,_,_,rfl,p,p',p2⟩
 refine ni ?_ (by show 3<=sizeLine;decide);have I2:Inv X pins Z H1 { s1 with heap:=s1.heap.push { cls:=.type "tuple",data:=.seq [u1,u2,u3].toArray } }:=I1.kept (t':=s1.toks) λb o e=>zzc _ e
 rw[hw];refine zza (zzb ?_);show wpAny (model X.prog X.w) X.A (do rule "assign.swapped-stores";let items <-unpackItems (.ref s1.heap.objs.size) 3 none;assignInOrder [λv=>bindName X.env z v,λv=>bindName X.env y v,λv=>bindName X.env x v] items.reverse;pure Flow.next) _ _ _;refine zza (LU (zza (unpackItems_tuple (items:=#[u1,u2,u3]) (I.ok.hd hc) (IsTup.new s1.heap _) λh' hx'=>?_)));have I3:=I2.kept (h':=h') (t':=s1.toks) λb o e=>hx' b o (bj (ax e)) e
 show wpAny _ _ (assignInOrder [λv=>bindName X.env z v,λv=>bindName X.env y v,λv=>bindName X.env x v] [u3,u2,u1] >>= λ_=>pure Flow.next) _ _ _;refine zza (xz (Lc (eN I3 hN hk (.inl hz) ru (λs2 I4=>?_) (.inr hz))));refine xz (Lc (eN I4 hN hj (.inl hy) rw' (λs3 I5=>?_) (.inr hy)));refine xz (Lc (eN I5 hN hi (.inl hx) rv (λs4 I6=>assignInOrder_nil (zzb ?_)) (.inr hx)));rw[List.set_comm _ _ (Ne.symm hjk),List.set_comm _ _ (Ne.symm hik),List.set_comm _ _ (Ne.symm hij)]at I6;exact⟨_,H1,I6,q1⟩
def EC{S:Type}(i j k:Nat)(c:Int):SM S:=λK ρ=>match fV ρ i with
 | true=>match fV (ρ.set i (some (.fz (.int c)))) j with
  | true=>match fV ((ρ.set i (some (.fz (.int c)))).set j (some (.ol (.l [])))) k with
   | true=>K.nx (((ρ.set i (some (.fz (.int c)))).set j (some (.ol (.l [])))).set k (some (.ol (.l []))))
   | false=>.bad
  | false=>.bad
 | false=>.bad
def Eb{S:Type}{X:Cx}{i j k:Nat}{x y z:Str}{c:Int}{jj n1 n2:Nat}{p1 p2 p3 q0 q1 q2 q3 t1 pos:Pos}(hc:X.calm=true)(hN:X.N.Nodup)(hi:X.N[i]? = some x)(hj:X.N[j]? = some y)(hk:X.N[k]? = some z)(hij:i≠j)(hik:i≠k)(hjk:j≠k)(lx:X.env.scope.names.lookup x=some .local)(ly:X.env.scope.names.lookup y=some .local)(lz:X.env.scope.names.lookup z=some .local)
  (hw:swappedStores [.Tuple [.Name x p1,.Name y p2,.Name z p3] n1 t1] (.Tuple [.Constant (.int c) jj q1,.List [] q2,.List [] q3] n2 q0) X.env=pure (some [x,y,z])) (hs:swapsWithSole [.Tuple [.Name x p1,.Name y p2,.Name z p3] n1 t1] (.Tuple [.Constant (.int c) jj q1,.List [] q2,.List [] q3] n2 q0) pos.line X.env=pure false) :
  AS (S:=S) X (.Assign [.Tuple [.Name x p1,.Name y p2,.Name z p3] n1 t1] (.Tuple [.Constant (.int c) jj q1,.List [] q2,.List [] q3] n2 q0) pos) (EC i j k c):=by
 intro OK K G F Z H ρ E hO hX St ok eo;unfold EC at ok;split at ok
 case h_2=>exact(hO ok).elim
 rename_i o1;split at ok
 case h_2=>exact(hO ok).elim
 rename_i o2;split at ok
 case h_2=>exact(hO ok).elim
 rename_i o3;obtain⟨l1,b1⟩:=cJ o1;obtain⟨l2,b2⟩:=cJ o2;obtain⟨l3,b3⟩:=cJ o3;refine iz (Dh hc hN hi hj hk hij hik hjk lx ly lz (eG Bp (eG (sA iS) (eG (sA iS) iS))) hw hs) ?_;refine⟨di _,λa ha=>⟨di _,λb hb=>⟨_,_,_,rfl,?_⟩⟩⟩;have Sa:=St.store b1 l1 (v:=.int c) (.inl ⟨.int c,rfl,.int c⟩);obtain⟨Sb,r1⟩:=Sa.newLst ha (vs:=[]) (ds:=[]) .nil;have Sc:=Sb.store b2 l2 (.inr ⟨.l [],rfl,r1⟩);obtain⟨Sd,r2⟩:=Sc.newLst hb (vs:=[]) (ds:=[]) .nil;have Se:=Sd.store b3 l3 (.inr ⟨.l [],rfl,r2⟩);exact eo.nx F _ _ _ (Same.refl _) Se ok
end L4
set_option maxHeartbeats 8000000
namespace K11
open PySem PySem.Spec PyProof.Rows L2 L3 L4
variable {f:Addr}{fd:FuncData}{mg:zzl}
noncomputable section
def top(i:Nat):Stmt:=PySem.Challenge.pw_passersby_k11_rows_that_write_no_rule.main.body.getD i (.Pass ⟨0,0,0,0⟩)
abbrev BL:List Str:=["range", "len", "tuple", "list", "max", "min", "abs", "repr", "enumerate", "isinstance", "all", "int", "str", "sorted", "set"]
def BN(mg:zzl):Prop:=∀x∈BL,mg x=none
def BN.range(B:BN mg):mg "range" = none:=B _ (by decide)
def BN.len(B:BN mg):mg "len" = none:=B _ (by decide)
def BN.tuple(B:BN mg):mg "tuple" = none:=B _ (by decide)
def BN.list(B:BN mg):mg "list" = none:=B _ (by decide)
def BN.max(B:BN mg):mg "max" = none:=B _ (by decide)
def BN.min(B:BN mg):mg "min" = none:=B _ (by decide)
def BN.abs(B:BN mg):mg "abs" = none:=B _ (by decide)
def BN.repr(B:BN mg):mg "repr" = none:=B _ (by decide)
def BN.enumerate(B:BN mg):mg "enumerate" = none:=B _ (by decide)
def BN.isinstance(B:BN mg):mg "isinstance" = none:=B _ (by decide)
def BN.all(B:BN mg):mg "all" = none:=B _ (by decide)
def BN.int(B:BN mg):mg "int" = none:=B _ (by decide)
def BN.str(B:BN mg):mg "str" = none:=B _ (by decide)
def BN.sorted(B:BN mg):mg "sorted" = none:=B _ (by decide)
def BN.set(B:BN mg):mg "set" = none:=B _ (by decide)
structure KX(K:Fg)(mg:zzl):Prop where
 i_NoText:∃C,mg "NoText" = some (.ref C)/\Inst1 K (.ref C) [("NoText",true)]
 a_row:NoAtts K "row" ["NoText"]
 a_word:NoAtts K "word" ["NoText"]
 h_PassError:∃hv,mg "PassError" = some hv/\HandL K hv ["NoText"]
structure KN(mg:zzl):Prop where
 MOST_ROOMS:∃u,mg "MOST_ROOMS" = some u/\RelV (.int 40) u
 MOST_SORTS:∃u,mg "MOST_SORTS" = some u/\RelV (.int 4) u
 FIGURES:∃u,mg "FIGURES" = some u/\RelV (.str "0123456789") u
 MOST_FIGURES:∃u,mg "MOST_FIGURES" = some u/\RelV (.int 9) u
section
variable {P:Program} {w:World} {K:Fg} {base:Heap}
abbrev aA:List Str:=["number", "words", "place", "asked"]
variable {CA_Row:Addr}
def e9(s:Stmt):List Stmt:=match s with
 | .ClassDef _ _ _ b _ _ _ _ _ _ _=>b
 | _=>[]
abbrev gv:Stmt:=(e9 (top 3)).getD 0 (.Pass ⟨0,0,0,0⟩)
def nZ:FnScope ["self", "row", "word"] ["self", "row", "word"] (aE gv):=⟨rfl,rfl,rfl,by decide +kernel,rfl,by decide +kernel,by decide +kernel⟩
def Aj{Cl D:Addr}(Fn:Fun K "__init__" "NoText.__init__" gv f fd)(c:XC K Cl D f)(hm:mg "NoText" = some (.ref Cl))(hc:XQ K Cl "NoText")(kp:PySem.W.keepIn K (.ref Cl)=true)(na:∀f∈(["row", "word"]:List Str),NoAttr K Cl f)(ex:PySem.W.exmOne K (.ref Cl) (.ref Cl)=some true):CCl P w K mg base "NoText" 1 ["row", "word"] :=
 ⟨Cl,D,f,fd,["self", "row", "word"],c,IP (k:=0) Fn nZ rfl c (na _ (by simp)) (na _ (by simp)) (by decide),(xE Fn λ_ _ _ _ _ _ _ _ _=>rfl),hm,hc,kp,na,ex⟩
abbrev rY:Stmt:=top 0
abbrev Eh:List Str:=["k"]
def AU:FnScope Eh ["k"] (aE rY):=⟨rfl,rfl,rfl,by decide +kernel,rfl,by decide +kernel,by decide +kernel⟩
def xD:M D :=
 .ret .none
def xC(kn1:Unit->M D):M D :=
 bd (oM (ua (.bool true))) λb2=>if b2 then
  kn1 (())
  else xD
def zg(p_k:D):M D :=
 rR (λs3 kn=>xC  kn) 10000 (())
def uN:List D->M D:=λl=>match l with
 | [p_k]=>zg p_k
 | _=>.bad
def By(Fn:Fun K "_wall" "_wall" rY f fd)(hmg:mg "_wall" = some (.ref f))(B:BN mg)(Kn:KN mg)(Kx:KX K mg):CF P w K mg base "_wall" 1 (spD K 1 uN) :=
 ⟨f,fd,["k"],cW (k:=0) Fn AU (λcdv A outer s H E hr =>
  (aD (rP (sh:=[.dead]) (fuel:=10000) PassesOwn.leaving (bG (tO (ao jk) (λ_=>rfl)))
  (aD D9))))
 (λds hl=>(by obtain⟨p_k,rfl⟩:=ln1 hl;kernel_rfl)),hmg,Fn.kp,(pU Fn λ_ _ _ _ _ _ _=>rfl)⟩
abbrev iG:Stmt:=top 9
abbrev vI:List Str:=["word"]
def rX:FnScope vI ["word"] (aE iG):=⟨rfl,rfl,rfl,by decide +kernel,rfl,by decide +kernel,by decide +kernel⟩
abbrev N_number_of_0:List Str:=["word", "sign"]
def lJ:N_number_of_0.Nodup:=by decide +kernel
def dA(gaV:D):M D :=
 bd (bd (bd (oM (cI [gaV])) λx1=>bd (oM (sD (.int 1) x1)) λb2=>if b2 then oM (sD x1 (.int 9))else .ret false) λb3=>.ret (!b3)) λb4=>if b4 then
  .ret .none
  else
  bd (bd (bd (bd (bd (oM (gq gaV)) λl8=>bd (cj (λd5=>bd (bd (oM (jB d5 (.str "0123456789"))) λb6=>.ret (.bool b6)) λx7=>.ret (some x7)) l8) fJ) λl9=>.ret (PyData.list l9)) λx10=>oM (B2 [x10])) λb11=>.ret (!b11)) λb12=>if b12 then
  .ret .none
  else
  bd (bd (bd (oM (bf gaV (.int 0))) λx13=>oM (bC x13 (.str "0"))) λb15=>if b15 then bd (oM (cI [gaV])) λx14=>oM (mV x14 (.int 1))else .ret false) λb16=>if b16 then
  .ret .none
  else
  bd (oM (mQ [gaV])) λx17=>.ret x17
def kH:List D->M D:=λl=>match l with
 | [gaV]=>dA gaV
 | _=>.bad
def sI(Fn:Fun K "number_of" "number_of" iG f fd)(hmg:mg "number_of" = some (.ref f))(B:BN mg)(Kn:KN mg)(Kx:KX K mg):CF P w K mg base "number_of" 1 (spD K 1 kH) :=
 ⟨f,fd,["word"],cW (k:=0) Fn rX (λcdv A outer s H E hr =>
  (aq (cb (bG (pW (pX qW qW qY qY (ao ag) (ao (aO aV bO B.len dr (aF (ao (av 0)) aH))) (ao (nH rfl Kn.MOST_FIGURES.choose_spec.1 Kn.MOST_FIGURES.choose_spec.2 (λ_=>.int _) (by decide))) (by with_unfolding_all rfl))))
  (aD (bg (az e6)))
  bE)
  (aq (cb (bG (pW (tP (CK (Ck rfl) Gp rfl B.all (by decide +kernel) (aF (ao (dU (gp (N':=N_number_of_0) (k:=1) rfl (bT (by kernel_rfl) rfl rfl) (fk (av 0)) (λ_ _ _ _ _=>(bA (i:=1) (show 1<=1 by decide) lJ)) (λ_ _ _ _ _=>dO) (λ_ _ _ _ _=>(Ed (qa (wx (bn hr)) bK (ao (av 1)) (ao (nH rfl Kn.FIGURES.choose_spec.1 Kn.FIGURES.choose_spec.2 (λ_=>.str _) (by decide))))))))) aH) (by decide) (by decide) rfl rfl) (λ_=>rfl))))
  (aD (bg (az e6)))
  bE)
  (aq (cb (bG (rO (xH (aZ (bX (bn hr)) bK (ao (bv aU bt (ao (av 0)) (ao ag))) (ao aK)) (tN (aZ oN oU (ao (aO aV bO B.len dr (aF (ao (av 0)) aH))) (ao ag))))))
  (aD (bg (az e6)))
  bE)
  (aD (bg (az (bP jz nz B.int (by decide +kernel) (aF (ao (av 0)) aH)))))))))
 (λds hl=>(by obtain⟨gaV,rfl⟩:=ln1 hl;kernel_rfl)),hmg,Fn.kp,(pU Fn λ_ _ _ _ _ _ _=>rfl)⟩
abbrev fF:Stmt:=(e9 (top 10)).getD 0 (.Pass ⟨0,0,0,0⟩)
abbrev qi:List Str:=["self", "number", "text"]
def mU:FnScope qi ["self", "number", "text"] (aE fF):=⟨rfl,rfl,rfl,by decide +kernel,rfl,by decide +kernel,by decide +kernel⟩
def dN(gas:List D)(gay:D)(gbt:D):M (D×List D) :=
 bd (bd (onT .str gbt (oM (lZ gbt [(.str " ")]))) λl1=>.ret (PyData.list l1)) λx2=>.ret (.none,(oA ["number", "words", "place"] (oA ["number", "words"] (oA ["number"] (oA [] gas "number" gay) "words" x2) "place" (.int 0)) "asked" (.int 0)))
def iu:List D->List D->M (D×List D):=λgas l=>match l with
 | [gay,gbt]=>dN gas gay gbt
 | _=>.bad
def m6(Fn:Fun K "__init__" "Row.__init__" fF f fd)(hmk:Mk K CA_Row f)(hmg:mg "Row" = some (.ref CA_Row))(B:BN mg)(Kn:KN mg)(Kx:KX K mg)(IC_Row:IC K "Row" CA_Row)(NF_Row:∀f∈aA,NoAttr K CA_Row f):CN P w K mg base CA_Row "Row" 1 (cO K "Row" [] aA 3 iu) :=
 ⟨f,fd,["self", "number", "text"],ja (y := "Row") (ns:=[]) (ms:=aA) (k:=0) Fn mU (λcdv A outer s H E hr =>
  (aq (aL (sh:=[.j "Row" ["number"],.dead,.f]) (nC (i:=0) IC_Row (NF_Row _ (by decide)) rfl (vi rfl) (az (av 1)) rfl))
  (aq (aL (sh:=[.j "Row" ["number", "words"],.dead,.dead]) (nC (i:=0) IC_Row (NF_Row _ (by decide)) rfl (vi rfl) (az (dU (tR (ty:=.str) ot L7 L5 oX (ao (av 2)) (af aK aB) rfl rfl rfl rfl rfl))) rfl))
  (aq (aL (sh:=[.j "Row" ["number", "words", "place"],.dead,.dead]) (nC (i:=0) IC_Row (NF_Row _ (by decide)) rfl (vi rfl) (az ag) rfl))
  (aD (nC (i:=0) IC_Row (NF_Row _ (by decide)) rfl (vi rfl) (az ag) rfl))))))
 (λg ds hl=>(by obtain⟨gay,gbt,rfl⟩:=ln2 (Nat.succ.inj hl);kernel_rfl)),hmk,(xE Fn λ_ _ _ _ _ _ _ _ _=>rfl),hmg⟩
abbrev g7:Stmt:=(e9 (top 10)).getD 1 (.Pass ⟨0,0,0,0⟩)
abbrev t5:List Str:=["self"]
def qm:FnScope t5 ["self"] (aE g7):=⟨rfl,rfl,rfl,by decide +kernel,rfl,by decide +kernel,by decide +kernel⟩
def cA(gas:List D):M (D×List D) :=
 bd (oM (eQ aA gas "number")) λx1=>bd (oM (eQ aA gas "place")) λx2=>.exc ⟨"NoText",[("row",x1),("word",x2)]⟩
def cX:List D->List D->M (D×List D):=λgas l=>match l with
 | []=>cA gas
 | _=>.bad
def qt(Fn:Fun K "refuse" "Row.refuse" g7 f fd)(hme:Meth K CA_Row "refuse" f)(B:BN mg)(Kn:KN mg)(Kx:KX K mg)(IC_Row:IC K "Row" CA_Row)(NF_Row:∀f∈aA,NoAttr K CA_Row f)(X_NoText:CCl P w K mg base "NoText" 1 ["row", "word"]):CM P w K mg base CA_Row "refuse" 3 (cO K "Row" aA aA 1 cX) :=
 ⟨f,fd,["self"],ja (y := "Row") (ns:=aA) (ms:=aA) (k:=2) Fn qm (λcdv A outer s H E hr =>
  (aD (vy X_NoText hr.m rfl (aj (az (mz (i:=0) IC_Row (NF_Row _ (by decide)) rfl (vi rfl) rfl)) (aj (az (mz (i:=0) IC_Row (NF_Row _ (by decide)) rfl (vi rfl) rfl)) aG)) rfl (by decide) (by decide) (cx rfl) rfl)))
 (λg ds hl=>(by obtain rfl:=ln0 (Nat.succ.inj hl);kernel_rfl)),hme,(pU Fn λ_ _ _ _ _ _ _=>rfl)⟩
abbrev fE:Stmt:=(e9 (top 10)).getD 2 (.Pass ⟨0,0,0,0⟩)
abbrev qh:List Str:=["self"]
def mT:FnScope qh ["self"] (aE fE):=⟨rfl,rfl,rfl,by decide +kernel,rfl,by decide +kernel,by decide +kernel⟩
def cp(gas:List D):M (D×List D) :=
 bd (bd (bd (oM (eQ aA gas "place")) λx2=>bd (bd (oM (eQ aA gas "words")) λx1=>oM (cI [x1])) λx3=>oM (gA x2 x3)) λb4=>.ret (.bool b4)) λx5=>.ret (x5,gas)
def db:List D->List D->M (D×List D):=λgas l=>match l with
 | []=>cp gas
 | _=>.bad
def m5(Fn:Fun K "has_more" "Row.has_more" fE f fd)(hme:Meth K CA_Row "has_more" f)(B:BN mg)(Kn:KN mg)(Kx:KX K mg)(IC_Row:IC K "Row" CA_Row)(NF_Row:∀f∈aA,NoAttr K CA_Row f):CM P w K mg base CA_Row "has_more" 1 (cO K "Row" aA aA 1 db) :=
 ⟨f,fd,["self"],ja (y := "Row") (ns:=aA) (ms:=aA) (k:=0) Fn mT (λcdv A outer s H E hr =>
  (aD (bg (az (Ed (qa qV qX (ao (mz (i:=0) IC_Row (NF_Row _ (by decide)) rfl (vi rfl) rfl)) (ao (aO aV bO B.len dr (aF (ao (mz (i:=0) IC_Row (NF_Row _ (by decide)) rfl (vi rfl) rfl)) aH)))))))))
 (λg ds hl=>(by obtain rfl:=ln0 (Nat.succ.inj hl);kernel_rfl)),hme,(pU Fn λ_ _ _ _ _ _ _=>rfl)⟩
abbrev fD:Stmt:=(e9 (top 10)).getD 3 (.Pass ⟨0,0,0,0⟩)
abbrev qg:List Str:=["self"]
def mS:FnScope qg ["self"] (aE fD):=⟨rfl,rfl,rfl,by decide +kernel,rfl,by decide +kernel,by decide +kernel⟩
def dM(gbk:List D):M (D×List D) :=
 bd (bd (oM (eQ aA gbk "words")) λx4=>bd (oM (eQ aA gbk "place")) λx5=>oM (bf x4 x5)) λx6=>.ret (x6,gbk)
def bY(gas:List D):M (D×List D) :=
 bd (cp gas) λr1=>bd (asB r1.1) λb2=>if(!b2)then
  bd (cA r1.2) λr3=>dM r3.2
  else
  dM r1.2
def eX:List D->List D->M (D×List D):=λgas l=>match l with
 | []=>bY gas
 | _=>.bad
def mZ(Fn:Fun K "upcoming" "Row.upcoming" fD f fd)(hme:Meth K CA_Row "upcoming" f)(B:BN mg)(Kn:KN mg)(Kx:KX K mg)(IC_Row:IC K "Row" CA_Row)(NF_Row:∀f∈aA,NoAttr K CA_Row f)(gap:CM P w K mg base CA_Row "has_more" 1 (cO K "Row" aA aA 1 db))(gal:CM P w K mg base CA_Row "refuse" 3 (cO K "Row" aA aA 1 cX)):CM P w K mg base CA_Row "upcoming" 4 (cO K "Row" aA aA 1 eX) :=
 ⟨f,fd,["self"],ja (y := "Row") (ns:=aA) (ms:=aA) (k:=3) Fn mS (λcdv A outer s H E hr =>
  (aq (aL (sh:=[.j "Row" aA]) (cb (Ef (CB (xL (bU (i:=0) IC_Row gap (by decide) hr.m rfl (vi rfl) rfl)) (λ_=>rfl)))
  (aD (eL (bU (i:=0) IC_Row gal (by decide) hr.m rfl (vi rfl) rfl) rfl))
  bE))
  (aD (bg (az (bv aU bt (ao (mz (i:=0) IC_Row (NF_Row _ (by decide)) rfl (vi rfl) rfl)) (ao (mz (i:=0) IC_Row (NF_Row _ (by decide)) rfl (vi rfl) rfl))))))))
 (λg ds hl=>(by obtain rfl:=ln0 (Nat.succ.inj hl);kernel_rfl)),hme,(pU Fn λ_ _ _ _ _ _ _=>rfl)⟩
abbrev eV:Stmt:=(e9 (top 10)).getD 4 (.Pass ⟨0,0,0,0⟩)
abbrev nk:List Str:=["self", "choices", "word"]
def sc_Row_take_word:FnScope nk ["self", "choices"] (aE eV):=⟨rfl,rfl,rfl,by decide +kernel,rfl,by decide +kernel,by decide +kernel⟩
def dm(gbk:List D)(gbF:D):M (D×List D) :=
 Cq (eQ aA gbk "place") λa4=>.ret (gbF,(oA aA gbk "place" (.int (a4+1))))
def bM(gas:List D)(gbl:D):M (D×List D) :=
 bd (bY gas) λr1=>bd (oM (cQ r1.1 gbl)) λb2=>if b2 then
  bd (cA r1.2) λr3=>dm r3.2 r1.1
  else
  dm r1.2 r1.1
def eA:List D->List D->M (D×List D):=λgas l=>match l with
 | [gbl]=>bM gas gbl
 | _=>.bad
def lH(Fn:Fun K "take_word" "Row.take_word" eV f fd)(hme:Meth K CA_Row "take_word" f)(B:BN mg)(Kn:KN mg)(Kx:KX K mg)(IC_Row:IC K "Row" CA_Row)(NF_Row:∀f∈aA,NoAttr K CA_Row f)(gaC:CM P w K mg base CA_Row "upcoming" 4 (cO K "Row" aA aA 1 eX))(gal:CM P w K mg base CA_Row "refuse" 3 (cO K "Row" aA aA 1 cX)):CM P w K mg base CA_Row "take_word" 5 (cO K "Row" aA aA 2 eA) :=
 ⟨f,fd,["self", "choices"],ja (y := "Row") (ns:=aA) (ms:=aA) (k:=4) Fn sc_Row_take_word (λcdv A outer s H E hr =>
  (aq (aL (sh:=[.j "Row" aA,.f,.f]) (aQ (i:=2) sc_Row_take_word.nd (bU (i:=0) IC_Row gaC (by decide) hr.m rfl (vi rfl) rfl)))
  (aq (aL (sh:=[.j "Row" aA,.dead,.f]) (cb (bG (aZ (gN (bn hr)) bK (ao (av 2)) (ao (av 1))))
  (aD (eL (bU (i:=0) IC_Row gal (by decide) hr.m rfl (vi rfl) rfl) rfl))
  bE))
  (aq (aL (sh:=[.j "Row" aA,.dead,.f]) (zq (i:=0) IC_Row (NF_Row _ (by decide)) rfl (vi rfl) (az ag)))
  (aD (bg (az (av 2))))))))
 (λg ds hl=>(by obtain⟨gbl,rfl⟩:=ln1 (Nat.succ.inj hl);kernel_rfl)),hme,(pT Fn λ_ _ _ _ _ _ _ _=>rfl)⟩
abbrev dD:Stmt:=(e9 (top 10)).getD 5 (.Pass ⟨0,0,0,0⟩)
abbrev lA:List Str:=["self", "least", "most", "barred", "number"]
def sc_Row_take_number:FnScope lA ["self", "least", "most", "barred"] (aE dD):=⟨rfl,rfl,rfl,by decide +kernel,rfl,by decide +kernel,by decide +kernel⟩
def cN(gbk:List D)(gbE:D):M (D×List D) :=
 Cq (eQ aA gbk "place") λa9=>.ret (gbE,(oA aA gbk "place" (.int (a9+1))))
def aR(gas:List D)(gbq:D)(gbz:D)(gaQ:D):M (D×List D) :=
 bd (bY gas) λr1=>bd (dA r1.1) λr2=>bd (bd (oM (jF r2 .none)) λb6=>if b6 then .ret true else bd (bd (bd (oM (sD gbq r2)) λb3=>if b3 then oM (sD r2 gbz)else .ret false) λb4=>.ret (!b4)) λb5=>if b5 then .ret true else oM (jB r2 gaQ)) λb7=>if b7 then
  bd (cA r1.2) λr8=>cN r8.2 r2
  else
  cN r1.2 r2
def cz:List D->List D->M (D×List D):=λgas l=>match l with
 | [gbq,gbz,gaQ]=>aR gas gbq gbz gaQ
 | _=>.bad
def jU(Fn:Fun K "take_number" "Row.take_number" dD f fd)(hme:Meth K CA_Row "take_number" f)(B:BN mg)(Kn:KN mg)(Kx:KX K mg)(IC_Row:IC K "Row" CA_Row)(NF_Row:∀f∈aA,NoAttr K CA_Row f)(gbc:CF P w K mg base "number_of" 1 (spD K 1 kH))(gaC:CM P w K mg base CA_Row "upcoming" 4 (cO K "Row" aA aA 1 eX))(gal:CM P w K mg base CA_Row "refuse" 3 (cO K "Row" aA aA 1 cX)):CM P w K mg base CA_Row "take_number" 5 (cO K "Row" aA aA 4 cz) :=
 ⟨f,fd,["self", "least", "most", "barred"],ja (y := "Row") (ns:=aA) (ms:=aA) (k:=4) Fn sc_Row_take_number (λcdv A outer s H E hr =>
  (aq (aL (sh:=[.j "Row" aA,.f,.f,.f,.f]) (aQ (i:=4) sc_Row_take_number.nd (Jg gbc hr.m (aj (bU (i:=0) IC_Row gaC (by decide) hr.m rfl (vi rfl) rfl) aG))))
  (aq (aL (sh:=[.j "Row" aA,.dead,.dead,.dead,.f]) (cb (bG (rO (vv (aZ sB bK (ao (av 4)) (ao e6)) (vv (pW (pX qW qW qY qY (ao (av 1)) (ao (av 4)) (ao (av 2)) (by with_unfolding_all rfl))) (xG (aZ (wx (bn hr)) bK (ao (av 4)) (ao (av 3))))))))
  (aD (eL (bU (i:=0) IC_Row gal (by decide) hr.m rfl (vi rfl) rfl) rfl))
  bE))
  (aq (aL (sh:=[.j "Row" aA,.dead,.dead,.dead,.f]) (zq (i:=0) IC_Row (NF_Row _ (by decide)) rfl (vi rfl) (az ag)))
  (aD (bg (az (av 4))))))))
 (λg ds hl=>(by obtain⟨gbq,gbz,gaQ,rfl⟩:=ln3 (Nat.succ.inj hl);kernel_rfl)),hme,(GZ Fn λ_ _ _ _ _ _ _ _ _ _=>rfl)⟩
abbrev dZ:Stmt:=(e9 (top 10)).getD 6 (.Pass ⟨0,0,0,0⟩)
abbrev mC:List Str:=["self", "sorts", "fewest", "barred"]
def kg:FnScope mC ["self", "sorts", "fewest", "barred"] (aE dZ):=⟨rfl,rfl,rfl,by decide +kernel,rfl,by decide +kernel,by decide +kernel⟩
def mw(gas:List D)(gbu:D)(gbr:D)(gaQ:D):M (D×List D) :=
 bd (zg (.int 0)) λx1=>.ret (.none,gas)
def kO:List D->List D->M (D×List D):=λgas l=>match l with
 | [gbu,gbr,gaQ]=>mw gas gbu gbr gaQ
 | _=>.bad
def ky(Fn:Fun K "take_sorts" "Row.take_sorts" dZ f fd)(hme:Meth K CA_Row "take_sorts" f)(B:BN mg)(Kn:KN mg)(Kx:KX K mg)(IC_Row:IC K "Row" CA_Row)(NF_Row:∀f∈aA,NoAttr K CA_Row f)(gbv:CF P w K mg base "_wall" 1 (spD K 1 uN)):CM P w K mg base CA_Row "take_sorts" 2 (cO K "Row" aA aA 4 kO) :=
 ⟨f,fd,["self", "sorts", "fewest", "barred"],ja (y := "Row") (ns:=aA) (ms:=aA) (k:=1) Fn kg (λcdv A outer s H E hr =>
  (aD (eL (az (dP gbv hr.m (af ag aB))) rfl)))
 (λg ds hl=>(by obtain⟨gbu,gbr,gaQ,rfl⟩:=ln3 (Nat.succ.inj hl);kernel_rfl)),hme,(GZ Fn λ_ _ _ _ _ _ _ _ _ _=>rfl)⟩
abbrev g8:Stmt:=(e9 (top 10)).getD 7 (.Pass ⟨0,0,0,0⟩)
abbrev t6:List Str:=["self"]
def qo:FnScope t6 ["self"] (aE g8):=⟨rfl,rfl,rfl,by decide +kernel,rfl,by decide +kernel,by decide +kernel⟩
def cB(gas:List D):M (D×List D) :=
 bd (cp gas) λr1=>bd (asB r1.1) λb2=>if b2 then
  bd (cA r1.2) λr3=>.ret (.none,r3.2)
  else
  .ret (.none,r1.2)
def cY:List D->List D->M (D×List D):=λgas l=>match l with
 | []=>cB gas
 | _=>.bad
def qu(Fn:Fun K "finish" "Row.finish" g8 f fd)(hme:Meth K CA_Row "finish" f)(B:BN mg)(Kn:KN mg)(Kx:KX K mg)(IC_Row:IC K "Row" CA_Row)(NF_Row:∀f∈aA,NoAttr K CA_Row f)(gap:CM P w K mg base CA_Row "has_more" 1 (cO K "Row" aA aA 1 db))(gal:CM P w K mg base CA_Row "refuse" 3 (cO K "Row" aA aA 1 cX)):CM P w K mg base CA_Row "finish" 4 (cO K "Row" aA aA 1 cY) :=
 ⟨f,fd,["self"],ja (y := "Row") (ns:=aA) (ms:=aA) (k:=3) Fn qo (λcdv A outer s H E hr =>
  (aD (cb (CB (xL (bU (i:=0) IC_Row gap (by decide) hr.m rfl (vi rfl) rfl)) (λ_=>rfl))
  (aD (eL (bU (i:=0) IC_Row gal (by decide) hr.m rfl (vi rfl) rfl) rfl))
  bE)))
 (λg ds hl=>(by obtain rfl:=ln0 (Nat.succ.inj hl);kernel_rfl)),hme,(pU Fn λ_ _ _ _ _ _ _=>rfl)⟩
abbrev iH:Stmt:=top 12
abbrev vJ:List Str:=["rows", "number", "word", "row"]
def sc_begun_row:FnScope vJ ["rows", "number", "word"] (aE iH):=⟨rfl,rfl,rfl,by decide +kernel,rfl,by decide +kernel,by decide +kernel⟩
def cM(gar:D)(gay:D)(gaV:D):M (List D) :=
 bd (bd (oM (cI [gar])) λx1=>oM (uG gay x1)) λb2=>if b2 then
  bd (oM (cI [gar])) λx3=>.exc ⟨"NoText",[("row",x3),("word",(.int 0))]⟩
  else
  bd (oM (bf gar gay)) λx4=>Gv (dN [] gay x4) λl5=>bd (bM l5 (.tuple [gaV])) λr6=>.ret r6.2
def dF:List D->M (List D):=λl=>match l with
 | [gar,gay,gaV]=>cM gar gay gaV
 | _=>.bad
def sL(Fn:Fun K "begun_row" "begun_row" iH f fd)(hmg:mg "begun_row" = some (.ref f))(B:BN mg)(Kn:KN mg)(Kx:KX K mg)(IC_Row:IC K "Row" CA_Row)(NF_Row:∀f∈aA,NoAttr K CA_Row f)(gaS:CN P w K mg base CA_Row "Row" 1 (cO K "Row" [] aA 3 iu))(gaz:CM P w K mg base CA_Row "take_word" 5 (cO K "Row" aA aA 2 eA))(X_NoText:CCl P w K mg base "NoText" 1 ["row", "word"]):CF P w K mg base "begun_row" 6 (uh K "Row" aA 3 dF) :=
 ⟨f,fd,["rows", "number", "word"],DQ (k:=5) Fn sc_begun_row (λcdv A outer s H E hr =>
  (aq (cb (bG (aZ yy yB (ao (av 1)) (ao (aO aV bO B.len dr (aF (ao (av 0)) aH)))))
  (aD (vy X_NoText hr.m rfl (aj (az (aO aV bO B.len dr (aF (ao (av 0)) aH))) (aj (az ag) aG)) rfl (by decide) (by decide) (cx rfl) rfl))
  bE)
  (aq (aL (sh:=[.dead,.dead,.f,.i "Row" aA]) (Ea (j:=3) IC_Row gaS hr.m rfl (aj (az (av 1)) (aj (az (bv aU bt (ao (av 0)) (ao (av 1)))) aG)) rfl (by decide) (cx rfl) rfl sc_begun_row.nd rfl (lo rfl) rfl (.inl rfl)))
  (aq (aL (sh:=[.dead,.dead,.dead,.i "Row" aA]) (eL (dR (i:=3) IC_Row gaz (by decide) hr.m rfl (vi rfl) (aj (az (aS (af (av 2) aB))) aG) rfl (cx rfl) rfl rfl) rfl))
  (aD (D7 (i:=3) rfl (vi rfl)))))))
 (λds hl=>(by obtain⟨gar,gay,gaV,rfl⟩:=ln3 hl;kernel_rfl)),hmg,Fn.kp,(xE Fn λ_ _ _ _ _ _ _ _ _=>rfl)⟩
abbrev gZ:Stmt:=top 13
abbrev tY:List Str:=["rows", "row", "rooms"]
def sc_read_rooms:FnScope tY ["rows"] (aE gZ):=⟨rfl,rfl,rfl,by decide +kernel,rfl,by decide +kernel,by decide +kernel⟩
def fg(gar:D):M D :=
 bd (cM gar (.int 0) (.str "rooms")) λl1=>bd (aR l1 (.int 1) (.int 40) (.tuple [])) λr2=>bd (cB r2.2) λr3=>.ret r2.1
def jI:List D->M D:=λl=>match l with
 | [gar]=>fg gar
 | _=>.bad
def qq(Fn:Fun K "read_rooms" "read_rooms" gZ f fd)(hmg:mg "read_rooms" = some (.ref f))(B:BN mg)(Kn:KN mg)(Kx:KX K mg)(IC_Row:IC K "Row" CA_Row)(NF_Row:∀f∈aA,NoAttr K CA_Row f)(gat:CF P w K mg base "begun_row" 6 (uh K "Row" aA 3 dF))(gah:CM P w K mg base CA_Row "take_number" 5 (cO K "Row" aA aA 4 cz))(gam:CM P w K mg base CA_Row "finish" 4 (cO K "Row" aA aA 1 cY)):CF P w K mg base "read_rooms" 7 (spD K 1 jI) :=
 ⟨f,fd,["rows"],cW (k:=6) Fn sc_read_rooms (λcdv A outer s H E hr =>
  (aq (aL (sh:=[.dead,.i "Row" aA,.dead]) (nE (j:=1) gat hr.m sc_read_rooms.nd (aj (az (av 0)) (aj (az ag) (aj (az aK) aG)))))
  (aq (aL (sh:=[.dead,.i "Row" aA,.f]) (aQ (i:=2) sc_read_rooms.nd (dR (i:=1) IC_Row gah (by decide) hr.m rfl (vi rfl) (aj (az ag) (aj (az (nH rfl Kn.MOST_ROOMS.choose_spec.1 Kn.MOST_ROOMS.choose_spec.2 (λ_=>.int _) (by decide))) (aj (az (aS aB)) aG))) rfl (cx rfl) rfl rfl)))
  (aq (aL (sh:=[.dead,.dead,.f]) (eL (bU (i:=1) IC_Row gam (by decide) hr.m rfl (vi rfl) rfl) rfl))
  (aD (bg (az (av 2))))))))
 (λds hl=>(by obtain⟨gar,rfl⟩:=ln1 hl;kernel_rfl)),hmg,Fn.kp,(pU Fn λ_ _ _ _ _ _ _=>rfl)⟩
abbrev gs:Stmt:=top 14
abbrev qA:List Str:=["rows", "rooms", "row", "starts"]
def sc_read_starts:FnScope qA ["rows", "rooms"] (aE gs):=⟨rfl,rfl,rfl,by decide +kernel,rfl,by decide +kernel,by decide +kernel⟩
def cS(gaL:D)(gbw:List D)(gaH:List D):M D :=
 bd (cB gbw) λr4=>bd (oM (cF [(PyData.list gaH)])) λx5=>.ret x5
def cR(gaL:D)(gbw:List D)(gaH:List D)(kn6:D×List D×List D×Unit->M D):M D :=
 bd (cp gbw) λr7=>bd (asB r7.1) λb8=>if b8 then bd (bd (oM (cI [(PyData.list gaH)])) λx9=>oM (gA x9 (.int 4))) λb10=>if b10 then
  bd (oM (cU gaL (.int 1))) λx11=>bd (aR r7.2 (.int 0) x11 (.tuple [])) λr12=>bd (oM (lR gaH [r12.1])) λl13=>kn6 (gaL,r12.2,l13,())
  else cS gaL r7.2 gaH else if false then
  bd (oM (cU gaL (.int 1))) λx14=>bd (aR r7.2 (.int 0) x14 (.tuple [])) λr15=>bd (oM (lR gaH [r15.1])) λl16=>kn6 (gaL,r15.2,l16,())
  else cS gaL r7.2 gaH
def eJ(gar:D)(gaE:D):M D :=
 bd (cM gar (.int 1) (.str "starts")) λl1=>bd (oM (cU gaE (.int 1))) λx2=>bd (aR l1 (.int 0) x2 (.tuple [])) λr3=>rR (λs17 kn=>cR s17.1 s17.2.1 s17.2.2.1 kn) 10000 (gaE,r3.2,[r3.1],())
def iV:List D->M D:=λl=>match l with
 | [gar,gaE]=>eJ gar gaE
 | _=>.bad
def oR(Fn:Fun K "read_starts" "read_starts" gs f fd)(hmg:mg "read_starts" = some (.ref f))(B:BN mg)(Kn:KN mg)(Kx:KX K mg)(IC_Row:IC K "Row" CA_Row)(NF_Row:∀f∈aA,NoAttr K CA_Row f)(gat:CF P w K mg base "begun_row" 6 (uh K "Row" aA 3 dF))(gam:CM P w K mg base CA_Row "finish" 4 (cO K "Row" aA aA 1 cY))(gah:CM P w K mg base CA_Row "take_number" 5 (cO K "Row" aA aA 4 cz))(gap:CM P w K mg base CA_Row "has_more" 1 (cO K "Row" aA aA 1 db)):CF P w K mg base "read_starts" 7 (spD K 2 iV) :=
 ⟨f,fd,["rows", "rooms"],cW (k:=6) Fn sc_read_starts (λcdv A outer s H E hr =>
  (aq (aL (sh:=[.dead,.f,.i "Row" aA,.dead]) (nE (j:=2) gat hr.m sc_read_starts.nd (aj (az (av 0)) (aj (az ag) (aj (az aK) aG)))))
  (aq (aL (sh:=[.dead,.f,.i "Row" aA,.o]) (gj (i:=3) sc_read_starts.nd (lm (aj (dR (i:=2) IC_Row gah (by decide) hr.m rfl (vi rfl) (aj (az ag) (aj (az (aJ d6 d9 (ao (av 1)) (ao ag))) (aj (az (aS aB)) aG))) rfl (cx rfl) rfl rfl) aG))))
  (aq (rP (sh:=[.dead,.f,.i "Row" aA,.o]) (fuel:=10000) PassesOwn.leaving (CC (zt (CB (xL (bU (i:=2) IC_Row gap (by decide) hr.m rfl (vi rfl) rfl)) (λ_=>rfl)) (vC (bG (aZ qV qX (ao (aO aV bO B.len dr (aF (cg (i:=3)) aH))) (ao (nH rfl Kn.MOST_SORTS.choose_spec.1 Kn.MOST_SORTS.choose_spec.2 (λ_=>.int _) (by decide))))))))
  (aD (ik (i:=3) rfl (vi rfl) (aj (dR (i:=2) IC_Row gah (by decide) hr.m rfl (vi rfl) (aj (az ag) (aj (az (aJ d6 d9 (ao (av 1)) (ao ag))) (aj (az (aS aB)) aG))) rfl (cx rfl) rfl rfl) aG) rfl rfl rfl rfl rfl rfl)))
  (aq (aL (sh:=[.dead,.dead,.dead,.o]) (eL (bU (i:=2) IC_Row gam (by decide) hr.m rfl (vi rfl) rfl) rfl))
  (aD (bg (az (bP bq cn B.tuple (by decide +kernel) (aF (cg (i:=3)) aH))))))))))
 (λds hl=>(by obtain⟨gar,gaE,rfl⟩:=ln2 hl;kernel_rfl)),hmg,Fn.kp,(pT Fn λ_ _ _ _ _ _ _ _=>rfl)⟩
abbrev iE:Stmt:=top 15
abbrev vG:List Str:=["rows", "rooms", "row", "truths", "room"]
def sc_read_says:FnScope vG ["rows", "rooms"] (aE iE):=⟨rfl,rfl,rfl,by decide +kernel,rfl,by decide +kernel,by decide +kernel⟩
def fM(gbw:List D)(gbs:List D):M D :=
 bd (cB gbw) λr3=>bd (oM (cF [(PyData.list gbs)])) λx4=>.ret x4
def fL(gbw:List D)(gbs:List D)(d_:D)(kn5:List D×List D×Unit->M D):M D :=
 bd (bM gbw (.tuple [(.str "yes"),(.str "no")])) λr6=>bd (oM (bC r6.1 (.str "yes"))) λb7=>bd (oM (lR gbs [(.bool b7)])) λl8=>kn5 (r6.2,l8,())
def gb(gar:D)(gaE:D):M D :=
 bd (cM gar (.int 2) (.str "says")) λl1=>bd (oM (bZ [gaE])) λl2=>jC (λs9 d10 kn=>fL s9.1 s9.2.1 d10 kn) l2 (l1,[],()) (λs9=>fM s9.1 s9.2.1)
def kF:List D->M D:=λl=>match l with
 | [gar,gaE]=>gb gar gaE
 | _=>.bad
def sG(Fn:Fun K "read_says" "read_says" iE f fd)(hmg:mg "read_says" = some (.ref f))(B:BN mg)(Kn:KN mg)(Kx:KX K mg)(IC_Row:IC K "Row" CA_Row)(NF_Row:∀f∈aA,NoAttr K CA_Row f)(gat:CF P w K mg base "begun_row" 6 (uh K "Row" aA 3 dF))(gam:CM P w K mg base CA_Row "finish" 4 (cO K "Row" aA aA 1 cY))(gaz:CM P w K mg base CA_Row "take_word" 5 (cO K "Row" aA aA 2 eA)):CF P w K mg base "read_says" 7 (spD K 2 kF) :=
 ⟨f,fd,["rows", "rooms"],cW (k:=6) Fn sc_read_says (λcdv A outer s H E hr =>
  (aq (aL (sh:=[.dead,.f,.i "Row" aA,.dead,.dead]) (nE (j:=2) gat hr.m sc_read_says.nd (aj (az (av 0)) (aj (az ag) (aj (az aK) aG)))))
  (aq (aL (sh:=[.dead,.f,.i "Row" aA,.o,.dead]) (gj (i:=3) sc_read_says.nd (jm (cq aB))))
  (aq (eK (sh:=[.dead,.dead,.i "Row" aA,.o,.dead]) PassesOwn.leaving rfl (dQ (dC rfl B.range (af (av 1) aB) rfl)) (bA (i:=4) (di _) sc_read_says.nd)
  (aD (ik (i:=3) rfl (vi rfl) (aj (Hd (tT (bX (bn hr)) bK (dR (i:=2) IC_Row gaz (by decide) hr.m rfl (vi rfl) (aj (az (aS (af aK (af aK aB)))) aG) rfl (cx rfl) rfl rfl) (az aK) rfl)) aG) rfl rfl rfl rfl rfl rfl)))
  (aq (aL (sh:=[.dead,.dead,.dead,.o,.dead]) (eL (bU (i:=2) IC_Row gam (by decide) hr.m rfl (vi rfl) rfl) rfl))
  (aD (bg (az (bP bq cn B.tuple (by decide +kernel) (aF (cg (i:=3)) aH))))))))))
 (λds hl=>(by obtain⟨gar,gaE,rfl⟩:=ln2 hl;kernel_rfl)),hmg,Fn.kp,(pT Fn λ_ _ _ _ _ _ _ _=>rfl)⟩
abbrev gY:Stmt:=top 17
abbrev tX:List Str:=["a", "b", "c"]
def ql:FnScope tX ["a", "b", "c"] (aE gY):=⟨rfl,rfl,rfl,by decide +kernel,rfl,by decide +kernel,by decide +kernel⟩
abbrev N_unchanging_0:List Str:=["a", "b", "c", "d"]
def kz:N_unchanging_0.Nodup:=by decide +kernel
def fc(p_a:D)(p_b:D)(p_c:D):M D :=
 bd (bd (bd (oM (gq (.tuple [p_a,p_b]))) λl3=>bd (cj (λd1=>bd (oM (jB (.tuple [p_c,d1]) (.tuple [(.tuple [p_a,p_b]),(.tuple [p_b,p_a])]))) λb2=>if b2 then .ret (some d1)else .ret none) l3) fJ) λl4=>.ret (PyData.list l4)) λx5=>.ret x5
def jH:List D->M D:=λl=>match l with
 | [p_a,p_b,p_c]=>fc p_a p_b p_c
 | _=>.bad
def qp(Fn:Fun K "unchanging" "unchanging" gY f fd)(hmg:mg "unchanging" = some (.ref f))(B:BN mg)(Kn:KN mg)(Kx:KX K mg):CF P w K mg base "unchanging" 1 (spD K 3 jH) :=
 ⟨f,fd,["a", "b", "c"],cW (k:=0) Fn ql (λcdv A outer s H E hr =>
  (aD (bg (az (dU (gp (N':=N_unchanging_0) (k:=1) rfl (bT (by kernel_rfl) rfl rfl) (fk (aS (af (av 0) (af (av 1) aB)))) (λ_ _ _ _ _=>(bA (i:=3) (show 3<=3 by decide) kz)) (λ_ _ _ _ _=>(zm (aZ (wx (bn hr)) bK (ao (aS (af (av 2) (af (av 3) aB)))) (ao (aS (af (aS (af (av 0) (af (av 1) aB))) (af (aS (af (av 1) (af (av 0) aB))) aB))))))) (λ_ _ _ _ _=>(av 3))))))))
 (λds hl=>(by obtain⟨p_a,p_b,p_c,rfl⟩:=ln3 hl;kernel_rfl)),hmg,Fn.kp,(xE Fn λ_ _ _ _ _ _ _ _ _=>rfl)⟩
abbrev fy:Stmt:=top 16
abbrev qc:List Str:=["rows", "number", "rooms", "ahead", "row", "a", "least", "b", "c", "d"]
def sc_read_meeting:FnScope qc ["rows", "number", "rooms", "ahead"] (aE fy):=⟨rfl,rfl,rfl,by decide +kernel,rfl,by decide +kernel,by decide +kernel⟩
def dI(gar:D)(gay:D)(gaE:D)(gbn:D):M D :=
 bd (cM gar gay (.str "meet")) λl1=>bd (oM (bf gbn (.int 0))) λx2=>bd (oM (cU gaE (.int 1))) λx3=>bd (aR l1 x2 x3 (.tuple [])) λr4=>bd (bd (bd (oM (bf gbn (.int 0))) λx5=>oM (bC r4.1 x5)) λb7=>if b7 then bd (oM (bf gbn (.int 1))) λx6=>oM (aP x6 (.int 1))else .ret r4.1) λx8=>bd (oM (cU gaE (.int 1))) λx9=>bd (aR r4.2 x8 x9 (.tuple [])) λr10=>bd (oM (cU gaE (.int 1))) λx11=>bd (aR r10.2 (.int 0) x11 (.tuple [])) λr12=>bd (oM (cU gaE (.int 1))) λx13=>bd (fc r4.1 r10.1 r12.1) λx14=>bd (aR r12.2 (.int 0) x13 x14) λr15=>bd (cB r15.2) λr16=>.ret (.tuple [r4.1,r10.1,r12.1,r15.1])
def im:List D->M D:=λl=>match l with
 | [gar,gay,gaE,gbn]=>dI gar gay gaE gbn
 | _=>.bad
def mW(Fn:Fun K "read_meeting" "read_meeting" fy f fd)(hmg:mg "read_meeting" = some (.ref f))(B:BN mg)(Kn:KN mg)(Kx:KX K mg)(IC_Row:IC K "Row" CA_Row)(NF_Row:∀f∈aA,NoAttr K CA_Row f)(gat:CF P w K mg base "begun_row" 6 (uh K "Row" aA 3 dF))(gah:CM P w K mg base CA_Row "take_number" 5 (cO K "Row" aA aA 4 cz))(gam:CM P w K mg base CA_Row "finish" 4 (cO K "Row" aA aA 1 cY))(ga4:CF P w K mg base "unchanging" 1 (spD K 3 jH)):CF P w K mg base "read_meeting" 7 (spD K 4 im) :=
 ⟨f,fd,["rows", "number", "rooms", "ahead"],cW (k:=6) Fn sc_read_meeting (λcdv A outer s H E hr =>
  (aq (aL (sh:=[.dead,.dead,.f,.f,.i "Row" aA,.dead,.dead,.dead,.dead,.dead]) (nE (j:=4) gat hr.m sc_read_meeting.nd (aj (az (av 0)) (aj (az (av 1)) (aj (az aK) aG)))))
  (aq (aL (sh:=[.dead,.dead,.f,.f,.i "Row" aA,.f,.dead,.dead,.dead,.dead]) (aQ (i:=5) sc_read_meeting.nd (dR (i:=4) IC_Row gah (by decide) hr.m rfl (vi rfl) (aj (az (bv aU bt (ao (av 3)) (ao ag))) (aj (az (aJ d6 d9 (ao (av 2)) (ao ag))) (aj (az (aS aB)) aG))) rfl (cx rfl) rfl rfl)))
  (aq (aL (sh:=[.dead,.dead,.f,.dead,.i "Row" aA,.f,.f,.dead,.dead,.dead]) (aQ (i:=6) sc_read_meeting.nd (az (gm (aZ (bX (bn hr)) bK (ao (av 5)) (ao (bv aU bt (ao (av 3)) (ao ag)))) (aJ aM aW (ao (bv aU bt (ao (av 3)) (ao ag))) (ao ag)) (av 5)))))
  (aq (aL (sh:=[.dead,.dead,.f,.dead,.i "Row" aA,.f,.dead,.f,.dead,.dead]) (aQ (i:=7) sc_read_meeting.nd (dR (i:=4) IC_Row gah (by decide) hr.m rfl (vi rfl) (aj (az (av 6)) (aj (az (aJ d6 d9 (ao (av 2)) (ao ag))) (aj (az (aS aB)) aG))) rfl (cx rfl) rfl rfl)))
  (aq (aL (sh:=[.dead,.dead,.f,.dead,.i "Row" aA,.f,.dead,.f,.f,.dead]) (aQ (i:=8) sc_read_meeting.nd (dR (i:=4) IC_Row gah (by decide) hr.m rfl (vi rfl) (aj (az ag) (aj (az (aJ d6 d9 (ao (av 2)) (ao ag))) (aj (az (aS aB)) aG))) rfl (cx rfl) rfl rfl)))
  (aq (aL (sh:=[.dead,.dead,.dead,.dead,.i "Row" aA,.f,.dead,.f,.f,.f]) (aQ (i:=9) sc_read_meeting.nd (dR (i:=4) IC_Row gah (by decide) hr.m rfl (vi rfl) (aj (az ag) (aj (az (aJ d6 d9 (ao (av 2)) (ao ag))) (aj (az (dP ga4 hr.m (af (av 5) (af (av 7) (af (av 8) aB))))) aG))) rfl (cx rfl) rfl rfl)))
  (aq (aL (sh:=[.dead,.dead,.dead,.dead,.dead,.f,.dead,.f,.f,.f]) (eL (bU (i:=4) IC_Row gam (by decide) hr.m rfl (vi rfl) rfl) rfl))
  (aD (bg (az (aS (af (av 5) (af (av 7) (af (av 8) (af (av 9) aB))))))))))))))))
 (λds hl=>(by obtain⟨gar,gay,gaE,gbn,rfl⟩:=ln4 hl;kernel_rfl)),hmg,Fn.kp,(GZ Fn λ_ _ _ _ _ _ _ _ _ _=>rfl)⟩
abbrev iF:Stmt:=top 11
abbrev vH:List Str:=["rows", "rooms", "starts", "says", "meets", "ahead", "number", "meeting"]
def sc_read_rule:FnScope vH ["rows"] (aE iF):=⟨rfl,rfl,rfl,by decide +kernel,rfl,by decide +kernel,by decide +kernel⟩
def fO(gbB:D)(gaL:D)(gaH:D)(gbC:D)(gbx:List D)(gbD:D):M D :=
 bd (bd (oM (cF [(PyData.list gbx)])) λx8=>.ret (.tuple [gaL,gaH,x8,gbC])) λx9=>.ret x9
def fN(gbB:D)(gaL:D)(gaH:D)(gbC:D)(gbx:List D)(gbD:D)(d_:D)(kn10:D×D×D×D×List D×D×Unit->M D):M D :=
 bd (dI gbB d_ gaL gbD) λx11=>bd (oM (lR gbx [x11])) λl12=>bd (bd (asI (.int 2)) λhi13=>oM (bI x11 none hi13)) λx14=>kn10 (gbB,gaL,gaH,gbC,l12,x14,())
def gc(gar:D):M D :=
 bd (fg gar) λx1=>bd (eJ gar x1) λx2=>bd (gb gar x1) λx3=>bd (bd (oM (gO (.int 1))) λx4=>.ret (.tuple [(.int 0),x4])) λx5=>bd (bd (oM (cI [gar])) λx6=>oM (eH [(.int 3),x6])) λl7=>jC (λs15 d16 kn=>fN s15.1 s15.2.1 s15.2.2.1 s15.2.2.2.1 s15.2.2.2.2.1 s15.2.2.2.2.2.1 d16 kn) l7 (gar,x1,x2,x3,[],x5,()) (λs15=>fO s15.1 s15.2.1 s15.2.2.1 s15.2.2.2.1 s15.2.2.2.2.1 s15.2.2.2.2.2.1)
def kG:List D->M D:=λl=>match l with
 | [gar]=>gc gar
 | _=>.bad
def sH(Fn:Fun K "read_rule" "read_rule" iF f fd)(hmg:mg "read_rule" = some (.ref f))(B:BN mg)(Kn:KN mg)(Kx:KX K mg)(ga5:CF P w K mg base "read_rooms" 7 (spD K 1 jI))(gaX:CF P w K mg base "read_starts" 7 (spD K 2 iV))(gbd:CF P w K mg base "read_says" 7 (spD K 2 kF))(gaT:CF P w K mg base "read_meeting" 7 (spD K 4 im)):CF P w K mg base "read_rule" 8 (spD K 1 kG) :=
 ⟨f,fd,["rows"],cW (k:=7) Fn sc_read_rule (λcdv A outer s H E hr =>
  (aq (aL (sh:=[.f,.f,.dead,.dead,.dead,.dead,.dead,.dead]) (aQ (i:=1) sc_read_rule.nd (az (dP ga5 hr.m (af (av 0) aB)))))
  (aq (aL (sh:=[.f,.f,.f,.dead,.dead,.dead,.dead,.dead]) (aQ (i:=2) sc_read_rule.nd (az (dP gaX hr.m (af (av 0) (af (av 1) aB))))))
  (aq (aL (sh:=[.f,.f,.f,.f,.dead,.dead,.dead,.dead]) (aQ (i:=3) sc_read_rule.nd (az (dP gbd hr.m (af (av 0) (af (av 1) aB))))))
  (aq (aL (sh:=[.f,.f,.f,.f,.o,.dead,.dead,.dead]) (gj (i:=4) sc_read_rule.nd (jm (cq aB))))
  (aq (aL (sh:=[.f,.f,.f,.f,.o,.f,.dead,.dead]) (aQ (i:=5) sc_read_rule.nd (az (aS (af ag (af (zr rS sJ (ao ag)) aB))))))
  (aq (eK (sh:=[.f,.f,.f,.f,.o,.f,.dead,.dead]) PassesOwn.leaving rfl (dQ (mB rfl B.range (af ag (af (aO aV bO B.len dr (aF (ao (av 0)) aH)) aB)) rfl rfl)) (bA (i:=6) (di _) sc_read_rule.nd)
  (aq (aL (sh:=[.f,.f,.f,.f,.o,.dead,.dead,.f]) (aQ (i:=7) sc_read_rule.nd (az (dP gaT hr.m (af (av 0) (af (av 6) (af (av 1) (af (av 5) aB))))))))
  (aq (aL (sh:=[.f,.f,.f,.f,.o,.dead,.dead,.f]) (ik (i:=4) rfl (vi rfl) (aj (az (av 7)) aG) rfl rfl rfl rfl rfl rfl))
  (aD (aQ (i:=5) sc_read_rule.nd (az (bh (ao (av 7)) bF (bm ag))))))))
  (aD (bg (az (aS (af (av 1) (af (av 2) (af (bP bq cn B.tuple (by decide +kernel) (aF (cg (i:=4)) aH)) (af (av 3) aB)))))))))))))))
 (λds hl=>(by obtain⟨gar,rfl⟩:=ln1 hl;kernel_rfl)),hmg,Fn.kp,(pU Fn λ_ _ _ _ _ _ _=>rfl)⟩
abbrev iO:Stmt:=top 19
abbrev vP:List Str:=["_law_script", "_law_k", "_law_cell", "_law_great_here"]
def sc__law_feed:FnScope vP ["_law_script", "_law_k"] (aE iO):=⟨rfl,rfl,rfl,by decide +kernel,rfl,by decide +kernel,by decide +kernel⟩
def gg(gan:D)(gbp:D):M (List D) :=
 bd (bd (bd (oM (cI [gan])) λx1=>oM (mV x1 (.int 0))) λb4=>if b4 then bd (bd (oM (cI [gan])) λx2=>oM (iU gbp x2)) λx3=>oM (bf gan x3)else .ret (.int 0)) λx5=>bd (bd (bd (oM (wW [x5])) λx6=>bd (oM (uF (.int 10) (.int 18))) λx7=>oM (uG x6 x7)) λb8=>if b8 then oM (wW [x5])else .ret (.int 0)) λx9=>bd (bd (bd (oM (iU x5 (.int 1000003))) λx10=>bd (oM (gz (.int 7919) gbp)) λx11=>oM (aP x10 x11)) λx12=>.ret [x9,x12,(.int 0)]) λl13=>.ret l13
def kM:List D->M (List D):=λl=>match l with
 | [gan,gbp]=>gg gan gbp
 | _=>.bad
def sR(Fn:Fun K "_law_feed" "_law_feed" iO f fd)(hmg:mg "_law_feed" = some (.ref f))(B:BN mg)(Kn:KN mg)(Kx:KX K mg):CF P w K mg base "_law_feed" 1 (spL K 2 kM) :=
 ⟨f,fd,["_law_script", "_law_k"],GR (k:=0) Fn sc__law_feed (λcdv A outer s H E hr =>
  (aq (aL (sh:=[.dead,.f,.f,.dead]) (aQ (i:=2) sc__law_feed.nd (az (gm (aZ oN oU (ao (aO aV bO B.len dr (aF (ao (av 0)) aH))) (ao ag)) (bv aU bt (ao (av 0)) (ao (aJ jS jT (ao (av 1)) (ao (aO aV bO B.len dr (aF (ao (av 0)) aH)))))) ag))))
  (aq (aL (sh:=[.dead,.f,.f,.f]) (aQ (i:=3) sc__law_feed.nd (az (gm (aZ yy yB (ao (aO vm Bx B.abs (by decide +kernel) (aF (ao (av 2)) aH))) (ao (aJ Gi Gm (ao ag) (ao ag)))) (aO vm Bx B.abs (by decide +kernel) (aF (ao (av 2)) aH)) ag))))
  (aD (D8 (jm (cq (af (av 3) (af (aJ aM aW (ao (aJ jS jT (ao (av 2)) (ao ag))) (ao (aJ oK oS (ao ag) (ao (av 1))))) (af ag aB))))))))))
 (λds hl=>(by obtain⟨gan,gbp,rfl⟩:=ln2 hl;kernel_rfl)),hmg,Fn.kp,(pT Fn λ_ _ _ _ _ _ _ _=>rfl)⟩
abbrev iM:Stmt:=top 20
abbrev vO:List Str:=["_law_feed_here", "_law_many", "_law_digit", "_law_turn", "_law_one_here"]
def sc__law_next:FnScope vO ["_law_feed_here", "_law_many"] (aE iM):=⟨rfl,rfl,rfl,by decide +kernel,rfl,by decide +kernel,by decide +kernel⟩
def aC(gaa:List D)(gaN:D):M (D×List D) :=
 bd (bd (oM (bf (PyData.list gaa) (.int 0))) λx1=>oM (mV x1 (.int 0))) λb2=>if b2 then
  bd (bd (oM (bf (PyData.list gaa) (.int 0))) λx3=>oM (iU x3 gaN)) λx4=>bd (bd (oM (bf (PyData.list gaa) (.int 0))) λx5=>oM (uH x5 gaN)) λx6=>bd (oM (putD gaa (.int 0) x6)) λl7=>.ret (x4,l7)
  else
  bd (bd (oM (bf (PyData.list gaa) (.int 2))) λx8=>oM (aP x8 (.int 1))) λx9=>bd (oM (putD gaa (.int 2) x9)) λl10=>bd (bd (bd (bd (bd (oM (bf (PyData.list l10) (.int 1))) λx11=>bd (oM (gz (.int 41) x9)) λx12=>oM (aP x11 x12)) λx13=>oM (aP x13 (.int 3))) λx15=>bd (bd (oM (gz x9 x9)) λx14=>oM (aP x14 (.int 69621))) λx16=>oM (gz x15 x16)) λx17=>oM (iU x17 (.int 998244353))) λx18=>bd (bd (bd (bd (bd (bd (bd (oM (iU x18 (.int 65519))) λx19=>oM (aP x19 (.int 40692))) λx20=>oM (gz x18 x20)) λx21=>oM (aP x21 x9)) λx22=>oM (iU x22 (.int 2147483629))) λx23=>oM (uH x23 (.int 13))) λx24=>oM (iU x24 gaN)) λx25=>.ret (x25,l10)
def cy:List D->List D->M (D×List D):=λgaa l=>match l with
 | [gaN]=>aC gaa gaN
 | _=>.bad
def sQ(Fn:Fun K "_law_next" "_law_next" iM f fd)(hmg:mg "_law_next" = some (.ref f))(B:BN mg)(Kn:KN mg)(Kx:KX K mg):CF P w K mg base "_law_next" 1 (sp1 K 2 cy) :=
 ⟨f,fd,["_law_feed_here", "_law_many"],lY (k:=0) Fn sc__law_next (λcdv A outer s H E hr =>
  (aq (cb (bG (aZ oN oU (ao (bv aU bt (cg (i:=0)) (ao ag))) (ao ag)))
  (aq (aL (sh:=[.p,.f,.f,.dead,.dead]) (aQ (i:=2) sc__law_next.nd (az (aJ jS jT (ao (bv aU bt (cg (i:=0)) (ao ag))) (ao (av 1))))))
  (aq (aL (sh:=[.p,.dead,.f,.dead,.dead]) (Cy (i:=0) rfl (vi rfl) (az ag) (az (aJ yz Bv (ao (bv aU bt (cg (i:=0)) (ao ag))) (ao (av 1)))) (λ_=>rfl) rfl rfl rfl))
  (aD (bg (az (av 2))))))
  bE)
  (aq (aL (sh:=[.p,.f,.dead,.f,.dead]) (aQ (i:=3) sc__law_next.nd (az (aJ aM aW (ao (bv aU bt (cg (i:=0)) (ao ag))) (ao ag)))))
  (aq (aL (sh:=[.p,.f,.dead,.f,.dead]) (Cy (i:=0) rfl (vi rfl) (az ag) (az (av 3)) (λ_=>rfl) rfl rfl rfl))
  (aq (aL (sh:=[.p,.f,.dead,.f,.f]) (aQ (i:=4) sc__law_next.nd (az (aJ jS jT (ao (aJ oK oS (ao (aJ aM aW (ao (aJ aM aW (ao (bv aU bt (cg (i:=0)) (ao ag))) (ao (aJ oK oS (ao ag) (ao (av 3)))))) (ao ag))) (ao (aJ aM aW (ao (aJ oK oS (ao (av 3)) (ao (av 3)))) (ao ag))))) (ao ag)))))
  (aD (bg (az (aJ jS jT (ao (aJ yz Bv (ao (aJ jS jT (ao (aJ aM aW (ao (aJ oK oS (ao (av 4)) (ao (aJ aM aW (ao (aJ jS jT (ao (av 4)) (ao ag))) (ao ag))))) (ao (av 3)))) (ao ag))) (ao ag))) (ao (av 1)))))))))))
 (λg ds hl=>(by obtain⟨gaN,rfl⟩:=ln1 (Nat.succ.inj hl);kernel_rfl)),hmg,Fn.kp,(pT Fn λ_ _ _ _ _ _ _ _=>rfl)⟩
abbrev jP:Stmt:=top 21
abbrev xN:List Str:=["_law_feed_here", "_law_some"]
def uk:FnScope xN ["_law_feed_here", "_law_some"] (aE jP):=⟨rfl,rfl,rfl,by decide +kernel,rfl,by decide +kernel,by decide +kernel⟩
def dk(gaa:List D)(gaW:D):M (D×List D) :=
 bd (oM (cI [gaW])) λx1=>bd (aC gaa x1) λr2=>bd (oM (bf gaW r2.1)) λx3=>.ret (x3,r2.2)
def fW:List D->List D->M (D×List D):=λgaa l=>match l with
 | [gaW]=>dk gaa gaW
 | _=>.bad
def uI(Fn:Fun K "_law_one" "_law_one" jP f fd)(hmg:mg "_law_one" = some (.ref f))(B:BN mg)(Kn:KN mg)(Kx:KX K mg)(gad:CF P w K mg base "_law_next" 1 (sp1 K 2 cy)):CF P w K mg base "_law_one" 2 (sp1 K 2 fW) :=
 ⟨f,fd,["_law_feed_here", "_law_some"],lY (k:=1) Fn uk (λcdv A outer s H E hr =>
  (aD (bg (Jf aU bt (az (av 1)) (bH (i:=0) gad hr.m (aj (az (aO aV bO B.len dr (aF (ao (av 1)) aH))) aG))))))
 (λg ds hl=>(by obtain⟨gaW,rfl⟩:=ln1 (Nat.succ.inj hl);kernel_rfl)),hmg,Fn.kp,(pT Fn λ_ _ _ _ _ _ _ _=>rfl)⟩
abbrev iK:Stmt:=top 22
abbrev vM:List Str:=["_law_feed_here", "_law_most", "_law_sorts", "_law_rooms", "_law_often", "_law_meets", "_law_a", "_law_b", "_law_c", "_law_d", "_law_starts"]
def sc__law_rule:FnScope vM ["_law_feed_here", "_law_most", "_law_sorts"] (aE iK):=⟨rfl,rfl,rfl,by decide +kernel,rfl,by decide +kernel,by decide +kernel⟩
abbrev N__law_rule_0:List Str:=["_law_feed_here", "_law_most", "_law_sorts", "_law_rooms", "_law_often", "_law_meets", "_law_a", "_law_b", "_law_c", "_law_d", "_law_starts", "_law_sort"]
def lM:N__law_rule_0.Nodup:=by decide +kernel
abbrev N__law_rule_1:List Str:=["_law_feed_here", "_law_most", "_law_sorts", "_law_rooms", "_law_often", "_law_meets", "_law_a", "_law_b", "_law_c", "_law_d", "_law_starts", "_law_room"]
def lL:N__law_rule_1.Nodup:=by decide +kernel
def ji(gag:List D)(gak:D)(gac:D)(gaA:D)(gaf:List D):M (D×List D) :=
 bd (oM (bZ [gak])) λl6=>bd (dH (λs7 d8=>bd (aC s7.1 s7.2.2.1) λr9=>.ret (some r9.1,(r9.2,s7.2.1,s7.2.2.1,s7.2.2.2.1,()))) l6 (gag,gak,gac,gaf,())) λr10=>bd (fJ r10.1) λl11=>bd (oM (cF [(PyData.list l11)])) λx12=>bd (oM (cF [(PyData.list r10.2.2.2.2.1)])) λx13=>bd (oM (bZ [r10.2.2.2.1])) λl14=>bd (dH (λs15 d16=>bd (aC s15.1 (.int 2)) λr17=>bd (oM (bC r17.1 (.int 0))) λb18=>.ret (some (.bool b18),(r17.2,s15.2.1,()))) l14 (r10.2.1,r10.2.2.2.1,())) λr19=>bd (fJ r19.1) λl20=>bd (oM (cF [(PyData.list l20)])) λx21=>.ret ((.tuple [r10.2.2.2.1,x12,x13,x21]),r19.2.1)
def jh(kn22:List D×D×D×D×List D×Unit->M (D×List D))(gag:List D)(gak:D)(gac:D)(gaA:D)(gaf:List D)(ga6:D):M (D×List D) :=
 kn22 (gag,gak,gac,gaA,gaf,())
def jg(kn22:List D×D×D×D×List D×Unit->M (D×List D))(gag:List D)(gak:D)(gac:D)(gaA:D)(gaf:List D)(ga6:D)(d_:D)(kn24:List D×D×D×D×List D×D×Unit->M (D×List D)):M (D×List D) :=
 bd (aC gag gac) λr25=>bd (aC r25.2 gac) λr26=>bd (dk r26.2 (.list [d_,ga6,r26.1])) λr27=>bd (aC r27.2 gaA) λr28=>bd (oM (bC r28.1 (.int 0))) λb29=>if b29 then bd (oM (cQ (.tuple [r25.1,r27.1]) (.tuple [(.tuple [ga6,d_]),(.tuple [d_,ga6])]))) λb30=>if b30 then
  bd (oM (lR gaf [(.tuple [ga6,d_,r25.1,r27.1])])) λl31=>kn24 (r28.2,gak,gac,gaA,l31,ga6,())
  else
  kn24 (r28.2,gak,gac,gaA,gaf,ga6,())else kn24 (r28.2,gak,gac,gaA,gaf,ga6,())
def fR(gag:List D)(gak:D)(gac:D)(gaA:D)(gaf:List D)(d_:D)(kn22:List D×D×D×D×List D×Unit->M (D×List D)):M (D×List D) :=
 bd (oM (eH [d_,gac])) λl23=>jC (λs32 d33 kn=>jg kn22 s32.1 s32.2.1 s32.2.2.1 s32.2.2.2.1 s32.2.2.2.2.1 s32.2.2.2.2.2.1 d33 kn) l23 (gag,gak,gac,gaA,gaf,d_,()) (λs32=>jh kn22 s32.1 s32.2.1 s32.2.2.1 s32.2.2.2.1 s32.2.2.2.2.1 s32.2.2.2.2.2.1)
def eR(gaa:List D)(gba:D)(gaB:D):M (D×List D) :=
 bd (aC gaa gba) λr1=>bd (oM (aP (.int 1) r1.1)) λx2=>bd (aC r1.2 (.int 3)) λr3=>bd (oM (aP (.int 1) r3.1)) λx4=>bd (oM (bZ [x2])) λl5=>jC (λs34 d35 kn=>fR s34.1 s34.2.1 s34.2.2.1 s34.2.2.2.1 s34.2.2.2.2.1 d35 kn) l5 (r3.2,gaB,x2,x4,[],()) (λs34=>ji s34.1 s34.2.1 s34.2.2.1 s34.2.2.2.1 s34.2.2.2.2.1)
def kK:List D->List D->M (D×List D):=λgaa l=>match l with
 | [gba,gaB]=>eR gaa gba gaB
 | _=>.bad
def sO(Fn:Fun K "_law_rule" "_law_rule" iK f fd)(hmg:mg "_law_rule" = some (.ref f))(B:BN mg)(Kn:KN mg)(Kx:KX K mg)(gad:CF P w K mg base "_law_next" 1 (sp1 K 2 cy))(gaF:CF P w K mg base "_law_one" 2 (sp1 K 2 fW)):CF P w K mg base "_law_rule" 3 (sp1 K 3 kK) :=
 ⟨f,fd,["_law_feed_here", "_law_most", "_law_sorts"],lY (k:=2) Fn sc__law_rule (λcdv A outer s H E hr =>
  (aq (aL (sh:=[.p,.dead,.f,.f,.dead,.dead,.dead,.dead,.dead,.dead,.dead]) (aQ (i:=3) sc__law_rule.nd (j8 aM aW (az ag) (bH (i:=0) gad hr.m (aj (az (av 1)) aG)))))
  (aq (aL (sh:=[.p,.dead,.f,.f,.f,.dead,.dead,.dead,.dead,.dead,.dead]) (aQ (i:=4) sc__law_rule.nd (j8 aM aW (az ag) (bH (i:=0) gad hr.m (aj (az ag) aG)))))
  (aq (aL (sh:=[.p,.dead,.f,.f,.f,.o,.dead,.dead,.dead,.dead,.dead]) (gj (i:=5) sc__law_rule.nd (jm (cq aB))))
  (aq (eK (sh:=[.p,.dead,.f,.f,.f,.o,.dead,.dead,.dead,.dead,.dead]) PassesOwn.leaving rfl (dQ (dC rfl B.range (af (av 3) aB) rfl)) (bA (i:=6) (di _) sc__law_rule.nd)
  (aD (eK (sh:=[.p,.dead,.f,.f,.f,.o,.f,.dead,.dead,.dead,.dead]) PassesOwn.leaving rfl (dQ (mB rfl B.range (af (av 6) (af (av 3) aB)) rfl rfl)) (bA (i:=7) (di _) sc__law_rule.nd)
  (aq (aL (sh:=[.p,.dead,.f,.f,.f,.o,.f,.f,.f,.f,.dead]) (Cz (i:=8) (j:=9) rfl sc__law_rule.nd rfl rfl (by decide) rfl rfl (aj (bH (i:=0) gad hr.m (aj (az (av 3)) aG)) (aj (bH (i:=0) gaF hr.m (aj (tU (lm (aj (az (av 7)) (aj (az (av 6)) (aj (bH (i:=0) gad hr.m (aj (az (av 3)) aG)) aG))))) aG)) aG)) rfl rfl))
  (aD (cb (CC (zt (tS (bX (bn hr)) bK (bH (i:=0) gad hr.m (aj (az (av 4)) aG)) (az ag)) (vC (bG (aZ (gN (bn hr)) bK (ao (aS (af (av 8) (af (av 9) aB)))) (ao (aS (af (aS (af (av 6) (af (av 7) aB))) (af (aS (af (av 7) (af (av 6) aB))) aB)))))))))
  (aD (ik (i:=5) rfl (vi rfl) (aj (az (aS (af (av 6) (af (av 7) (af (av 8) (af (av 9) aB)))))) aG) rfl rfl rfl rfl rfl rfl))
  bE))))))
  (aq (aL (sh:=[.p,.dead,.dead,.f,.dead,.o,.dead,.dead,.dead,.dead,.f]) (aQ (i:=10) sc__law_rule.nd (gT bq cn B.tuple (by decide +kernel) (aj (tU (lq (sh:=[.p,.dead,.f,.f,.dead,.o,.dead,.dead,.dead,.dead,.dead]) (N':=N__law_rule_0) (k:=1) rfl (bT (by kernel_rfl) rfl rfl) (dQ (dC rfl B.range (af (av 2) aB) rfl)) (λ_ _ _ _ _=>(bA (i:=11) (show 11<=11 by decide) lM)) (λ_ _ _ _ _=>(lj dO)) (λ_ _ _ _ _=>(bH (i:=0) gad hr.m (aj (az (av 3)) aG))))) aG))))
  (aD (bg (CD (aj (az (av 3)) (aj (az (av 10)) (aj (az (bP bq cn B.tuple (by decide +kernel) (aF (cg (i:=5)) aH))) (aj (gT bq cn B.tuple (by decide +kernel) (aj (tU (lq (sh:=[.p,.dead,.dead,.f,.dead,.dead,.dead,.dead,.dead,.dead,.dead]) (N':=N__law_rule_1) (k:=1) rfl (bT (by kernel_rfl) rfl rfl) (dQ (dC rfl B.range (af (av 3) aB) rfl)) (λ_ _ _ _ _=>(bA (i:=11) (show 11<=11 by decide) lL)) (λ_ _ _ _ _=>(lj dO)) (λ_ _ _ _ _=>(Hd (tT (bX (bn hr)) bK (bH (i:=0) gad hr.m (aj (az ag) aG)) (az ag) rfl))))) aG)) aG)))))))))))))
 (λg ds hl=>(by obtain⟨gba,gaB,rfl⟩:=ln2 (Nat.succ.inj hl);kernel_rfl)),hmg,Fn.kp,(xE Fn λ_ _ _ _ _ _ _ _ _=>rfl)⟩
abbrev g6:Stmt:=top 23
abbrev tZ:List Str:=["_law_feed_here", "_law_sorts", "_law_rooms", "_law_pairs", "_law_meets", "_law_a", "_law_b", "_law_c", "_law_d", "_law_says_here"]
def sc__law_great:FnScope tZ ["_law_feed_here", "_law_sorts"] (aE g6):=⟨rfl,rfl,rfl,by decide +kernel,rfl,by decide +kernel,by decide +kernel⟩
abbrev N__law_great_0:List Str:=["_law_feed_here", "_law_sorts", "_law_rooms", "_law_pairs", "_law_meets", "_law_a", "_law_b", "_law_c", "_law_d", "_law_says_here", "_law_k"]
def kC:N__law_great_0.Nodup:=by decide +kernel
abbrev N__law_great_1:List Str:=["_law_feed_here", "_law_sorts", "_law_rooms", "_law_pairs", "_law_meets", "_law_a", "_law_b", "_law_c", "_law_d", "_law_says_here", "_law_room"]
def kB:N__law_great_1.Nodup:=by decide +kernel
abbrev N__law_great_2:List Str:=["_law_feed_here", "_law_sorts", "_law_rooms", "_law_pairs", "_law_meets", "_law_a", "_law_b", "_law_c", "_law_d", "_law_says_here", "_law_sort"]
def kA:N__law_great_2.Nodup:=by decide +kernel
def eY(gag:List D)(gak:D)(gac:D)(gaf:List D):M (D×List D) :=
 bd (oM (bZ [gac])) λl15=>bd (dH (λs16 d17=>bd (aC s16.1 (.int 2)) λr18=>bd (oM (bC r18.1 (.int 0))) λb19=>.ret (some (.bool b19),(r18.2,s16.2.1,s16.2.2.1,s16.2.2.2.1,()))) l15 (gag,gak,gac,gaf,())) λr20=>bd (fJ r20.1) λl21=>bd (oM (cF [(PyData.list l21)])) λx22=>bd (oM (bZ [r20.2.2.1])) λl23=>bd (dH (λs24 d25=>bd (aC s24.1 s24.2.2.1) λr26=>.ret (some r26.1,(r26.2,s24.2.1,s24.2.2.1,s24.2.2.2.1,s24.2.2.2.2.1,()))) l23 (r20.2.1,r20.2.2.1,r20.2.2.2.1,r20.2.2.2.2.1,x22,())) λr27=>bd (fJ r27.1) λl28=>bd (oM (cF [(PyData.list l28)])) λx29=>bd (oM (cF [(PyData.list r27.2.2.2.2.1)])) λx30=>.ret ((.tuple [r20.2.2.2.1,x29,x30,r27.2.2.2.2.2.1]),r27.2.1)
def iw(gag:List D)(gak:D)(gac:D)(gaf:List D)(d_:D)(kn31:List D×D×D×List D×Unit->M (D×List D)):M (D×List D) :=
 un2 d_ λy32 y33=>bd (aC gag gac) λr34=>bd (aC r34.2 gac) λr35=>bd (oM (cQ (.tuple [r34.1,r35.1]) (.tuple [(.tuple [y32,y33]),(.tuple [y33,y32])]))) λb36=>if b36 then
  bd (oM (lR gaf [(.tuple [y32,y33,r34.1,r35.1])])) λl37=>kn31 (r35.2,gak,gac,l37,())
  else
  kn31 (r35.2,gak,gac,gaf,())
def fj(gaa:List D)(gaB:D):M (D×List D) :=
 bd (dk gaa (PyData.list [(.int 40),(.int 39),(.int 7),(.int 12)])) λr1=>bd (aC r1.2 (.int 6)) λr2=>bd (oM (bZ [r2.1])) λl3=>bd (dH (λs4 d5=>bd (aC s4.1 s4.2.2.1) λr6=>bd (aC r6.2 s4.2.2.1) λr7=>bd (oM (fY [(.list [r6.1,r7.1])])) λx8=>bd (oM (cF [(PyData.list x8)])) λx9=>.ret (some x9,(r7.2,s4.2.1,s4.2.2.1,()))) l3 (r2.2,gaB,r1.1,())) λr10=>bd (fJ r10.1) λl11=>bd (bd (bd (oM (DS [(PyData.list l11)])) λl12=>.ret (PyData.list l12)) λx13=>oM (gq x13)) λl14=>jC (λs38 d39 kn=>iw s38.1 s38.2.1 s38.2.2.1 s38.2.2.2.1 d39 kn) l14 (r10.2.1,r10.2.2.1,r10.2.2.2.1,[],()) (λs38=>eY s38.1 s38.2.1 s38.2.2.1 s38.2.2.2.1)
def jJ:List D->List D->M (D×List D):=λgaa l=>match l with
 | [gaB]=>fj gaa gaB
 | _=>.bad
def qr(Fn:Fun K "_law_great" "_law_great" g6 f fd)(hmg:mg "_law_great" = some (.ref f))(B:BN mg)(Kn:KN mg)(Kx:KX K mg)(gaF:CF P w K mg base "_law_one" 2 (sp1 K 2 fW))(gad:CF P w K mg base "_law_next" 1 (sp1 K 2 cy)):CF P w K mg base "_law_great" 3 (sp1 K 2 jJ) :=
 ⟨f,fd,["_law_feed_here", "_law_sorts"],lY (k:=2) Fn sc__law_great (λcdv A outer s H E hr =>
  (aq (aL (sh:=[.p,.f,.f,.dead,.dead,.dead,.dead,.dead,.dead,.dead]) (aQ (i:=2) sc__law_great.nd (bH (i:=0) gaF hr.m (aj (az (dU (cq (af ag (af ag (af ag (af ag aB))))))) aG))))
  (aq (aL (sh:=[.p,.f,.f,.f,.dead,.dead,.dead,.dead,.dead,.dead]) (vx (i:=3) sc__law_great.nd rfl (lo rfl) (.inl rfl) (sh:=[.p,.f,.f,.dead,.dead,.dead,.dead,.dead,.dead,.dead]) (N':=N__law_great_0) (k:=1) rfl (bT (by kernel_rfl) rfl rfl) (xK rfl B.range (aj (bH (i:=0) gad hr.m (aj (az ag) aG)) aG) rfl) (λ_ _ _ _ _=>(bA (i:=10) (show 10<=10 by decide) kC)) (λ_ _ _ _ _=>(lj dO)) (λ_ _ _ _ _=>(gT bq cn B.tuple (by decide +kernel) (aj (tU (Ap mm sF B.sorted (by decide +kernel) (aj (tU (lm (aj (bH (i:=0) gad hr.m (aj (az (av 2)) aG)) (aj (bH (i:=0) gad hr.m (aj (az (av 2)) aG)) aG)))) aG))) aG))) rfl (λ_=>rfl)))
  (aq (aL (sh:=[.p,.f,.f,.f,.o,.dead,.dead,.dead,.dead,.dead]) (gj (i:=4) sc__law_great.nd (jm (cq aB))))
  (aq (eK (sh:=[.p,.f,.f,.dead,.o,.dead,.dead,.dead,.dead,.dead]) PassesOwn.leaving rfl (dQ (fk (dU (xJ rfl (bn hr) rfl B.sorted rfl B.set (aF (ao (av 3)) aH) rfl rfl)))) (nJ rfl (eT (bA (i:=5) (di _) sc__law_great.nd) (eT (bA (i:=6) (di _) sc__law_great.nd) nI rfl) rfl) rfl rfl)
  (aq (aL (sh:=[.p,.f,.f,.dead,.o,.f,.f,.f,.f,.dead]) (Cz (i:=7) (j:=8) rfl sc__law_great.nd rfl rfl (by decide) rfl rfl (aj (bH (i:=0) gad hr.m (aj (az (av 2)) aG)) (aj (bH (i:=0) gad hr.m (aj (az (av 2)) aG)) aG)) rfl rfl))
  (aD (cb (bG (aZ (gN (bn hr)) bK (ao (aS (af (av 7) (af (av 8) aB)))) (ao (aS (af (aS (af (av 5) (af (av 6) aB))) (af (aS (af (av 6) (af (av 5) aB))) aB))))))
  (aD (ik (i:=4) rfl (vi rfl) (aj (az (aS (af (av 5) (af (av 6) (af (av 7) (af (av 8) aB)))))) aG) rfl rfl rfl rfl rfl rfl))
  bE))))
  (aq (aL (sh:=[.p,.f,.f,.dead,.o,.dead,.dead,.dead,.dead,.f]) (aQ (i:=9) sc__law_great.nd (gT bq cn B.tuple (by decide +kernel) (aj (tU (lq (sh:=[.p,.f,.f,.dead,.o,.dead,.dead,.dead,.dead,.dead]) (N':=N__law_great_1) (k:=1) rfl (bT (by kernel_rfl) rfl rfl) (dQ (dC rfl B.range (af (av 2) aB) rfl)) (λ_ _ _ _ _=>(bA (i:=10) (show 10<=10 by decide) kB)) (λ_ _ _ _ _=>(lj dO)) (λ_ _ _ _ _=>(Hd (tT (bX (bn hr)) bK (bH (i:=0) gad hr.m (aj (az ag) aG)) (az ag) rfl))))) aG))))
  (aD (bg (CD (aj (az (av 2)) (aj (gT bq cn B.tuple (by decide +kernel) (aj (tU (lq (sh:=[.p,.f,.f,.dead,.o,.dead,.dead,.dead,.dead,.f]) (N':=N__law_great_2) (k:=1) rfl (bT (by kernel_rfl) rfl rfl) (dQ (dC rfl B.range (af (av 1) aB) rfl)) (λ_ _ _ _ _=>(bA (i:=10) (show 10<=10 by decide) kA)) (λ_ _ _ _ _=>(lj dO)) (λ_ _ _ _ _=>(bH (i:=0) gad hr.m (aj (az (av 2)) aG))))) aG)) (aj (az (bP bq cn B.tuple (by decide +kernel) (aF (cg (i:=4)) aH))) (aj (az (av 9)) aG)))))))))))))
 (λg ds hl=>(by obtain⟨gaB,rfl⟩:=ln1 (Nat.succ.inj hl);kernel_rfl)),hmg,Fn.kp,(pT Fn λ_ _ _ _ _ _ _ _=>rfl)⟩
abbrev iL:Stmt:=top 24
abbrev vN:List Str:=["_law_rule_here", "_law_rows_here"]
def sc__law_rows:FnScope vN ["_law_rule_here"] (aE iL):=⟨rfl,rfl,rfl,by decide +kernel,rfl,by decide +kernel,by decide +kernel⟩
abbrev N__law_rows_0:List Str:=["_law_rule_here", "_law_rows_here", "_law_room"]
def lQ:N__law_rows_0.Nodup:=by decide +kernel
abbrev N__law_rows_1:List Str:=["_law_rule_here", "_law_rows_here", "_law_one_here"]
def lP:N__law_rows_1.Nodup:=by decide +kernel
abbrev N__law_rows_2:List Str:=["_law_rule_here", "_law_rows_here", "_law_meeting_here"]
def lO:N__law_rows_2.Nodup:=by decide +kernel
abbrev N__law_rows_3:List Str:=["_law_rule_here", "_law_rows_here", "_law_meeting_here", "_law_room"]
def lN:N__law_rows_3.Nodup:=by decide +kernel
def dB(gav:D):M D :=
 bd (bd (bd (bd (oM (bf gav (.int 0))) λx1=>oM (u5 [x1])) λx2=>oM (aP (.str "rooms ") x2)) λx3=>bd (bd (onT .str (.str " ") (bd (bd (bd (bd (oM (bf gav (.int 1))) λx4=>oM (gq x4)) λl7=>bd (cj (λd5=>bd (oM (u5 [d5])) λx6=>.ret (some x6)) l7) fJ) λl8=>.ret (PyData.list l8)) λx9=>oM (jb (.str " ") [x9]))) λx10=>oM (aP (.str "starts ") x10)) λx11=>.ret [x3,x11]) λl12=>bd (bd (onT .str (.str " ") (bd (bd (bd (bd (oM (bf gav (.int 3))) λx13=>oM (gq x13)) λl17=>bd (cj (λd14=>bd (bd (oM (mQ [d14])) λx15=>oM (bf (PyData.list [(.str "no"),(.str "yes")]) x15)) λx16=>.ret (some x16)) l17) fJ) λl18=>.ret (PyData.list l18)) λx19=>oM (jb (.str " ") [x19]))) λx20=>oM (aP (.str "says ") x20)) λx21=>bd (oM (lR l12 [x21])) λl22=>bd (bd (bd (bd (bd (oM (bf gav (.int 2))) λx23=>oM (gq x23)) λl32=>bd (cj (λd24=>bd (bd (onT .str (.str " ") (bd (bd (bd (oM (gq d24)) λl27=>bd (cj (λd25=>bd (oM (u5 [d25])) λx26=>.ret (some x26)) l27) fJ) λl28=>.ret (PyData.list l28)) λx29=>oM (jb (.str " ") [x29]))) λx30=>oM (aP (.str "meet ") x30)) λx31=>.ret (some x31)) l32) fJ) λl33=>.ret (PyData.list l33)) λx34=>oM (aP (PyData.list l22) x34)) λx35=>.ret x35
def kL:List D->M D:=λl=>match l with
 | [gav]=>dB gav
 | _=>.bad
def sP(Fn:Fun K "_law_rows" "_law_rows" iL f fd)(hmg:mg "_law_rows" = some (.ref f))(B:BN mg)(Kn:KN mg)(Kx:KX K mg):CF P w K mg base "_law_rows" 1 (spD K 1 kL) :=
 ⟨f,fd,["_law_rule_here"],cW (k:=0) Fn sc__law_rows (λcdv A outer s H E hr =>
  (aq (aL (sh:=[.f,.o]) (gj (i:=1) sc__law_rows.nd (jm (cq (af (aJ aM aW (ao aK) (ao (bP h7 wB B.str (by decide +kernel) (aF (ao (bv aU bt (ao (av 0)) (ao ag))) aH)))) (af (aJ aM aW (ao aK) (ao (nG (ty:=.str) ot Db Ch kD (ao aK) (af (dU (gp (N':=N__law_rows_0) (k:=1) rfl (bT (by kernel_rfl) rfl rfl) (fk (bv aU bt (ao (av 0)) (ao ag))) (λ_ _ _ _ _=>(bA (i:=2) (show 2<=2 by decide) lQ)) (λ_ _ _ _ _=>dO) (λ_ _ _ _ _=>(bP h7 wB B.str (by decide +kernel) (aF (ao (av 2)) aH))))) aB) rfl rfl rfl rfl rfl))) aB))))))
  (aq (aL (sh:=[.f,.o]) (ik (i:=1) rfl (vi rfl) (aj (az (aJ aM aW (ao aK) (ao (nG (ty:=.str) ot Db Ch kD (ao aK) (af (dU (gp (N':=N__law_rows_1) (k:=1) rfl (bT (by kernel_rfl) rfl rfl) (fk (bv aU bt (ao (av 0)) (ao ag))) (λ_ _ _ _ _=>(bA (i:=2) (show 2<=2 by decide) lP)) (λ_ _ _ _ _=>dO) (λ_ _ _ _ _=>(bv aU bt (ao (dU (cq (af aK (af aK aB))))) (ao (bP jz nz B.int (by decide +kernel) (aF (ao (av 2)) aH))))))) aB) rfl rfl rfl rfl rfl)))) aG) rfl rfl rfl rfl rfl rfl))
  (aD (bg (az (aJ aM aW (cg (i:=1)) (ao (dU (gp (N':=N__law_rows_2) (k:=1) rfl (bT (by kernel_rfl) rfl rfl) (fk (bv aU bt (ao (av 0)) (ao ag))) (λ_ _ _ _ _=>(bA (i:=2) (show 2<=2 by decide) lO)) (λ_ _ _ _ _=>dO) (λ_ _ _ _ _=>(aJ aM aW (ao aK) (ao (nG (ty:=.str) ot Db Ch kD (ao aK) (af (dU (gp (N':=N__law_rows_3) (k:=1) rfl (Ah (by decide +kernel) (by decide +kernel)) (fk (av 2)) (λ_ _ _ _ _=>(bA (i:=3) (show 3<=3 by decide) lN)) (λ_ _ _ _ _=>dO) (λ_ _ _ _ _=>(bP h7 wB B.str (by decide +kernel) (aF (ao (av 3)) aH))))) aB) rfl rfl rfl rfl rfl))))))))))))))
 (λds hl=>(by obtain⟨gav,rfl⟩:=ln1 hl;kernel_rfl)),hmg,Fn.kp,(pU Fn λ_ _ _ _ _ _ _=>rfl)⟩
abbrev gw:Stmt:=top 25
abbrev qB:List Str:=["_law_word", "_law_low", "_law_high"]
def n4:FnScope qB ["_law_word", "_law_low", "_law_high"] (aE gw):=⟨rfl,rfl,rfl,by decide +kernel,rfl,by decide +kernel,by decide +kernel⟩
abbrev N__law_number_0:List Str:=["_law_word", "_law_low", "_law_high", "_law_sign"]
def jV:N__law_number_0.Nodup:=by decide +kernel
def cD(gaD:D)(gbm:D)(gbb:D):M D :=
 bd (bd (oM (bC gaD (.str ""))) λb8=>if b8 then .ret true else bd (bd (oM (cI [gaD])) λx1=>oM (mV x1 (.int 9))) λb7=>if b7 then .ret true else bd (bd (bd (oM (gq gaD)) λl4=>bd (cj (λd2=>bd (oM (cQ d2 (.str "0123456789"))) λb3=>if b3 then .ret (some d2)else .ret none) l4) fJ) λl5=>.ret (PyData.list l5)) λx6=>oM (iA x6 (PyData.list []))) λb9=>if b9 then
  .ret .none
  else
  bd (bd (bd (oM (cI [gaD])) λx10=>oM (mV x10 (.int 1))) λb12=>if b12 then bd (oM (bf gaD (.int 0))) λx11=>oM (bC x11 (.str "0"))else .ret false) λb13=>if b13 then
  .ret .none
  else
  bd (bd (bd (oM (mQ [gaD])) λx14=>bd (oM (sD gbm x14)) λb15=>if b15 then oM (sD x14 gbb)else .ret false) λb16=>if b16 then oM (mQ [gaD])else .ret .none) λx17=>.ret x17
def iW:List D->M D:=λl=>match l with
 | [gaD,gbm,gbb]=>cD gaD gbm gbb
 | _=>.bad
def oV(Fn:Fun K "_law_number" "_law_number" gw f fd)(hmg:mg "_law_number" = some (.ref f))(B:BN mg)(Kn:KN mg)(Kx:KX K mg):CF P w K mg base "_law_number" 1 (spD K 3 iW) :=
 ⟨f,fd,["_law_word", "_law_low", "_law_high"],cW (k:=0) Fn n4 (λcdv A outer s H E hr =>
  (aq (cb (bG (rO (vv (aZ (bX (bn hr)) bK (ao (av 0)) (ao aK)) (vv (aZ oN oU (ao (aO aV bO B.len dr (aF (ao (av 0)) aH))) (ao ag)) (xG (aZ (oJ (bn hr)) bK (ao (dU (gp (N':=N__law_number_0) (k:=1) rfl (bT (by kernel_rfl) rfl rfl) (fk (av 0)) (λ_ _ _ _ _=>(bA (i:=3) (show 3<=3 by decide) jV)) (λ_ _ _ _ _=>(zm (aZ (gN (bn hr)) bK (ao (av 3)) (ao aK)))) (λ_ _ _ _ _=>(av 3))))) (ao (dU (cq aB)))))))))
  (aD (bg (az e6)))
  bE)
  (aq (cb (bG (rO (xH (aZ oN oU (ao (aO aV bO B.len dr (aF (ao (av 0)) aH))) (ao ag)) (tN (aZ (bX (bn hr)) bK (ao (bv aU bt (ao (av 0)) (ao ag))) (ao aK))))))
  (aD (bg (az e6)))
  bE)
  (aD (bg (az (gm (pX qW qW qY qY (ao (av 1)) (ao (bP jz nz B.int (by decide +kernel) (aF (ao (av 0)) aH))) (ao (av 2)) (by with_unfolding_all rfl)) (bP jz nz B.int (by decide +kernel) (aF (ao (av 0)) aH)) e6)))))))
 (λds hl=>(by obtain⟨gaD,gbm,gbb,rfl⟩:=ln3 hl;kernel_rfl)),hmg,Fn.kp,(xE Fn λ_ _ _ _ _ _ _ _ _=>rfl)⟩
abbrev fA:Stmt:=top 26
abbrev qe:List Str:=["_law_words", "_law_bounds", "_law_found", "_law_k", "_law_low", "_law_high", "_law_number_here"]
def sc__law_numbers:FnScope qe ["_law_words", "_law_bounds"] (aE fA):=⟨rfl,rfl,rfl,by decide +kernel,rfl,by decide +kernel,by decide +kernel⟩
def dJ(gau:D)(gaR:D)(gaw:List D):M D :=
 bd (bd (bd (oM (cI [gau])) λx3=>bd (bd (oM (cI [gaR])) λx2=>oM (aP x2 (.int 1))) λx4=>oM (bC x3 x4)) λb7=>if b7 then .ret (.tuple [(.bool true),(PyData.list gaw)])else bd (bd (oM (cI [gaR])) λx5=>oM (aP x5 (.int 1))) λx6=>.ret (.tuple [(.bool false),x6])) λx8=>.ret x8
def cH(gau:D)(gaR:D)(gaw:List D)(d_:D)(kn9:D×D×List D×Unit->M D):M D :=
 un2 d_ λy10 y11=>un2 y11 λy12 y13=>bd (bd (bd (oM (aP y10 (.int 1))) λx14=>bd (oM (cI [gau])) λx15=>oM (uG x14 x15)) λb18=>if b18 then .ret .none else bd (bd (oM (aP y10 (.int 1))) λx16=>oM (bf gau x16)) λx17=>cD x17 y12 y13) λx19=>bd (oM (jF x19 .none)) λb20=>if b20 then
  bd (bd (oM (aP y10 (.int 1))) λx21=>.ret (.tuple [(.bool false),x21])) λx22=>.ret x22
  else
  bd (oM (lR gaw [x19])) λl23=>kn9 (gau,gaR,l23,())
def bp(gai:D)(gaI:D):M D :=
 bd (oM (j4 [gaI])) λl1=>jC (λs24 d25 kn=>cH s24.1 s24.2.1 s24.2.2.1 d25 kn) l1 (gai,gaI,[],()) (λs24=>dJ s24.1 s24.2.1 s24.2.2.1)
def eW:List D->M D:=λl=>match l with
 | [gai,gaI]=>bp gai gaI
 | _=>.bad
def mX(Fn:Fun K "_law_numbers" "_law_numbers" fA f fd)(hmg:mg "_law_numbers" = some (.ref f))(B:BN mg)(Kn:KN mg)(Kx:KX K mg)(gaY:CF P w K mg base "_law_number" 1 (spD K 3 iW)):CF P w K mg base "_law_numbers" 2 (spD K 2 eW) :=
 ⟨f,fd,["_law_words", "_law_bounds"],cW (k:=1) Fn sc__law_numbers (λcdv A outer s H E hr =>
  (aq (aL (sh:=[.f,.f,.o,.dead,.dead,.dead,.dead]) (gj (i:=2) sc__law_numbers.nd (jm (cq aB))))
  (aq (eK (sh:=[.f,.f,.o,.dead,.dead,.dead,.dead]) PassesOwn.leaving rfl (dQ (vB rfl B.enumerate (af (av 1) aB) rfl)) (nJ rfl (eT (bA (i:=3) (di _) sc__law_numbers.nd) (eT (nJ rfl (eT (bA (i:=4) (di _) sc__law_numbers.nd) (eT (bA (i:=5) (di _) sc__law_numbers.nd) nI rfl) rfl) rfl rfl) nI rfl) rfl) rfl rfl)
  (aq (aL (sh:=[.f,.f,.o,.f,.dead,.dead,.f]) (aQ (i:=6) sc__law_numbers.nd (az (gm (aZ yy yB (ao (aJ aM aW (ao (av 3)) (ao ag))) (ao (aO aV bO B.len dr (aF (ao (av 0)) aH)))) e6 (dP gaY hr.m (af (bv aU bt (ao (av 0)) (ao (aJ aM aW (ao (av 3)) (ao ag)))) (af (av 4) (af (av 5) aB))))))))
  (aq (cb (bG (aZ sB bK (ao (av 6)) (ao e6)))
  (aD (bg (az (aS (af jk (af (aJ aM aW (ao (av 3)) (ao ag)) aB))))))
  bE)
  (aD (ik (i:=2) rfl (vi rfl) (aj (az (av 6)) aG) rfl rfl rfl rfl rfl rfl)))))
  (aD (G5 (i:=2) (bg (az (gm (aZ (bX (bn hr)) bK (ao (aO aV bO B.len dr (aF (ao (av 0)) aH))) (ao (aJ aM aW (ao (aO aV bO B.len dr (aF (ao (av 1)) aH))) (ao ag)))) (aS (af jk (af (av 2) aB))) (aS (af jk (af (aJ aM aW (ao (aO aV bO B.len dr (aF (ao (av 1)) aH))) (ao ag)) aB)))))))))))
 (λds hl=>(by obtain⟨gai,gaI,rfl⟩:=ln2 hl;kernel_rfl)),hmg,Fn.kp,(pT Fn λ_ _ _ _ _ _ _ _=>rfl)⟩
abbrev iJ:Stmt:=top 27
abbrev vL:List Str:=["_law_words", "_law_rooms", "_law_k"]
def sc__law_says:FnScope vL ["_law_words", "_law_rooms"] (aE iJ):=⟨rfl,rfl,rfl,by decide +kernel,rfl,by decide +kernel,by decide +kernel⟩
abbrev N__law_says_0:List Str:=["_law_words", "_law_rooms", "_law_k", "_law_word"]
def lK:N__law_says_0.Nodup:=by decide +kernel
def fQ(gau:D)(gac:D):M D :=
 bd (bd (bd (oM (cI [gau])) λx3=>bd (oM (aP gac (.int 1))) λx4=>oM (bC x3 x4)) λb14=>if b14 then bd (bd (bd (bd (bd (asI (.int 1)) λlo5=>oM (bI gau lo5 none)) λx6=>oM (gq x6)) λl10=>bd (cj (λd7=>bd (bd (oM (bC d7 (.str "yes"))) λb8=>.ret (.bool b8)) λx9=>.ret (some x9)) l10) fJ) λl11=>.ret (PyData.list l11)) λx12=>.ret (.tuple [(.bool true),x12])else bd (oM (aP gac (.int 1))) λx13=>.ret (.tuple [(.bool false),x13])) λx15=>.ret x15
def fP(gau:D)(gac:D)(d_:D)(kn16:D×D×Unit->M D):M D :=
 bd (bd (bd (oM (cI [gau])) λx17=>oM (uG d_ x17)) λb19=>if b19 then .ret true else bd (oM (bf gau d_)) λx18=>oM (cQ x18 (.tuple [(.str "yes"),(.str "no")]))) λb20=>if b20 then
  .ret (.tuple [(.bool false),d_])
  else
  kn16 (gau,gac,())
def gf(gai:D)(gao:D):M D :=
 bd (bd (oM (aP gao (.int 1))) λx1=>oM (eH [(.int 1),x1])) λl2=>jC (λs21 d22 kn=>fP s21.1 s21.2.1 d22 kn) l2 (gai,gao,()) (λs21=>fQ s21.1 s21.2.1)
def kJ:List D->M D:=λl=>match l with
 | [gai,gao]=>gf gai gao
 | _=>.bad
def sN(Fn:Fun K "_law_says" "_law_says" iJ f fd)(hmg:mg "_law_says" = some (.ref f))(B:BN mg)(Kn:KN mg)(Kx:KX K mg):CF P w K mg base "_law_says" 1 (spD K 2 kJ) :=
 ⟨f,fd,["_law_words", "_law_rooms"],cW (k:=0) Fn sc__law_says (λcdv A outer s H E hr =>
  (aq (eK (sh:=[.f,.f,.dead]) PassesOwn.leaving rfl (dQ (mB rfl B.range (af ag (af (aJ aM aW (ao (av 1)) (ao ag)) aB)) rfl rfl)) (bA (i:=2) (di _) sc__law_says.nd)
  (aD (cb (bG (rO (vv (aZ yy yB (ao (av 2)) (ao (aO aV bO B.len dr (aF (ao (av 0)) aH)))) (xG (aZ (gN (bn hr)) bK (ao (bv aU bt (ao (av 0)) (ao (av 2)))) (ao (aS (af aK (af aK aB)))))))))
  (aD (bg (az (aS (af jk (af (av 2) aB))))))
  bE)))
  (aD (bg (az (gm (aZ (bX (bn hr)) bK (ao (aO aV bO B.len dr (aF (ao (av 0)) aH))) (ao (aJ aM aW (ao (av 1)) (ao ag)))) (aS (af jk (af (dU (gp (N':=N__law_says_0) (k:=1) rfl (bT (by kernel_rfl) rfl rfl) (fk (bh (ao (av 0)) (bm ag) bF)) (λ_ _ _ _ _=>(bA (i:=3) (show 3<=3 by decide) lK)) (λ_ _ _ _ _=>dO) (λ_ _ _ _ _=>(Ed (qa (bX (bn hr)) bK (ao (av 3)) (ao aK)))))) aB))) (aS (af jk (af (aJ aM aW (ao (av 1)) (ao ag)) aB)))))))))
 (λds hl=>(by obtain⟨gai,gao,rfl⟩:=ln2 hl;kernel_rfl)),hmg,Fn.kp,(pT Fn λ_ _ _ _ _ _ _ _=>rfl)⟩
abbrev fB:Stmt:=top 28
abbrev qf:List Str:=["_law_words", "_law_rooms", "_law_last", "_law_a", "_law_low", "_law_bounds", "_law_found", "_law_same"]
def sc__law_meeting:FnScope qf ["_law_words", "_law_rooms", "_law_last"] (aE fB):=⟨rfl,rfl,rfl,by decide +kernel,rfl,by decide +kernel,by decide +kernel⟩
def dL(gai:D)(gao:D)(gaO:D):M D :=
 bd (bd (bd (asI (.int 2)) λhi1=>oM (bI gai none hi1)) λx2=>bd (bd (bd (bd (bd (oM (bf gaO (.int 0))) λx3=>oM (qy [x3,(.int 0)])) λx4=>bd (oM (cU gao (.int 1))) λx5=>.ret (.tuple [x4,x5])) λx6=>.ret [x6]) λl7=>.ret (PyData.list l7)) λx8=>bp x2 x8) λx9=>bd (bd (bd (oM (bf x9 (.int 0))) λx10=>oM (ua x10)) λb11=>.ret (!b11)) λb12=>if b12 then
  .ret x9
  else
  bd (bd (bd (bd (oM (bf x9 (.int 1))) λx13=>oM (bf x13 (.int 0))) λx14=>bd (oM (bf gaO (.int 0))) λx15=>oM (bC x14 x15)) λb21=>if b21 then bd (bd (oM (bf x9 (.int 1))) λx16=>oM (bf x16 (.int 0))) λx17=>bd (bd (oM (bf gaO (.int 1))) λx18=>oM (aP x18 (.int 1))) λx19=>oM (qy [x17,x19])else bd (oM (bf x9 (.int 1))) λx20=>oM (bf x20 (.int 0))) λx22=>bd (bd (bd (bd (bd (oM (bf x9 (.int 1))) λx23=>oM (bf x23 (.int 0))) λx24=>bd (bd (oM (bf x9 (.int 1))) λx25=>oM (bf x25 (.int 0))) λx26=>.ret (.tuple [x24,x26])) λx27=>bd (bd (oM (cU gao (.int 1))) λx28=>.ret (.tuple [x22,x28])) λx29=>bd (bd (oM (cU gao (.int 1))) λx30=>.ret (.tuple [(.int 0),x30])) λx31=>bd (bd (oM (cU gao (.int 1))) λx32=>.ret (.tuple [(.int 0),x32])) λx33=>.ret [x27,x29,x31,x33]) λl34=>.ret (PyData.list l34)) λx35=>bd (bp gai x35) λx36=>bd (bd (bd (bd (oM (cI [gai])) λx37=>oM (mV x37 (.int 4))) λb53=>if b53 then bd (bd (bd (bd (bd (asI (.int 5)) λhi38=>oM (bI gai none hi38)) λx39=>bp x39 x35) λx40=>oM (bf x40 (.int 0))) λx41=>asB x41) λb52=>if b52 then bd (bd (bd (bd (asI (.int 1)) λlo42=>bd (asI (.int 3)) λhi43=>oM (bI gai lo42 hi43)) λx44=>oM (fY [x44])) λl45=>.ret (PyData.list l45)) λx50=>bd (bd (bd (bd (asI (.int 3)) λlo46=>bd (asI (.int 5)) λhi47=>oM (bI gai lo46 hi47)) λx48=>oM (fY [x48])) λl49=>.ret (PyData.list l49)) λx51=>oM (bC x50 x51)else .ret false else .ret false) λb54=>.ret (.bool b54)) λx55=>bd (bd (oM (ua x55)) λb56=>if b56 then .ret (.tuple [(.bool false),(.int 4)])else .ret x36) λx57=>.ret x57
def iq:List D->M D:=λl=>match l with
 | [gai,gao,gaO]=>dL gai gao gaO
 | _=>.bad
def mY(Fn:Fun K "_law_meeting" "_law_meeting" fB f fd)(hmg:mg "_law_meeting" = some (.ref f))(B:BN mg)(Kn:KN mg)(Kx:KX K mg)(gaq:CF P w K mg base "_law_numbers" 2 (spD K 2 eW)):CF P w K mg base "_law_meeting" 3 (spD K 3 iq) :=
 ⟨f,fd,["_law_words", "_law_rooms", "_law_last"],cW (k:=2) Fn sc__law_meeting (λcdv A outer s H E hr =>
  (aq (aL (sh:=[.f,.f,.f,.f,.dead,.dead,.dead,.dead]) (aQ (i:=3) sc__law_meeting.nd (az (dP gaq hr.m (af (bh (ao (av 0)) bF (bm ag)) (af (dU (cq (af (aS (af (aO ((mq rfl).or (mr rfl)) wC B.max (by decide +kernel) (aF (ao (bv aU bt (ao (av 2)) (ao ag))) (aF (ao ag) aH))) (af (aJ d6 d9 (ao (av 1)) (ao ag)) aB))) aB))) aB))))))
  (aq (cb (bG (pW (tO (ao (bv aU bt (ao (av 3)) (ao ag))) (λ_=>rfl))))
  (aD (bg (az (av 3))))
  bE)
  (aq (aL (sh:=[.f,.f,.dead,.f,.f,.dead,.dead,.dead]) (aQ (i:=4) sc__law_meeting.nd (az (gm (aZ (bX (bn hr)) bK (ao (bv aU bt (ao (bv aU bt (ao (av 3)) (ao ag))) (ao ag))) (ao (bv aU bt (ao (av 2)) (ao ag)))) (aO ((mq rfl).or (mr rfl)) wC B.max (by decide +kernel) (aF (ao (bv aU bt (ao (bv aU bt (ao (av 3)) (ao ag))) (ao ag))) (aF (ao (aJ aM aW (ao (bv aU bt (ao (av 2)) (ao ag))) (ao ag))) aH))) (bv aU bt (ao (bv aU bt (ao (av 3)) (ao ag))) (ao ag))))))
  (aq (aL (sh:=[.f,.dead,.dead,.dead,.dead,.f,.dead,.dead]) (aQ (i:=5) sc__law_meeting.nd (az (dU (cq (af (aS (af (bv aU bt (ao (bv aU bt (ao (av 3)) (ao ag))) (ao ag)) (af (bv aU bt (ao (bv aU bt (ao (av 3)) (ao ag))) (ao ag)) aB))) (af (aS (af (av 4) (af (aJ d6 d9 (ao (av 1)) (ao ag)) aB))) (af (aS (af ag (af (aJ d6 d9 (ao (av 1)) (ao ag)) aB))) (af (aS (af ag (af (aJ d6 d9 (ao (av 1)) (ao ag)) aB))) aB)))))))))
  (aq (aL (sh:=[.f,.dead,.dead,.dead,.dead,.f,.f,.dead]) (aQ (i:=6) sc__law_meeting.nd (az (dP gaq hr.m (af (av 0) (af (av 5) aB))))))
  (aq (aL (sh:=[.dead,.dead,.dead,.dead,.dead,.dead,.f,.f]) (aQ (i:=7) sc__law_meeting.nd (az (Ed (CL (qa oN oU (ao (aO aV bO B.len dr (aF (ao (av 0)) aH))) (ao ag)) (CL (Ji (bv aU bt (ao (dP gaq hr.m (af (bh (ao (av 0)) bF (bm ag)) (af (av 5) aB)))) (ao ag))) (Hf (qa (bX (bn hr)) bK (ao (dU (vA mm sF B.sorted (by decide +kernel) (aF (ao (bh (ao (av 0)) (bm ag) (bm ag))) aH)))) (ao (dU (vA mm sF B.sorted (by decide +kernel) (aF (ao (bh (ao (av 0)) (bm ag) (bm ag))) aH))))))))))))
  (aD (bg (az (gm (tO (ao (av 7)) (λ_=>rfl)) (aS (af jk (af ag aB))) (av 6))))))))))))
 (λds hl=>(by obtain⟨gai,gao,gaO,rfl⟩:=ln3 hl;kernel_rfl)),hmg,Fn.kp,(xE Fn λ_ _ _ _ _ _ _ _ _=>rfl)⟩
abbrev jQ:Stmt:=top 29
abbrev xO:List Str:=["_law_rows_here", "_law_rooms", "_law_parts", "_law_meets", "_law_k", "_law_row", "_law_words", "_law_found"]
def sc__law_due:FnScope xO ["_law_rows_here"] (aE jQ):=⟨rfl,rfl,rfl,by decide +kernel,rfl,by decide +kernel,by decide +kernel⟩
def cE(gae:D)(gac:D)(gax:List D)(gaf:List D):M D :=
 bd (bd (bd (oM (cI [gae])) λx2=>oM (mV x2 (.int 2))) λb8=>if b8 then bd (bd (oM (bf (PyData.list gax) (.int 0))) λx3=>bd (oM (cF [(PyData.list gaf)])) λx4=>bd (oM (bf (PyData.list gax) (.int 1))) λx5=>.ret (.tuple [gac,x3,x4,x5])) λx6=>.ret (.tuple [(.str "told"),x6])else bd (oM (cI [gae])) λx7=>.ret (.tuple [(.str "none"),x7,(.int 0)])) λx9=>.ret x9
def bJ(kn10:D×D×List D×List D×Unit->M D)(gae:D)(gac:D)(gax:List D)(gaf:List D)(gby:D)(gaw:D):M D :=
 bd (bd (bd (oM (bf gaw (.int 0))) λx21=>oM (ua x21)) λb22=>.ret (!b22)) λb23=>if b23 then
  bd (bd (oM (bf gaw (.int 1))) λx24=>.ret (.tuple [(.str "none"),gby,x24])) λx25=>.ret x25
  else
  bd (oM (bC gby (.int 0))) λb26=>if b26 then
  bd (bd (oM (bf gaw (.int 1))) λx27=>oM (bf x27 (.int 0))) λx28=>kn10 (gae,x28,gax,gaf,())
  else
  bd (oM (gA gby (.int 3))) λb29=>if b29 then
  bd (bd (oM (bf gaw (.int 1))) λx30=>oM (cF [x30])) λx31=>bd (oM (lR gax [x31])) λl32=>kn10 (gae,gac,l32,gaf,())
  else
  bd (bd (oM (bf gaw (.int 1))) λx33=>oM (cF [x33])) λx34=>bd (oM (lR gaf [x34])) λl35=>kn10 (gae,gac,gax,l35,())
def aX(gae:D)(gac:D)(gax:List D)(gaf:List D)(d_:D)(kn10:D×D×List D×List D×Unit->M D):M D :=
 un2 d_ λy11 y12=>bd (bd (onT .str y12 (oM (lZ y12 [(.str " ")]))) λl13=>.ret (PyData.list l13)) λx14=>bd (bd (oM (bf x14 (.int 0))) λx16=>bd (bd (oM (jM [y11,(.int 3)])) λx15=>oM (bf (PyData.list [(.str "rooms"),(.str "starts"),(.str "says"),(.str "meet")]) x15)) λx17=>oM (iA x16 x17)) λb18=>if b18 then
  .ret (.tuple [(.str "none"),y11,(.int 0)])
  else
  bd (oM (bC y11 (.int 0))) λb19=>if b19 then
  bd (bp x14 (PyData.list [(.tuple [(.int 1),(.int 40)])])) λx20=>bJ kn10 gae gac gax gaf y11 x20
  else
  bd (oM (bC y11 (.int 1))) λb36=>if b36 then
  bd (bd (bd (bd (bd (bd (oM (cU gac (.int 1))) λx37=>.ret (.tuple [(.int 0),x37])) λx38=>.ret [x38]) λl42=>bd (bd (bd (bd (oM (cI [x14])) λx39=>oM (cU x39 (.int 1))) λx40=>oM (jM [(.int 4),x40])) λx41=>oM (qy [(.int 1),x41])) λx43=>oM (oO (PyData.list l42) x43)) λl44=>.ret (PyData.list l44)) λx45=>bp x14 x45) λx46=>bJ kn10 gae gac gax gaf y11 x46
  else
  bd (oM (bC y11 (.int 2))) λb47=>if b47 then
  bd (gf x14 gac) λx48=>bJ kn10 gae gac gax gaf y11 x48
  else
  bd (bd (bd (oM (iA (PyData.list gaf) (PyData.list []))) λb54=>if b54 then bd (bd (oM (gO (.int 1))) λx49=>oM (bf (PyData.list gaf) x49)) λx50=>bd (asI (.int 2)) λhi51=>oM (bI x50 none hi51)else bd (oM (gO (.int 1))) λx52=>bd (oM (gO (.int 1))) λx53=>.ret (.tuple [x52,x53])) λx55=>dL x14 gac x55) λx56=>bJ kn10 gae gac gax gaf y11 x56
def eD(gab:D):M D :=
 bd (oM (j4 [gab])) λl1=>jC (λs57 d58 kn=>aX s57.1 s57.2.1 s57.2.2.1 s57.2.2.2.1 d58 kn) l1 (gab,(.int 0),[],[],()) (λs57=>cE s57.1 s57.2.1 s57.2.2.1 s57.2.2.2.1)
def mM:List D->M D:=λl=>match l with
 | [gab]=>eD gab
 | _=>.bad
def uJ(Fn:Fun K "_law_due" "_law_due" jQ f fd)(hmg:mg "_law_due" = some (.ref f))(B:BN mg)(Kn:KN mg)(Kx:KX K mg)(gaq:CF P w K mg base "_law_numbers" 2 (spD K 2 eW))(gbe:CF P w K mg base "_law_says" 1 (spD K 2 kJ))(gaU:CF P w K mg base "_law_meeting" 3 (spD K 3 iq)):CF P w K mg base "_law_due" 4 (spD K 1 mM) :=
 ⟨f,fd,["_law_rows_here"],cW (k:=3) Fn sc__law_due (λcdv A outer s H E hr =>
  (aq (aL (sh:=[.f,.f,.o,.o,.dead,.dead,.dead,.dead]) (Eb (i:=1) (j:=2) (k:=3) rfl sc__law_due.nd rfl rfl rfl (by decide) (by decide) (by decide) rfl rfl rfl rfl rfl))
  (aq (eK (sh:=[.f,.f,.o,.o,.dead,.dead,.dead,.dead]) PassesOwn.leaving rfl (dQ (vB rfl B.enumerate (af (av 0) aB) rfl)) (nJ rfl (eT (bA (i:=4) (di _) sc__law_due.nd) (eT (bA (i:=5) (di _) sc__law_due.nd) nI rfl) rfl) rfl rfl)
  (aq (aL (sh:=[.f,.f,.o,.o,.f,.dead,.f,.dead]) (aQ (i:=6) sc__law_due.nd (az (dU (tR (ty:=.str) ot L7 L5 oX (ao (av 5)) (af aK aB) rfl rfl rfl rfl rfl)))))
  (aq (cb (bG (aZ (oJ (bn hr)) bK (ao (bv aU bt (ao (av 6)) (ao ag))) (ao (bv aU bt (ao (dU (cq (af aK (af aK (af aK (af aK aB))))))) (ao (aO (mn rfl) sK B.min (by decide +kernel) (aF (ao (av 4)) (aF (ao ag) aH))))))))
  (aD (bg (az (aS (af aK (af (av 4) (af ag aB)))))))
  bE)
  (aq (aL (sh:=[.f,.f,.o,.o,.f,.dead,.dead,.f]) (cb (bG (aZ (bX (bn hr)) bK (ao (av 4)) (ao ag)))
  (aD (aQ (i:=7) sc__law_due.nd (az (dP gaq hr.m (af (av 6) (af (dU (cq (af (aS (af ag (af ag aB))) aB))) aB))))))
  (aD (cb (bG (aZ (bX (bn hr)) bK (ao (av 4)) (ao ag)))
  (aD (aQ (i:=7) sc__law_due.nd (az (dP gaq hr.m (af (av 6) (af (dU (Hc (cq (af (aS (af ag (af (aJ d6 d9 (ao (av 1)) (ao ag)) aB))) aB)) (ao (aO ((mq rfl).or (mr rfl)) wC B.max (by decide +kernel) (aF (ao ag) (aF (ao (aO (mn rfl) sK B.min (by decide +kernel) (aF (ao ag) (aF (ao (aJ d6 d9 (ao (aO aV bO B.len dr (aF (ao (av 6)) aH))) (ao ag))) aH)))) aH)))))) aB))))))
  (aD (cb (bG (aZ (bX (bn hr)) bK (ao (av 4)) (ao ag)))
  (aD (aQ (i:=7) sc__law_due.nd (az (dP gbe hr.m (af (av 6) (af (av 1) aB))))))
  (aD (aQ (i:=7) sc__law_due.nd (az (dP gaU hr.m (af (av 6) (af (av 1) (af (gm (aZ (oJ (bn hr)) bK (cg (i:=3)) (ao (dU (cq aB)))) (bh (ao (bv aU bt (cg (i:=3)) (ao (zr rS sJ (ao ag))))) bF (bm ag)) (aS (af (zr rS sJ (ao ag)) (af (zr rS sJ (ao ag)) aB)))) aB)))))))))))))
  (aq (cb (bG (pW (tO (ao (bv aU bt (ao (av 7)) (ao ag))) (λ_=>rfl))))
  (aD (bg (az (aS (af aK (af (av 4) (af (bv aU bt (ao (av 7)) (ao ag)) aB)))))))
  bE)
  (aD (cb (bG (aZ (bX (bn hr)) bK (ao (av 4)) (ao ag)))
  (aD (aQ (i:=1) sc__law_due.nd (az (bv aU bt (ao (bv aU bt (ao (av 7)) (ao ag))) (ao ag)))))
  (aD (cb (bG (aZ qV qX (ao (av 4)) (ao ag)))
  (aD (ik (i:=2) rfl (vi rfl) (aj (az (bP bq cn B.tuple (by decide +kernel) (aF (ao (bv aU bt (ao (av 7)) (ao ag))) aH))) aG) rfl rfl rfl rfl rfl rfl))
  (aD (ik (i:=3) rfl (vi rfl) (aj (az (bP bq cn B.tuple (by decide +kernel) (aF (ao (bv aU bt (ao (av 7)) (ao ag))) aH))) aG) rfl rfl rfl rfl rfl rfl)))))))))))
  (aD (bg (az (gm (aZ oN oU (ao (aO aV bO B.len dr (aF (ao (av 0)) aH))) (ao ag)) (aS (af aK (af (aS (af (av 1) (af (bv aU bt (cg (i:=2)) (ao ag)) (af (bP bq cn B.tuple (by decide +kernel) (aF (cg (i:=3)) aH)) (af (bv aU bt (cg (i:=2)) (ao ag)) aB))))) aB))) (aS (af aK (af (aO aV bO B.len dr (aF (ao (av 0)) aH)) (af ag aB)))))))))))
 (λds hl=>(by obtain⟨gab,rfl⟩:=ln1 hl;kernel_rfl)),hmg,Fn.kp,(pU Fn λ_ _ _ _ _ _ _=>rfl)⟩
abbrev iI:Stmt:=top 30
abbrev vK:List Str:=["_law_rows_here", "_law_caught", "_law_found", "e"]
def sc__law_told:FnScope vK ["_law_rows_here"] (aE iI):=⟨rfl,rfl,rfl,by decide +kernel,rfl,by decide +kernel,by decide +kernel⟩
def bL(gaJ:D)(gaw:D):M D :=
 bd (oM (jF gaJ .none)) λb5=>if b5 then
  .ret (.tuple [(.str "told"),gaw])
  else
  bd (bd (oM (pf [("NoText",true)] gaJ)) λb8=>if b8 then bd (oM (zl ["NoText"] "row" gaJ)) λx6=>bd (oM (zl ["NoText"] "word" gaJ)) λx7=>.ret (.tuple [(.str "none"),x6,x7])else .ret (.tuple [(.str "other"),gaJ])) λx9=>.ret x9
def cw(gab:D):M D :=
 Az (A:=D×D×Unit) (B:=D×Unit) (onX (λe_=>.ret (.inr (e_,(.none,())))) (gc gab) λx1=>.ret (.inl (.none,x1,()))) (λs4=>bL s4.1 s4.2.1) (λe2 s3=>mL ["NoText"] e2.cls (bL (nh e2) s3.1))
def kI:List D->M D:=λl=>match l with
 | [gab]=>cw gab
 | _=>.bad
def sM(Fn:Fun K "_law_told" "_law_told" iI f fd)(hmg:mg "_law_told" = some (.ref f))(B:BN mg)(Kn:KN mg)(Kx:KX K mg)(gbf:CF P w K mg base "read_rule" 8 (spD K 1 kG)):CF P w K mg base "_law_told" 9 (spD K 1 kI) :=
 ⟨f,fd,["_law_rows_here"],cW (k:=8) Fn sc__law_told (λcdv A outer s H E hr =>
  (aq (aL (sh:=[.f,.f,.dead,.dead]) (aQ (i:=1) sc__law_told.nd (az e6)))
  (aq (aL (sh:=[.f,.f,.f,.dead]) (aQ (i:=2) sc__law_told.nd (az e6)))
  (aq (aL (sh:=[.dead,.f,.f,.dead]) (D6 (j:=3) (sh:=[.dead,.f,.f,.dead]) (shx:=[.dead,.dead,.f,.dead]) Kx.h_PassError rfl (λ_ _=>(aD (aQ (i:=2) sc__law_told.nd (az (dP gbf hr.m (af (av 0) aB)))))) (λ_=>(aD (aQ (i:=1) sc__law_told.nd (az (av 3))))) (by decide) sc__law_told.nd rfl rfl rfl rfl (by decide)))
  (aq (cb (bG (aZ sB bK (ao (av 1)) (ao e6)))
  (aD (bg (az (aS (af aK (af (av 2) aB))))))
  bE)
  (aD (bg (az (gm (tP (CI Kx.i_NoText rfl B.isinstance rfl (av 1) rfl rfl rfl (by decide)) (λ_=>rfl)) (aS (af aK (af (CA Kx.a_row (av 1) rfl) (af (CA Kx.a_word (av 1) rfl) aB)))) (aS (af aK (af (av 1) aB))))))))))))
 (λds hl=>(by obtain⟨gab,rfl⟩:=ln1 hl;kernel_rfl)),hmg,Fn.kp,(pU Fn λ_ _ _ _ _ _ _=>rfl)⟩
abbrev eU:Stmt:=top 31
abbrev nj:List Str:=["_law_feed_here", "_law_row", "_law_words", "_law_at", "_law_odd", "_law_way"]
def sc__law_row_bent:FnScope nj ["_law_feed_here", "_law_row"] (aE eU):=⟨rfl,rfl,rfl,by decide +kernel,rfl,by decide +kernel,by decide +kernel⟩
def df(gaa:List D)(ga7:D):M (D×List D) :=
 bd (bd (onT .str ga7 (oM (lZ ga7 [(.str " ")]))) λl1=>.ret (PyData.list l1)) λx2=>bd (bd (oM (cI [x2])) λx3=>oM (aP x3 (.int 1))) λx4=>bd (aC gaa x4) λr5=>bd (oM (aP (PyData.list [(.str ""),(.str "0"),(.str "1"),(.str "2"),(.str "3"),(.str "4"),(.str "39"),(.str "40"),(.str "41"),(.str "00"),(.str "01"),(.str "-1"),(.str "yes"),(.str "no"),(.str "Yes"),(.str "meet"),(.str "says")]) (PyData.list [(.str "starts"),(.str "rooms"),(.str "1_0"),(.str "+1"),(.str "0 0"),(.str "1234567890"),(.str "x"),(.str "0,1")]))) λx6=>bd (aC r5.2 (.int 4)) λr7=>bd (oM (gA r7.1 (.int 2))) λb8=>if b8 then
  bd (bd (asI r5.1) λhi9=>oM (bI x2 none hi9)) λx10=>bd (dk r7.2 x6) λr11=>bd (oM (aP x10 (.list [r11.1]))) λx12=>bd (bd (bd (oM (aP r5.1 r7.1)) λx13=>asI x13) λlo14=>oM (bI x2 lo14 none)) λx15=>bd (oM (aP x12 x15)) λx16=>bd (oM (jb (.str " ") [x16])) λx17=>.ret (x17,r11.2)
  else
  bd (bd (oM (bC r7.1 (.int 2))) λb32=>if b32 then bd (bd (asI r5.1) λhi18=>oM (bI x2 none hi18)) λx21=>bd (bd (bd (oM (aP r5.1 (.int 1))) λx19=>asI x19) λlo20=>oM (bI x2 lo20 none)) λx22=>oM (aP x21 x22)else bd (bd (bd (asI r5.1) λhi23=>oM (bI x2 none hi23)) λx27=>bd (bd (bd (oM (cU r5.1 (.int 1))) λx24=>asI x24) λlo25=>bd (asI r5.1) λhi26=>oM (bI x2 lo25 hi26)) λx28=>oM (aP x27 x28)) λx30=>bd (bd (asI r5.1) λlo29=>oM (bI x2 lo29 none)) λx31=>oM (aP x30 x31)) λx33=>bd (onT .str (.str " ") (oM (jb (.str " ") [x33]))) λx34=>.ret (x34,r7.2)
def gP:List D->List D->M (D×List D):=λgaa l=>match l with
 | [ga7]=>df gaa ga7
 | _=>.bad
def lG(Fn:Fun K "_law_row_bent" "_law_row_bent" eU f fd)(hmg:mg "_law_row_bent" = some (.ref f))(B:BN mg)(Kn:KN mg)(Kx:KX K mg)(gad:CF P w K mg base "_law_next" 1 (sp1 K 2 cy))(gaF:CF P w K mg base "_law_one" 2 (sp1 K 2 fW)):CF P w K mg base "_law_row_bent" 3 (sp1 K 2 gP) :=
 ⟨f,fd,["_law_feed_here", "_law_row"],lY (k:=2) Fn sc__law_row_bent (λcdv A outer s H E hr =>
  (aq (aL (sh:=[.p,.dead,.f,.dead,.dead,.dead]) (aQ (i:=2) sc__law_row_bent.nd (az (dU (tR (ty:=.str) ot L7 L5 oX (ao (av 1)) (af aK aB) rfl rfl rfl rfl rfl)))))
  (aq (aL (sh:=[.p,.dead,.f,.f,.dead,.dead]) (aQ (i:=3) sc__law_row_bent.nd (bH (i:=0) gad hr.m (aj (az (aJ aM aW (ao (aO aV bO B.len dr (aF (ao (av 2)) aH))) (ao ag))) aG))))
  (aq (aL (sh:=[.p,.dead,.f,.f,.f,.dead]) (aQ (i:=4) sc__law_row_bent.nd (az (dU (cq (af aK (af aK (af aK (af aK (af aK (af aK (af aK (af aK (af aK (af aK (af aK (af aK (af aK (af aK (af aK (af aK (af aK aB))))))))))))))))))))))
  (aq (aL (sh:=[.p,.dead,.f,.f,.f,.dead]) (aQ (i:=4) sc__law_row_bent.nd (az (aJ aM aW (ao (av 4)) (ao (dU (cq (af aK (af aK (af aK (af aK (af aK (af aK (af aK (af aK aB)))))))))))))))
  (aq (aL (sh:=[.p,.dead,.f,.f,.f,.f]) (aQ (i:=5) sc__law_row_bent.nd (bH (i:=0) gad hr.m (aj (az ag) aG))))
  (aq (cb (bG (aZ qV qX (ao (av 5)) (ao ag)))
  (aD (bg (CG ot Db Ch kD (aj (j8 aM aW (j8 aM aW (az (bh (ao (av 2)) bF (bm (av 3)))) (tU (lm (aj (bH (i:=0) gaF hr.m (aj (az (av 4)) aG)) aG)))) (az (bh (ao (av 2)) (bm (aJ aM aW (ao (av 3)) (ao (av 5)))) bF))) aG) rfl rfl rfl rfl rfl)))
  bE)
  (aq (aL (sh:=[.p,.dead,.f,.dead,.dead,.dead]) (aQ (i:=2) sc__law_row_bent.nd (az (gm (aZ (bX (bn hr)) bK (ao (av 5)) (ao ag)) (aJ aM aW (ao (bh (ao (av 2)) bF (bm (av 3)))) (ao (bh (ao (av 2)) (bm (aJ aM aW (ao (av 3)) (ao ag))) bF))) (aJ aM aW (ao (aJ aM aW (ao (bh (ao (av 2)) bF (bm (av 3)))) (ao (bh (ao (av 2)) (bm (aJ d6 d9 (ao (av 3)) (ao ag))) (bm (av 3)))))) (ao (bh (ao (av 2)) (bm (av 3)) bF)))))))
  (aD (bg (az (nG (ty:=.str) ot Db Ch kD (ao aK) (af (av 2) aB) rfl rfl rfl rfl rfl))))))))))))
 (λg ds hl=>(by obtain⟨ga7,rfl⟩:=ln1 (Nat.succ.inj hl);kernel_rfl)),hmg,Fn.kp,(pT Fn λ_ _ _ _ _ _ _ _=>rfl)⟩
abbrev iP:Stmt:=top 32
abbrev vQ:List Str:=["_law_feed_here", "_law_rows_here", "_law_at", "_law_to", "_law_way"]
def sc__law_bent:FnScope vQ ["_law_feed_here", "_law_rows_here"] (aE iP):=⟨rfl,rfl,rfl,by decide +kernel,rfl,by decide +kernel,by decide +kernel⟩
def eS(gaa:List D)(gab:D):M (D×List D) :=
 bd (bd (oM (cI [gab])) λx1=>oM (aP x1 (.int 1))) λx2=>bd (aC gaa x2) λr3=>bd (bd (oM (cI [gab])) λx4=>oM (aP x4 (.int 1))) λx5=>bd (aC r3.2 x5) λr6=>bd (aC r6.2 (.int 7)) λr7=>bd (bd (oM (gA r7.1 (.int 4))) λb9=>if b9 then bd (oM (cI [gab])) λx8=>oM (gA r3.1 x8)else .ret false) λb10=>if b10 then
  bd (bd (asI r3.1) λhi11=>oM (bI gab none hi11)) λx12=>bd (oM (bf gab r3.1)) λx13=>bd (df r7.2 x13) λr14=>bd (oM (aP x12 (.list [r14.1]))) λx15=>bd (bd (bd (oM (aP r3.1 (.int 1))) λx16=>asI x16) λlo17=>oM (bI gab lo17 none)) λx18=>bd (oM (aP x15 x18)) λx19=>.ret (x19,r14.2)
  else
  bd (oM (bC r7.1 (.int 4))) λb20=>if b20 then
  bd (bd (bd (asI r3.1) λhi21=>oM (bI gab none hi21)) λx24=>bd (bd (bd (oM (aP r3.1 (.int 1))) λx22=>asI x22) λlo23=>oM (bI gab lo23 none)) λx25=>oM (aP x24 x25)) λx26=>.ret (x26,r7.2)
  else
  bd (oM (bC r7.1 (.int 5))) λb27=>if b27 then
  bd (bd (bd (bd (asI r3.1) λhi28=>oM (bI gab none hi28)) λx32=>bd (bd (asI r6.1) λlo30=>bd (bd (oM (aP r6.1 (.int 1))) λx29=>asI x29) λhi31=>oM (bI gab lo30 hi31)) λx33=>oM (aP x32 x33)) λx35=>bd (bd (asI r3.1) λlo34=>oM (bI gab lo34 none)) λx36=>oM (aP x35 x36)) λx37=>.ret (x37,r7.2)
  else
  bd (bd (oM (bC r7.1 (.int 6))) λb44=>if b44 then bd (asI r3.1) λhi38=>oM (bI gab none hi38)else bd (bd (bd (asI r3.1) λhi39=>oM (bI gab none hi39)) λx40=>oM (aP x40 (PyData.list [(.str "meet 0 0 0 1")]))) λx42=>bd (bd (asI r3.1) λlo41=>oM (bI gab lo41 none)) λx43=>oM (aP x42 x43)) λx45=>.ret (x45,r7.2)
def kN:List D->List D->M (D×List D):=λgaa l=>match l with
 | [gab]=>eS gaa gab
 | _=>.bad
def sT(Fn:Fun K "_law_bent" "_law_bent" iP f fd)(hmg:mg "_law_bent" = some (.ref f))(B:BN mg)(Kn:KN mg)(Kx:KX K mg)(gad:CF P w K mg base "_law_next" 1 (sp1 K 2 cy))(gaP:CF P w K mg base "_law_row_bent" 3 (sp1 K 2 gP)):CF P w K mg base "_law_bent" 4 (sp1 K 2 kN) :=
 ⟨f,fd,["_law_feed_here", "_law_rows_here"],lY (k:=3) Fn sc__law_bent (λcdv A outer s H E hr =>
  (aq (aL (sh:=[.p,.f,.f,.dead,.dead]) (aQ (i:=2) sc__law_bent.nd (bH (i:=0) gad hr.m (aj (az (aJ aM aW (ao (aO aV bO B.len dr (aF (ao (av 1)) aH))) (ao ag))) aG))))
  (aq (aL (sh:=[.p,.f,.f,.f,.dead]) (aQ (i:=3) sc__law_bent.nd (bH (i:=0) gad hr.m (aj (az (aJ aM aW (ao (aO aV bO B.len dr (aF (ao (av 1)) aH))) (ao ag))) aG))))
  (aq (aL (sh:=[.p,.f,.f,.f,.f]) (aQ (i:=4) sc__law_bent.nd (bH (i:=0) gad hr.m (aj (az ag) aG))))
  (aq (cb (bG (rO (xH (aZ qV qX (ao (av 4)) (ao ag)) (tN (aZ qV qX (ao (av 2)) (ao (aO aV bO B.len dr (aF (ao (av 1)) aH))))))))
  (aD (bg (j8 aM aW (j8 aM aW (az (bh (ao (av 1)) bF (bm (av 2)))) (tU (lm (aj (bH (i:=0) gaP hr.m (aj (az (bv aU bt (ao (av 1)) (ao (av 2)))) aG)) aG)))) (az (bh (ao (av 1)) (bm (aJ aM aW (ao (av 2)) (ao ag))) bF)))))
  bE)
  (aq (cb (bG (aZ (bX (bn hr)) bK (ao (av 4)) (ao ag)))
  (aD (bg (az (aJ aM aW (ao (bh (ao (av 1)) bF (bm (av 2)))) (ao (bh (ao (av 1)) (bm (aJ aM aW (ao (av 2)) (ao ag))) bF))))))
  bE)
  (aq (cb (bG (aZ (bX (bn hr)) bK (ao (av 4)) (ao ag)))
  (aD (bg (az (aJ aM aW (ao (aJ aM aW (ao (bh (ao (av 1)) bF (bm (av 2)))) (ao (bh (ao (av 1)) (bm (av 3)) (bm (aJ aM aW (ao (av 3)) (ao ag))))))) (ao (bh (ao (av 1)) (bm (av 2)) bF))))))
  bE)
  (aD (bg (az (gm (aZ (bX (bn hr)) bK (ao (av 4)) (ao ag)) (bh (ao (av 1)) bF (bm (av 2))) (aJ aM aW (ao (aJ aM aW (ao (bh (ao (av 1)) bF (bm (av 2)))) (ao (dU (cq (af aK aB)))))) (ao (bh (ao (av 1)) (bm (av 2)) bF))))))))))))))
 (λg ds hl=>(by obtain⟨gab,rfl⟩:=ln1 (Nat.succ.inj hl);kernel_rfl)),hmg,Fn.kp,(pT Fn λ_ _ _ _ _ _ _ _=>rfl)⟩
abbrev AX:Stmt:=top 33
abbrev Jl:List Str:=["_law_script", "_law_k", "_law_feed_here", "_law_sorts", "_law_rule_here", "_law_rows_here", "_law_turn", "_law_bent_here"]
def sc_law:FnScope Jl ["_law_script"] (aE AX):=⟨rfl,rfl,rfl,by decide +kernel,rfl,by decide +kernel,by decide +kernel⟩
def Co(gaj:D):M D :=
 .ret (.bool true)
def pR(kn7:D×Unit->M D)(gaj:D)(gag:List D)(gae:D):M D :=
 kn7 (gaj,())
def jf(kn7:D×Unit->M D)(gaj:D)(gag:List D)(gae:D)(d_:D)(kn16:D×List D×D×Unit->M D):M D :=
 bd (eS gag gae) λr17=>bd (bd (bd (bd (bd (oM (rA [r17.1])) λl18=>.ret (PyData.list l18)) λx19=>cw x19) λx20=>oM (kW [x20])) λx22=>bd (bd (eD r17.1) λx21=>oM (kW [x21])) λx23=>oM (iA x22 x23)) λb24=>if b24 then
  .ret (.bool false)
  else
  bd (aC r17.2 (.int 3)) λr25=>bd (oM (bC r25.1 (.int 0))) λb26=>if b26 then kn16 (gaj,r25.2,r17.1,())else kn16 (gaj,r25.2,gae,())
def vq(kn7:D×Unit->M D)(gaj:D)(gag:List D)(gae:D):M D :=
 kn7 (gaj,())
def vp(kn7:D×Unit->M D)(gaj:D)(gag:List D)(gae:D)(d_:D)(kn32:D×List D×D×Unit->M D):M D :=
 bd (eS gag gae) λr33=>bd (bd (bd (bd (bd (oM (rA [r33.1])) λl34=>.ret (PyData.list l34)) λx35=>cw x35) λx36=>oM (kW [x36])) λx38=>bd (bd (eD r33.1) λx37=>oM (kW [x37])) λx39=>oM (iA x38 x39)) λb40=>if b40 then
  .ret (.bool false)
  else
  bd (aC r33.2 (.int 3)) λr41=>bd (oM (bC r41.1 (.int 0))) λb42=>if b42 then kn32 (gaj,r41.2,r33.1,())else kn32 (gaj,r41.2,gae,())
def pQ(gaj:D)(d_:D)(kn7:D×Unit->M D):M D :=
 bd (gg gaj d_) λl8=>bd (aC l8 (.int 4)) λr9=>bd (oM (aP (.int 1) r9.1)) λx10=>bd (aC r9.2 (.int 9)) λr11=>bd (oM (bC r11.1 (.int 1))) λb12=>if b12 then bd (fj r11.2 x10) λr13=>bd (dB r13.1) λx14=>bd (oM (bZ [(.int 4)])) λl15=>jC (λs27 d28 kn=>jf kn7 s27.1 s27.2.1 s27.2.2.1 d28 kn) l15 (gaj,r13.2,x14,()) (λs27=>pR kn7 s27.1 s27.2.1 s27.2.2.1)else bd (eR r11.2 (.int 4) x10) λr29=>bd (dB r29.1) λx30=>bd (oM (bZ [(.int 4)])) λl31=>jC (λs43 d44 kn=>vp kn7 s43.1 s43.2.1 s43.2.2.1 d44 kn) l31 (gaj,r29.2,x30,()) (λs43=>vq kn7 s43.1 s43.2.1 s43.2.2.1)
def zf(gan:D):M D :=
 bd (bd (cw (PyData.list [])) λx1=>oM (iA x1 (.tuple [(.str "none"),(.int 0),(.int 0)]))) λb2=>if b2 then
  .ret (.bool false)
  else
  bd (bd (bd (bd (oM (cI [gan])) λx3=>oM (jM [(.int 10),x3])) λx4=>oM (aP (.int 2) x4)) λx5=>oM (bZ [x5])) λl6=>jC (λs45 d46 kn=>pQ s45.1 d46 kn) l6 (gan,()) (λs45=>Co s45.1)
def sZ:List D->M D:=λl=>match l with
 | [gan]=>zf gan
 | _=>.bad
def GS(Fn:Fun K "law" "law" AX f fd)(B:BN mg)(Kn:KN mg)(Kx:KX K mg)(gaZ:CF P w K mg base "_law_told" 9 (spD K 1 kI))(gbg:CF P w K mg base "_law_feed" 1 (spL K 2 kM))(gbh:CF P w K mg base "_law_rows" 1 (spD K 1 kL))(gad:CF P w K mg base "_law_next" 1 (sp1 K 2 cy))(ga8:CF P w K mg base "_law_great" 3 (sp1 K 2 jJ))(gbi:CF P w K mg base "_law_rule" 3 (sp1 K 3 kK))(gbj:CF P w K mg base "_law_bent" 4 (sp1 K 2 kN))(gbo:CF P w K mg base "_law_due" 4 (spD K 1 mM)):FnOk P w K mg base (CX1 P w) 10 f fd ["_law_script"] (spD K 1 sZ) :=
 cW (k:=9) Fn sc_law (λcdv A outer s H E hr =>
  (aq (cb (bG (aZ (oJ (bn hr)) bK (ao (dP gaZ hr.m (af (dU (cq aB)) aB))) (ao (aS (af aK (af ag (af ag aB)))))))
  (aD (bg (az jk)))
  bE)
  (aq (eK (sh:=[.f,.dead,.dead,.dead,.dead,.dead,.dead,.dead]) PassesOwn.leaving rfl (dQ (dC rfl B.range (af (aJ aM aW (ao ag) (ao (aO (mn rfl) sK B.min (by decide +kernel) (aF (ao ag) (aF (ao (aO aV bO B.len dr (aF (ao (av 0)) aH))) aH))))) aB) rfl)) (bA (i:=1) (di _) sc_law.nd)
  (aq (aL (sh:=[.f,.dead,.o,.dead,.dead,.dead,.dead,.dead]) (gj (i:=2) sc_law.nd (jm (Je gbg hr.m (af (av 0) (af (av 1) aB))))))
  (aq (aL (sh:=[.f,.dead,.o,.f,.dead,.dead,.dead,.dead]) (aQ (i:=3) sc_law.nd (j8 aM aW (az ag) (bH (i:=2) gad hr.m (aj (az ag) aG)))))
  (aq (aL (sh:=[.f,.dead,.o,.dead,.f,.dead,.dead,.dead]) (aQ (i:=4) sc_law.nd (Ff (tS (bX (bn hr)) bK (bH (i:=2) gad hr.m (aj (az ag) aG)) (az ag)) (bH (i:=2) ga8 hr.m (aj (az (av 3)) aG)) (bH (i:=2) gbi hr.m (aj (az ag) (aj (az (av 3)) aG))))))
  (aq (aL (sh:=[.f,.dead,.o,.dead,.dead,.f,.dead,.dead]) (aQ (i:=5) sc_law.nd (az (dP gbh hr.m (af (av 4) aB)))))
  (aD (eK (sh:=[.f,.dead,.o,.dead,.dead,.f,.dead,.dead]) PassesOwn.leaving rfl (dQ (dC rfl B.range (af ag aB) rfl)) (bA (i:=6) (di _) sc_law.nd)
  (aq (aL (sh:=[.f,.dead,.o,.dead,.dead,.f,.dead,.f]) (aQ (i:=7) sc_law.nd (bH (i:=2) gbj hr.m (aj (az (av 5)) aG))))
  (aq (cb (bG (aZ (oJ (bn hr)) bK (ao (aO (rG (bn hr) hr.gd) yA B.repr (by decide +kernel) (aF (ao (dP gaZ hr.m (af (dU (Ao tI Ds B.list (by decide +kernel) (aF (ao (av 7)) aH))) aB))) aH))) (ao (aO (rG (bn hr) hr.gd) yA B.repr (by decide +kernel) (aF (ao (dP gbo hr.m (af (av 7) aB))) aH)))))
  (aD (bg (az jk)))
  bE)
  (aD (aQ (i:=5) sc_law.nd (Ff (tS (bX (bn hr)) bK (bH (i:=2) gad hr.m (aj (az ag) aG)) (az ag)) (az (av 7)) (az (av 5))))))))))))))
  (aD (bg (az jk))))))
 (λds hl=>(by obtain⟨gan,rfl⟩:=ln1 hl;kernel_rfl))
end
end
end K11
namespace L4
open PySem PySem.Spec PyProof.Rows L2 L3
variable {S T:Type}{n a b:Nat}{p q:Nat×Nat}
def bdR(s:S)(k:S->M T):bd (.ret s) k=k s:=id rfl
def oMS(s:S):oM (some s)=.ret s:=id rfl
theorem yY{S T:Type}{step:T->D->(T->M S)->M S}{R:M S}{P:Nat->T->Prop}:∀(ds:List D) (i:Nat) (s:T) (k:T->M S),
  (∀(j:Nat) (s:T) (d:D),d∈ds->i<=j->j<i+ds.length->P j s->∀kn:T->M S,(∀s',P (j+1) s'->kn s'=R)->step s d kn=R) ->
  P i s->(∀s',P (i+ds.length) s'->k s'=R)->cu step ds s k=R
 | [],i,s,k,_,hp,hk=>hk s hp
 | d::r,i,s,k,h,hp,hk=>by
  show step s d _=R;refine h i s d am (au _) (by simp) hp _ λs' hp'=>?_
  refine yY r (i+1) s' k (λj s d hd hj hl=>h j s d (zzg _ hd) (by lia) (by simp;lia)) hp' λs' hs=>hk s' ?_
  have:i+(d::r).length=i+1+r.length:=by simp;lia
  rw[this];exact hs
def DP{step:T->D->(T->M S)->M S}{R:M S}{P:Nat->T->Prop}(ds:List D)(i:Nat)(s:T)(k:T->M S)
  (h:∀(j:Nat) (s:T) (d:D),d∈ds->i<=j->j<i+ds.length->P j s->∀kn:T->M S,(∀s',P (j+1) s'->kn s'=R)->step s d kn=R)
  (hp:P i s) (hk:∀s',P (i+ds.length) s'->k s'=R):jC step ds s k=R:=by
 rw[e8];exact yY ds i s k h hp hk
def dG{ds:List S}(h:ds.length<=1000):fJ ds=.ret ds:=ak (jX h)
theorem nB{α:Type}(xs:List α)(i:Nat)(h:i<xs.length):atI xs (i:Int)=some (xs[i]'h):=by
 unfold atI ixN;rw[ak (Int.natCast_nonneg _),ak (by lia)];simp[h]
theorem Cs{α:Type}(xs:List α)(i:Int)(h0:0<=i)(h:i<xs.length):∃x∈xs,atI xs i=some x:=by
 obtain⟨n,rfl⟩:=Int.eq_ofNat_of_zero_le h0;exact⟨_,List.getElem_mem _,nB xs n (by lia)⟩
def lC(s:Str):Bool:=PyData.strOk s&&decide ((reprText s).length<=24)&&PyData.strOk (reprText s)
def Ok(k:Nat):Nat->D->Prop
 | 0,_=>False
 | _+1,.none=>True
 | _+1,.bool _=>True
 | _+1,.int i=>i.natAbs<10^(16+k)
 | _+1,.str s=>lC s=true
 | n+1,.list ds=>ds.length<=6+k/\∀d∈ds,Ok k n d
 | n+1,.tuple ds=>ds.length<=6+k/\∀d∈ds,Ok k n d
 | _+1,.dict _=>False
def jv:∀{ds:List D},(∀d∈ds,d.canLay0=true)->PyData.canLayAll0 ds=true
 | [],_=>by simp[PyData.canLayAll0]
 | d::r,h=>by
  simp only[PyData.canLayAll0,ai];exact⟨h d am,jv λe he=>h e (zzg _ he)⟩
def fK{n:Nat}:∀{ds:List D},(∀d∈ds,d.depth<=n)->PyData.depthAll ds<=n
 | [],_=>by simp[PyData.depthAll]
 | d::r,h=>by
  simp only[PyData.depthAll];exact Nat.max_le.mpr ⟨h d am,fK λe he=>h e (zzg _ he)⟩
def Gy{m:Nat}(h:m<10^36):m.log2<1920:=by
 by_cases h0:m=0
 ·subst h0;decide
 ·exact(Nat.log2_lt h0).mpr (bo h (by decide +kernel))
def strOk_iff{s:Str}:PyData.strOk s=true↔∀c∈s.cps.toList,c<1114112:=by
 unfold PyData.strOk;rw[<-Array.all_toList,gh];simp
theorem br(s:String):PyData.strOk (Str.ofString s)=true:=by
 rw[strOk_iff,signs_ofString];intro c hc;obtain⟨ch,_,rfl⟩:=List.mem_map.mp hc;have:=ch.valid;have e:ch.toNat=ch.val.toNat:=rfl;rw[e];rcases this with h|⟨_,h⟩
 ·have h':ch.val.toNat<0xd800:=h;lia
 ·have h':ch.val.toNat<0x110000:=h;lia
def jq{a b:Str}(ha:PyData.strOk a=true)(hb:PyData.strOk b=true):PyData.strOk (a++b)=true:=by
 rw[strOk_iff]at *;intro c hc;rcases mem_cps_append.mp hc with h|h
 ·exact ha c h
 ·exact hb c h
def gW{sep:Str}{ts:List Str}(hs:PyData.strOk sep=true)(h:∀t∈ts,PyData.strOk t=true):PyData.strOk (Str.join sep ts)=true:=by
 rw[strOk_iff]at *;intro c hc;rcases(mem_join sep c ts).mp hc with ⟨t,ht,hc⟩|⟨_,hc⟩
 ·exact strOk_iff.mp (h t ht) c hc
 ·exact hs c hc
theorem yO{ts:List Str}:(Str.join ", " ts).length<=piled ts:=by
 by_cases h:ts=[]
 ·subst h;exact di _
 ·have:=join_length_add ts h;lia
def lim:Nat->Nat
 | 0=>24
 | n+1=>4+9*(lim n+2)
def eqI(a b:Int):bC (.int a) (.int b)=some (a==b):=by
 unfold bC pG;simp[PyData.canLay0,PyData.depth,PyData.eqv]
def ltI(a b:Int):gA (.int a) (.int b)=some (decide (a<b)):=id rfl
def gtI(a b:Int):mV (.int a) (.int b)=some (decide (b<a)):=id rfl
def geI(a b:Int):uG (.int a) (.int b)=some (decide (b<=a)):=id rfl
def addI(a b:Int):aP (.int a) (.int b)=some (.int (a+b)):=id rfl
def modI(i j:Int)(h:0<j):iU (.int i) (.int j)=some (.int (i % j)):=ak h
def divI(i j:Int)(h:0<j)(h2:j<1073741824):uH (.int i) (.int j)=some (.int (i / j)):=ak (by simp[h,h2])
def mulL(i j:Int)(h : -(2^64)<i)(h2:i<2^64):gz (.int i) (.int j)=some (.int (i*j)):=ak (by simp only[yG,ii,ai,zzi];exact .inl ⟨h,h2⟩)
def mulR(i j:Int)(h : -(2^64)<j)(h2:j<2^64):gz (.int i) (.int j)=some (.int (i*j)):=ak (by simp only[yG,ii,ai,zzi];exact .inr ⟨h,h2⟩)
def asB_b(b:Bool):asB (.bool b)=.ret b:=id rfl
def ka(b:Bool):ua (.bool b)=some b:=id rfl
def lenL(ds:List D):cI [.list ds]=some (.int ds.length):=id rfl
def KW(ds:List D):zE (.tuple ds)=some ds:=id rfl
def KY(ds:List D):zE (.list ds)=some ds:=id rfl
def j9(ds:List D):cF [.list ds]=some (.tuple ds):=id rfl
def KQ(ds:List D):cF [.tuple ds]=some (.tuple ds):=id rfl
def DH(ds:List D)(n:Nat)(h:n<ds.length):bf (.tuple ds) (.int n)=some ds[n]:=nB ds n h
def uW(a:D)(r:List D):bf (.tuple (a::r)) (.int 0)=some a:=DH (a::r) 0 (by simp)
def z7(a b:D)(r:List D):bf (.tuple (a::b::r)) (.int 1)=some b:=DH (a::b::r) 1 (by simp)
def J6(a b c:D)(r:List D):bf (.tuple (a::b::c::r)) (.int 2)=some c:=DH (a::b::c::r) 2 (by simp)
def J5(a b c d:D)(r:List D):bf (.tuple (a::b::c::d::r)) (.int 3)=some d:=DH (a::b::c::d::r) 3 (by simp)
def ix3_0(a b c:D):bf (.list [a,b,c]) (.int 0)=some a:=id rfl
def ix3_1(a b c:D):bf (.list [a,b,c]) (.int 1)=some b:=id rfl
def ix3_2(a b c:D):bf (.list [a,b,c]) (.int 2)=some c:=id rfl
def put3_0(a b c d:D):putD [a,b,c] (.int 0) d=some [d,b,c]:=id rfl
def put3_2(a b c d:D):putD [a,b,c] (.int 2) d=some [a,b,d]:=id rfl
def addL(a b:List D)(h:a.length+b.length<=1000):aP (.list a) (.list b)=some (.list (a++b)):=ak (jX h)
theorem Ce(ds:List D)(n:Nat):L4.cutD ds (some n) none=ds.drop n:=by
 unfold L4.cutD;rw[HT.sIx_nat,HT.sIx_none];by_cases h:n<=ds.length
 ·rw[yp h,L8 (by rw[fi];lia)]
 ·rw[Lj (by lia),L9 (au _),L9 (by lia)];simp
theorem GY(ds:List D)(n:Nat):L4.cutD ds none (some n)=ds.take n:=by
 unfold L4.cutD;rw[HT.sIx_nat,HT.sIx_none];by_cases h:n<=ds.length
 ·rw[yp h];simp
 ·rw[Lj (by lia)];simp;rw[L8 (by lia)]
def iteB(a b:Bool):(if a=true then(M.ret b)else .ret false)=.ret (a&&b):=by cases a<;>rfl
def IL(a b:Bool):(if a=true then(M.ret true)else .ret b)=.ret (a||b):=by cases a<;>rfl
theorem D2(n m:Nat):((n:Int)==(m:Int))=decide (n=m):=by
 by_cases h:n=m
 ·simp[h]
 ·simp only[h,decide_false];rw[beq_eq_false_iff_ne];lia
def sW(lo hi:Int):D->Bool
 | .int i=>decide (lo<=i)&&decide (i<=hi)
 | _=>false
def sS(w:Str):D->Bool
 | .str s=>s==w
 | _=>false
def Ey(d:D):Prop:=d.canLay0=true/\d.depth<=1000
def eqS{d:D}(h:Ey d)(w:String):bC d (.str w)=some (sS w d):=by
 unfold bC pG;have hw:PyData.canLay0 (.str w)=true:=by simp[PyData.canLay0,br]
 rw[ak (by simp[h.1,h.2,hw])]
 cases d<;>simp[PyData.eqv,sS]
def yZ{S T:Type}{step:T->D->(T->M S)->M S}{R:M S->Prop}{P:Nat->T->Prop}{k:T->M S}:∀(ds:List D) (i:Nat) (s:T),
  (∀(j:Nat) (s:T) (d:D),ds[j]? = some d->P (i+j) s->∀kn:T->M S,(∀s',P (i+j+1) s'->R (kn s'))->R (step s d kn)) ->
  P i s->(∀s',P (i+ds.length) s'->R (k s'))->R (cu step ds s k)
 | [],i,s,_,hp,hk=>hk s hp
 | d::r,i,s,h,hp,hk=>by
  show R (step s d _);refine h 0 s d rfl hp _ λs' hp'=>?_
  refine yZ r (i+1) s' (λj s d hd hp kn hkn=>h (j+1) s d (by simpa using hd) (by rw[show i+(j+1)=i+1+j by lia];exact hp) kn λs' q=>hkn s' (by rw[show i+1+j+1=i+(j+1)+1 by lia];exact q)) hp' λs' hs=>hk s' ?_
  rw[show i+(d::r).length=i+1+r.length by simp;lia];exact hs
def tE{step:T->D->(T->M S)->M S}{R:M S->Prop}{P:Nat->T->Prop}{k:T->M S}(ds:List D)(s:T)
  (h:∀(j:Nat) (s:T) (d:D),ds[j]? = some d->P j s->∀kn:T->M S,(∀s',P (j+1) s'->R (kn s'))->R (step s d kn))
  (hp:P 0 s) (hk:∀s',P ds.length s'->R (k s')):R (jC step ds s k):=by
 rw[e8];exact yZ ds 0 s (by simpa using h) hp (by simpa using hk)
def fq{ι:Type}{step:D->M (Option D)}{e g:ι->D}:∀(is:List ι),(∀i∈is,step (e i)=.ret (some (g i)))->cj step (is.map e)=.ret (is.map g)
 | [],_=>rfl
 | i::r,h=>by
  rw[ba,cj,h i am,fq r λd hd=>h d (zzg _ hd)];rfl
def pM{ι:Type}{step:D->M (Option D)}{e:ι->D}{g:ι->Option D}:∀(is:List ι),(∀i∈is,step (e i)=.ret (g i))->cj step (is.map e)=.ret (is.filterMap g)
 | [],_=>rfl
 | i::r,h=>by
  rw[ba,cj,h i am,pM r λd hd=>h d (zzg _ hd)]
  cases q:g i<;>simp[ju,bdR,je,q]
theorem rC{T ι:Type}{step:T->D->M (Option D×T)}{P:Nat->T->Prop}{e:ι->D}{R:ι->Prop}:∀(ds:List D) (i:Nat) (s:T),
  (∀(j:Nat) (s:T) (d:D),ds[j]? = some d->P (i+j) s->∃x s',step s d=.ret (some (e x),s')/\P (i+j+1) s'/\R x)->P i s ->
  ∃xs s',dH step ds s=.ret (List.map e xs,s')/\P (i+ds.length) s'/\xs.length=ds.length/\∀x∈xs,R x
 | [],i,s,_,hp=>⟨[],s,rfl,hp,rfl,λ_ h=>by cases h⟩
 | d::r,i,s,h,hp=>by
  obtain⟨x,s1,e1,p1,r1⟩:=h 0 s d rfl hp
  obtain⟨xs,s2,e2,p2,l2,r2⟩:=rC r (i+1) s1 (λj s d hd hp=>by
   have:=h (j+1) s d (by simpa using hd) (by rw[show i+(j+1)=i+1+j by lia];exact hp);rw[show i+(j+1)+1=i+1+j+1 by lia]at this
   exact this) p1
  refine⟨x::xs,s2,?_,?_,by simp[l2],?_⟩
  ·rw[dH,e1];simp only[ju,j7];rw[e2];rfl
  ·rw[show i+(d::r).length=i+1+r.length by simp;lia];exact p2
  ·intro y hy
   cases hy with
   | head=>exact r1
   | tail _ h=>exact r2 y h
def jc{ι:Type}{step:T->D->M (Option D×T)}{P:Nat->T->Prop}{e:ι->D}{R:ι->Prop}(ds:List D)(s:T)
  (h:∀(j:Nat) (s:T) (d:D),ds[j]? = some d->P j s->∃x s',step s d=.ret (some (e x),s')/\P (j+1) s'/\R x) (hp:P 0 s) :
  ∃xs s',dH step ds s=.ret (List.map e xs,s')/\P ds.length s'/\xs.length=ds.length/\∀x∈xs,R x:=by
 have:=rC (step:=step) (P:=P) (e:=e) (R:=R) ds 0 s (by simpa using h) hp;simpa using this
abbrev iN(n:Nat):D:=.int (n:Int)
def rng(lo hi:Nat):List Nat:=(List.range (hi - lo)).map (lo + ·)
def n6(lo hi:Nat):(rng lo hi).length=hi - lo:=by simp[rng]
def oj(lo n:Nat):hG (lo:Int) n=((List.range n).map (lo + ·)).map iN:=by
 unfold hG;rw[sk];apply K5;intro a _;show PyData.int _=PyData.int _;congr 1
theorem lD(h:n<=100000):gX (n:Int)=true:=by
 unfold gX;simp only[ai,zzi];lia
def fU(n:Nat)(h:n<=100000):bZ [.int (n:Int)]=some ((List.range n).map iN):=by
 unfold bZ;simp only[lD h,Lr];have:=oj 0 n;simp only[we];rw[show(0:Int)=((0:Nat):Int)from rfl,this];simp
theorem sq(lo hi:Nat)(h:lo<=100000)(h2:hi<=100000):eH [.int (lo:Int),.int (hi:Int)]=some ((rng lo hi).map iN):=by
 unfold eH;simp only[lD h,lD h2,Bool.and_self,Lr];rw[show((hi:Int) - (lo:Int)).toNat=hi - lo by lia,oj];rfl
mutual
def sz:D->Nat
 | .list ds=>1+szs ds
 | .tuple ds=>1+szs ds
 | .none=>1
 | .bool _=>1
 | .int _=>1
 | .str _=>1
 | .dict _=>1
def szs:List D->Nat
 | []=>0
 | d::r=>sz d+szs r
end
mutual
def Sm:D->Prop
 | .list ds=>Sms ds
 | .tuple ds=>Sms ds
 | .none=>True
 | .bool _=>True
 | .int i=>i.natAbs<10^19
 | .str s=>lC s=true
 | .dict _=>False
def Sms:List D->Prop
 | []=>True
 | d::r=>Sm d/\Sms r
end
def tV:∀{ds:List D},(∀d∈ds,Sm d)->Sms ds
 | [],_=>by simp[Sms]
 | e::r,h=>by
  simp only[Sms];exact⟨h e am,tV λd hd=>h d (zzg _ hd)⟩
mutual
def Sm.lay:∀{d:D},Sm d->d.canLay0=true
 | .none,h=>by simp[PyData.canLay0]
 | .bool _,h=>by simp[PyData.canLay0]
 | .int _,h=>by simp[PyData.canLay0]
 | .str s,h=>by
  have h':lC s=true:=by simpa[Sm]using h
  unfold lC at h';simp only[ai]at h';simp[PyData.canLay0,h'.1.1]
 | .list ds,h=>by simp only[PyData.canLay0];exact Sms.lay (by simpa[Sm]using h)
 | .tuple ds,h=>by simp only[PyData.canLay0];exact Sms.lay (by simpa[Sm]using h)
 | .dict _,h=>by simp[Sm]at h
def Sms.lay:∀{ds:List D},Sms ds->PyData.canLayAll0 ds=true
 | [],_=>by simp[PyData.canLayAll0]
 | d::r,h=>by
  simp only[Sms]at h;simp only[PyData.canLayAll0,ai];exact⟨Sm.lay h.1,Sms.lay h.2⟩
end
mutual
def Sm.show:∀{d:D},Sm d->d.showable=true
 | .none,h=>by simp[PyData.showable]
 | .bool _,h=>by simp[PyData.showable]
 | .int i,h=>by
  have h':i.natAbs<10^19:=by simpa[Sm]using h
  simp only[PyData.showable,zzi];exact Gy (bo h' (Lm (by decide) (by decide)))
 | .str s,h=>by simp[PyData.showable]
 | .list ds,h=>by simp only[PyData.showable];exact Sms.show (by simpa[Sm]using h)
 | .tuple ds,h=>by simp only[PyData.showable];exact Sms.show (by simpa[Sm]using h)
 | .dict _,h=>by simp[Sm]at h
def Sms.show:∀{ds:List D},Sms ds->PyData.showableAll ds=true
 | [],_=>by simp[PyData.showableAll]
 | d::r,h=>by
  simp only[Sms]at h;simp only[PyData.showableAll,ai];exact⟨Sm.show h.1,Sms.show h.2⟩
end
mutual
theorem Sm.text:∀{d:D},Sm d->d.shown.length+2<=30*sz d/\PyData.strOk d.shown=true
 | .none,h=>by refine⟨?_,by simp only[PyData.shown];exact br _⟩;simp only[PyData.shown,sz];decide
 | .bool b,h=>by
  refine⟨?_,by cases b<;>simp only[PyData.shown]<;>exact br _⟩
  cases b<;>simp only[PyData.shown,sz]<;>decide
 | .int i,h=>by
  have h':i.natAbs<10^19:=by simpa[Sm]using h
  refine⟨?_,by simp only[PyData.shown];exact br _⟩;simp only[PyData.shown,sz];have h1:=int_text_length_le10 (a:=i) (k:=19) (by decide) h';have h2:(Str.ofString (toString i)).length=(toString i).length:=by
   show(Str.ofString (toString i)).cps.size=_;rw[<-ce,signs_ofString,zzd,String.length_toList]
  lia
 | .str s,h=>by
  have h':lC s=true:=by simpa[Sm]using h
  unfold lC at h';simp only[ai,zzi]at h';simp only[PyData.shown,sz];exact⟨by lia,h'.2⟩
 | .list ds,h=>by
  obtain⟨h1,h2⟩:=Sms.text (ds:=ds) (by simpa[Sm]using h);have h5:(Str.join ", " (PyData.shownAll ds)).length<=piled (PyData.shownAll ds):=yO;have h6:PyData.strOk (Str.join ", " (PyData.shownAll ds))=true:=gW (br _) h2;simp only[PyData.shown,listText_eq_join,sz];refine⟨?_,jq (jq (br _) h6) (br _)⟩;rw[strLen_append,strLen_append];have e1:((("[" : String):Str)).length=1:=rfl;have e2:((("]" : String):Str)).length=1:=rfl;rw[e1,e2];lia
 | .tuple ds,h=>by
  obtain⟨h1,h2⟩:=Sms.text (ds:=ds) (by simpa[Sm]using h);have h5:(Str.join ", " (PyData.shownAll ds)).length<=piled (PyData.shownAll ds):=yO;have h6:PyData.strOk (Str.join ", " (PyData.shownAll ds))=true:=gW (br _) h2;simp only[PyData.shown,tupleText,sz];refine⟨?_,jq (jq (br _) h6) (br _)⟩;rw[strLen_append,strLen_append];have e1:((("(" : String):Str)).length=1:=rfl;have e3:(((if(PyData.shownAll ds).length==1 then ",)" else ")" : String):Str)).length<=2:=by split<;>decide
  rw[e1];lia
 | .dict _,h=>by simp[Sm]at h
theorem Sms.text:∀{ds:List D},Sms ds->piled (PyData.shownAll ds)<=30*szs ds/\∀t∈PyData.shownAll ds,PyData.strOk t=true
 | [],_=>by simp[PyData.shownAll,piled,szs]
 | d::r,h=>by
  simp only[Sms]at h;obtain⟨h1,h2⟩:=Sm.text h.1;obtain⟨h3,h4⟩:=Sms.text h.2;simp only[PyData.shownAll,szs];refine⟨?_,λt ht=>?_⟩
  ·rw[piled_cons];lia
  ·rcases List.mem_cons.mp ht with rfl|ht
   ·exact h2
   ·exact h4 t ht
end
theorem EE{d:D}(h:Sm d)(hs:sz d<=30000)(hd:d.depth<=60):kW [d]=some (.str d.shown):=by
 obtain⟨t1,t2⟩:=h.text;show(if n8 d then some (PyData.str d.shown)else none)=_;unfold n8;rw[ak];simp only[ai,zzi];exact⟨⟨⟨h.show,h.lay⟩,by lia⟩,cr (show d.shown.length<=1000000 by lia) (by decide)⟩
def Gw{d:D}(h:Sm d):iA (.str d.shown) (.str d.shown)=some false:=by
 obtain⟨t1,t2⟩:=h.text;unfold iA pG;rw[ak]
 ·simp[PyData.eqv]
 ·simp[PyData.canLay0,t2,PyData.depth]
def E4{ι:Type}(e:ι->D)(is:List ι)(n:Nat)(h:n<is.length):bf (.list (is.map e)) (.int (n:Int))=some (e is[n]):=by
 have:=nB (is.map e) n (by simpa using h);rw[List.getElem_map]at this;exact this
def gF(ds:List D)(d:D)(h:ds.length<=100000):lR ds [d]=some (ds++[d]):=ak (Nat.lt_of_le_of_lt h (by decide))
def uZ{ds:List S}(h:ds.length<=100000):fJ ds=.ret ds:=ak (cr h (by decide))
abbrev pD(p:Nat×Nat):D:=.tuple [iN p.1,iN p.2]
def EZ(a b:Nat):((a:Int)==(b:Int))=decide (a=b):=D2 a b
def u7(p q:Nat×Nat):PyData.eqv (pD p) (pD q)=decide (p=q):=by
 simp only[pD,iN,PyData.eqv,PyData.eqvAll,EZ,Bool.and_true];rw[zi];simp[Prod.ext_iff]
def uR(p:Nat×Nat):(pD p).canLay0=true/\(pD p).depth<=1000:=by
 simp[pD,PyData.canLay0,PyData.canLayAll0,PyData.depth,PyData.depthAll]
def yE(p q r:Nat×Nat):cQ (pD p) (.tuple [pD q,pD r])=some (!(decide (q=p)||decide (r=p))):=by
 have hi:gR (pD p) [pD q,pD r]=true:=by
  unfold gR;simp[uR,PyData.canLayAll0]
 rw[show cQ (pD p) (.tuple [pD q,pD r])=if gR (pD p) [pD q,pD r]then some (!([pD q,pD r].any λy=>PyData.eqv y (pD p)))else none from rfl,ak hi];simp only[List.any_cons,List.any_nil,u7,Bool.or_false]
def Ky(a b:Nat):aP (iN a) (iN b)=some (iN (a+b)):=by
 show some (PyData.int ((a:Int)+(b:Int)))=_;rw[<-Int.natCast_add]
abbrev Mt:=Nat×Nat×Nat×Nat
abbrev mD(m:Mt):D:=.tuple [iN m.1,iN m.2.1,iN m.2.2.1,iN m.2.2.2]
structure Rl where
 n:Nat
 st:List Nat
 ms:List Mt
 sy:List Bool
abbrev Rl.d(r:Rl):D:=.tuple [iN r.n,.tuple (r.st.map iN),.tuple (r.ms.map mD),.tuple (r.sy.map PyData.bool)]
def plt(p q:Nat×Nat):Prop:=p.1<q.1\/p.1=q.1/\p.2<q.2
structure MtOk(n:Nat)(m:Mt):Prop where
 ab:m.1<=m.2.1
 b:m.2.1<n
 c:m.2.2.1<n
 d:m.2.2.2<n
 ne:m.2.2≠(m.1,m.2.1)
 ne':m.2.2≠(m.2.1,m.1)
structure Wf(r:Rl):Prop where
 n1:1<=r.n
 st:∀s∈r.st,s<r.n
 sy:r.sy.length=r.n
 ms:∀m∈r.ms,MtOk r.n m
 so:r.ms.Pairwise λm m'=>plt (m.1,m.2.1) (m'.1,m'.2.1)
def look(ms:List Mt)(p:Nat×Nat):Option (Nat×Nat):=(ms.find? λm=>decide (m.1=p.1)&&decide (m.2.1=p.2)).map (·.2.2)
def turn(ms:List Mt)(i j:Nat):Nat×Nat:=if i<=j then(look ms (i,j)).getD (i,j)else let t:=(look ms (j,i)).getD (j,i);(t.2,t.1)
theorem nq{ι:Type}{e:ι->D}{B:Nat}(h:∀i,sz (e i)=B):∀l:List ι,szs (l.map e)=l.length*B
 | []=>by simp[szs]
 | i::r=>by rw[ba,szs,nq h r,h i,bi,Nat.succ_mul];lia
theorem min2(a b:Nat):jM [.int (a:Int),.int (b:Int)]=some (iN (min a b)):=by
 show some (PyData.int _)=_;congr 2;split<;>lia
abbrev kvM(m:Mt):D×D:=(pD (m.1,m.2.1),pD m.2.2)
def CH(a:Nat):aP (.int 1) (iN a)=some (iN (a+1)):=by
 show some (PyData.int (1+(a:Int)))=some (PyData.int ((a+1:Nat):Int));rw[Int.natCast_add,Int.add_comm];rfl
theorem FK{lo hi j:Nat}{d:D}(h:((rng lo hi).map iN)[j]? = some d):d=iN (lo+j)/\lo+j<hi:=by
 rw[ku]at h;obtain⟨x,hx,rfl⟩:=Option.map_eq_some_iff.mp h;have hl:=(List.getElem?_eq_some_iff.mp hx).1;rw[n6]at hl;unfold rng at hx;rw[ku,K6 hl]at hx
 cases hx
 exact⟨rfl,by lia⟩
def gL{j:Nat}{d:D}(h:((List.range n).map iN)[j]? = some d):d=iN j/\j<n:=by
 rw[ku]at h;obtain⟨x,hx,rfl⟩:=Option.map_eq_some_iff.mp h;have hl:=(List.getElem?_eq_some_iff.mp hx).1;rw[ke]at hl;rw[K6 hl]at hx
 cases hx
 exact⟨rfl,hl⟩
structure Ahd(n a b:Nat)(ms:List Mt):Prop where
 ok:∀m∈ms,MtOk n m
 so:ms.Pairwise λm m'=>plt (m.1,m.2.1) (m'.1,m'.2.1)
 ah:∀m∈ms,plt (m.1,m.2.1) (a,b)
 le:ms.length<=a*n+b
theorem Ahd.next{ms:List Mt}(h:Ahd n a b ms):Ahd n a (b+1) ms :=
 ⟨h.ok,h.so,λm hm=>by rcases h.ah m hm with q|⟨q,q2⟩<;>simp only[plt]at * <;> lia,by have:=h.le;lia⟩
theorem Ahd.add{ms:List Mt}{c d:Nat}(h:Ahd n a b ms)(hm:MtOk n (a,b,c,d)):Ahd n a (b+1) (ms++[(a,b,c,d)]):=by
 refine⟨λm hm'=>?_,?_,λm hm'=>?_,by have:=h.le;simp;lia⟩
 ·rcases List.mem_append.mp hm' with q|q
  ·exact h.ok m q
  ·rw[List.mem_singleton.mp q];exact hm
 ·rw[List.pairwise_append];refine⟨h.so,List.pairwise_singleton _ _,λm hm x hx=>?_⟩;rw[List.mem_singleton.mp hx];exact h.ah m hm
 ·rcases List.mem_append.mp hm' with q|q
  ·rcases h.ah m q with q|⟨q,q2⟩<;>simp only[plt]at * <;> lia
  ·rw[List.mem_singleton.mp q];exact .inr ⟨rfl,wT _⟩
theorem Ahd.row{ms:List Mt}(h:Ahd n a b ms)(hb:b<=n):Ahd n (a+1) (a+1) ms :=
 ⟨h.ok,h.so,λm hm=>by rcases h.ah m hm with q|⟨q,q2⟩<;>simp only[plt]at * <;> lia,by have:=h.le;rw[Nat.succ_mul];lia⟩
def tab(n:Nat)(f:Nat->Nat):List Nat:=(List.range n).map f
abbrev KR(n:Nat)(f:Nat->Nat):List D:=(tab n f).map iN
def up(f:Nat->Nat)(i v:Nat):Nat->Nat:=λr=>if r=i then v else f r
theorem Hy(a:Nat)(h:1<=a):cU (iN a) (.int 1)=some (iN (a - 1)):=by
 show some (PyData.int ((a:Int) - 1))=some (PyData.int ((a - 1:Nat):Int));congr 2;lia
def cnt(hs:List Nat)(r:Nat):Nat:=hs.count r
theorem BC(d:D)(k:Nat)(h:k<=100000):oO (.list [d]) (iN k)=some (List.replicate k d):=by
 have e:(List.replicate k [d]).flatten=List.replicate k d:=by
  induction k with
  | zero=>rfl
  | succ k ih=>rw[la,wa,ih (by lia),la];rfl
 have hs:(100000:Nat)<=sizeLine:=by decide
 have hl:[d].length*(k:Int).toNat<=sizeLine:=by
  rw[gt,Nat.one_mul,we];exact cr h hs
 have h1 : -(2^63)<=(k:Int):=by lia
 have h2:(k:Int)<2^63:=by lia
 have hc:(decide (-(2^63)<=(k:Int))&&decide ((k:Int)<2^63)&&decide ([d].length*(k:Int).toNat<=sizeLine))=true:=by
  rw[ay h1,ay h2,ay hl];rfl
 have e2:oO (.list [d]) (iN k)=if(decide (-(2^63)<=(k:Int))&&decide ((k:Int)<2^63)&&decide ([d].length*(k:Int).toNat<=sizeLine))=true then some (List.replicate (k:Int).toNat [d]).flatten else none:=id rfl;rw[e2,ak hc,we,e]
def Kw(f:Nat->Nat)(m:Mt):Bool:=let w:=if m.1=m.2.1 then 2 else 1;decide (w<=f m.1)&&decide (w<=f m.2.1)
def KZ(f:Nat->Nat)(m:Mt):Nat->Nat :=
 let f1:=up f m.1 (f m.1 - 1)
 let f2:=up f1 m.2.1 (f1 m.2.1 - 1)
 let f3:=up f2 m.2.2.1 (f2 m.2.2.1+1)
 up f3 m.2.2.2 (f3 m.2.2.2+1)
def allB(bs:List Bool):B2 [.list (bs.map PyData.bool)]=some (bs.all id):=by
 show(boolsOf _).map _=_;rw[vt];rfl
def KG(bs:List Bool):D:=if bs.all id then .str "yes" else if bs.any id then .str "both" else .str "no"
def jL{α β:Type}(p:α->Bool)(g:α->β):∀l:List α,(l.filterMap λk=>if p k=true then some (g k)else none)=(l.filter p).map g
 | []=>rfl
 | a::r=>by
  rw[je,List.filter_cons,jL p g r]
  cases p a<;>rfl
def FA(l:List (Nat×Nat)):List Nat:=l.flatMap λp=>List.replicate p.2 p.1
def KP(f:Nat->Nat)(ms:List Mt):List Nat:=(ms.zipIdx.filter λp=>Kw f p.1).map (·.2)
def KO(r:Rl)(hs:List Nat)(i j:Nat):List Nat:=(hs.set i (turn r.ms (hs.getD i 0) (hs.getD j 0)).1).set j (turn r.ms (hs.getD i 0) (hs.getD j 0)).2
def DZ(r q:Rl)(i j:Nat):Nat×Nat:=((turn r.ms (i / q.n) (j / q.n)).1*q.n+(turn q.ms (i % q.n) (j % q.n)).1,(turn r.ms (i / q.n) (j / q.n)).2*q.n+(turn q.ms (i % q.n) (j % q.n)).2)
def cell(r q:Rl)(i j:Nat):List Mt:=if DZ r q i j=(i,j)then[]else[(i,j,DZ r q i j)]
def HP(r q:Rl)(i:Nat):List Mt:=(rng i (r.n*q.n)).flatMap (cell r q i)
def Fw(r q:Rl):List Mt:=(List.range (r.n*q.n)).flatMap (HP r q)
structure Two(r q:Rl):Prop where
 wr:Wf r
 wq:Wf q
 rn:r.n<=40
 qn:q.n<=40
 R:r.n*q.n<=40
 st:r.st.length=q.st.length
 s4:q.st.length<=4
def HE(both a b:Bool):Bool:=if both then a&&b else a||b
def FC(r q:Rl)(both:Bool)(p:Nat):Bool:=HE both (r.sy.getD (p / q.n) false) (q.sy.getD (p % q.n) false)
def uf(r q:Rl):List Nat:=(List.range r.st.length).map λk=>r.st.getD k 0*q.n+q.st.getD k 0
def KU(r q:Rl)(both:Bool):Rl:=⟨r.n*q.n,uf r q,Fw r q,(List.range (r.n*q.n)).map (FC r q both)⟩
def KF(both:Bool):D:=if both then .str "both" else .str "either"
abbrev cT(l:List Nat):D:=.tuple (l.map iN)
def BK(l:List Nat):PyData.canLayAll0 (l.map iN)=true:=jv λd hd=>by
 obtain⟨x,_,rfl⟩:=List.mem_map.mp hd;simp[iN,PyData.canLay0]
def KM(n:Nat)(g f:Nat->Nat):Nat->Nat:=cnt (FA ((List.range n).map λp=>(g p,f p)))
structure Sd(r q:Rl)(g:Nat->Nat)(R:Rl):Prop where
 wf:Wf R
 lt:∀{a},a<r.n*q.n->g a<R.n
 tn:∀{a b},a<r.n*q.n->b<r.n*q.n->(g (DZ r q a b).1,g (DZ r q a b).2)=turn R.ms (g a) (g b)
 st:(uf r q).map g=R.st
instance (p q:Nat×Nat):Decidable (plt p q):=inferInstanceAs (Decidable (_\/_))
def FT{r:Nat×Nat}(h1:plt p q)(h2:plt q r):plt p r:=by
 unfold plt at *;omega
def wv(h:plt p q):p≠q:=by
 rintro rfl;unfold plt at h;omega
def tj(p:Nat×Nat):L4.keyD (pD p)=[(p.1:Int),(p.2:Int)]:=iB [(p.1:Int),(p.2:Int)]
def uT(h:L4.keyD (pD p)=L4.keyD (pD q)):p=q:=by
 rw[tj,tj]at h;injection h with h1 h2;injection h2 with h2 _;exact Prod.ext (by omega) (by omega)
def Ge(h:pD p=pD q):p=q:=uT (by rw[h])
def leK_pD:leK (pD p) (pD q)=true↔p=q\/plt p q:=by
 unfold leK;rw[tj,tj,HT.lexLt_cons,ny];by_cases h:(q.1:Int)=p.1
 ·rw[ak h,HT.lexLt_cons];by_cases h2:(q.2:Int)=p.2
  ·rw[ak h2];refine⟨λ_=>.inl (Prod.ext (by omega) (by omega)),λ_=>rfl⟩
  ·rw[ac h2,ge];unfold plt;constructor
   ·intro _;right;omega
   ·rintro(z|z)
    ·rw[z]at h2;omega
    ·omega
 ·rw[ac h,ge];unfold plt;constructor
  ·intro _;right;omega
  ·rintro(z|z)
   ·rw[z]at h;omega
   ·omega
def mj(ps:List (Nat×Nat))(acc:List (Nat×Nat)):List (Nat×Nat):=ps.foldl (λacc p=>if p∈acc then acc else acc++[p]) acc
def za:∀(ps acc:List (Nat×Nat)),(ps.map pD).foldl wZ (acc.map pD)=(mj ps acc).map pD
 | [],acc=>rfl
 | p::ps,acc=>by
  show(ps.map pD).foldl wZ (wZ (acc.map pD) (pD p))=(mj ps (if p∈acc then acc else acc++[p])).map pD;rw[<-za ps];congr 1;unfold wZ;have e:(L4.keyD (pD p)∈(acc.map pD).map L4.keyD)↔p∈acc:=by
   rw[sk];constructor
   ·intro h;obtain⟨q,hq,e⟩:=List.mem_map.mp h;exact uT e▸hq
   ·intro h;exact List.mem_map.mpr ⟨p,h,rfl⟩
  by_cases h:p∈acc
  ·rw[ak h,ak (e.mpr h)]
  ·rw[ac h,ac (λz=>h (e.mp z)),jo];rfl
def Cc:∀(ps acc:List (Nat×Nat)),acc.Nodup->(mj ps acc).Nodup
 | [],acc,h=>h
 | p::ps,acc,h=>by
  refine Cc ps _ ?_;show(if p∈acc then acc else acc++[p]).Nodup;split
  ·exact h
  ·rename_i hp;rw[List.nodup_append];exact⟨h,List.nodup_cons.mpr ⟨(λz=>nomatch z),List.Pairwise.nil⟩,λa ha b hb z=>hp (by rw[<-List.mem_singleton.mp hb,<-z];exact ha)⟩
def y9:∀(ps acc:List (Nat×Nat)) (p:Nat×Nat),p∈mj ps acc->p∈acc\/p∈ps
 | [],acc,p,h=>.inl h
 | q::ps,acc,p,h=>by
  rcases y9 ps (if q∈acc then acc else acc++[q]) p h with h|h
  ·split at h
   ·exact .inl h
   ·rcases List.mem_append.mp h with h|h
    ·exact .inl h
    ·exact .inr (by rw[List.mem_singleton.mp h];exact am)
  ·exact .inr (zzg _ h)
def zb:∀(ps acc:List (Nat×Nat)),(mj ps acc).length<=acc.length+ps.length
 | [],acc=>au _
 | q::ps,acc=>by
  have:=zb ps (if q∈acc then acc else acc++[q]);rw[bi];show(mj ps (if q∈acc then acc else acc++[q])).length<=_;split at this
  ·rename_i h;rw[ak h];omega
  ·rename_i h;rw[ac h];rw[zzf,gt]at this;omega
def Cd:∀(ps acc:List (Nat×Nat)),(acc++ps).Nodup->mj ps acc=acc++ps
 | [],acc,_=>(ig _).symm
 | q::ps,acc,h=>by
  have h2:=(List.nodup_append.mp h).2.2;have hq:q∉acc:=λz=>h2 q z q am rfl
  show mj ps (if q∈acc then acc else acc++[q])=_;rw[ac hq,Cd ps,pr]
  ·rfl
  ·rw[pr];exact h
def DI(p:Nat×Nat):iY (pD p)=true:=id rfl
def A9{ps:List (Nat×Nat)}(h:ps.Pairwise plt):(ps.map pD).Pairwise λx y=>leK x y=true:=by
 rw[Go];exact h.imp λh=>leK_pD.mpr (.inr h)
def Fx(ps:List (Nat×Nat))(h:ps.length<64):∃L:List (Nat×Nat),DS [.list (ps.map pD)]=some (L.map pD)/\L.Pairwise plt/\(∀p∈L,p∈ps)/\(ps.Pairwise plt->L=ps)/\L.length<=ps.length:=by
 have e1:DV (ps.map pD)=(mj ps []).map pD:=za ps [];obtain⟨L,p1,p2⟩:=kj (f:=pD) (zs:=mj ps []) (l:=dq ((mj ps []).map pD)) (bV _);have nd:L.Nodup:=p1.nodup_iff.mpr (Cc ps [] .nil);have so:=cP ((mj ps []).map pD);rw[p2,Go]at so;have pw:L.Pairwise plt:=by
  refine(List.Pairwise.and so nd).imp λ{a b} hh=>?_
  rcases leK_pD.mp hh.1 with z|z
  ·exact absurd z hh.2
  ·exact z
 refine⟨L,?_,pw,λp hp=>?_,λhp=>?_,?_⟩
 ·show(if setOk (ps.map pD)=true then some (dq (DV (ps.map pD)))else none)=_;have:setOk (ps.map pD)=true:=by
   unfold setOk;rw[ai,zzi,zzd,gh];exact⟨h,λd hd=>by obtain⟨p,_,rfl⟩:=List.mem_map.mp hd;exact DI p⟩
  rw[ak this,e1,p2]
 ·rcases y9 ps [] p (p1.mem_iff.mp hp)with z|z
  ·cases z
  ·exact z
 ·have nd2:ps.Nodup:=hp.imp λh=>wv h
  have e2:mj ps []=ps:=Cd ps [] nd2;rw[e2]at p1
  have:=gJ (R:=λx y=>leK x y=true) (a:=L.map pD) (b:=ps.map pD) (λx hx y hy h1 h2=>by
   obtain⟨a,_,rfl⟩:=List.mem_map.mp hx;obtain⟨b,_,rfl⟩:=List.mem_map.mp hy;rcases leK_pD.mp h1 with z|z
   ·rw[z]
   ·rcases leK_pD.mp h2 with z2|z2
    ·rw[z2]
    ·exact absurd rfl (wv (FT z z2))) (p1.map pD) (A9 pw) (A9 hp)
  exact Lz (λ{x y}=>Ge) |>.mp this
 ·rw[p1.length_eq];have:=zb ps [];rw[ur]at this;omega
end L4
namespace K11
open PySem PySem.Spec PyProof.Rows L2 L3 L4
variable {R ws:List Str}{T n sorts c q a0 N B p:Nat}{x w a b:Str}{r:Rl}{ms:List Mt}{S:Type}{b0 hi:Int}
def Fd(T:Nat)(f:List D):Prop:=∃a b t:Int,f=[.int a,.int b,.int t]/\0<=t/\t<=T
theorem Fd.le{T':Nat}{f:List D}(h:Fd T f)(hl:T<=T'):Fd T' f:=by
 obtain⟨a,b,t,e,h0,h1⟩:=h;exact⟨a,b,t,e,h0,by lia⟩
theorem uM{f:List D}{m:Int}(h:Fd T f)(hT:T<=1000000)(hm:0<m)(hm2:m<1073741824) :
  ∃(r:Int) (f':List D),aC f (.int m)=.ret (.int r,f')/\0<=r/\r<m/\Fd (T+1) f':=by
 obtain⟨a,b,t,rfl,h0,h1⟩:=h;unfold aC;rw[L4.ix3_0,oMS,bdR,L4.gtI,oMS,bdR];by_cases ha:0<a
 ·simp only[ha,decide_true,Lr];simp only[oMS,bdR,L4.modI _ _ hm,L4.divI _ _ hm hm2,L4.put3_0];exact⟨_,_,rfl,Md _ (by lia),LD _ hm,_,_,_,rfl,h0,by lia⟩
 ·simp only[ha,decide_false];rw[ac (by decide)];simp only[oMS,bdR,L4.ix3_2,L4.ix3_1,L4.put3_2,L4.addI];rw[L4.mulL 41 _ (by decide) (by decide),L4.mulL (t+1) (t+1) (by lia) (by lia)];simp only[oMS,bdR,L4.addI];have tb:(t+1)*(t+1)<=1000001*1000001:=Int.mul_le_mul (by lia) (by lia) (by lia) (by lia);have tb0:0<=(t+1)*(t+1):=Int.mul_nonneg (by lia) (by lia);rw[L4.mulR _ ((t+1)*(t+1)+69621) (by lia) (by lia)];simp only[oMS,bdR];rw[L4.modI _ _ (by decide)];simp only[oMS,bdR];rw[L4.modI _ _ (by decide)];simp only[oMS,bdR,L4.addI];have g1:=Md ((b+41*(t+1)+3)*((t+1)*(t+1)+69621)) (b:=(998244353:Int)) (by decide);have g2:=LD ((b+41*(t+1)+3)*((t+1)*(t+1)+69621)) (b:=(998244353:Int)) (by decide);rw[L4.mulL _ _ (by lia) (by lia)];simp only[oMS,bdR,L4.addI];rw[L4.modI _ _ (by decide)];simp only[oMS,bdR];rw[L4.divI _ _ (by decide) (by decide)];simp only[oMS,bdR];rw[L4.modI _ _ hm];exact⟨_,_,rfl,Md _ (by lia),LD _ hm,_,_,_,rfl,by lia,by lia⟩
theorem bN{f:List D}{m:Nat}(h:Fd T f)(hT:T<=1000000)(hm:0<m)(hm2:m<=1000000000) :
  ∃(r:Nat) (f':List D),aC f (.int (m:Int))=.ret (iN r,f')/\r<m/\Fd (T+1) f':=by
 obtain⟨r,f',e,h1,h2,h3⟩:=uM h hT (m:=(m:Int)) (by lia) (by lia);obtain⟨n,rfl⟩:=Int.eq_ofNat_of_zero_le h1;exact⟨n,f',e,by lia,h3⟩
theorem DR(ns:List Int)(k:Int)(hn:ns.length<=63):∃f,gg (.list (ns.map PyData.int)) (.int k)=.ret f/\Fd 0 f:=by
 unfold gg;have e1:cI [.list (ns.map PyData.int)]=some (.int ns.length):=by rw[L4.lenL,zzd]
 have p18:uF (.int 10) (.int 18)=some (.int 1000000000000000000):=id rfl;have tail:∀c:Int,∃f,(bd (bd (bd (oM (wW [.int c])) λx6=>bd (oM (uF (.int 10) (.int 18))) λx7=>oM (uG x6 x7)) λb8=>if b8 then oM (wW [.int c])else .ret (.int 0)) λx9=>bd (bd (bd (oM (iU (.int c) (.int 1000003))) λx10=>bd (oM (gz (.int 7919) (.int k))) λx11=>oM (aP x10 x11)) λx12=>.ret [x9,x12,(.int 0)]) λl13=>M.ret l13)=.ret f/\Fd 0 f:=λc=>by
  have a1:wW [.int c]=some (.int (if c<0 then -c else c)):=id rfl;simp only[a1,p18,oMS,bdR,L4.geI];rw[L4.modI _ _ (by decide),L4.mulL _ _ (by decide) (by decide)];simp only[oMS,bdR,L4.addI];generalize (if c<0 then -c else c)=A;generalize decide ((1000000000000000000:Int)<=A)=B
  cases B
  ·exact⟨_,rfl,_,_,_,rfl,re _,re _⟩
  ·exact⟨_,rfl,_,_,_,rfl,re _,re _⟩
 simp only[e1,oMS,bdR,L4.gtI];by_cases h:0<(ns.length:Int)
 ·simp only[h,decide_true,Lr];rw[L4.modI _ _ h,oMS,bdR];have m1:=Md k (b:=(ns.length:Int)) (by lia);have m2:=LD k h;obtain⟨x,hx,e⟩:=Cs (ns.map PyData.int) (k % ns.length) m1 (by rw[zzd];exact m2);obtain⟨i,hi,rfl⟩:=List.mem_map.mp hx;have e2:bf (.list (ns.map PyData.int)) (.int (k % ns.length))=some (.int i):=e;rw[e2,oMS,bdR];exact tail i
 ·simp only[h,decide_false];rw[ac (by decide),bdR];exact tail 0
theorem wA{f:List D}{m:List D}(hm:0<m.length)(hm2:m.length<100000)(h:Fd T f)(hT:T<=1000000) :
  ∃(x:D) (f':List D),dk f (.list m)=.ret (x,f')/\x∈m/\Fd (T+1) f':=by
 unfold dk;obtain⟨r,f',t1,t2,t3,t4⟩:=uM h hT (m:=(m.length:Int)) (by lia) (by lia);obtain⟨x,hx,e⟩:=Cs m r t2 t3;have e2:bf (.list m) (.int r)=some x:=e;rw[L4.lenL,oMS,bdR,t1,bdR];simp only[e2,oMS,bdR];exact⟨x,f',rfl,hx,t4⟩
def Eg(T most sorts:Nat)(m:M (D×List D)):Prop:=∃(r:Rl) (f':List D),m=.ret (r.d,f')/\Wf r/\r.n<=most/\r.st.length=sorts/\r.ms.length<=2000/\Fd (T+7000) f'
theorem C6{R:M (D×List D)->Prop}{a often:Nat}{f:List D}{kn22:List D×D×D×D×List D×Unit->M (D×List D)}(hf:Fd T f)(hT:T<=990000)(hn:n<=40)(ha:a<n)(ho:1<=often)(ho2:often<=3)(hA:Ahd n a a ms)
  (k:∀f' ms',Fd (T+4*n) f'->Ahd n (a+1) (a+1) ms'->R (kn22 (f',iN sorts,iN n,iN often,ms'.map mD,()))):R (fR f (iN sorts) (iN n) (iN often) (ms.map mD) (iN a) kn22):=by
 unfold fR;rw[sq a n (by lia) (by lia),oMS,bdR];refine tE (P:=λi s=>∃f ms,s=(f,iN sorts,iN n,iN often,List.map mD ms,iN a,())/\Fd (T+4*i) f/\Ahd n a (a+i) ms) _ _ ?_ ⟨f,ms,rfl,hf,hA⟩ ?_
 ·rintro i s d hd ⟨f,ms,rfl,hf,hA⟩ kn hkn;obtain⟨rfl,hi⟩:=FK hd;unfold jg;dsimp only;obtain⟨c,f1,e1,hc,hf1⟩:=bN (m:=n) hf (by lia) (by lia) (by lia);obtain⟨e,f2,e2,he,hf2⟩:=bN (m:=n) hf1 (by lia) (by lia) (by lia);obtain⟨x,f3,e3,hx,hf3⟩:=wA (m:=[iN (a+i),iN a,iN e]) (by simp) (by simp) hf2 (by lia);obtain⟨x',f4,e4,_,hf4⟩:=bN (m:=often) hf3 (by lia) (by lia) (by lia);have hd:∃d,d<n/\x=iN d:=by
   simp only[mo,sd,Ll]at hx;rcases hx with rfl|rfl|rfl
   ·exact⟨_,hi,rfl⟩
   ·exact⟨_,ha,rfl⟩
   ·exact⟨_,he,rfl⟩
  obtain⟨d,hd,rfl⟩:=hd;rw[e1,bdR];dsimp only;rw[e2,bdR];dsimp only;rw[e3,bdR];dsimp only;rw[e4,bdR];dsimp only;rw[eqI,oMS,bdR];have skip:R (kn (f4,iN sorts,iN n,iN often,List.map mD ms,iN a,())):=hkn _ ⟨f4,ms,rfl,hf4.le (by lia),hA.next⟩;split
  ·rw[show(PyData.tuple [iN c,iN d])=pD (c,d)from rfl,show(PyData.tuple [PyData.tuple [iN a,iN (a+i)],PyData.tuple [iN (a+i),iN a]])=.tuple [pD (a,a+i),pD (a+i,a)]from rfl,yE,oMS,bdR];split
   ·rename_i hne;have hle:=hA.le;have hlen:(ms.map mD).length<=100000:=by
     rw[zzd];have:a*n<=40*40:=Nat.mul_le_mul (by lia) hn;lia
    rw[gF _ _ hlen,oMS,bdR];have hne':¬ ((a,a+i)=(c,d))/\¬ ((a+i,a)=(c,d)):=by
     simp only[ny,Bool.or_eq_false_iff,ge]at hne;exact hne
    have:=hkn (f4,iN sorts,iN n,iN often,List.map mD (ms++[(a,a+i,c,d)]),iN a,()) ⟨f4,_,rfl,hf4.le (by lia),hA.add ⟨by simp,hi,hc,hd,λz=>hne'.1 z.symm,λz=>hne'.2 z.symm⟩⟩;rw[jo]at this;exact this
   ·exact skip
  ·exact skip
 ·rintro s ⟨f,ms,rfl,hf,hA⟩;rw[zzd,n6]at hf hA;unfold jh;exact k f ms (hf.le (by lia)) (hA.row (by lia))
theorem C5{f:List D}{most:Nat}(h:Fd T f)(hT:T<=900000)(hm:1<=most)(hm2:most<=40)(hs:1<=sorts)(hs2:sorts<=4):Eg T most sorts (eR f (iN most) (iN sorts)):=by
 unfold eR;obtain⟨n0,f1,e1,h1,hf1⟩:=bN (m:=most) h (by lia) (by lia) (by lia);obtain⟨o0,f2,e2,h2,hf2⟩:=bN (m:=3) hf1 (by lia) (by lia) (by lia);have e2':aC f1 (.int 3)=.ret (iN o0,f2):=e2;rw[e1,bdR];dsimp only;rw[CH,oMS,bdR,e2',bdR];dsimp only;rw[CH,oMS,bdR,fU _ (by lia),oMS,bdR];generalize hn:n0+1=n;have hn40:n<=40:=by lia
 have hb:∀j,j<=n->4*n*j<=6400:=λj hj=>by
  have:n*j<=40*40:=Nat.mul_le_mul hn40 (by lia);have e:4*n*j=4*(n*j):=Nat.mul_assoc _ _ _;lia
 refine tE (P:=λj s=>∃f ms,s=(f,iN sorts,iN n,iN (o0+1),List.map mD ms,())/\Fd (T+2+4*n*j) f/\Ahd n j j ms) _ _ ?_ ⟨f2,[],rfl,hf2.le (by lia),⟨λ_ h=>(nomatch h),.nil,λ_ h=>(nomatch h),di _⟩⟩ ?_
 ·rintro j s d hd ⟨f,ms,rfl,hf,hA⟩ kn hkn;obtain⟨rfl,hj⟩:=gL hd;dsimp only;refine C6 hf (by have:=hb j (by lia);lia) hn40 hj (by lia) (by lia) hA λf' ms' hf' hA'=>hkn _ ⟨f',ms',rfl,hf'.le ?_,hA'⟩
  rw[Nat.mul_succ];lia
 ·rintro s ⟨f,ms,rfl,hf,hA⟩;rw[zzd,ke]at hf hA;dsimp only;unfold ji;have hfb:=hb n (au _);rw[fU sorts (by lia),oMS,bdR];obtain⟨st,s1,c1,⟨f1,hs1,hf1⟩,l1,r1⟩:=jc (P:=λj (s:List D×D×D×List D×Unit)=>∃f,s=(f,iN sorts,iN n,List.map mD ms,())/\Fd (T+6402+j) f) (e:=iN) (R:=λx=>x<n)
   (step:=λs7 d8=>bd (aC s7.1 s7.2.2.1) λr9=>.ret (some r9.1,(r9.2,s7.2.1,s7.2.2.1,s7.2.2.2.1,()))) ((List.range sorts).map iN) (f,iN sorts,iN n,List.map mD ms,())
   (by
    rintro j s d hd ⟨f,rfl,hf⟩;obtain⟨rfl,hj⟩:=gL hd;obtain⟨x,f',e,hx,hf'⟩:=bN (m:=n) hf (by lia) (by lia) (by lia);dsimp only;rw[e,bdR]
    exact⟨x,_,rfl,⟨f',rfl,hf'⟩,hx⟩) ⟨f,rfl,hf.le (by lia)⟩
  subst hs1;rw[zzd,ke]at hf1 l1;rw[c1,bdR];dsimp only;rw[dG (by rw[zzd];lia),bdR,j9,oMS,bdR,j9,oMS,bdR,fU n (by lia),oMS,bdR];obtain⟨sy,s2,c2,⟨f2,hs2,hf2⟩,l2,_⟩:=jc (P:=λj (s:List D×D×Unit)=>∃f,s=(f,iN n,())/\Fd (T+6402+sorts+j) f) (e:=PyData.bool) (R:=λ_=>True)
   (step:=λs15 d16=>bd (aC s15.1 (.int 2)) λr17=>bd (oM (bC r17.1 (.int 0))) λb18=>.ret (some (.bool b18),(r17.2,s15.2.1,()))) ((List.range n).map iN) (f1,iN n,())
   (by
    rintro j s d hd ⟨f,rfl,hf⟩;obtain⟨rfl,hj⟩:=gL hd;obtain⟨x,f',e,hx,hf'⟩:=bN (m:=2) hf (by lia) (by lia) (by lia);have e':aC f (.int 2)=.ret (iN x,f'):=e;dsimp only;rw[e',bdR];dsimp only;rw[eqI,oMS,bdR]
    exact⟨_,_,rfl,⟨f',rfl,hf'⟩,trivial⟩) ⟨f1,rfl,hf1⟩
  subst hs2;rw[zzd,ke]at hf2 l2;rw[c2,bdR];dsimp only;rw[dG (by rw[zzd];lia),bdR,j9,oMS,bdR]
  exact⟨⟨n,st,ms,sy⟩,f2,rfl,⟨(show 1<=n by lia),r1,l2,hA.ok,hA.so⟩,(show n<=most by lia),l1,(show ms.length<=2000 by
   have:=hA.le;have:n*n<=40*40:=Nat.mul_le_mul hn40 hn40
   lia),hf2.le (by lia)⟩
theorem HA(a b:Nat):dq [iN a,iN b]=[iN (min a b),iN (max a b)]:=by
 have key:∀x y:Nat,leK (iN x) (iN y)=decide (x<=y):=λx y=>by
  show(!HT.lexLt [(y:Int)] [(x:Int)])=_;rw[HT.lexLt_cons];by_cases h:(y:Int)=x
  ·rw[ak h,HT.lexLt_nil_nil,ay (by omega)];rfl
  ·rw[ac h];by_cases h2:(y:Int)<x
   ·rw[ay h2,aw (by omega)];rfl
   ·rw[aw h2,ay (by omega)];rfl
 have pm:([iN (min a b),iN (max a b)]:List D).Perm [iN a,iN b]:=by
  by_cases h:a<=b
  ·rw[yp h,Nat.max_eq_right h]
  ·rw[Lj (by omega),Nat.max_eq_left (by omega)];exact .swap _ _ _
 refine gJ (R:=λx y=>leK x y=true) (λx hx y hy h1 h2=>?_) ((bV _).trans pm.symm) (cP _) ?_
 ·have w:∀z∈([iN (min a b),iN (max a b)]:List D),∃n:Nat,z=iN n:=λz hz=>by
   rcases List.mem_cons.mp hz with rfl|hz
   ·exact⟨_,rfl⟩
   ·exact⟨_,List.mem_singleton.mp hz⟩
  obtain⟨n,rfl⟩:=w x hx;obtain⟨k,rfl⟩:=w y hy;rw[key,zzi]at h1 h2;rw[Nat.le_antisymm h1 h2]
 ·rw[Lx,Lx];refine⟨λz hz=>?_,(λz hz=>nomatch hz),.nil⟩;rw[List.mem_singleton.mp hz,key,zzi];omega
def Ke(a b:Nat):fY [.list [iN a,iN b]]=some [iN (min a b),iN (max a b)]:=by
 rw[<-HA];rfl
structure Ru(r:Rl):Prop where
 w:Wf r
 n:r.n<=40
 s1:1<=r.st.length
 s4:r.st.length<=4
def KE(T:Nat)(m:M (D×List D)):Prop:=∃(r:Rl) (f':List D),m=.ret (r.d,f')/\Ru r/\r.ms.length<=5/\Fd (T+200) f'
def Ad{f:List D}(hf:Fd T f)(hT:T<=990000)(hn:1<=n)(hn2:n<=40)(hs:1<=sorts)(hs2:sorts<=4)(hm:∀m∈ms,MtOk n m)(so:ms.Pairwise λm m'=>plt (m.1,m.2.1) (m'.1,m'.2.1))(hl:ms.length<=5) :
  ∃(r:Rl) (f':List D),eY f (iN sorts) (iN n) (ms.map mD)=.ret (r.d,f')/\Ru r/\r.ms.length<=5/\Fd (T+50) f':=by
 unfold eY;rw[fU n (by omega),oMS,bdR];obtain⟨sy,s2,c2,⟨f2,hs2',hf2⟩,l2,_⟩:=jc (P:=λj (s:List D×D×D×List D×Unit)=>∃f,s=(f,iN sorts,iN n,ms.map mD,())/\Fd (T+j) f) (e:=PyData.bool) (R:=λ_=>True)
  (step:=λs16 d17=>bd (aC s16.1 (.int 2)) λr18=>bd (oM (bC r18.1 (.int 0))) λb19=>.ret (some (.bool b19),(r18.2,s16.2.1,s16.2.2.1,s16.2.2.2.1,()))) ((List.range n).map iN) (f,iN sorts,iN n,ms.map mD,())
  (by
   rintro j s d hd ⟨f,rfl,hf⟩;obtain⟨rfl,hj⟩:=gL hd;obtain⟨x,f',e,hx,hf'⟩:=bN (m:=2) hf (by omega) (by omega) (by omega);have e':aC f (.int 2)=.ret (iN x,f'):=e;dsimp only;rw[e',bdR];dsimp only;rw[eqI,oMS,bdR]
   exact⟨_,_,rfl,⟨f',rfl,hf'⟩,trivial⟩) ⟨f,rfl,hf⟩
 subst hs2';rw[zzd,ke]at hf2 l2;rw[c2,bdR];dsimp only;rw[dG (by rw[zzd];omega),bdR,j9,oMS,bdR,fU sorts (by omega),oMS,bdR];obtain⟨st,s3,c3,⟨f3,hs3,hf3⟩,l3,r3⟩:=jc (P:=λj (s:List D×D×D×List D×D×Unit)=>∃f,s=(f,iN sorts,iN n,ms.map mD,.tuple (sy.map PyData.bool),())/\Fd (T+n+j) f) (e:=iN) (R:=λx=>x<n)
  (step:=λs24 d25=>bd (aC s24.1 s24.2.2.1) λr26=>.ret (some r26.1,(r26.2,s24.2.1,s24.2.2.1,s24.2.2.2.1,s24.2.2.2.2.1,()))) ((List.range sorts).map iN) (f2,iN sorts,iN n,ms.map mD,.tuple (sy.map PyData.bool),())
  (by
   rintro j s d hd ⟨f,rfl,hf⟩;obtain⟨rfl,hj⟩:=gL hd;obtain⟨x,f',e,hx,hf'⟩:=bN (m:=n) hf (by omega) (by omega) (by omega);dsimp only;rw[e,bdR]
   exact⟨x,_,rfl,⟨f',rfl,hf'⟩,hx⟩) ⟨f2,rfl,hf2⟩
 subst hs3;rw[zzd,ke]at hf3 l3;rw[c3,bdR];dsimp only;rw[dG (by rw[zzd];omega),bdR,j9,oMS,bdR,j9,oMS,bdR];exact⟨⟨n,st,ms,sy⟩,f3,rfl,⟨⟨hn,r3,l2,hm,so⟩,hn2,show 1<=st.length by omega,show st.length<=4 by omega⟩,hl,hf3.le (by omega)⟩
def Hr(p:Nat×Nat)(k:D->D->M S):un2 (pD p) k=k (iN p.1) (iN p.2):=rfl
def BZ{f:List D}(hf:Fd T f)(hT:T<=900000)(hs:1<=sorts)(hs2:sorts<=4):KE T (fj f (iN sorts)):=by
 unfold fj;obtain⟨x,f1,e1,hx,hf1⟩:=wA (m:=[.int 40,.int 39,.int 7,.int 12]) (by simp) (by simp) hf (by omega);obtain⟨n,rfl,hn,hn2⟩:∃n:Nat,x=iN n/\1<=n/\n<=40:=by
  simp only[mo,List.not_mem_nil,Ll]at hx;rcases hx with rfl|rfl|rfl|rfl
  ·exact⟨40,rfl,by omega,by omega⟩
  ·exact⟨39,rfl,by omega,by omega⟩
  ·exact⟨7,rfl,by omega,by omega⟩
  ·exact⟨12,rfl,by omega,by omega⟩
 obtain⟨k,f2,e2,hk,hf2⟩:=bN (m:=6) hf1 (by omega) (by omega) (by omega);have e2':aC f1 (.int 6)=.ret (iN k,f2):=e2;rw[e1,bdR];dsimp only;rw[e2',bdR];dsimp only;rw[fU k (by omega),oMS,bdR];obtain⟨ps,s3,c3,⟨f3,hs3,hf3⟩,l3,r3⟩:=jc (P:=λj (s:List D×D×D×Unit)=>∃f,s=(f,iN sorts,iN n,())/\Fd (T+2+2*j) f) (e:=pD) (R:=λp=>p.1<=p.2/\p.2<n)
  (step:=λs4 d5=>bd (aC s4.1 s4.2.2.1) λr6=>bd (aC r6.2 s4.2.2.1) λr7=>bd (oM (fY [(.list [r6.1,r7.1])])) λx8=>bd (oM (cF [(PyData.list x8)])) λx9=>.ret (some x9,(r7.2,s4.2.1,s4.2.2.1,()))) ((List.range k).map iN) (f2,iN sorts,iN n,())
  (by
   rintro j s d hd ⟨f,rfl,hf⟩;obtain⟨rfl,hj⟩:=gL hd;obtain⟨a,f',e,ha,hf'⟩:=bN (m:=n) hf (by omega) (by omega) (by omega);obtain⟨b,f'',e'',hb,hf''⟩:=bN (m:=n) hf' (by omega) (by omega) (by omega);dsimp only;rw[e,bdR];dsimp only;rw[e'',bdR];dsimp only;rw[Ke,oMS,bdR,j9,oMS,bdR]
   exact⟨(min a b,max a b),_,rfl,⟨f'',rfl,hf''.le (by omega)⟩,by show min a b<=max a b;omega,by show max a b<n;omega⟩) ⟨f2,rfl,hf2.le (by omega)⟩
 subst hs3;rw[zzd,ke]at hf3 l3;obtain⟨L,g1,g2,g3,_,g5⟩:=Fx ps (by omega);rw[c3,bdR];dsimp only;rw[dG (by rw[zzd];omega),bdR,g1,oMS,bdR,bdR,show gq (.list (L.map pD))=some (L.map pD)from rfl,oMS,bdR];refine tE (P:=λi (s:List D×D×D×List D×Unit)=>∃(f:List D) (ms:List Mt),s=(f,iN sorts,iN n,List.map mD ms,())/\Fd (T+20+2*i) f/\(∀m∈ms,MtOk n m)/\(ms.Pairwise λ(m m':Mt)=>plt (m.1,m.2.1) (m'.1,m'.2.1))/\(∀m∈ms,(m.1,m.2.1)∈L.take i)/\ms.length<=i) _ _ ?_ ⟨f3,[],rfl,hf3.le (by omega),(λ_ h=>nomatch h),List.Pairwise.nil,(λ_ h=>nomatch h),au _⟩ ?_
 ·rintro i s d hd ⟨f,ms,rfl,hf,i1,i2,i3,i4⟩ kn hkn;rw[ku]at hd;obtain⟨p,hp,rfl⟩:=Option.map_eq_some_iff.mp hd;have hpL:=bu hp;obtain⟨hab,hbn⟩:=r3 p (g3 p hpL);have hiL:i<L.length:=(List.getElem?_eq_some_iff.mp hp).1;have up:∀q∈L.take i,plt q p:=λq hq=>by
   obtain⟨j,hj,ej⟩:=List.mem_take_iff_getElem.mp hq;have:=List.pairwise_iff_getElem.mp g2 j i (by omega) hiL (by omega);rw[ej]at this;obtain⟨hi',ei⟩:=List.getElem?_eq_some_iff.mp hp;rw[ei]at this;exact this
  have tk:∀q∈L.take i,q∈L.take (i+1):=λq hq=>by
   obtain⟨j,hj,ej⟩:=List.mem_take_iff_getElem.mp hq;exact List.mem_take_iff_getElem.mpr ⟨j,by omega,ej⟩
  unfold iw;obtain⟨c,f4,e4,hc,hf4⟩:=bN (m:=n) hf (by omega) (by omega) (by omega);obtain⟨e,f5,e5,he,hf5⟩:=bN (m:=n) hf4 (by omega) (by omega) (by omega);dsimp only;rw[Hr,e4,bdR];dsimp only;rw[e5,bdR];dsimp only;rw[show(PyData.tuple [iN c,iN e])=pD (c,e)from rfl,show(PyData.tuple [PyData.tuple [iN p.1,iN p.2],PyData.tuple [iN p.2,iN p.1]])=.tuple [pD (p.1,p.2),pD (p.2,p.1)]from rfl,yE,oMS,bdR];split
  ·rename_i hne;have hne':¬ ((p.1,p.2)=(c,e))/\¬ ((p.2,p.1)=(c,e)):=by
    simp only[ny,Bool.or_eq_false_iff,ge]at hne;exact hne
   rw[gF _ _ (by rw[zzd];omega),oMS,bdR];have:=hkn (f5,iN sorts,iN n,List.map mD (ms++[(p.1,p.2,c,e)]),()) ⟨f5,_,rfl,hf5.le (by omega),λm hm=>?_,?_,λm hm=>?_,by rw[zzf,gt];omega⟩
   ·rw[jo]at this;exact this
   ·rcases List.mem_append.mp hm with hm|hm
    ·exact i1 m hm
    ·rw[List.mem_singleton.mp hm];exact⟨hab,hbn,hc,he,λz=>hne'.1 z.symm,λz=>hne'.2 z.symm⟩
   ·rw[List.pairwise_append];refine⟨i2,List.pairwise_cons.mpr ⟨(λ_ h=>nomatch h),.nil⟩,λm hm m' hm'=>?_⟩;rw[List.mem_singleton.mp hm'];exact up _ (i3 m hm)
   ·rcases List.mem_append.mp hm with hm|hm
    ·exact tk _ (i3 m hm)
    ·rw[List.mem_singleton.mp hm];obtain⟨hi',ei⟩:=List.getElem?_eq_some_iff.mp hp;exact List.mem_take_iff_getElem.mpr ⟨i,by omega,ei⟩
  ·exact hkn _ ⟨f5,ms,rfl,hf5.le (by omega),i1,i2,λm hm=>tk _ (i3 m hm),by omega⟩
 ·rintro s ⟨f,ms,rfl,hf,i1,i2,i3,i4⟩;rw[zzd]at hf i4;dsimp only;obtain⟨r,f',e,h1,h2,h3⟩:=Ad hf (by omega) hn hn2 hs hs2 i1 i2 (by omega);exact⟨r,f',e,h1,h2,h3.le (by omega)⟩
abbrev sg(c:Nat):Str:=⟨#[c]⟩
def jl(c:Nat):List (List Nat)->List Nat
 | []=>[]
 | [a]=>a
 | a::b::r=>a++c::jl c (b::r)
def join_list(c:Nat):∀ws:List Str,(Str.join (sg c) ws).cps.toList=jl c (ws.map λw=>w.cps.toList)
 | []=>rfl
 | [a]=>rfl
 | a::b::r=>by
  have ih:=join_list c (b::r);rw[show Str.join (sg c) (a::b::r)=a++sg c++Str.join (sg c) (b::r)from rfl];show((a.cps ++ #[c])++(Str.join (sg c) (b::r)).cps).toList=_;rw[Array.toList_append,Array.toList_append,ih];show a.cps.toList++[c]++_=_;rw[pr];rfl
def sp_is:(Str.ofString " ")=sg 32:=by decide +kernel
def fT(n:Nat):Str:=toString (n:Int)
def Iy(n:Nat):Bool:=(fT n).cps.toList.all (λc=>decide (48<=c)&&decide (c<58))&&decide ((fT n).length<=2)&&decide ((n:Int).natAbs.log2<1920)&&match dA (.str (fT n))with
 | .ret (.int i)=>decide (i=(n:Int))
 | _=>false
def Du:∀n,n<41->Iy n=true:=by decide +kernel
theorem sV(h:n<=40):(∀c∈(fT n).cps.toList,48<=c/\c<58)/\(fT n).length<=2/\u5 [iN n]=some (.str (fT n))/\dA (.str (fT n))=.ret (iN n):=by
 have:=Du n (by lia);unfold Iy at this;rw[ai,ai,ai,gh]at this;obtain⟨⟨⟨h1,h2⟩,h3⟩,h4⟩:=this;refine⟨λc hc=>?_,LF h2,?_,?_⟩
 ·have:=h1 c hc;simpa using this
 ·show(if(n:Int).natAbs.log2<1920 then some (PyData.str (toString (n:Int)))else none)=_;rw[ak (LF h3)];rfl
 ·split at h4
  ·rename_i i e;rw[e,LF h4]
  ·cases h4
def jO:∀xs:List Str,strsOf (xs.map PyData.str)=some xs
 | []=>rfl
 | x::xs=>by rw[ba,strsOf,jO xs];rfl
theorem DG{s:Str}(hs:s=sg c)(h:∀w∈ws,w.length<=1000)(hl:ws.length<=100):jb (.str s) [.list (ws.map PyData.str)]=some (.str (Str.join (sg c) ws)):=by
 subst hs
 show(match strsOf (ws.map PyData.str)with
  | some xs=>if JoinOk (sg c) xs then some (PyData.str (Txt.join (sg c) xs))else none
  | none=>none)=_
 rw[jO];dsimp only;rw[ak ?_]
 ·unfold Txt.join;rw[StrLaws.glued_eq_join]
 ·unfold JoinOk;rw[ny];refine StrLaws.joinFits (B:=1000) h ?_;have:(sg c).length=1:=rfl;rw[this];lia
def DA(x:Str):x.cps.toList.length=x.length:=ce
theorem uV{c:Nat}{B:Nat}:∀{ws:List Str},(∀w∈ws,w.length<=B)->(Str.join (sg c) ws).length<=ws.length*(B+1)
 | [],_=>by rw[<-DA];exact di _
 | [a],h=>by
  have:=h a am;show a.length<=_;simp;lia
 | a::b::r,h=>by
  have ih:=uV (c:=c) (ws:=b::r) λw hw=>h w (zzg _ hw)
  have ha:=h a am;rw[show Str.join (sg c) (a::b::r)=a++sg c++Str.join (sg c) (b::r)from rfl];have e:(a++sg c++Str.join (sg c) (b::r)).length=a.length+1+(Str.join (sg c) (b::r)).length:=by
   show((a.cps ++ #[c])++(Str.join (sg c) (b::r)).cps).size=_;rw[LJ,LJ];rfl
  rw[e,bi,Nat.succ_mul];lia
def yn(b:Bool):Str:=if b then "yes" else "no"
def rw0(r:Rl):List Str:=["rooms",fT r.n]
def rw1(r:Rl):List Str := "starts" :: r.st.map fT
def rw2(r:Rl):List Str := "says" :: r.sy.map yn
def rwM(m:Mt):List Str:=["meet",fT m.1,fT m.2.1,fT m.2.2.1,fT m.2.2.2]
def mK(r:Rl):List (List Str):=rw0 r::rw1 r::rw2 r::r.ms.map rwM
abbrev tx(ws:List Str):Str:=Str.join (sg 32) ws
def ED(r:Rl):List D:=(mK r).map λws=>.str (tx ws)
structure Wd(w:Str):Prop where
 no:32∉w.cps.toList
 le:w.length<=6
 as:∀c∈w.cps.toList,c<127
def nK(h:((w.cps.toList.all λc=>decide (c≠32)&&decide (c<127))&&decide (w.length<=6))=true):Wd w:=by
 rw[ai,gh]at h;refine⟨λz=>?_,LF h.2,λc hc=>?_⟩
 ·have:=h.1 _ z;simp at this
 ·have:=h.1 _ hc;simp at this;exact this.2
theorem gV(h:n<=40):Wd (fT n):=by
 obtain⟨h1,h2,_⟩:=sV h;exact⟨λz=>by have:=h1 _ z;lia,by lia,λc hc=>by have:=h1 c hc;lia⟩
def Eo(b:Bool):Wd (yn b):=by cases b<;>exact nK (by decide +kernel)
structure Rs(r:Rl):Prop where
 w:Wf r
 n:r.n<=40
 s1:1<=r.st.length
 s4:r.st.length<=4
 m:r.ms.length<=60
theorem Rs.words(h:Rs r):∀ws∈mK r,(∀w∈ws,Wd w)/\ws≠[]/\ws.length<=41:=by
 have n1:=h.w.n1;have hn:=h.n;intro ws hw;simp only[mK,mo,List.mem_map]at hw;rcases hw with rfl|rfl|rfl|⟨m,hm,rfl⟩
 ·refine⟨λw hw=>?_,by simp[rw0],by simp[rw0]⟩;simp only[rw0,mo,sd,Ll]at hw;rcases hw with rfl|rfl
  ·exact nK (by decide +kernel)
  ·exact gV h.n
 ·refine⟨λw hw=>?_,by simp[rw1],by have:=h.s4;simp[rw1];lia⟩;simp only[rw1,mo,List.mem_map]at hw;rcases hw with rfl|⟨s,hs,rfl⟩
  ·exact nK (by decide +kernel)
  ·exact gV (by have:=h.w.st s hs;lia)
 ·refine⟨λw hw=>?_,by simp[rw2],by have:=h.w.sy;simp[rw2];lia⟩;simp only[rw2,mo,List.mem_map]at hw;rcases hw with rfl|⟨b,_,rfl⟩
  ·exact nK (by decide +kernel)
  ·exact Eo b
 ·have mk:=h.w.ms m hm;refine⟨λw hw=>?_,by simp[rwM],by simp[rwM]⟩;simp only[rwM,mo,sd,Ll]at hw;rcases hw with rfl|rfl|rfl|rfl|rfl
  ·exact nK (by decide +kernel)
  ·exact gV (by have:=mk.ab;have:=mk.b;lia)
  ·exact gV (by have:=mk.b;lia)
  ·exact gV (by have:=mk.c;lia)
  ·exact gV (by have:=mk.d;lia)
theorem Ax(h:∀w∈ws,Wd w)(hl:ws.length<=41):(tx ws).length<=300:=by
 have:=uV (c:=32) (B:=6) (ws:=ws) λw hw=>(h w hw).le
 have e:ws.length*7<=41*7:=KT _ hl;show(Str.join (sg 32) ws).length<=300;lia
theorem BS(h:∀w∈ws,Wd w)(hl:ws.length<=41):jb (.str " ") [.list (ws.map PyData.str)]=some (.str (tx ws)):=DG sp_is (λw hw=>by have:=(h w hw).le;lia) (by lia)
def onS(s:Str)(m:M D):onT .str (.str s) m=m:=rfl
def xU{A:List Nat}(h:∀a∈A,a<=40):cj (λd1=>bd (oM (u5 [d1])) λx2=>M.ret (some x2)) (A.map iN)=.ret ((A.map fT).map PyData.str):=by
 rw[fq (e:=iN) (g:=λn=>.str (fT n)) A (λa ha=>by rw[(sV (h a ha)).2.2.1,oMS,bdR]),sk];rfl
theorem Rs.m40(h:Rs r):∀m∈r.ms,m.1<=40/\m.2.1<=40/\m.2.2.1<=40/\m.2.2.2<=40:=λm hm=>by
 have mk:=h.w.ms m hm;have:=h.n;have:=mk.ab;have:=mk.b;have:=mk.c;have:=mk.d;lia
theorem tH{p:Str}(hp:p=w++sg 32)(hw:w.length<=6)(hne:ws≠[])(h:∀x∈ws,Wd x)(hl:ws.length<=41):aP (.str p) (.str (tx ws))=some (.str (tx (w::ws))):=by
 have l1:=Ax h hl;have l2:p.length=w.length+1:=by
  rw[hp];show(w.cps ++ #[32]).size=_;rw[LJ];rfl
 have e:tx (w::ws)=p++tx ws:=by
  rw[hp]
  cases ws with
  | nil=>exact absurd rfl hne
  | cons a r=>rfl
 show(if _ then some (PyData.str (p++tx ws))else none)=_;rw[e,ak];have:(1000:Nat)<=sizeLine:=by decide
 first|lia|(simp only[zzi];lia)
def Gx(l:List Bool):cj (λd14=>bd (bd (oM (mQ [d14])) λx15=>oM (bf (PyData.list [(.str "no"),(.str "yes")]) x15)) λx16=>M.ret (some x16)) (l.map PyData.bool)=.ret ((l.map yn).map PyData.str):=by
 rw[fq (e:=PyData.bool) (g:=λb=>.str (yn b)) l (λb _=>by cases b<;>rfl),sk];rfl
theorem BH(h:∀m∈ms,m.1<=40/\m.2.1<=40/\m.2.2.1<=40/\m.2.2.2<=40):cj (λd24=>bd (bd (onT .str (.str " ") (bd (bd (bd (oM (gq d24)) λl27=>bd (cj (λd25=>bd (oM (u5 [d25])) λx26=>.ret (some x26)) l27) fJ) λl28=>.ret (PyData.list l28)) λx29=>oM (jb (.str " ") [x29]))) λx30=>oM (aP (.str "meet ") x30)) λx31=>M.ret (some x31)) (ms.map mD)=.ret (ms.map λm=>.str (tx (rwM m))):=by
 refine fq (e:=mD) (g:=λm=>.str (tx (rwM m))) ms λm hm=>?_
 obtain⟨a,b,c,d⟩:=h m hm;have wd:∀x∈[m.1,m.2.1,m.2.2.1,m.2.2.2].map fT,Wd x:=λx hx=>by
  obtain⟨y,hy,rfl⟩:=List.mem_map.mp hx;simp only[mo,sd,Ll]at hy;exact gV (by rcases hy with rfl|rfl|rfl|rfl<;>lia)
 rw[onS,show gq (mD m)=some ([m.1,m.2.1,m.2.2.1,m.2.2.2].map iN)from rfl,oMS,bdR,xU (A:=[m.1,m.2.1,m.2.2.1,m.2.2.2]) (by simp;lia),bdR,dG (by simp),bdR,bdR,BS wd (by simp),oMS,bdR,tH (p := "meet ") (w := "meet") (by decide +kernel) (by decide +kernel) (by simp) wd (by simp),oMS,bdR];rfl
theorem wM(h:Rs r):dB r.d=.ret (.list (ED r)):=by
 have sl:r.sy.length<=40:=by rw[h.w.sy];exact h.n
 have n1:=h.w.n1;have w0:∀x∈[fT r.n],Wd x:=λx hx=>by rw[List.mem_singleton.mp hx];exact gV h.n
 have w1:∀x∈r.st.map fT,Wd x:=λx hx=>by
  obtain⟨s,hs,rfl⟩:=List.mem_map.mp hx;exact gV (by have:=h.w.st s hs;have:=h.n;lia)
 have w2:∀x∈r.sy.map yn,Wd x:=λx hx=>by
  obtain⟨s,hs,rfl⟩:=List.mem_map.mp hx;exact Eo s
 have a0:aP (.str "rooms ") (.str (fT r.n))=some (.str (tx (rw0 r))):=tH (p := "rooms ") (w := "rooms") (ws:=[fT r.n]) (by decide +kernel) (by decide +kernel) (by simp) w0 (by simp);have a1:aP (.str "starts ") (.str (tx (r.st.map fT)))=some (.str (tx (rw1 r))):=tH (p := "starts ") (w := "starts") (by decide +kernel) (by decide +kernel) (by have:=h.s1;intro z;rw[List.map_eq_nil_iff]at z;rw[z]at this;simp at this) w1 (by have:=h.s4;simp;lia);have a2:aP (.str "says ") (.str (tx (r.sy.map yn)))=some (.str (tx (rw2 r))):=tH (p := "says ") (w := "says") (by decide +kernel) (by decide +kernel) (by intro z;rw[List.map_eq_nil_iff]at z;have:=h.w.sy;rw[z]at this;simp at this;lia) w2 (by simp;lia);unfold dB;rw[uW,oMS,bdR,(sV h.n).2.2.1,oMS,bdR,a0,oMS,bdR,onS,z7,oMS,bdR,show gq (.tuple (r.st.map iN))=some (r.st.map iN)from rfl,oMS,bdR,xU (λa ha=>by have:=h.w.st a ha;have:=h.n;lia),bdR,dG (by have:=h.s4;simp;lia),bdR,bdR,BS w1 (by have:=h.s4;simp;lia),oMS,bdR,a1,oMS,bdR,bdR];rw[onS,J5,oMS,bdR,show gq (.tuple (r.sy.map PyData.bool))=some (r.sy.map PyData.bool)from rfl,oMS,bdR,Gx,bdR,dG (by simp;lia),bdR,bdR,BS w2 (by simp;lia),oMS,bdR,a2,oMS,bdR,gF _ _ (by simp),oMS,bdR,J6,oMS,bdR,show gq (.tuple (r.ms.map mD))=some (r.ms.map mD)from rfl,oMS,bdR,BH h.m40,bdR,dG (by have:=h.m;simp;lia),bdR,bdR,L4.addL _ _ (by have:=h.m;simp;lia),oMS,bdR];simp[ED,mK,sk,Function.comp_def]
def ch(c:Nat):D:=.str ⟨#[c]⟩
def dig(c:Nat):Bool:=decide (48<=c)&&decide (c<=57)
def Kf:(Str.ofString "0123456789").cps.toList=[48,49,50,51,52,53,54,55,56,57]:=by decide +kernel
def rf(c:Nat):rg ⟨#[c]⟩ (Str.ofString "0123456789")=dig c:=by
 unfold rg;rw[StrLaws.found_one,Kf];unfold dig;rw[zi];simp;omega
def GM(c:Nat):jB (ch c) (.str "0123456789")=some (dig c):=by
 show some (rg _ _)=_;rw[rf]
def zV(c:Nat):cQ (ch c) (.str "0123456789")=some (!dig c):=by
 show some (!rg _ _)=_;rw[rf]
def okW(x:Str):Bool:=decide (1<=x.length)&&decide (x.length<=9)&&x.cps.toList.all dig && !(decide (x.cps.toList.head? = some 48)&&decide (1<x.length))
def Gr(x:Str):D:=if okW x then iN (NumText.digitsVal x.cps.toList)else .none
structure Wz(x:Str):Prop where
 ok:PyData.strOk x=true
 le:x.length<=20000
def nX:(20000:Nat)<=sizeLine:=by decide
def BI(x:Str)(h:x.length<=20000):cI [.str x]=some (iN x.length):=ak (cr h nX)
def len_list(x:Str):x.cps.toList.length=x.length:=ce
def md:∀(cs:List Nat) (acc:Nat),(∀c∈cs,c<=57)->cs.foldl (λacc c=>acc*10+(c - 48)) acc+1<=(acc+1)*10^cs.length
 | [],acc,_=>by simp
 | c::cs,acc,h=>by
  have hc:=h c am;have ih:=md cs (acc*10+(c - 48)) λd hd=>h d (zzg _ hd)
  rw[ze,bi,Nat.pow_succ];have:(acc*10+(c - 48)+1)*10^cs.length<=((acc+1)*10)*10^cs.length:=KT _ (by omega);have e:(acc+1)*(10^cs.length*10)=((acc+1)*10)*10^cs.length:=by rw[Nat.mul_comm (10^cs.length) 10,Nat.mul_assoc]
  omega
def Fl{cs:List Nat}(h:∀c∈cs,dig c=true)(hl:cs.length<=9):NumText.digitsVal cs<=999999999:=by
 have:=md cs 0 λc hc=>by
  have:=h c hc;unfold dig at this;rw[ai,zzi,zzi]at this;exact this.2
 have h9:10^cs.length<=10^9:=Lm (by decide) hl;unfold NumText.digitsVal;omega
def int_is(h:x.cps.toList.all dig=true)(h1:1<=x.length)(h9:x.length<=9):mQ [.str x]=some (iN (NumText.digitsVal x.cps.toList)):=by
 rw[gh]at h;have hd:NumText.AllDigits x.cps.toList:=λc hc=>by
  have:=h c hc;unfold dig at this;rw[ai,zzi,zzi]at this;exact this
 have e:=PySem.intText_digits hd (by intro z;have:=len_list x;rw[z]at this;simp at this;omega) (by omega);show(if decide (x.length<=640)=true then(PySem.intText? x).map PyData.int else none)=_;rw[ak (by simp;omega),e];rfl
def kR(h:PyData.strOk x=true):Ey (.str x):=⟨by simpa[PyData.canLay0]using h,by simp[PyData.depth]⟩
def xQ(c:Nat):sS (Str.ofString "0") (ch c)=decide (c=48):=by
 show((⟨#[c]⟩:Str)==Str.ofString "0")=_;rw[zi,IG,zzi];constructor
 ·intro h;have:(⟨#[c]⟩:Str).cps=(Str.ofString "0").cps:=by rw[h]
  have e:(Str.ofString "0").cps = #[48]:=by decide +kernel
  rw[e]at this;injection this with this;injection this
 ·rintro rfl;decide +kernel
def first_is{r:List Nat}(e:x.cps.toList=c::r)(hl:x.length<=20000):bf (.str x) (.int 0)=some (ch c):=by
 show(if x.length<=sizeLine then(atI x.cps.toList 0).map λc=>PyData.str ⟨#[c]⟩else none)=_;rw[ak (cr hl nX),e,nB (c::r) 0 (by simp) |> (show atI (c::r) 0=some c from ·)];rfl
def nS(h:PyData.strOk x=true)(hc:c∈x.cps.toList):PyData.strOk ⟨#[c]⟩=true:=by
 rw[strOk_iff]at h ⊢;intro d hd;have:d=c:=by simpa using hd
 rw[this];exact h c hc
def leA(a b:Int):sD (.int a) (.int b)=some (decide (a<=b)):=rfl
def zU(w:Wz x):dA (.str x)=.ret (Gr x):=by
 unfold dA;have hL:=w.le;rw[BI x w.le,oMS,bdR,leA,oMS,bdR];have e1:(if decide ((1:Int)<=(x.length:Int))=true then oM (sD (iN x.length) (.int 9))else .ret false:M Bool)=.ret (decide (1<=x.length)&&decide (x.length<=9)):=by
  rw[leA,oMS,iteB];congr 2<;>(apply decide_eq_decide.mpr;omega)
 rw[e1,bdR,bdR];unfold Gr okW;by_cases h:1<=x.length/\x.length<=9
 ·rw[ay h.1,ay h.2,ac (by decide)];have cc:=fq (e:=ch) (g:=λc=>PyData.bool (dig c)) (step:=λd5=>bd (bd (oM (jB d5 (.str "0123456789"))) λb6=>.ret (.bool b6)) λx7=>.ret (some x7)) x.cps.toList (λc _=>by rw[GM,oMS,bdR,bdR]);have es:gq (.str x)=some (x.cps.toList.map ch):=rfl;rw[es,oMS,bdR,cc,bdR,dG (by rw[zzd,len_list];omega),bdR,bdR];have ea:B2 [.list (x.cps.toList.map λc=>PyData.bool (dig c))]=some (x.cps.toList.all dig):=by
   have:=allB (x.cps.toList.map dig);rw[sk]at this;refine this.trans ?_;rw[List.all_map];rfl
  rw[ea,oMS,bdR,bdR]
  cases hd:x.cps.toList.all dig
  ·rw[ak (by decide)];rfl
  ·rw[ac (by decide)]
   cases hx:x.cps.toList with
   | nil=>have:=len_list x;rw[hx]at this;simp at this;omega
   | cons c r =>
    have ey:Ey (ch c):=kR (nS w.ok (by rw[hx];exact am));rw[first_is hx w.le,oMS,bdR,eqS ey "0",xQ,oMS,bdR,bdR,gtI,oMS,iteB,bdR,int_is (by rw[hx]at hd ⊢;exact hd) h.1 h.2,hx];have e2:decide ((1:Int)<(x.length:Int))=decide (1<x.length):=decide_eq_decide.mpr (by omega);rw[e2];show _=M.ret (if(true&&true&&true && !(decide (some c=some 48)&&decide (1<x.length)))=true then _ else _);have e3:decide (some c=some 48)=decide (c=48):=decide_eq_decide.mpr (by simp);rw[e3]
    cases decide (c=48)&&decide (1<x.length)
    ·rw[ac (by decide),oMS,bdR];rfl
    ·rfl
 ·have hb:(decide (1<=x.length)&&decide (x.length<=9))=false:=by
   rw[Mh,ge,ge];omega
  rw[hb,ak (by decide)];rfl
def B8(x:Str):sS (Str.ofString "") (.str x)=decide (x.length=0):=by
 show(x==Str.ofString "")=_;rw[zi,IG,zzi];constructor
 ·rintro rfl;decide +kernel
 ·intro h;have e:x.cps = #[]:=Array.eq_empty_of_size_eq_zero h;have e2:(Str.ofString "").cps = #[]:=by decide +kernel
  cases x
  cases h3:Str.ofString ""
  rw[h3]at e2;dsimp only at e e2;rw[e,e2]
def EY{l:List D}(h:PyData.canLayAll0 l=true)(hd:PyData.depthAll l<=900):iA (.list l) (.list [])=some (!l.isEmpty):=by
 have e1:PyData.canLay0 (.list l)=true:=by simpa[PyData.canLay0]using h
 have e2:PyData.canLay0 (.list [])=true:=by simp[PyData.canLay0,PyData.canLayAll0]
 have e3:(PyData.list l).depth<=1000:=by simp[PyData.depth];omega
 refine(ak (by unfold pG;rw[e1,e2,ay e3];rfl)).trans ?_;congr 2
 cases l<;>simp[PyData.eqv,PyData.eqvAll]
def inD(lo hi:Int)(x:Str):D:=if okW x&&(decide (lo<=(NumText.digitsVal x.cps.toList:Int))&&decide ((NumText.digitsVal x.cps.toList:Int)<=hi))then iN (NumText.digitsVal x.cps.toList)else .none
def tf(w:Wz x)(lo hi:Int):cD (.str x) (.int lo) (.int hi)=.ret (inD lo hi x):=by
 unfold cD;have hL:=w.le;have es:gq (.str x)=some (x.cps.toList.map ch):=rfl
 have cc:=pM (e:=ch) (g:=λc=>if(!dig c)=true then some (ch c)else none) (step:=λd2=>bd (oM (cQ d2 (.str "0123456789"))) λb3=>if b3 then .ret (some d2)else .ret none) x.cps.toList (λc _=>by
  rw[zV,oMS,bdR]
  cases dig c<;>rfl)
 rw[jL]at cc;have hlay:∀d∈(x.cps.toList.filter λc=>!dig c).map ch,d.canLay0=true/\d.depth<=900:=λd hd=>by
  obtain⟨c,hc,rfl⟩:=List.mem_map.mp hd;have:=kR (nS w.ok (List.mem_filter.mp hc).1);exact⟨this.1,by simp[ch,PyData.depth]⟩
 have nn:=EY (jv λd hd=>(hlay d hd).1) (fK λd hd=>(hlay d hd).2);rw[eqS (kR w.ok) "",B8,oMS,bdR,BI x w.le,oMS,bdR,gtI,oMS,bdR,es,oMS,bdR,cc,bdR,uZ (by rw[zzd];have:=List.length_filter_le (λc=>!dig c) x.cps.toList;rw[len_list]at this;omega),bdR,bdR,nn,oMS,IL,IL,bdR];have ef:(!((x.cps.toList.filter λc=>!dig c).map ch).isEmpty) = !x.cps.toList.all dig:=by
  congr 1;generalize x.cps.toList=cs;rw[zi,List.isEmpty_iff,List.map_eq_nil_iff,List.filter_eq_nil_iff,gh];constructor
  ·intro h c hc;have:=h c hc
   cases hd:dig c with
   | true=>rfl
   | false=>rw[hd]at this;exact absurd rfl this
  ·intro h c hc;rw[h c hc];decide
 rw[ef];unfold inD okW;by_cases h:1<=x.length/\x.length<=9
 ·rw[ay h.1,ay h.2,aw (by omega:¬ x.length=0),aw (by omega:¬ (9:Int)<(x.length:Int)),Bool.false_or,Bool.false_or]
  cases hd:x.cps.toList.all dig
  ·rw[ak (by decide)];rfl
  ·rw[ac (by decide)]
   cases hx:x.cps.toList with
   | nil=>have:=len_list x;rw[hx]at this;simp at this;omega
   | cons c r =>
    have ey:Ey (ch c):=kR (nS w.ok (by rw[hx];exact am));rw[bdR,gtI,oMS,bdR,first_is hx w.le,oMS,bdR,eqS ey "0",xQ,oMS,iteB,bdR,int_is (by rw[hx]at hd ⊢;exact hd) h.1 h.2,hx];have e2:decide ((1:Int)<(x.length:Int))=decide (1<x.length):=decide_eq_decide.mpr (by omega);rw[e2];show _=M.ret (if((true&&true&&true && !(decide (some c=some 48)&&decide (1<x.length)))&&_)=true then _ else _);have e3:decide (some c=some 48)=decide (c=48):=decide_eq_decide.mpr (by simp);rw[e3,Bool.and_comm (decide (1<x.length))];have hv:NumText.digitsVal (c::r)<=999999999:=Fl (λd hd'=>by rw[<-hx]at hd';exact List.all_eq_true.mp hd d hd') (by rw[<-hx,len_list];exact h.2)
    cases decide (c=48)&&decide (1<x.length)
    ·rw[ac (by decide),oMS,bdR,leA,oMS,bdR,leA,oMS,iteB,bdR];show bd (if _ then _ else _) _=M.ret (if(true&&_)=true then _ else _);rw[Bool.true_and]
     cases decide (lo<=((NumText.digitsVal (c::r):Nat):Int))&&decide (((NumText.digitsVal (c::r):Nat):Int)<=hi)
     ·rw[ac (by decide),bdR,ac (by decide)]
     ·rw[ak rfl,bdR,ak rfl]
    ·rfl
 ·have hb:(decide (1<=x.length)&&decide (x.length<=9))=false:=by
   rw[Mh,ge,ge];omega
  have hb2:(decide (x.length=0)||(decide ((9:Int)<(x.length:Int)) || !x.cps.toList.all dig))=true:=by
   rw[ii,ii,zzi,zzi];omega
  rw[hb,hb2,ak rfl];rfl
def nT:¬ ((!true)=true):=by decide
def nF:(!false)=true:=rfl
def bdX{T:Type}(e:Ex)(k:S->M T):bd (.exc e) k=.exc e:=id rfl
def val(w:Str):Nat:=NumText.digitsVal w.cps.toList
abbrev space:Str:=Str.ofString " "
def spW(x:Str):List Str:=Txt.split x space
def qN:space.length=1:=by decide +kernel
def uU(x:Str):Str.join space (spW x)=x:=StrLaws.join_split x space
def Ws(W:List Str):Prop:=∀w∈W,Wz w
def fw(h:Wz x):Ws (spW x):=λw hw=>by
 have e:=uU x;have hle:=PySem.join_mem_le space (spW x) w hw;rw[e]at hle;refine⟨?_,cr hle h.le⟩;rw[strOk_iff];intro c hc;have hm:c∈(Str.join space (spW x)).cps.toList:=(mem_join space c (spW x)).mpr (.inl ⟨w,hw,hc⟩);rw[e]at hm;exact strOk_iff.mp h.ok c hm
def xW:(spW x).length<=x.length+2:=by
 unfold spW Txt.split;split
 ·simp
 ·split
  ·simp
  ·rw[length_partsBetween];have:=StrLaws.occ_length_le x space 0 x.length (x.length+1);omega
def gI(h:x.length<=19000):onT .str (.str x) (oM (lZ (.str x) [.str " "]))=.ret ((spW x).map PyData.str):=by
 show oM (if nr x space=true then some ((Txt.split x space).map PyData.str)else none)=_;have hp:(Builtin.Str.partsBetween x (Builtin.Str.occurrences x space 0 x.length (x.length+1)) space.length).length<=sizeLine:=by
  rw[length_partsBetween];have:=StrLaws.occ_length_le x space 0 x.length (x.length+1);have:=nX;omega
 have hw:(Txt.split x space).length<=sizeLine:=by
  have:(Txt.split x space).length<=x.length+2:=xW;have:=nX;omega
 rw[ak (by
  unfold nr;rw[ay hp,ay hw,ay (cr (by omega) nX)]
  decide +kernel)]
 rfl
abbrev noT(i p:Nat):Ex:=⟨"NoText",[("row",iN i),("word",iN p)]⟩
abbrev stR(i:Nat)(W:List Str)(pl:Nat):List D:=[iN i,.list (W.map PyData.str),iN pl,.int 0]
abbrev lW(W:List Str):D:=.list (W.map PyData.str)
def z5(i:Nat)(W:List Str)(pl:Nat):eQ aA (stR i W pl) "number" = some (iN i):=by kernel_rfl
def uQ(i:Nat)(W:List Str)(pl:Nat):eQ aA (stR i W pl) "words" = some (.list (W.map PyData.str)):=by kernel_rfl
def kP(i:Nat)(W:List Str)(pl:Nat):eQ aA (stR i W pl) "place" = some (iN pl):=by kernel_rfl
def uB(i:Nat)(W:List Str)(pl n:Nat):oA aA (stR i W pl) "place" (iN n)=stR i W n:=by kernel_rfl
def Jh(n:Nat):PyData.int ((n:Int)+1)=iN (n+1):=by
 show _=PyData.int (((n+1:Nat)):Int);congr 1
def rN(i:Nat)(W:List Str)(pl:Nat)(k:Int->M S):Cq (eQ aA (stR i W pl) "place") k=k pl:=by rw[kP];rfl
def fm(i:Nat)(W:List Str)(pl:Nat):cA (stR i W pl)=.exc (noT i pl):=by
 unfold cA;rw[z5,oMS,bdR,kP,oMS,bdR]
theorem hU(i:Nat)(W:List Str)(pl:Nat):cp (stR i W pl)=.ret (.bool (decide (pl<W.length)),stR i W pl):=by
 unfold cp
 rw[kP,oMS,bdR,uQ,oMS,bdR,L4.lenL,zzd,oMS,bdR,show gA (iN pl) (.int (W.length:Int))=some (decide (pl<W.length))from by
  show gA (.int (pl:Int)) (.int (W.length:Int))=_;rw[L4.ltI];congr 1
  exact decide_eq_decide.mpr (by lia),oMS,bdR,bdR]
def t7{i:Nat}{W:List Str}{pl:Nat}(h:W[pl]? = some w):bY (stR i W pl)=.ret (.str w,stR i W pl):=by
 obtain⟨hl,e⟩:=List.getElem?_eq_some_iff.mp h;unfold bY;rw[hU,bdR];dsimp only;rw[L4.asB_b,bdR,ay hl,ac (by decide)];unfold dM;rw[uQ,oMS,bdR,kP,oMS,bdR,show bf (.list (W.map PyData.str)) (iN pl)=_ from E4 PyData.str W pl hl,oMS,bdR,e]
def Ep{i:Nat}{W:List Str}{pl:Nat}(h:W[pl]? = none):bY (stR i W pl)=.exc (noT i pl):=by
 unfold bY;rw[hU,bdR];dsimp only;rw[L4.asB_b,bdR,aw (by rw[K4]at h;omega),ak nF,fm,bdX]
def finish_ok(i:Nat)(W:List Str)(pl:Nat):cB (stR i W pl)=if pl<W.length then .exc (noT i pl)else .ret (.none,stR i W pl):=by
 unfold cB;rw[hU,bdR];dsimp only;rw[L4.asB_b,bdR];by_cases h:pl<W.length
 ·rw[ay h,ak rfl,ak h,fm,bdX]
 ·rw[aw h,ac (by decide),ac h]
def nR(W:List Str)(lo hi:Int)(p:Nat):Option Nat:=match W[p]? with
 | none=>none
 | some w=>if okW w&&(decide (lo<=(val w:Int))&&decide ((val w:Int)<=hi))then some (val w)else none
def onR(r:Option Nat)(B:List Nat)(x:M (D×List D))(k:Nat->M (D×List D)):M (D×List D):=match r with
 | none=>x
 | some n=>if n∈B then x else k n
def E0{W:List Str}{lo:Int}(h:nR W lo hi q=some n):q<W.length:=by
 unfold nR at h
 cases e:W[q]? with
 | none=>rw[e]at h;cases h
 | some w=>exact(List.getElem?_eq_some_iff.mp e).1
def jG{W:List Str}{lo:Int}(h:nR W lo hi q=some n):∃w,W[q]? = some w/\okW w=true/\val w=n/\lo<=(n:Int)/\(n:Int)<=hi:=by
 unfold nR at h
 cases e:W[q]? with
 | none=>rw[e]at h;cases h
 | some w =>
  rw[e]at h;dsimp only at h;split at h
  ·rename_i hc;injection h with h;rw[ai,ai,zzi,zzi]at hc;subst h;exact⟨w,rfl,hc.1,rfl,hc.2.1,hc.2.2⟩
  ·cases h
def jE{W:List Str}(hW:Ws W)(i pl:Nat)(lo hi:Int){bar:D}{B:List Nat}(hb:∀n,jB (iN n) bar=some (decide (n∈B))):aR (stR i W pl) (.int lo) (.int hi) bar=onR (nR W lo hi pl) B (.exc (noT i pl)) λn=>.ret (iN n,stR i W (pl+1)):=by
 unfold aR nR
 cases h:W[pl]? with
 | none=>rw[Ep h,bdX];rfl
 | some w =>
  have wd:=hW w (bu h);rw[t7 h,bdR];dsimp only;rw[zU wd,bdR];unfold Gr
  cases hk:okW w with
  | false =>
   rw[ac (by decide),show jF .none .none=some true from rfl,oMS,bdR,ak rfl,bdR,ak rfl,fm,bdX,Lg,ac (by decide)];rfl
  | true =>
   rw[ak rfl,show jF (iN (NumText.digitsVal w.cps.toList)) .none=some false from rfl,oMS,bdR,ac (by decide),leA,oMS,bdR,leA,oMS,L4.iteB,bdR,bdR,Bool.true_and];show bd (if(!(decide (lo<=(val w:Int))&&decide ((val w:Int)<=hi)))=true then _ else _) _=_
   cases decide (lo<=(val w:Int))&&decide ((val w:Int)<=hi)
   ·rw[ak nF,bdR,ak rfl,fm,bdX,ac (by decide)];rfl
   ·rw[ac nT,hb,oMS,bdR,ak rfl];unfold onR;dsimp only;show(if decide (val w∈B)=true then _ else _)=_;by_cases hB:val w∈B
    ·rw[ay hB,ak rfl,ak hB,fm,bdX]
    ·rw[aw hB,ac (by decide),ac hB];unfold cN;rw[rN,Jh,uB];rfl
def qF{W:List Str}(hW:Ws W)(i pl:Nat)(lo hi:Int):aR (stR i W pl) (.int lo) (.int hi) (.tuple [])=onR (nR W lo hi pl) [] (.exc (noT i pl)) λn=>.ret (iN n,stR i W (pl+1)):=jE hW i pl lo hi (λn=>rfl)
def yT(xs:List Str)(hx:∀x∈xs,PyData.strOk x=true)(hw:Wz w):cQ (.str w) (.tuple (xs.map PyData.str))=some (!decide (w∈xs)):=by
 have h1:gR (.str w) (xs.map PyData.str)=true:=by
  unfold gR;have:PyData.canLayAll0 (xs.map PyData.str)=true:=jv λd hd=>by
   obtain⟨x,h,rfl⟩:=List.mem_map.mp hd;have:=hx x h;simp[PyData.canLay0,this]
  rw[this,(kR hw.ok).1];simp[PyData.depth]
 have h2:((xs.map PyData.str).any λz=>PyData.eqv z (.str w))=decide (w∈xs):=by
  rw[List.any_map,zi,List.any_eq_true,zzi];constructor
  ·rintro⟨x,hx,e⟩;have:(x==w)=true:=e;rw[IG]at this;exact this▸hx
  ·exact λh=>⟨w,h,show(w==w)=true from LQ _⟩
 show(if gR (.str w) (xs.map PyData.str)then some (!(xs.map PyData.str).any λy=>PyData.eqv y (.str w))else none)=_;rw[h1,ak rfl,h2]
def onW(W:List Str)(pl:Nat)(xs:List Str)(x:M (D×List D))(k:Str->M (D×List D)):M (D×List D):=match W[pl]? with
 | none=>x
 | some w=>if w∈xs then k w else x
def mF{W:List Str}(hW:Ws W)(i pl:Nat)(xs:List Str)(hx:∀x∈xs,PyData.strOk x=true):bM (stR i W pl) (.tuple (xs.map PyData.str))=onW W pl xs (.exc (noT i pl)) λw=>.ret (.str w,stR i W (pl+1)):=by
 unfold bM onW
 cases h:W[pl]? with
 | none=>rw[Ep h,bdX]
 | some w =>
  have wd:=hW w (bu h);rw[t7 h,bdR];dsimp only;rw[yT xs hx wd,oMS,bdR];by_cases hw:w∈xs
  ·rw[ay hw,ac (by decide),ak hw];unfold dm;rw[rN,Jh,uB]
  ·rw[aw hw,ak nF,ac hw,fm,bdX]
def Rz(R:List Str):Prop:=∀t∈R,PyData.strOk t=true/\t.length<=19000
def Rz.wz(h:Rz R){t:Str}(ht:t∈R):Wz t:=⟨(h t ht).1,by have:=(h t ht).2;omega⟩
def onB(R:List Str)(i:Nat)(w:Str)(x:Nat->Nat->M D)(k:List Str->M D):M D:=match R[i]? with
 | none=>x R.length 0
 | some t=>if(spW t)[0]? = some w then k (spW t)else x i 0
theorem geN(a b:Nat):uG (iN a) (iN b)=some (decide (b<=a)):=(L4.geI _ _).trans (congrArg some (decide_eq_decide.mpr (by lia)))
def m7(W:List Str):cI [lW W]=some (iN W.length):=by rw[L4.lenL,zzd]
def ixW{W:List Str}(h:W[p]? = some w):bf (lW W) (iN p)=some (.str w):=by
 obtain⟨hl,e⟩:=List.getElem?_eq_some_iff.mp h;rw[show bf (lW W) (iN p)=_ from E4 PyData.str W p hl,e]
def lh(hR:Rz R)(i:Nat)(hw:PyData.strOk w=true)(k:List D->M D):bd (cM (lW R) (iN i) (.str w)) k=onB R i w (λi p=>.exc (noT i p)) λW=>k (stR i W 1):=by
 unfold cM onB;rw[m7,oMS,bdR,geN,oMS,bdR]
 cases h:R[i]? with
 | none =>
  rw[K4]at h;rw[ay h,ak rfl,bdR,bdX];rfl
 | some t =>
  have hlt:=(List.getElem?_eq_some_iff.mp h).1;have ht:=bu h;have hW:=fw (hR.wz ht);have ei:dN [] (iN i) (.str t)=.ret (.none,stR i (spW t) 0):=by
   unfold dN;rw[gI (hR t ht).2,bdR,bdR];kernel_rfl
  rw[aw (by omega),ac (by decide),ixW h,oMS,bdR,ei];show bd (bd (bM (stR i (spW t) 0) (.tuple [.str w])) _) k=_;rw[show bM (stR i (spW t) 0) (.tuple [.str w])=_ from mF hW i 0 [w] (λx hx=>by rw[List.mem_singleton.mp hx];exact hw)];unfold onW
  cases h0:(spW t)[0]? with
  | none =>
   dsimp only;rw[bdX,bdX,ac (by rw[h0];exact λz=>nomatch z)]
  | some u =>
   dsimp only;by_cases hu:u=w
   ·subst hu;rw[ak (List.mem_singleton.mpr rfl),bdR,bdR,ak h0]
   ·rw[ac (λz=>hu (List.mem_singleton.mp z)),bdX,bdX,ac (by rw[h0];exact λz=>hu (Option.some.inj z))]
abbrev jA(A:List Nat):D:=.tuple (A.map iN)
inductive Rd(α:Type) where
 | no (p:Nat)
 | ok (x:α)
def Rd.bind{α β:Type}(r:Rd α)(k:α->Rd β):Rd β:=match r with
 | .no p=>.no p
 | .ok x=>k x
def Bt{α:Type}(o:Option α)(p:Nat):Rd α:=match o with
 | none=>.no p
 | some x=>.ok x
def bc(W:List Str):Nat->List (Int×Int)->Rd (List Nat)
 | _,[]=>.ok []
 | q,b::bs=>(Bt (nR W b.1 b.2 q) q).bind λn=>(bc W (q+1) bs).bind λl=>.ok (n::l)
def dE(W:List Str)(bs:List (Int×Int)):Rd (List Nat):=(bc W 1 bs).bind λl=>if bs.length+1<W.length then .no (bs.length+1)else .ok l
def yC{W:List Str}:∀(bs:List (Int×Int)) (q:Nat) (l:List Nat),q<=W.length->bc W q bs=.ok l->q+bs.length<=W.length/\l.length=bs.length
 | [],q,l,hq,h=>by injection h with h;subst h;exact⟨by simpa using hq,rfl⟩
 | b::bs,q,l,hq,h=>by
  unfold bc at h
  cases e:nR W b.1 b.2 q with
  | none=>rw[e]at h;cases h
  | some n =>
   rw[e]at h;have hlt:=E0 e
   cases e2:bc W (q+1) bs with
   | no p=>rw[show(Bt (some n) q).bind _=(bc W (q+1) bs).bind _ from rfl,e2]at h;cases h
   | ok l' =>
    rw[show(Bt (some n) q).bind _=(bc W (q+1) bs).bind _ from rfl,e2]at h;injection h with h;subst h;have:=yC bs (q+1) l' hlt e2;rw[bi,bi];omega
def Fh(a b:Nat):aP (iN a) (iN b)=some (iN (a+b)):=by
 rw[L4.addI];congr 2
def lv(a:Nat):aP (iN a) (.int 1)=some (iN (a+1)):=Fh a 1
def qz(a b:Nat):bC (iN a) (iN b)=some (decide (a=b)):=(L4.eqI _ _).trans (congrArg some (Bool.eq_iff_iff.mpr (by simp;omega)))
abbrev bD(b:Int×Int):D:=.tuple [.int b.1,.int b.2]
def asN(r:Rd (List Nat)):M D:=match r with
 | .no p=>.ret (.tuple [.bool false,iN p])
 | .ok l=>.ret (.tuple [.bool true,.list (l.map iN)])
def onN(r:Rd (List Nat))(k:List Nat->M D):M D:=match r with
 | .no p=>.ret (.tuple [.bool false,iN p])
 | .ok l=>k l
def BM{W:List Str}(hW:Ws W)(B:D)(kf:D×D×List D×Unit->M D):∀(bs:List (Int×Int)) (k:Nat) (acc:List Nat),acc.length+bs.length<=1000 ->
  cu (λ(s24:D×D×List D×Unit) d25 kn=>cH s24.1 s24.2.1 s24.2.2.1 d25 kn) (((bs.map bD).zipIdx k).map λp=>PyData.tuple [.int (p.2:Int),p.1]) (lW W,B,acc.map iN,()) kf=onN (bc W (k+1) bs) λl=>kf (lW W,B,(acc++l).map iN,())
 | [],k,acc,_=>by
  rw[K3,List.zipIdx_nil,K3,cu];show _=kf (lW W,B,(acc++[]).map iN,());rw[ig]
 | b::bs,k,acc,hl=>by
  rw[bi]at hl;rw[ba,List.zipIdx_cons,ba,cu];show cH (lW W) B (acc.map iN) (.tuple [iN k,bD b]) _=_;unfold cH un2;dsimp only;rw[lv,oMS,bdR,m7,oMS,bdR,geN,oMS,bdR];unfold bc;have num:(if decide (W.length<=k+1)=true then M.ret PyData.none else bd (bd (M.ret (iN (k+1))) λx16=>oM (bf (lW W) x16)) λx17=>cD x17 (.int b.1) (.int b.2))=.ret (match nR W b.1 b.2 (k+1)with|none=>.none|some n=>iN n):=by
   unfold nR
   cases h:W[k+1]? with
   | none=>rw[K4]at h;rw[ay h,ak rfl]
   | some w =>
    have hlt:=(List.getElem?_eq_some_iff.mp h).1;rw[aw (by omega),ac (by decide),bdR,ixW h,oMS,bdR,tf (hW w (bu h))];unfold inD;show M.ret (if(okW w&&(decide (b.1<=(val w:Int))&&decide ((val w:Int)<=b.2)))=true then iN (val w)else PyData.none)=_;dsimp only
    cases okW w&&(decide (b.1<=(val w:Int))&&decide ((val w:Int)<=b.2))<;>rfl
  rw[show(bd (if decide (W.length<=k+1)=true then M.ret PyData.none else bd (bd (M.ret (iN (k+1))) λx16=>oM (bf (lW W) x16)) λx17=>cD x17 (.int b.1) (.int b.2)) _)=_ from congrArg (λm=>bd m _) num,bdR]
  cases e:nR W b.1 b.2 (k+1)with
  | none =>
   dsimp only;rw[show jF .none .none=some true from rfl,oMS,bdR,ak rfl,bdR,bdR];rfl
  | some n =>
   dsimp only;rw[show jF (iN n) .none=some false from rfl,oMS,bdR,ac (by decide),gF _ _ (by rw[zzd];omega),oMS,bdR];have:=BM hW B kf bs (k+1) (acc++[n]) (by rw[zzf,gt];omega);rw[jo]at this;refine Eq.trans this ?_;show _=onN ((bc W (k+1+1) bs).bind _) _
   cases bc W (k+1+1) bs with
   | no p=>rfl
   | ok l =>
    show kf (lW W,B,(acc++[n]++l).map iN,())=kf (lW W,B,(acc++(n::l)).map iN,());rw[pr];rfl
def cZ{W:List Str}(hW:Ws W)(h1:1<=W.length){bs:List (Int×Int)}(hl:bs.length<=500):bp (lW W) (.list (bs.map bD))=asN (dE W bs):=by
 unfold bp;rw[show j4 [PyData.list (bs.map bD)]=some (((bs.map bD).zipIdx 0).map λp=>PyData.tuple [.int (p.2:Int),p.1])from rfl,oMS,bdR,e8];refine(BM hW _ _ bs 0 [] (by simp;omega)).trans ?_;unfold dE
 cases e:bc W (0+1) bs with
 | no p=>rfl
 | ok l =>
  have hle:=(yC bs 1 l h1 e).1;show dJ (lW W) (.list (bs.map bD)) (([]++l).map iN)=asN (if bs.length+1<W.length then .no (bs.length+1)else .ok l);unfold dJ;have lb:cI [PyData.list (bs.map bD)]=some (iN bs.length):=by rw[L4.lenL,zzd]
  rw[m7,oMS,bdR,lb,oMS,bdR,lv,oMS,bdR,qz,oMS,bdR];by_cases h:bs.length+1<W.length
  ·rw[aw (by omega),ac (by decide),ak h,bdR,bdR];rfl
  ·rw[ay (by omega),ak rfl,ac h,bdR];rfl
def asE{α:Type}(i:Nat)(r:Rd α)(k:α->M D):M D:=match r with
 | .no p=>.exc (noT i p)
 | .ok x=>k x
abbrev exT:Nat->Nat->M D:=λi p=>.exc (noT i p)
def A2(hR:Rz R):fg (lW R)=onB R 0 "rooms" exT λW=>asE 0 (dE W [(1,40)]) λl=>.ret (iN (l.headD 0)):=by
 unfold fg;rw[show PyData.int 0=iN 0 from rfl,lh hR 0 (br _)];unfold onB
 cases h:R[0]? with
 | none=>rfl
 | some t =>
  have hW:=fw (hR.wz (bu h));dsimp only;split
  ·rw[qF hW];unfold dE bc
   cases e:nR (spW t) 1 40 1 with
   | none=>rfl
   | some n =>
    show bd (M.ret (iN n,stR 0 (spW t) 2)) _=asE 0 (if 2<(spW t).length then .no 2 else .ok [n]) _;rw[bdR];dsimp only;rw[finish_ok];by_cases h2:2<(spW t).length
    ·rw[ak h2,ak h2,bdX];rfl
    ·rw[ac h2,ac h2,bdR];rfl
  ·rfl
noncomputable abbrev Hz:D×List D×List D×Unit->(D×List D×List D×Unit->M D)->M D:=λs17 kn=>cR s17.1 s17.2.1 s17.2.2.1 kn
def qM{W:List Str}(hW:Ws W){n:Nat}:∀(m fuel:Nat) (acc:List Nat),1<=acc.length->acc.length<=4->acc.length+1<=W.length->m=min (4 - acc.length) (W.length - 1 - acc.length)->m<fuel ->
  cV Hz fuel (iN n,stR 1 W (acc.length+1),acc.map iN,())=asE 1 ((bc W (acc.length+1) (List.replicate m (0,(n:Int) - 1))).bind λl=>if acc.length+m+1<W.length then .no (acc.length+m+1)else .ok (acc++l)) λl=>.ret (jA l)
 | m,0,acc,_,_,_,_,hf=>by omega
 | m,fuel+1,acc,h1,h4,hl,hm,hf=>by
  rw[cV];show cR (iN n) (stR 1 W (acc.length+1)) (acc.map iN) _=_;unfold cR;have ll:cI [PyData.list (acc.map iN)]=some (iN acc.length):=by rw[L4.lenL,zzd]
  have lt:gA (iN acc.length) (.int 4)=some (decide (acc.length<4)):=by
   show gA (.int _) (.int _)=_;rw[L4.ltI];exact congrArg some (decide_eq_decide.mpr (by omega))
  have fin:m=0->cS (iN n) (stR 1 W (acc.length+1)) (acc.map iN)=asE 1 ((bc W (acc.length+1) (List.replicate m (0,(n:Int) - 1))).bind λl=>if acc.length+m+1<W.length then .no (acc.length+m+1)else .ok (acc++l)) λl=>.ret (jA l):=λhm0=>by
   subst hm0;unfold cS;rw[finish_ok];show _=asE 1 (if acc.length+1<W.length then .no (acc.length+1)else .ok (acc++[])) _;by_cases h:acc.length+1<W.length
   ·rw[ak h,ak h,bdX];rfl
   ·rw[ac h,ac h,bdR,j9,oMS,bdR,ig];rfl
  rw[hU,bdR];dsimp only;rw[L4.asB_b,bdR];by_cases hmore:acc.length+1<W.length
  ·rw[ay hmore,ak rfl,ll,oMS,bdR,lt,oMS,bdR];by_cases h5:acc.length<4
   ·obtain⟨m',rfl⟩:∃m',m=m'+1:=⟨m - 1,by omega⟩;rw[ay h5,ak rfl,show cU (iN n) (.int 1)=some (.int ((n:Int) - 1))from rfl,oMS,bdR,qF hW,la];unfold bc
    cases e:nR W 0 ((n:Int) - 1) (acc.length+1)with
    | none=>rfl
    | some k =>
     show bd (M.ret (iN k,stR 1 W (acc.length+1+1))) _=asE 1 (((bc W (acc.length+1+1) (List.replicate m' (0,(n:Int) - 1))).bind λl=>.ok (k::l)).bind _) _;rw[bdR];dsimp only;rw[gF _ _ (by rw[zzd];omega),oMS,bdR];have ih:=qM hW (n:=n) m' fuel (acc++[k]) (by simp) (by simp;omega) (by simp;omega) (by simp;omega) (by omega);rw[zzf,gt,jo]at ih;refine Eq.trans ih ?_;have e2:acc.length+1+m'+1=acc.length+(m'+1)+1:=by omega
     rw[e2]
     cases bc W (acc.length+1+1) (List.replicate m' (0,(n:Int) - 1))with
     | no p=>rfl
     | ok l =>
      show asE 1 (if acc.length+(m'+1)+1<W.length then Rd.no (acc.length+(m'+1)+1)else .ok (acc++[k]++l)) _=asE 1 (if acc.length+(m'+1)+1<W.length then Rd.no (acc.length+(m'+1)+1)else .ok (acc++(k::l))) _;rw[pr];rfl
   ·rw[aw h5,ac (by decide)];exact fin (by omega)
  ·rw[aw hmore,ac (by decide),ac (by decide)];exact fin (by omega)
abbrev stB(W:List Str)(n:Nat):List (Int×Int):=List.replicate (max 1 (min 4 (W.length - 1))) (0,(n:Int) - 1)
def zA(hR:Rz R)(n:Nat):eJ (lW R) (iN n)=onB R 1 "starts" exT λW=>asE 1 (dE W (stB W n)) λl=>.ret (jA l):=by
 unfold eJ;rw[show PyData.int 1=iN 1 from rfl,lh hR 1 (br _)];unfold onB
 cases h:R[1]? with
 | none=>rfl
 | some t =>
  have hW:=fw (hR.wz (bu h));dsimp only;split
  ·generalize spW t=W at hW;rw[show cU (iN n) (iN 1)=some (.int ((n:Int) - 1))from rfl,oMS,bdR,show PyData.int 0=.int 0 from rfl,qF hW];obtain⟨m,hm⟩:∃m,max 1 (min 4 (W.length - 1))=m+1:=⟨max 1 (min 4 (W.length - 1)) - 1,by omega⟩;unfold dE stB;rw[hm,la];unfold bc
   cases e:nR W 0 ((n:Int) - 1) 1 with
   | none=>rfl
   | some k =>
    have hlt:=E0 e;show bd (M.ret (iN k,stR 1 W 2)) _=asE 1 (((bc W 2 (List.replicate m (0,(n:Int) - 1))).bind λl=>.ok (k::l)).bind _) _;rw[bdR];dsimp only;rw[qC];refine(qM hW (n:=n) m 10000 [k] (by simp) (by simp) (by simp;omega) (by simp;omega) (by omega)).trans ?_;show asE 1 ((bc W 2 (List.replicate m (0,(n:Int) - 1))).bind λl=>if 1+m+1<W.length then .no (1+m+1)else .ok ([k]++l)) _=_;rw[bi,Me,show 1+m+1=m+1+1 by omega]
    cases bc W 2 (List.replicate m (0,(n:Int) - 1))with
    | no p=>rfl
    | ok l=>rfl
  ·rfl
abbrev mE:List Str:=["yes", "no"]
def Em:∀x∈mE,PyData.strOk x=true:=λx hx=>by
 simp only[mE,mo,sd,Ll]at hx;rcases hx with rfl|rfl<;>exact br _
def eO(W:List Str):Nat->Nat->Rd (List Bool)
 | _,0=>.ok []
 | q,m+1=>match W[q]? with
  | none=>.no q
  | some w=>if w∈mE then(eO W (q+1) m).bind λl=>.ok (decide (w=Str.ofString "yes")::l)else .no q
def kh(W:List Str)(n:Nat):Rd (List Bool):=(eO W 1 n).bind λl=>if n+1<W.length then .no (n+1)else .ok l
def xX{W:List Str}:∀(m q:Nat) (l:List Bool),q<=W.length->eO W q m=.ok l->q+m<=W.length/\l=((W.drop q).take m).map λw=>decide (w=Str.ofString "yes")
 | 0,q,l,hq,h=>by injection h with h;subst h;exact⟨hq,by simp⟩
 | m+1,q,l,hq,h=>by
  unfold eO at h
  cases e:W[q]? with
  | none=>rw[e]at h;cases h
  | some w =>
   rw[e]at h;dsimp only at h;obtain⟨hlt,ew⟩:=List.getElem?_eq_some_iff.mp e;split at h
   ·cases e2:eO W (q+1) m with
    | no p=>rw[e2]at h;cases h
    | ok l' =>
     rw[e2]at h;injection h with h;subst h;obtain⟨h1,h2⟩:=xX m (q+1) l' hlt e2;refine⟨by omega,?_⟩;rw[oz hlt,List.take_succ_cons,ba,ew,h2]
   ·cases h
def E9(h:Wz w):bC (.str w) (.str "yes")=some (decide (w=Str.ofString "yes")):=by
 have e:bC (.str w) (.str "yes")=some (w==Str.ofString "yes"):=ak (by
  have t2:=h.ok;have hx:PyData.strOk (Str.ofString "yes")=true:=br _
  simp[pG,PyData.canLay0,t2,hx,PyData.depth])
 rw[e];exact congrArg some (Bool.eq_iff_iff.mpr (by rw[decide_eq_true_iff];exact IG))
def uo{W:List Str}(hW:Ws W):∀(ds:List D) (q:Nat) (acc:List Bool),acc.length+ds.length<=1000 ->
  cu (λ(s9:List D×List D×Unit) d10 kn=>fL s9.1 s9.2.1 d10 kn) ds (stR 2 W q,acc.map PyData.bool,()) (λs9=>fM s9.1 s9.2.1)=asE 2 ((eO W q ds.length).bind λl=>if q+ds.length<W.length then .no (q+ds.length)else .ok (acc++l)) λl=>.ret (.tuple (l.map PyData.bool))
 | [],q,acc,_=>by
  rw[cu];dsimp only;unfold fM;rw[finish_ok];show _=asE 2 (if q+0<W.length then .no (q+0)else .ok (acc++[])) _;rw[Nat.add_zero,ig];by_cases h:q<W.length
  ·rw[ak h,ak h,bdX];rfl
  ·rw[ac h,ac h,bdR,j9,oMS,bdR];rfl
 | d::ds,q,acc,hl=>by
  rw[bi]at hl;rw[cu];dsimp only;unfold fL;rw[show bM (stR 2 W q) (.tuple [(.str "yes"),(.str "no")])=_ from mF hW 2 q mE Em,bi];unfold onW eO
  cases e:W[q]? with
  | none=>rfl
  | some w =>
   dsimp only;have wd:=hW w (bu e);by_cases h:w∈mE
   ·rw[ak h,ak h,bdR];dsimp only;rw[E9 wd,oMS,bdR,gF _ _ (by rw[zzd];omega),oMS,bdR];have ih:=uo hW ds (q+1) (acc++[decide (w=Str.ofString "yes")]) (by rw[zzf,gt];omega);rw[jo]at ih;refine Eq.trans ih ?_;rw[show q+1+ds.length=q+(ds.length+1) by omega]
    cases eO W (q+1) ds.length with
    | no p=>rfl
    | ok l =>
     show asE 2 (if q+(ds.length+1)<W.length then Rd.no (q+(ds.length+1))else .ok (acc++[decide (w=Str.ofString "yes")]++l)) _=asE 2 (if q+(ds.length+1)<W.length then Rd.no (q+(ds.length+1))else .ok (acc++(decide (w=Str.ofString "yes")::l))) _;rw[pr];rfl
   ·rw[ac h,ac h,bdX];rfl
def C3(hR:Rz R)(hn:n<=500):gb (lW R) (iN n)=onB R 2 "says" exT λW=>asE 2 (kh W n) λl=>.ret (.tuple (l.map PyData.bool)):=by
 unfold gb;rw[show PyData.int 2=iN 2 from rfl,lh hR 2 (br _)];unfold onB
 cases h:R[2]? with
 | none=>rfl
 | some t =>
  have hW:=fw (hR.wz (bu h));dsimp only;split
  ·rw[fU n (by omega),oMS,bdR,e8];refine(uo hW _ 1 [] (by simp;omega)).trans ?_;rw[zzd,ke];unfold kh;rw[Nat.add_comm 1 n];rfl
  ·rfl
def asS(r:Rd (List Bool)):M D:=match r with
 | .no p=>.ret (.tuple [.bool false,iN p])
 | .ok l=>.ret (.tuple [.bool true,.list (l.map PyData.bool)])
def uu(q m:Nat):rng q (q+(m+1))=q::rng (q+1) (q+1+m):=by
 unfold rng;rw[show q+(m+1) - q=m+1 by omega,show q+1+m - (q+1)=m by omega,List.range_succ_eq_map,ba,sk];congr 1;refine K5 λx _=>?_
 show q+(x+1)=q+1+x;omega
def uq{W:List Str}(hW:Ws W){n:D}(kf:D×D×Unit->M D):∀(m q:Nat),cu (λ(s21:D×D×Unit) d22 kn=>fP s21.1 s21.2.1 d22 kn) ((rng q (q+m)).map iN) (lW W,n,()) kf=match eO W q m with
  | .no p=>.ret (.tuple [.bool false,iN p])
  | .ok _=>kf (lW W,n,())
 | 0,q=>by
  rw[show rng q (q+0)=[]from by unfold rng;simp,K3,cu];rfl
 | m+1,q=>by
  rw[uu,ba,cu];dsimp only;unfold fP;rw[m7,oMS,bdR,geN,oMS,bdR];have ih:=uq hW (n:=n) kf m (q+1)
  show _=match (match W[q]? with
   | none=>Rd.no q
   | some w=>if w∈mE then(eO W (q+1) m).bind λl=>.ok (decide (w=Str.ofString "yes")::l)else .no q)with
   | .no p=>M.ret (PyData.tuple [.bool false,iN p])
   | .ok _=>kf (lW W,n,())
  cases e:W[q]? with
  | none =>
   rw[K4]at e;rw[ay e,ak rfl,bdR,ak rfl]
  | some w =>
   have hlt:=(List.getElem?_eq_some_iff.mp e).1;have wd:=hW w (bu e);rw[aw (by omega),ac (by decide),ixW e,oMS,bdR,show cQ (.str w) (.tuple [(.str "yes"),(.str "no")])=_ from yT mE Em wd,oMS,bdR];dsimp only;by_cases h:w∈mE
   ·rw[ay h,ac (by decide),ak h];refine Eq.trans ih ?_
    cases eO W (q+1) m<;>rfl
   ·rw[aw h,ak nF,ac h]
def wL{W:List Str}(hW:Ws W)(h1:1<=W.length)(hn:n<=500):gf (lW W) (iN n)=asS (kh W n):=by
 unfold gf;rw[lv,oMS,bdR,show eH [.int 1,iN (n+1)]=_ from sq 1 (n+1) (by omega) (by omega),oMS,bdR,e8,show n+1=1+n by omega];refine(uq hW _ n 1).trans ?_;unfold kh
 cases e:eO W 1 n with
 | no p=>rfl
 | ok l =>
  obtain⟨hle,el⟩:=xX n 1 l h1 e;show fQ (lW W) (iN n)=asS (if n+1<W.length then .no (n+1)else .ok l);unfold fQ;rw[m7,oMS,bdR,lv,oMS,bdR,qz,oMS,bdR];by_cases h:n+1<W.length
  ·rw[aw (by omega),ac (by decide),ak h,bdR,bdR];rfl
  ·have hw:(W.drop 1).length=n:=by rw[fi];omega
   have cc:=fq (e:=PyData.str) (g:=λw=>PyData.bool (decide (w=Str.ofString "yes"))) (step:=λd7=>bd (bd (oM (bC d7 (.str "yes"))) λb8=>M.ret (.bool b8)) λx9=>.ret (some x9)) (W.drop 1) (λw hw=>by rw[E9 (hW w (sw hw)),oMS,bdR,bdR])
   rw[ay (by omega),ak rfl,ac h,show asI (.int 1)=M.ret (some 1)from rfl,bdR,show bI (lW W) (some 1) none=some (lW (W.drop 1))from by
    show some (PyData.list (L4.cutD (W.map PyData.str) (some ((1:Nat):Int)) none))=_
    rw[Ce,<-LO],oMS,bdR,show gq (lW (W.drop 1))=some ((W.drop 1).map PyData.str)from rfl,oMS,bdR,cc,bdR,uZ (by rw[zzd,hw];omega),bdR,bdR,bdR]
   rw[L8 (by omega)]at el;show _=M.ret (PyData.tuple [.bool true,.list (l.map PyData.bool)]);rw[el,sk];rfl
def dv(acc:Nat)(cs:List Nat):Nat:=cs.foldl (λacc c=>acc*10+(c - 48)) acc
def pL:∀(cs:List Nat) (acc:Nat),dv acc cs=acc*10^cs.length+dv 0 cs
 | [],acc=>by simp[dv]
 | c::cs,acc=>by
  show dv (acc*10+(c - 48)) cs=acc*10^(cs.length+1)+dv (0*10+(c - 48)) cs;rw[pL cs (acc*10+(c - 48)),pL cs (0*10+(c - 48)),Nat.pow_succ,Nat.zero_mul,Ls,Nat.add_mul];have:acc*10*10^cs.length=acc*(10^cs.length*10):=by rw[Nat.mul_assoc,Nat.mul_comm 10]
  omega
def y7:∀(cs:List Nat),(∀c∈cs,dig c=true)->dv 0 cs<10^cs.length:=λcs h=>by
 have:=md cs 0 λc hc=>by
  have:=h c hc;unfold dig at this;rw[ai,zzi,zzi]at this;exact this.2
 unfold dv;omega
def y6:∀(cs ds:List Nat),(∀c∈cs,dig c=true)->(∀c∈ds,dig c=true)->cs.length=ds.length->dv 0 cs=dv 0 ds->cs=ds
 | [],[],_,_,_,_=>rfl
 | [],_::_,_,_,h,_=>by simp at h
 | _::_,[],_,_,h,_=>by simp at h
 | c::cs,d::ds,h1,h2,hl,he=>by
  have hl':cs.length=ds.length:=by simpa using hl
  have e1:dv 0 (c::cs)=(c - 48)*10^cs.length+dv 0 cs:=by
   show dv (0*10+(c - 48)) cs=_;rw[pL,Nat.zero_mul,Ls]
  have e2:dv 0 (d::ds)=(d - 48)*10^ds.length+dv 0 ds:=by
   show dv (0*10+(d - 48)) ds=_;rw[pL,Nat.zero_mul,Ls]
  have l1:=y7 cs λx hx=>h1 x (zzg _ hx)
  have l2:=y7 ds λx hx=>h2 x (zzg _ hx)
  rw[e1,e2,<-hl']at he;rw[<-hl']at l2;have hcd:c - 48=d - 48:=by
   rcases ve (c - 48) (d - 48)with z|z|z
   ·have:=KT (10^cs.length) (show c - 48+1<=d - 48 by omega);rw[Nat.add_mul]at this;omega
   ·exact z
   ·have:=KT (10^cs.length) (show d - 48+1<=c - 48 by omega);rw[Nat.add_mul]at this;omega
  have c1:=h1 c am;have d1:=h2 d am;unfold dig at c1 d1;rw[ai,zzi,zzi]at c1 d1;have:c=d:=by omega
  subst this;rw[y6 cs ds (λx hx=>h1 x (zzg _ hx)) (λx hx=>h2 x (zzg _ hx)) hl' (by omega)]
def CS{y:Str}(hx:okW x=true)(hy:okW y=true)(h:val x=val y):x=y:=by
 have ux:∀{x:Str},okW x=true->x.cps.toList≠[]/\(∀c∈x.cps.toList,dig c=true)/\(x.cps.toList.head? = some 48->x.cps.toList.length=1):=λ{x} hx=>by
  unfold okW at hx;rw[ai,ai,ai,zzi,zzi,gh,ny,Mh,ge,ge]at hx;obtain⟨⟨⟨a,b⟩,c⟩,d⟩:=hx;have hl:=len_list x;refine⟨λz=>by rw[z]at hl;simp at hl;omega,c,λz=>?_⟩;rcases d with d|d
  ·exact absurd z d
  ·omega
 obtain⟨x1,x2,x3⟩:=ux hx;obtain⟨y1,y2,y3⟩:=ux hy;have low:∀cs:List Nat,cs≠[]->(∀c∈cs,dig c=true)->(cs.head? = some 48->cs.length=1)->cs.length=1\/10^(cs.length - 1)<=dv 0 cs:=λcs a b c=>by
  cases cs with
  | nil=>exact absurd rfl a
  | cons d r =>
   by_cases hd:d=48
   ·exact .inl (c (by rw[hd];rfl))
   ·right;have d1:=b d am;unfold dig at d1;rw[ai,zzi,zzi]at d1;have e1:dv 0 (d::r)=(d - 48)*10^r.length+dv 0 r:=by
     show dv (0*10+(d - 48)) r=_;rw[pL,Nat.zero_mul,Ls]
    rw[e1,bi,Nat.add_sub_cancel];have:=KT (10^r.length) (show 1<=d - 48 by omega);omega
 have hxy:dv 0 x.cps.toList=dv 0 y.cps.toList:=h;have lx:=y7 _ x2;have ly:=y7 _ y2;have hlen:x.cps.toList.length=y.cps.toList.length:=by
  have p1:0<x.cps.toList.length:=List.length_pos_iff.mpr x1;have p2:0<y.cps.toList.length:=List.length_pos_iff.mpr y1;rcases ve x.cps.toList.length y.cps.toList.length with z|z|z
  ·rcases low _ y1 y2 y3 with q|q
   ·omega
   ·have:=Lm (show 0<10 by decide) (show x.cps.toList.length<=y.cps.toList.length - 1 by omega);omega
  ·exact z
  ·rcases low _ x1 x2 x3 with q|q
   ·omega
   ·have:=Lm (show 0<10 by decide) (show y.cps.toList.length<=x.cps.toList.length - 1 by omega);omega
 have:=y6 _ _ x2 y2 hlen hxy
 cases x
 cases y
 congr 1;exact Array.toList_inj.mp this
def u6:∀(a b:List Str),PyData.eqvAll (a.map PyData.str) (b.map PyData.str)=decide (a=b)
 | [],[]=>rfl
 | [],_::_=>rfl
 | _::_,[]=>rfl
 | p::a,q::b=>by
  show((p==q)&&PyData.eqvAll (a.map PyData.str) (b.map PyData.str))=_;rw[u6 a b];by_cases h:p=q
  ·subst h;simp
  ·have:(p==q)=false:=by rw[beq_eq_false_iff_ne];exact h
   rw[this,Lg,aw (λz=>h (List.cons.inj z).1)]
def Ig{c d:Str}:[a,b].Perm [c,d]↔(a=c/\b=d)\/(a=d/\b=c):=by
 constructor
 ·intro h;have ha:a∈[c,d]:=h.mem_iff.mp am;simp only[mo,sd,Ll]at ha;rcases ha with rfl|rfl
  ·have:=h.cons_inv;have hb:=List.perm_singleton.mp this.symm;injection hb with hb;exact .inl ⟨rfl,hb.symm⟩
  ·have h2:=(h.trans (List.Perm.swap a c [])).cons_inv;have hb:=List.perm_singleton.mp h2.symm;injection hb with hb;exact .inr ⟨rfl,hb.symm⟩
 ·rintro(⟨rfl,rfl⟩|⟨rfl,rfl⟩)
  ·exact .refl _
  ·exact .swap _ _ _
def qO(ha:PyData.strOk a=true)(hb:PyData.strOk b=true):∃L:List Str,fY [.list [.str a,.str b]]=some (L.map PyData.str)/\L.Perm [a,b]/\dq ([a,b].map PyData.str)=L.map PyData.str:=by
 obtain⟨L,p1,p2⟩:=kj (f:=PyData.str) (zs:=[a,b]) (l:=dq ([a,b].map PyData.str)) (bV _);refine⟨L,?_,p1,p2⟩;show(if dg ([a,b].map PyData.str)then some (dq ([a,b].map PyData.str))else none)=_;rw[ak,p2];unfold dg;simp[o8,ha,hb]
def Fv{c d:Str}(ha:PyData.strOk a=true)(hb:PyData.strOk b=true)(hc:PyData.strOk c=true)(hd:PyData.strOk d=true):(bd (bd (oM (fY [.list [.str a,.str b]])) λl45=>M.ret (PyData.list l45)) λx50=>bd (bd (oM (fY [.list [.str c,.str d]])) λl49=>M.ret (PyData.list l49)) λx51=>oM (bC x50 x51))=.ret (decide ((a=c/\b=d)\/(a=d/\b=c))):=by
 obtain⟨L,e1,p1,s1⟩:=qO ha hb;obtain⟨L',e2,p2,s2⟩:=qO hc hd;have lay:∀l:List Str,(∀x∈l,PyData.strOk x=true)->PyData.canLayAll0 (l.map PyData.str)=true:=λl hl=>jv λd hd=>by
  obtain⟨x,h,rfl⟩:=List.mem_map.mp hd;have:=hl x h;simp[PyData.canLay0,this]
 have eq:bC (.list (L.map PyData.str)) (.list (L'.map PyData.str))=some (decide (L=L')):=by
  refine(ak ?_).trans (congrArg some (u6 L L'));have d1:PyData.depthAll (L.map PyData.str)<=1:=fK λd hd=>by
   obtain⟨x,_,rfl⟩:=List.mem_map.mp hd;simp[PyData.depth]
  have d2:(PyData.list (L.map PyData.str)).depth<=1000:=by simp only[PyData.depth];omega
  have a1:(PyData.list (L.map PyData.str)).canLay0=true:=by
   simp only[PyData.canLay0];exact lay L λx hx=>by
    have:=p1.mem_iff.mp hx;simp only[mo,sd,Ll]at this;rcases this with rfl|rfl<;>assumption
  have a2:(PyData.list (L'.map PyData.str)).canLay0=true:=by
   simp only[PyData.canLay0];exact lay L' λx hx=>by
    have:=p2.mem_iff.mp hx;simp only[mo,sd,Ll]at this;rcases this with rfl|rfl<;>assumption
  unfold pG;rw[a1,a2,ay d2];rfl
 rw[e1,oMS,bdR,bdR,e2,oMS,bdR,bdR,eq,oMS];congr 1;refine decide_eq_decide.mpr ?_;rw[<-Ig];constructor
 ·intro h;exact p1.symm.trans ((h▸.refl _:L.Perm L').trans p2)
 ·intro h;have so:dg ([c,d].map PyData.str)=true:=by unfold dg;simp[o8,hc,hd]
  have:=ui so (r:=dq ([a,b].map PyData.str)) ((bV _).trans (h.map _)) (cP _);rw[s1,s2]at this;exact Lz (λ{x y} h=>by injection h) |>.mp this
def gE(a a0:Nat)(b0:Int):Int:=if a=a0 then b0+1 else(a:Int)
def wY(W:List Str)(a:Nat)(l:List Nat):Rd Mt:=match l with
 | [b,c,d]=>if(a=c/\b=d)\/(a=d/\b=c)then .no 4 else if 5<W.length then .no 5 else .ok (a,b,c,d)
 | _=>.no 0
def fX(W:List Str)(n a0:Nat)(b0:Int):Rd Mt:=(Bt (nR W a0 ((n:Int) - 1) 1) 1).bind λa=>(bc W 2 [(gE a a0 b0,(n:Int) - 1),(0,(n:Int) - 1),(0,(n:Int) - 1)]).bind (wY W a)
def J7(p q r:Nat×Nat):jB (pD p) (.tuple [pD q,pD r])=some (decide (q=p)||decide (r=p)):=by
 have hi:gR (pD p) [pD q,pD r]=true:=by
  unfold gR;simp[uR,PyData.canLayAll0]
 show jB (pD p) (.tuple [pD q,pD r])=_;rw[show jB (pD p) (.tuple [pD q,pD r])=if gR (pD p) [pD q,pD r]then some ([pD q,pD r].any λy=>PyData.eqv y (pD p))else none from rfl,ak hi];simp only[List.any_cons,List.any_nil,u7,Bool.or_false]
def IQ(x:Nat)(l:List Nat):jB (iN x) (.list (l.map iN))=some (decide (x∈l)):=by
 have hi:gR (iN x) (l.map iN)=true:=by
  unfold gR;rw[BK l];rfl
 show jB (iN x) (.list (l.map iN))=_;rw[show jB (iN x) (.list (l.map iN))=if gR (iN x) (l.map iN)then some ((l.map iN).any λy=>PyData.eqv y (iN x))else none from rfl,ak hi];congr 1;rw[zi,List.any_eq_true,zzi];constructor
 ·rintro⟨d,hd,h⟩;obtain⟨y,hy,rfl⟩:=List.mem_map.mp hd;have:((y:Int)==(x:Int))=true:=h;rw[EZ,zzi]at this;exact this▸hy
 ·intro h;refine⟨iN x,List.mem_map.mpr ⟨x,h,rfl⟩,?_⟩;show((x:Int)==(x:Int))=true;simp
abbrev unB(a b c:Nat):List Nat:=[a,b].filter λx=>decide ((a,b)=(c,x))||decide ((b,a)=(c,x))
def CT(a b c:Nat):fc (iN a) (iN b) (iN c)=.ret (.list ((unB a b c).map iN)):=by
 unfold fc;have cm:cj (λd1=>bd (oM (jB (.tuple [iN c,d1]) (.tuple [(.tuple [iN a,iN b]),(.tuple [iN b,iN a])]))) λb2=>if b2 then M.ret (some d1)else .ret none) ([a,b].map iN)=.ret (([a,b].filter λx=>decide ((a,b)=(c,x))||decide ((b,a)=(c,x))).map iN):=by
  rw[pM (e:=iN) (g:=λx=>if(decide ((a,b)=(c,x))||decide ((b,a)=(c,x)))=true then some (iN x)else none) [a,b] λx _=>by
   rw[show jB (.tuple [iN c,iN x]) (.tuple [(.tuple [iN a,iN b]),(.tuple [iN b,iN a])])=_ from J7 (c,x) (a,b) (b,a),oMS,bdR]
   cases (decide ((a,b)=(c,x))||decide ((b,a)=(c,x)))<;>rfl]
  refine congrArg M.ret ?_
  induction [a,b]with
  | nil=>rfl
  | cons y l ih =>
   rw[je,List.filter_cons,ih]
   cases (decide ((a,b)=(c,y))||decide ((b,a)=(c,y)))<;>rfl
 rw[show gq (.tuple [iN a,iN b])=some ([a,b].map iN)from rfl,oMS,bdR,cm,bdR,dG (by rw[zzd];exact cr (List.length_filter_le _ _) (by simp)),bdR,bdR]
def mem_unB{a b d:Nat}:d∈unB a b c↔(a=c/\b=d)\/(a=d/\b=c):=by
 rw[List.mem_filter,ii,zzi,zzi,Prod.mk.injEq,Prod.mk.injEq];simp only[mo,sd,Ll];constructor
 ·rintro⟨_,h|h⟩
  ·exact .inl h
  ·exact .inr ⟨h.2,h.1⟩
 ·rintro(⟨rfl,rfl⟩|⟨rfl,rfl⟩)
  ·exact⟨.inr rfl,.inl ⟨rfl,rfl⟩⟩
  ·exact⟨.inl rfl,.inr ⟨rfl,rfl⟩⟩
def wF(hR:Rz R)(i n a0:Nat)(b0:Int):dI (lW R) (iN i) (iN n) (.tuple [iN a0,.int b0])=onB R i "meet" exT λW=>asE i (fX W n a0 b0) λm=>.ret (mD m):=by
 unfold dI;rw[lh hR i (br _)];unfold onB
 cases h:R[i]? with
 | none=>rfl
 | some t =>
  have hW:=fw (hR.wz (bu h));dsimp only;split
  ·generalize spW t=W at hW;have i0:bf (PyData.tuple [iN a0,.int b0]) (.int 0)=some (iN a0):=rfl;have i1:bf (PyData.tuple [iN a0,.int b0]) (.int 1)=some (.int b0):=rfl;have sb:cU (iN n) (.int 1)=some (.int ((n:Int) - 1)):=rfl;rw[i0,oMS,bdR,sb,oMS,bdR,show aR (stR i W 1) (iN a0) (.int ((n:Int) - 1)) (.tuple [])=_ from qF hW i 1 a0 ((n:Int) - 1)];unfold fX
   cases e1:nR W a0 ((n:Int) - 1) 1 with
   | none=>rfl
   | some a =>
    show bd (M.ret (iN a,stR i W 2)) _=asE i ((bc W 2 [(gE a a0 b0,(n:Int) - 1),(0,(n:Int) - 1),(0,(n:Int) - 1)]).bind (wY W a)) _;rw[bdR];dsimp only;have lw:(bd (bd (M.ret (iN a0)) λx5=>oM (bC (iN a) x5)) λb7=>if b7 then bd (oM (bf (PyData.tuple [iN a0,.int b0]) (.int 1))) λx6=>oM (aP x6 (.int 1))else M.ret (iN a))=.ret (.int (gE a a0 b0)):=by
     rw[bdR,qz,oMS,bdR,i1,oMS,bdR,L4.addI,oMS];unfold gE;by_cases h:a=a0
     ·rw[ay h,ak rfl,ak h]
     ·rw[aw h,ac (by decide),ac h]
    rw[show(bd (bd (bd (M.ret (iN a0)) λx5=>oM (bC (iN a) x5)) λb7=>if b7 then bd (oM (bf (PyData.tuple [iN a0,.int b0]) (.int 1))) λx6=>oM (aP x6 (.int 1))else M.ret (iN a)) _)=_ from congrArg (λm=>bd m _) lw,bdR,bdR,qF hW];unfold bc
    cases e2:nR W (gE a a0 b0) ((n:Int) - 1) 2 with
    | none=>rfl
    | some b =>
     show bd (M.ret (iN b,stR i W 3)) _=asE i (((bc W 3 [(0,(n:Int) - 1),(0,(n:Int) - 1)]).bind λl=>.ok (b::l)).bind (wY W a)) _;rw[bdR];dsimp only;rw[bdR,qF hW];unfold bc
     cases e3:nR W 0 ((n:Int) - 1) 3 with
     | none=>rfl
     | some c =>
      show bd (M.ret (iN c,stR i W 4)) _=asE i ((((bc W 4 [(0,(n:Int) - 1)]).bind λl=>.ok (c::l)).bind λl=>.ok (b::l)).bind (wY W a)) _;rw[bdR];dsimp only;rw[bdR,CT,bdR,jE hW i 4 0 ((n:Int) - 1) (λx=>IQ x (unB a b c))];unfold bc
      cases e4:nR W 0 ((n:Int) - 1) 4 with
      | none=>rfl
      | some d =>
       show bd (if d∈unB a b c then M.exc (noT i 4)else M.ret (iN d,stR i W 5)) _=asE i (if(a=c/\b=d)\/(a=d/\b=c)then .no 4 else if 5<W.length then .no 5 else .ok (a,b,c,d)) _;by_cases hu:d∈unB a b c
       ·rw[ak hu,ak (mem_unB.mp hu),bdX];rfl
       ·rw[ac hu,ac (λz=>hu (mem_unB.mpr z)),bdR];dsimp only;rw[finish_ok];by_cases h5:5<W.length
        ·rw[ak h5,ak h5,bdX];rfl
        ·rw[ac h5,ac h5,bdR];rfl
  ·rfl
def G8(r:Rd Mt):M D:=match r with
 | .no p=>.ret (.tuple [.bool false,iN p])
 | .ok m=>.ret (.tuple [.bool true,.list [iN m.1,iN m.2.1,iN m.2.2.1,iN m.2.2.2]])
def Dv{W:List Str}{lo:Int}{k:Nat}(h:q<k):nR (W.take k) lo hi q=nR W lo hi q:=by
 unfold nR;rw[List.getElem?_take,ak h]
def lI{W:List Str}{k:Nat}:∀(bs:List (Int×Int)) (q:Nat),q+bs.length<=k->bc (W.take k) q bs=bc W q bs
 | [],q,_=>rfl
 | b::bs,q,h=>by
  rw[bi]at h;unfold bc;rw[Dv (by omega),lI bs (q+1) (by omega)]
def eI(W:List Str)(n:Nat):bI (lW W) none (some (n:Int))=some (lW (W.take n)):=by
 show some (PyData.list (L4.cutD (W.map PyData.str) none (some (n:Int))))=_;rw[GY,<-List.map_take]
def vf{W:List Str}{u v:Str}(h1:W[p]? = some u)(h2:W[p+1]? = some v):bI (lW W) (some (p:Int)) (some ((p+2:Nat):Int))=some (lW [u,v]):=by
 obtain⟨l1,e1⟩:=List.getElem?_eq_some_iff.mp h1;obtain⟨l2,e2⟩:=List.getElem?_eq_some_iff.mp h2;show some (PyData.list (L4.cutD (W.map PyData.str) (some (p:Int)) (some ((p+2:Nat):Int))))=_;unfold L4.cutD;rw[HT.sIx_nat,HT.sIx_nat,zzd,yp (by omega),yp (by omega),<-LO,<-List.map_take,show p+2 - p=2 by omega,oz l1,List.take_succ_cons,oz l2,List.take_succ_cons,e1,e2];rfl
def BA{W:List Str}{x y z:Int×Int}{l:List Nat}(h:bc W q [x,y,z]=.ok l):∃b c d,l=[b,c,d]/\nR W x.1 x.2 q=some b/\nR W y.1 y.2 (q+1)=some c/\nR W z.1 z.2 (q+1+1)=some d:=by
 unfold bc at h
 cases e1:nR W x.1 x.2 q with
 | none=>rw[e1]at h;cases h
 | some b =>
  rw[e1]at h;have h:(bc W (q+1) [y,z]).bind (λl=>.ok (b::l))=.ok l:=h;unfold bc at h
  cases e2:nR W y.1 y.2 (q+1)with
  | none=>rw[e2]at h;cases h
  | some c =>
   rw[e2]at h;have h:((bc W (q+1+1) [z]).bind (λl=>.ok (c::l))).bind (λl=>.ok (b::l))=.ok l:=h;unfold bc at h
   cases e3:nR W z.1 z.2 (q+1+1)with
   | none=>rw[e3]at h;cases h
   | some d =>
    rw[e3]at h;injection h with h;exact⟨b,c,d,h.symm,rfl,rfl,rfl⟩
def qv{W:List Str}(hW:Ws W)(h1:1<=W.length)(n a0:Nat)(b0 l0 l1:Int)(hl:(l0=a0/\l1=b0/\(a0:Int)<=b0+1)\/(l0 = -1/\a0=0/\b0 = -1)):dL (lW W) (iN n) (.tuple [.int l0,.int l1])=G8 (fX W n a0 b0):=by
 have i0:bf (PyData.tuple [.int l0,.int l1]) (.int 0)=some (.int l0):=rfl;have i1:bf (PyData.tuple [.int l0,.int l1]) (.int 1)=some (.int l1):=rfl;have sb:cU (iN n) (.int 1)=some (.int ((n:Int) - 1)):=rfl;have mx:qy [.int l0,.int 0]=some (iN a0):=by
  show some (PyData.int (if(0:Int)>l0 then 0 else l0))=_;rcases hl with ⟨rfl,_,_⟩|⟨rfl,rfl,_⟩
  ·rw[ac (by omega)]
  ·rfl
 have hW2:Ws (W.take 2):=λw hw=>hW w (ss hw)
 have hW5:Ws (W.take 5):=λw hw=>hW w (ss hw)
 unfold dL;rw[show asI (.int 2)=M.ret (some ((2:Nat):Int))from rfl,bdR,eI,oMS,bdR,i0,oMS,bdR,mx,oMS,bdR,sb,oMS,bdR,bdR,bdR,bdR];rw[show bp (lW (W.take 2)) (PyData.list [PyData.tuple [iN a0,.int ((n:Int) - 1)]])=_ from cZ hW2 (by rw[da];omega) (bs:=[((a0:Int),(n:Int) - 1)]) (by simp)];unfold dE fX;rw[lI [((a0:Int),(n:Int) - 1)] 1 (by simp)];have nn:bc W 1 [((a0:Int),(n:Int) - 1)]=(Bt (nR W a0 ((n:Int) - 1) 1) 1).bind λa=>.ok [a]:=rfl
 rw[nn]
 cases e1:nR W a0 ((n:Int) - 1) 1 with
 | none =>
  show bd (M.ret (PyData.tuple [.bool false,iN 1])) _=_;rw[bdR,uW,oMS,bdR,ka,oMS,bdR,bdR,ak nF];rfl
 | some a =>
  show bd (asN (if 2<(W.take 2).length then .no 2 else .ok [a])) _=G8 ((bc W 2 [(gE a a0 b0,(n:Int) - 1),(0,(n:Int) - 1),(0,(n:Int) - 1)]).bind (wY W a));rw[ac (by rw[da];omega)];show bd (M.ret (PyData.tuple [.bool true,.list [iN a]])) _=_;obtain⟨w1,q1,o1,v1,_,_⟩:=jG e1;have aa:nR W (a:Int) (a:Int) 1=some a:=by
   unfold nR;rw[q1];dsimp only;rw[o1,v1,ay (re _)];rfl
  have x1:bf (PyData.tuple [.bool true,.list [iN a]]) (.int 1)=some (.list [iN a]):=rfl;have x10:bf (PyData.list [iN a]) (.int 0)=some (iN a):=rfl;rw[bdR,uW,oMS,bdR,ka,oMS,bdR,bdR,ac nT,x1,oMS,bdR,x10,oMS,bdR,bdR];have lw:(bd (oM (bC (iN a) (.int l0))) λb21=>if b21 then bd (M.ret (iN a)) λx17=>bd (bd (oM (bf (PyData.tuple [.int l0,.int l1]) (.int 1))) λx18=>oM (aP x18 (.int 1))) λx19=>oM (qy [x17,x19])else M.ret (iN a))=.ret (.int (gE a a0 b0)):=by
   rw[bdR,i1,oMS,bdR,L4.addI,oMS,bdR,show bC (iN a) (.int l0)=some (decide ((a:Int)=l0))from(L4.eqI _ _).trans (congrArg some (Bool.eq_iff_iff.mpr (by simp))),oMS,bdR];unfold gE;rcases hl with ⟨rfl,rfl,hb⟩|⟨rfl,rfl,rfl⟩
   ·by_cases h:a=a0
    ·subst h;rw[ay rfl,ak rfl,ak rfl,show qy [iN a,.int (l1+1)]=some (.int (if l1+1>(a:Int)then l1+1 else(a:Int)))from rfl,oMS];congr 2;split<;>omega
    ·rw[aw (by omega),ac (by decide),ac h]
   ·rw[aw (by omega),ac (by decide)];by_cases h:a=0
    ·subst h;rfl
    ·rw[ac h]
  have mid:∀k:D->M D,(bd (bd (bd (bd (M.ret (iN a)) λx24=>bd (M.ret (iN a)) λx26=>M.ret (PyData.tuple [x24,x26])) λx27=>bd (bd (M.ret (PyData.int ((n:Int) - 1))) λx28=>M.ret (PyData.tuple [.int (gE a a0 b0),x28])) λx29=>bd (bd (M.ret (PyData.int ((n:Int) - 1))) λx30=>M.ret (PyData.tuple [PyData.int 0,x30])) λx31=>bd (bd (M.ret (PyData.int ((n:Int) - 1))) λx32=>M.ret (PyData.tuple [PyData.int 0,x32])) λx33=>M.ret [x27,x29,x31,x33]) λl34=>M.ret (PyData.list l34)) k)=k (.list ([((a:Int),(a:Int)),(gE a a0 b0,(n:Int) - 1),(0,(n:Int) - 1),(0,(n:Int) - 1)].map bD)):=λk=>rfl
  rw[show(bd (bd (oM (bC (iN a) (.int l0))) λb21=>if b21 then bd (M.ret (iN a)) λx17=>bd (bd (oM (bf (PyData.tuple [.int l0,.int l1]) (.int 1))) λx18=>oM (aP x18 (.int 1))) λx19=>oM (qy [x17,x19])else M.ret (iN a)) _)=_ from congrArg (λm=>bd m _) lw,bdR,mid,cZ hW h1 (by simp)];have r1:bc W 1 [((a:Int),(a:Int)),(gE a a0 b0,(n:Int) - 1),(0,(n:Int) - 1),(0,(n:Int) - 1)]=(bc W 2 [(gE a a0 b0,(n:Int) - 1),(0,(n:Int) - 1),(0,(n:Int) - 1)]).bind λl=>.ok (a::l):=by
   rw[bc,aa];rfl
  have g4:mV (iN W.length) (.int 4)=some (decide (4<W.length)):=(L4.gtI _ _).trans (congrArg some (decide_eq_decide.mpr (by omega)));rw[m7,oMS,bdR,g4,oMS,bdR];have n5:(bd (bd (bd (bd (asI (PyData.int 5)) λhi38=>oM (bI (lW W) none hi38)) λx39=>bp x39 (.list ([((a:Int),(a:Int)),(gE a a0 b0,(n:Int) - 1),(0,(n:Int) - 1),(0,(n:Int) - 1)].map bD))) λx40=>oM (bf x40 (PyData.int 0))) λx41=>asB x41)=.ret (match bc W 2 [(gE a a0 b0,(n:Int) - 1),(0,(n:Int) - 1),(0,(n:Int) - 1)]with | .no _=>false | .ok _=>true):=by
   rw[show asI (.int 5)=M.ret (some ((5:Nat):Int))from rfl,bdR,eI,oMS,bdR,cZ hW5 (by rw[da];omega) (by simp)];unfold dE;rw[lI _ 1 (by simp),r1]
   cases bc W 2 [(gE a a0 b0,(n:Int) - 1),(0,(n:Int) - 1),(0,(n:Int) - 1)]with
   | no p=>rfl
   | ok l =>
    show bd (bd (asN (if 4+1<(W.take 5).length then .no (4+1)else .ok (a::l))) _) _=_;rw[ac (by rw[da];omega)];rfl
  rw[n5];unfold dE;rw[r1]
  cases e:bc W 2 [(gE a a0 b0,(n:Int) - 1),(0,(n:Int) - 1),(0,(n:Int) - 1)]with
  | no p =>
   show bd (M.ret (PyData.tuple [.bool false,iN p])) _=M.ret (PyData.tuple [.bool false,iN p]);rw[bdR];dsimp only;rw[bdR,ac (show ¬ (false=true) by decide)];have z:(if decide (4<W.length)=true then M.ret false else M.ret false)=M.ret false:=by split<;>rfl
   rw[z,bdR,bdR,ka,oMS,bdR,ac (by decide),bdR]
  | ok l =>
   obtain⟨b,c,d,rfl,e2,e3,e4⟩:=BA e;obtain⟨w2,q2,o2,v2,_,_⟩:=jG e2;obtain⟨w3,q3,o3,v3,_,_⟩:=jG e3;obtain⟨w4,q4,o4,v4,_,_⟩:=jG e4;have hlen:4<W.length:=(List.getElem?_eq_some_iff.mp q4).1;have k1:=(hW w1 (bu q1)).ok;have k2:=(hW w2 (bu q2)).ok;have k3:=(hW w3 (bu q3)).ok;have k4:=(hW w4 (bu q4)).ok;have cnd:decide ((w1=w3/\w2=w4)\/(w1=w4/\w2=w3))=decide ((a=c/\b=d)\/(a=d/\b=c)):=by
    refine decide_eq_decide.mpr ?_;have t:∀{u v:Str} {x y:Nat},okW u=true->okW v=true->val u=x->val v=y->(u=v↔x=y):=λ{u v x y} hu hv h1 h2=>⟨λz=>by rw[<-h1,<-h2,z],λz=>CS hu hv (by rw[h1,h2,z])⟩
    rw[t o1 o3 v1 v3,t o2 o4 v2 v4,t o1 o4 v1 v4,t o2 o3 v2 v3]
   have se:=Fv k1 k2 k3 k4;have srt:(bd (bd (bd (bd (asI (PyData.int 1)) λlo42=>bd (asI (PyData.int 3)) λhi43=>oM (bI (lW W) lo42 hi43)) λx44=>oM (fY [x44])) λl45=>M.ret (PyData.list l45)) λx50=>bd (bd (bd (bd (asI (PyData.int 3)) λlo46=>bd (asI (PyData.int 5)) λhi47=>oM (bI (lW W) lo46 hi47)) λx48=>oM (fY [x48])) λl49=>M.ret (PyData.list l49)) λx51=>oM (bC x50 x51))=.ret (decide ((a=c/\b=d)\/(a=d/\b=c))):=by
    rw[<-cnd,<-se];rw[show asI (.int 1)=M.ret (some ((1:Nat):Int))from rfl,bdR,show asI (.int 3)=M.ret (some ((1+2:Nat):Int))from rfl,bdR,vf q1 q2,oMS,bdR];refine congrArg (λf=>bd _ f) (funext λx50=>?_);rw[bdR,show asI (.int 5)=M.ret (some ((3+2:Nat):Int))from rfl,bdR,show bI (lW W) (some ((1+2:Nat):Int)) (some ((3+2:Nat):Int))=some (lW [w3,w4])from vf q3 q4,oMS,bdR];rfl
   show bd (asN (if 4+1<W.length then .no (4+1)else .ok [a,b,c,d])) _=G8 (if(a=c/\b=d)\/(a=d/\b=c)then .no 4 else if 5<W.length then .no 5 else .ok (a,b,c,d));have fin:∀x36:D,(bd (bd (if decide (4<W.length)=true then bd (M.ret true) λb52=>if b52=true then(bd (bd (bd (bd (asI (PyData.int 1)) λlo42=>bd (asI (PyData.int 3)) λhi43=>oM (bI (lW W) lo42 hi43)) λx44=>oM (fY [x44])) λl45=>M.ret (PyData.list l45)) λx50=>bd (bd (bd (bd (asI (PyData.int 3)) λlo46=>bd (asI (PyData.int 5)) λhi47=>oM (bI (lW W) lo46 hi47)) λx48=>oM (fY [x48])) λl49=>M.ret (PyData.list l49)) λx51=>oM (bC x50 x51))else M.ret false else M.ret false) λb54=>M.ret (PyData.bool b54)) λx55=>bd (bd (oM (ua x55)) λb56=>if b56=true then M.ret (PyData.tuple [PyData.bool false,PyData.int 4])else M.ret x36) λx57=>M.ret x57)=if(a=c/\b=d)\/(a=d/\b=c)then .ret (.tuple [.bool false,.int 4])else .ret x36:=λx36=>by
    rw[ay hlen,ak rfl,bdR,ak rfl,srt,bdR,bdR,ka,oMS,bdR];by_cases h:(a=c/\b=d)\/(a=d/\b=c)
    ·rw[ay h,ak rfl,ak h,bdR]
    ·rw[aw h,ac (by decide),ac h,bdR]
   by_cases h5:4+1<W.length
   ·rw[ak h5];show bd (M.ret (PyData.tuple [.bool false,iN (4+1)])) _=_;rw[bdR];refine(fin _).trans ?_;by_cases h:(a=c/\b=d)\/(a=d/\b=c)
    ·rw[ak h,ak h];rfl
    ·rw[ac h,ac h,ak (by omega)];rfl
   ·rw[ac h5];show bd (M.ret (PyData.tuple [.bool true,.list ([a,b,c,d].map iN)])) _=_;rw[bdR];refine(fin _).trans ?_;by_cases h:(a=c/\b=d)\/(a=d/\b=c)
    ·rw[ak h,ak h];rfl
    ·rw[ac h,ac h,ac (by omega)];rfl
inductive Rr where
 | no (i p:Nat)
 | ok (d:D)
def Am{α:Type}(R:List Str)(i:Nat)(w:Str)(no:Nat->Nat->α)(k:List Str->α):α:=match R[i]? with
 | none=>no R.length 0
 | some t=>if(spW t)[0]? = some w then k (spW t)else no i 0
def oQ{α β:Type}(r:Rd α)(no:Nat->β)(k:α->β):β:=match r with
 | .no p=>no p
 | .ok x=>k x
def gC(fin:List Mt->Rr)(n:Nat):Nat->List Str->Nat->Int->List Mt->Rr
 | _,[],_,_,acc=>fin acc
 | i,t::r,a0,b0,acc=>if(spW t)[0]? = some (Str.ofString "meet")then oQ (fX (spW t) n a0 b0) (.no i) λm=>gC fin n (i+1) r m.1 m.2.1 (acc++[m])else .no i 0
abbrev rlD(n:Nat)(st:List Nat)(sy:List Bool)(ms:List Mt):Rr:=.ok (.tuple [iN n,jA st,.tuple (ms.map mD),.tuple (sy.map PyData.bool)])
def mJ(R:List Str):Rr:=Am R 0 (Str.ofString "rooms") .no λW0=>oQ (dE W0 [(1,40)]) (.no 0) λl=>Am R 1 (Str.ofString "starts") .no λW1=>oQ (dE W1 (stB W1 (l.headD 0))) (.no 1) λst=>Am R 2 (Str.ofString "says") .no λW2=>oQ (kh W2 (l.headD 0)) (.no 2) λsy=>gC (rlD (l.headD 0) st sy) (l.headD 0) 3 (R.drop 3) 0 (-1) []
def xI(r:Rr):M D:=match r with
 | .no i p=>.exc (noT i p)
 | .ok d=>.ret d
def C8(q:Nat):rng q q=[]:=by unfold rng;simp
def uO{R:List Str}(hR:Rz R)(n:Nat)(st sy:D)(fin:List Mt->Rr)(hf:∀ms,xI (fin ms)=.ret (.tuple [iN n,st,.tuple (ms.map mD),sy])):∀(rest:List Str) (i a0:Nat) (b0:Int) (acc:List Mt),R.drop i=rest->i<=R.length->acc.length+rest.length<=1000 ->
  cu (λ(s15:D×D×D×D×List D×D×Unit) d16 kn=>fN s15.1 s15.2.1 s15.2.2.1 s15.2.2.2.1 s15.2.2.2.2.1 s15.2.2.2.2.2.1 d16 kn) ((rng i R.length).map iN) (lW R,iN n,st,sy,acc.map mD,PyData.tuple [iN a0,.int b0],()) (λs15=>fO s15.1 s15.2.1 s15.2.2.1 s15.2.2.2.1 s15.2.2.2.2.1 s15.2.2.2.2.2.1)=xI (gC fin n i rest a0 b0 acc)
 | [],i,a0,b0,acc,hd,hi,_=>by
  have:i=R.length:=by have:=congrArg List.length hd;rw[fi,ur]at this;omega
  rw[this,C8,K3,cu];dsimp only;unfold fO;rw[j9,oMS,bdR,bdR];exact(hf acc).symm
 | t::r,i,a0,b0,acc,hd,hi,hl=>by
  rw[bi]at hl;have hlt:i<R.length:=by have:=congrArg List.length hd;rw[fi,bi]at this;omega
  have hd':=hd;rw[oz hlt]at hd';injection hd' with ht hr;have hi':R[i]? = some t:=by rw[nc hlt,ht]
  have er:rng i R.length=i::rng (i+1) R.length:=by
   have:=uu i (R.length - (i+1));rw[show i+(R.length - (i+1)+1)=R.length by omega,show i+1+(R.length - (i+1))=R.length by omega]at this;exact this
  rw[er,ba,cu];dsimp only;unfold fN;rw[wF hR];unfold onB gC;rw[hi'];dsimp only;by_cases hm:(spW t)[0]? = some (Str.ofString "meet")
  ·rw[ak hm,ak hm]
   cases fX (spW t) n a0 b0 with
   | no p=>rfl
   | ok m =>
    show bd (M.ret (mD m)) _=xI (gC fin n (i+1) r m.1 m.2.1 (acc++[m]));rw[bdR,gF _ _ (by rw[zzd];omega),oMS,bdR,show asI (.int 2)=M.ret (some 2)from rfl,bdR,show bI (mD m) none (some 2)=some (.tuple [iN m.1,iN m.2.1])from rfl,oMS,bdR];have ih:=uO hR n st sy fin hf r (i+1) m.1 m.2.1 (acc++[m]) hr hlt (by rw[zzf,gt];omega);rw[jo]at ih;exact ih
  ·rw[ac hm,ac hm];rfl
def iQ{W:List Str}{l:List Nat}(h:dE W [(1,40)]=.ok l):l.headD 0<=40/\∃n,l=[n]:=by
 unfold dE bc at h
 cases e:nR W 1 40 1 with
 | none=>rw[e]at h;cases h
 | some n =>
  rw[e]at h;have h:(if 2<W.length then Rd.no 2 else Rd.ok [n])=.ok l:=h;split at h
  ·cases h
  ·injection h with h;subst h;obtain⟨_,_,_,_,_,q⟩:=jG e;exact⟨by show n<=40;omega,n,rfl⟩
def uw(hR:Rz R)(hl:R.length<=500):gc (lW R)=xI (mJ R):=by
 unfold gc mJ;rw[A2 hR];unfold onB Am
 cases h0:R[0]? with
 | none=>rfl
 | some t0 =>
  dsimp only;by_cases c0:(spW t0)[0]? = some (Str.ofString "rooms")
  ·rw[ak c0,ak c0]
   cases e0:dE (spW t0) [(1,40)]with
   | no p=>rfl
   | ok l =>
    show bd (M.ret (iN (l.headD 0))) _=xI (match R[1]? with|none=>_|some t=>_);rw[bdR,zA hR];unfold onB
    cases h1:R[1]? with
    | none=>rfl
    | some t1 =>
     dsimp only;by_cases c1:(spW t1)[0]? = some (Str.ofString "starts")
     ·rw[ak c1,ak c1]
      cases e1:dE (spW t1) (stB (spW t1) (l.headD 0))with
      | no p=>rfl
      | ok st =>
       have hn:l.headD 0<=500:=by
        have:=iQ e0;omega
       show bd (M.ret (jA st)) _=xI (match R[2]? with|none=>_|some t=>_);rw[bdR,C3 hR hn];unfold onB
       cases h2:R[2]? with
       | none=>rfl
       | some t2 =>
        dsimp only;by_cases c2:(spW t2)[0]? = some (Str.ofString "says")
        ·rw[ak c2,ak c2]
         cases e2:kh (spW t2) (l.headD 0)with
         | no p=>rfl
         | ok sy =>
          have h3:=(List.getElem?_eq_some_iff.mp h2).1;show bd (M.ret (PyData.tuple (sy.map PyData.bool))) _=xI (gC (rlD (l.headD 0) st sy) (l.headD 0) 3 (R.drop 3) 0 (-1) []);rw[bdR,show gO (.int 1)=some (.int (-1))from rfl,oMS,bdR,bdR,m7,oMS,bdR,show eH [.int 3,iN R.length]=_ from sq 3 R.length (by omega) (by omega),oMS,bdR,e8];exact uO hR (l.headD 0) (jA st) (.tuple (sy.map PyData.bool)) (rlD (l.headD 0) st sy) (λms=>rfl) (R.drop 3) 3 0 (-1) [] rfl (by omega) (by rw[fi];simp;omega)
        ·rw[ac c2,ac c2];rfl
     ·rw[ac c1,ac c1];rfl
  ·rw[ac c0,ac c0];rfl
def kb(x:Str):1<=(spW x).length:=by
 unfold spW Txt.split;split
 ·simp
 ·split
  ·simp
  ·rw[length_partsBetween];omega
def ifC{α:Type}{p:Prop}[Decidable p]{a b c:α}(h:a=b):(if p then a else c)=if p then b else c:=by rw[h]
abbrev nmD(i p:Nat):D:=.tuple [.str "none",iN i,iN p]
def IB(h:Wz w)(s:String):iA (.str w) (.str (Str.ofString s))=some (!decide (w=Str.ofString s)):=by
 have e:iA (.str w) (.str (Str.ofString s))=some (!(w==Str.ofString s)):=ak (by
  have t2:=h.ok;have hx:PyData.strOk (Str.ofString s)=true:=br _
  simp[pG,PyData.canLay0,t2,hx,PyData.depth])
 rw[e];exact congrArg (λb=>some (!b)) (Bool.eq_iff_iff.mpr (by rw[decide_eq_true_iff];exact IG))
abbrev nms:D:=.list [(.str "rooms"),(.str "starts"),(.str "says"),(.str "meet")]
section
variable (hR:Rz R) {t:Str} (ht:t∈R) {rooms:D} {parts meets:List D} {kn:D×D×List D×List D×Unit->M D}
def yP(k p:Nat):bJ kn (lW R) rooms parts meets (iN k) (.tuple [.bool false,iN p])=.ret (nmD k p):=by
 unfold bJ;rw[uW,oMS,bdR,ka,oMS,bdR,bdR,ak nF,z7,oMS,bdR,bdR]
include hR ht
def kZ(k:Nat)(s:String)(hs:bf nms (iN (min k 3))=some (.str (Str.ofString s)))(m:M D)
  (hm:aX (lW R) rooms parts meets (.tuple [iN k,.str t]) kn=bd (bd (oM (bf (lW (spW t)) (.int 0))) λx16=>bd (bd (oM (jM [iN k,(.int 3)])) λx15=>oM (bf nms x15)) λx17=>oM (iA x16 x17)) λb18=>if b18 then .ret (.tuple [(.str "none"),iN k,(.int 0)])else m) :
  aX (lW R) rooms parts meets (.tuple [iN k,.str t]) kn=if(spW t)[0]? = some (Str.ofString s)then m else .ret (nmD k 0):=by
 rw[hm];have hW:=fw (hR.wz ht);have hp:=kb t;obtain⟨w,hw⟩:∃w,(spW t)[0]? = some w:=⟨_,nc (by omega)⟩;rw[show bf (lW (spW t)) (.int 0)=some (.str w)from ixW hw,oMS,bdR,show jM [iN k,.int 3]=_ from min2 k 3,oMS,bdR,hs,oMS,bdR,IB (hW w (bu hw)),oMS,bdR,hw];by_cases h:w=Str.ofString s
 ·rw[ay h,ac (by decide),ak (by rw[h])]
 ·rw[aw h,ak nF,ac (λz=>h (Option.some.inj z))];rfl
def Ku:aX (lW R) rooms parts meets (.tuple [iN 0,.str t]) kn=if(spW t)[0]? = some (Str.ofString "rooms")then oQ (dE (spW t) [(1,40)]) (λp=>.ret (nmD 0 p)) (λl=>kn (lW R,iN (l.headD 0),parts,meets,()))else .ret (nmD 0 0):=by
 have hW:=fw (hR.wz ht)
 refine(kZ hR ht 0 "rooms" (by kernel_rfl) _ (by
  unfold aX un2;dsimp only
  rw[gI (hR t ht).2,bdR,bdR])).trans ?_
 refine ifC ?_;rw[show bC (iN 0) (.int 0)=some true from rfl,oMS,bdR,ak rfl,show bp (lW (spW t)) (PyData.list [PyData.tuple [.int 1,.int 40]])=_ from cZ hW (kb t) (bs:=[(1,40)]) (by simp)]
 cases e:dE (spW t) [(1,40)]with
 | no p =>
  show bd (M.ret (PyData.tuple [.bool false,iN p])) _=_;rw[bdR,yP];rfl
 | ok l =>
  obtain⟨_,n,rfl⟩:=iQ e;show bd (M.ret (PyData.tuple [.bool true,.list [iN n]])) _=_;rw[bdR];unfold bJ;rw[uW,oMS,bdR,ka,oMS,bdR,bdR,ac nT,show bC (iN 0) (.int 0)=some true from rfl,oMS,bdR,ak rfl,z7,oMS,bdR,show bf (PyData.list [iN n]) (.int 0)=some (iN n)from rfl,oMS,bdR];rfl
def Kt(n:Nat)(hp:parts.length<=100):aX (lW R) (iN n) parts meets (.tuple [iN 1,.str t]) kn=if(spW t)[0]? = some (Str.ofString "starts")then oQ (dE (spW t) (stB (spW t) n)) (λp=>.ret (nmD 1 p)) (λst=>kn (lW R,iN n,parts++[jA st],meets,()))else .ret (nmD 1 0):=by
 have hW:=fw (hR.wz ht);have hpos:=kb t
 refine(kZ hR ht 1 "starts" (by kernel_rfl) _ (by
  unfold aX un2;dsimp only
  rw[gI (hR t ht).2,bdR,bdR])).trans ?_
 refine ifC ?_;have mx:qy [.int 1,iN (min 4 ((spW t).length - 1))]=some (iN (max 1 (min 4 ((spW t).length - 1)))):=by
  show some (PyData.int (if((min 4 ((spW t).length - 1):Nat):Int)>1 then((min 4 ((spW t).length - 1):Nat):Int)else 1))=_;congr 2;split<;>omega
 rw[show bC (iN 1) (.int 0)=some false from rfl,oMS,bdR,ac (by decide),show bC (iN 1) (.int 1)=some true from rfl,oMS,bdR,ak rfl,show cU (iN n) (.int 1)=some (.int ((n:Int) - 1))from rfl,oMS,bdR,bdR,bdR,m7,oMS,bdR,Hy _ hpos,oMS,bdR,show jM [.int 4,iN ((spW t).length - 1)]=_ from min2 4 ((spW t).length - 1),oMS,bdR,mx,oMS,bdR,BC _ _ (by omega),oMS,bdR,bdR];have nb:bp (lW (spW t)) (PyData.list (List.replicate (max 1 (min 4 ((spW t).length - 1))) (PyData.tuple [.int 0,.int ((n:Int) - 1)])))=asN (dE (spW t) (stB (spW t) n)):=by
  have:=cZ hW hpos (bs:=stB (spW t) n) (by simp;omega);rw[show(stB (spW t) n).map bD=List.replicate (max 1 (min 4 ((spW t).length - 1))) (PyData.tuple [.int 0,.int ((n:Int) - 1)])from List.map_replicate]at this;exact this
 rw[nb]
 cases e:dE (spW t) (stB (spW t) n)with
 | no p =>
  show bd (M.ret (PyData.tuple [.bool false,iN p])) _=_;rw[bdR,yP];rfl
 | ok l =>
  show bd (M.ret (PyData.tuple [.bool true,.list (l.map iN)])) _=_;rw[bdR];unfold bJ;rw[uW,oMS,bdR,ka,oMS,bdR,bdR,ac nT,show bC (iN 1) (.int 0)=some false from rfl,oMS,bdR,ac (by decide),show gA (iN 1) (.int 3)=some true from rfl,oMS,bdR,ak rfl,z7,oMS,bdR,j9,oMS,bdR,gF _ _ (by omega),oMS,bdR];rfl
def Ks(n:Nat)(hn:n<=500)(hp:parts.length<=100):aX (lW R) (iN n) parts meets (.tuple [iN 2,.str t]) kn=if(spW t)[0]? = some (Str.ofString "says")then oQ (kh (spW t) n) (λp=>.ret (nmD 2 p)) (λsy=>kn (lW R,iN n,parts++[.tuple (sy.map PyData.bool)],meets,()))else .ret (nmD 2 0):=by
 have hW:=fw (hR.wz ht)
 refine(kZ hR ht 2 "says" (by kernel_rfl) _ (by
  unfold aX un2;dsimp only
  rw[gI (hR t ht).2,bdR,bdR])).trans ?_
 refine ifC ?_;rw[show bC (iN 2) (.int 0)=some false from rfl,oMS,bdR,ac (by decide),show bC (iN 2) (.int 1)=some false from rfl,oMS,bdR,ac (by decide),show bC (iN 2) (.int 2)=some true from rfl,oMS,bdR,ak rfl,wL hW (kb t) hn]
 cases e:kh (spW t) n with
 | no p =>
  show bd (M.ret (PyData.tuple [.bool false,iN p])) _=_;rw[bdR,yP];rfl
 | ok l =>
  show bd (M.ret (PyData.tuple [.bool true,.list (l.map PyData.bool)])) _=_;rw[bdR];unfold bJ;rw[uW,oMS,bdR,ka,oMS,bdR,bdR,ac nT,show bC (iN 2) (.int 0)=some false from rfl,oMS,bdR,ac (by decide),show gA (iN 2) (.int 3)=some true from rfl,oMS,bdR,ak rfl,z7,oMS,bdR,j9,oMS,bdR,gF _ _ (by omega),oMS,bdR];rfl
def Kr(i n:Nat)(hi:3<=i){acc:List Mt}(ha:(acc=[]/\a0=0/\b0 = -1)\/∃(l:List Mt) (m:Mt),acc=l++[m]/\a0=m.1/\b0=m.2.1/\m.1<=m.2.1)(hl:acc.length<=1000):aX (lW R) (iN n) parts (acc.map mD) (.tuple [iN i,.str t]) kn=if(spW t)[0]? = some (Str.ofString "meet")then oQ (fX (spW t) n a0 b0) (λp=>.ret (nmD i p)) (λm=>kn (lW R,iN n,parts,(acc++[m]).map mD,()))else .ret (nmD i 0):=by
 have hW:=fw (hR.wz ht)
 refine(kZ hR ht i "meet" (by rw[Lj hi];kernel_rfl) _ (by
  unfold aX un2;dsimp only
  rw[gI (hR t ht).2,bdR,bdR])).trans ?_
 refine ifC ?_;have q:∀k:Nat,k<3->bC (iN i) (.int (k:Int))=some false:=λk hk=>(qz i k).trans (congrArg some (aw (by omega)))
 have q0:bC (iN i) (.int 0)=some false:=q 0 (by omega);rw[q0,oMS,bdR,ac (by decide),show bC (iN i) (.int 1)=some false from q 1 (by omega),oMS,bdR,ac (by decide),show bC (iN i) (.int 2)=some false from q 2 (by omega),oMS,bdR,ac (by decide)];have neg1:gO (.int 1)=some (.int (-1)):=rfl;have dep:∀l:List Mt,PyData.depthAll (l.map mD)<=10:=λl=>fK λd hd=>by
  obtain⟨m,_,rfl⟩:=List.mem_map.mp hd;simp[mD,iN,PyData.depth,PyData.depthAll]
 have lay:∀l:List Mt,PyData.canLayAll0 (l.map mD)=true:=λl=>jv λd hd=>by
  obtain⟨m,_,rfl⟩:=List.mem_map.mp hd;simp[mD,iN,PyData.canLay0,PyData.canLayAll0]
 have last:∃l0 l1:Int,(bd (oM (iA (PyData.list (acc.map mD)) (PyData.list []))) λb54=>if b54 then bd (bd (oM (gO (.int 1))) λx49=>oM (bf (PyData.list (acc.map mD)) x49)) λx50=>bd (asI (.int 2)) λhi51=>oM (bI x50 none hi51)else bd (oM (gO (.int 1))) λx52=>bd (oM (gO (.int 1))) λx53=>M.ret (.tuple [x52,x53]))=.ret (.tuple [.int l0,.int l1])/\((l0=a0/\l1=b0/\(a0:Int)<=b0+1)\/(l0 = -1/\a0=0/\b0 = -1)):=by
  rw[EY (lay acc) (cr (dep acc) (by decide)),oMS,bdR];rcases ha with ⟨rfl,rfl,rfl⟩|⟨l,m,rfl,rfl,rfl,hm⟩
  ·exact⟨-1,-1,rfl,.inr ⟨rfl,rfl,rfl⟩⟩
  ·refine⟨m.1,m.2.1,?_,.inl ⟨rfl,rfl,by omega⟩⟩;have ne:(!((l++[m]).map mD).isEmpty)=true:=by simp
   have ix:bf (PyData.list ((l++[m]).map mD)) (.int (-1))=some (mD m):=by
    show atI ((l++[m]).map mD) (-1)=_;unfold atI ixN;rw[ac (by decide),zzd,zzf,gt,ak (by omega),show(-1+((l.length+1:Nat):Int)).toNat=l.length by omega,jo];show(List.map mD l++List.map mD [m])[l.length]? = _;rw[lf (by simp)];simp
   rw[ne,ak rfl,neg1,oMS,bdR,ix,oMS,bdR,show asI (.int 2)=M.ret (some 2)from rfl,bdR];rfl
 obtain⟨l0,l1,e1,e2⟩:=last;rw[show(bd (bd (oM (iA (PyData.list (acc.map mD)) (PyData.list []))) λb54=>if b54 then bd (bd (oM (gO (.int 1))) λx49=>oM (bf (PyData.list (acc.map mD)) x49)) λx50=>bd (asI (.int 2)) λhi51=>oM (bI x50 none hi51)else bd (oM (gO (.int 1))) λx52=>bd (oM (gO (.int 1))) λx53=>M.ret (.tuple [x52,x53])) _)=_ from congrArg (λm=>bd m _) e1,bdR,qv hW (kb t) n a0 b0 l0 l1 e2]
 cases e:fX (spW t) n a0 b0 with
 | no p =>
  show bd (M.ret (PyData.tuple [.bool false,iN p])) _=_;rw[bdR,yP];rfl
 | ok m =>
  show bd (M.ret (PyData.tuple [.bool true,.list [iN m.1,iN m.2.1,iN m.2.2.1,iN m.2.2.2]])) _=kn (lW R,iN n,parts,(acc++[m]).map mD,());have lt3:gA (iN i) (.int 3)=some false:=by
   show gA (.int _) (.int _)=_;rw[L4.ltI];exact congrArg some (aw (by omega))
  rw[bdR];unfold bJ;rw[uW,oMS,bdR,ka,oMS,bdR,bdR,ac nT,q0,oMS,bdR,ac (by decide),lt3,oMS,bdR,ac (by decide),z7,oMS,bdR,j9,oMS,bdR,gF _ _ (by rw[zzd];omega),oMS,bdR,jo];rfl
end
def asD(r:Rr):D:=match r with
 | .no i p=>nmD i p
 | .ok d=>.tuple [.str "told",d]
noncomputable abbrev xV:D×D×List D×List D×Unit->D->(D×D×List D×List D×Unit->M D)->M D:=λs57 d58 kn=>aX s57.1 s57.2.1 s57.2.2.1 s57.2.2.2.1 d58 kn
noncomputable abbrev B1:D×D×List D×List D×Unit->M D:=λs57=>cE s57.1 s57.2.1 s57.2.2.1 s57.2.2.2.1
abbrev enD(l:List Str)(k:Nat):List D:=((l.map PyData.str).zipIdx k).map λp=>PyData.tuple [.int (p.2:Int),p.1]
def kY(t:Str)(l:List Str)(k:Nat):enD (t::l) k=.tuple [iN k,.str t]::enD l (k+1):=rfl
def wm(h:R.length<=2)(rooms:D)(parts meets:List D):cE (lW R) rooms parts meets=.ret (nmD R.length 0):=by
 unfold cE;rw[m7,oMS,bdR,show mV (iN R.length) (.int 2)=some (decide (2<R.length))from(L4.gtI _ _).trans (congrArg some (decide_eq_decide.mpr (by omega))),oMS,bdR,aw (by omega),ac (by decide),bdR,bdR];rfl
def yH{W:List Str}{m:Mt}(h:fX W n a0 b0=.ok m)(hb:(a0:Int)<=b0+1):m.1<=m.2.1/\(m.1:Int)<=(n:Int) - 1/\(m.2.1:Int)<=(n:Int) - 1/\(m.2.2.1:Int)<=(n:Int) - 1/\(m.2.2.2:Int)<=(n:Int) - 1:=by
 unfold fX at h
 cases e1:nR W a0 ((n:Int) - 1) 1 with
 | none=>rw[e1]at h;cases h
 | some a =>
  rw[e1]at h;have h:(bc W 2 [(gE a a0 b0,(n:Int) - 1),(0,(n:Int) - 1),(0,(n:Int) - 1)]).bind (wY W a)=.ok m:=h
  cases e:bc W 2 [(gE a a0 b0,(n:Int) - 1),(0,(n:Int) - 1),(0,(n:Int) - 1)]with
  | no p=>rw[e]at h;cases h
  | ok l =>
   rw[e]at h;obtain⟨b,c,d,rfl,e2,e3,e4⟩:=BA e;have h:(if(a=c/\b=d)\/(a=d/\b=c)then Rd.no 4 else if 5<W.length then .no 5 else .ok (a,b,c,d))=.ok m:=h;split at h
   ·cases h
   ·split at h
    ·cases h
    ·injection h with h;subst h;obtain⟨_,_,_,_,g1,g2⟩:=jG e1;obtain⟨_,_,_,_,k1,k2⟩:=jG e2;obtain⟨_,_,_,_,_,k3⟩:=jG e3;obtain⟨_,_,_,_,_,k4⟩:=jG e4;refine⟨?_,g2,k2,k3,k4⟩;show a<=b;dsimp only at k1;unfold gE at k1;split at k1
     ·rename_i z;subst z;omega
     ·omega
abbrev Rel(acc:List Mt)(a0:Nat)(b0:Int):Prop:=(acc=[]/\a0=0/\b0 = -1)\/∃(l:List Mt) (m:Mt),acc=l++[m]/\a0=m.1/\b0=m.2.1/\m.1<=m.2.1
def Rel.le{acc:List Mt}(h:Rel acc a0 b0):(a0:Int)<=b0+1:=by
 rcases h with ⟨_,rfl,rfl⟩|⟨_,m,_,rfl,rfl,h⟩
 ·decide
 ·omega
def Cb{R:List Str}(hR:Rz R)(h3:2<R.length)(n:Nat)(st:List Nat)(sy:List Bool):∀(rest:List Str) (i a0:Nat) (b0:Int) (acc:List Mt),(∀t∈rest,t∈R)->3<=i->Rel acc a0 b0->acc.length+rest.length<=1000 ->
  cu xV (enD rest i) (lW R,iN n,[jA st,.tuple (sy.map PyData.bool)],acc.map mD,()) B1=.ret (asD (gC (rlD n st sy) n i rest a0 b0 acc))
 | [],i,a0,b0,acc,_,_,_,_=>by
  show B1 (lW R,iN n,[jA st,.tuple (sy.map PyData.bool)],acc.map mD,())=_;show cE (lW R) (iN n) [jA st,.tuple (sy.map PyData.bool)] (acc.map mD)=_;unfold cE;rw[m7,oMS,bdR,show mV (iN R.length) (.int 2)=some (decide (2<R.length))from(L4.gtI _ _).trans (congrArg some (decide_eq_decide.mpr (by omega))),oMS,bdR,ay h3,ak rfl,show bf (PyData.list [jA st,.tuple (sy.map PyData.bool)]) (.int 0)=some (jA st)from rfl,oMS,bdR,j9,oMS,bdR,show bf (PyData.list [jA st,.tuple (sy.map PyData.bool)]) (.int 1)=some (.tuple (sy.map PyData.bool))from rfl,oMS,bdR,bdR,bdR];rfl
 | t::r,i,a0,b0,acc,hr,hi,ha,hl=>by
  rw[bi]at hl;rw[kY,cu];show aX (lW R) (iN n) [jA st,.tuple (sy.map PyData.bool)] (acc.map mD) (.tuple [iN i,.str t]) _=_;rw[Kr hR (hr t am) i n hi ha (by omega)];unfold gC;by_cases hm:(spW t)[0]? = some (Str.ofString "meet")
  ·rw[ak hm,ak hm]
   cases e:fX (spW t) n a0 b0 with
   | no p=>rfl
   | ok m =>
    exact Cb hR h3 n st sy r (i+1) m.1 m.2.1 (acc++[m]) (λx hx=>hr x (zzg _ hx)) (by omega) (.inr ⟨acc,m,rfl,rfl,rfl,(yH e ha.le).1⟩) (by rw[zzf,gt];omega)
  ·rw[ac hm,ac hm];rfl
theorem GV(hR:Rz R)(hl:R.length<=500):eD (lW R)=.ret (asD (mJ R)):=by
 unfold eD;rw[show j4 [lW R]=some (enD R 0)from rfl,oMS,bdR,e8];show cu xV (enD R 0) (lW R,.int 0,[],[],()) B1=_;unfold mJ Am
 match R,hR,hl with
 | [],hR,hl=>exact wm (by simp) _ _ _
 | t0::R1,hR,hl =>
  rw[kY,cu];show aX (lW (t0::R1)) (.int 0) [] [] (.tuple [iN 0,.str t0]) _=_;rw[Ku hR am];show _=M.ret (asD (if(spW t0)[0]? = some (Str.ofString "rooms")then oQ (dE (spW t0) [(1,40)]) (Rr.no 0) _ else .no 0 0));by_cases c0:(spW t0)[0]? = some (Str.ofString "rooms")
  ·rw[ak c0,ak c0]
   cases e0:dE (spW t0) [(1,40)]with
   | no p=>rfl
   | ok l =>
    have hn:=(iQ e0).1;generalize l.headD 0=n at hn;show cu xV (enD R1 1) (lW (t0::R1),iN (l.headD 0),[],[],()) B1=M.ret (asD (match R1[0]? with|none=>_|some t=>_))
    match R1,hR,hl with
    | [],hR,hl=>exact wm (by simp) _ _ _
    | t1::R2,hR,hl =>
     rw[kY,cu];show aX (lW (t0::t1::R2)) (iN (l.headD 0)) [] [] (.tuple [iN 1,.str t1]) _=_;rw[Kt hR (by simp) (l.headD 0) (by simp)];show _=M.ret (asD (if(spW t1)[0]? = some (Str.ofString "starts")then oQ (dE (spW t1) (stB (spW t1) (l.headD 0))) (Rr.no 1) _ else .no 1 0));by_cases c1:(spW t1)[0]? = some (Str.ofString "starts")
     ·rw[ak c1,ak c1]
      cases e1:dE (spW t1) (stB (spW t1) (l.headD 0))with
      | no p=>rfl
      | ok st =>
       show cu xV (enD R2 2) (lW (t0::t1::R2),iN (l.headD 0),[]++[jA st],[],()) B1=M.ret (asD (match R2[0]? with|none=>_|some t=>_))
       match R2,hR,hl with
       | [],hR,hl=>exact wm (by simp) _ _ _
       | t2::R3,hR,hl =>
        rw[kY,cu];show aX (lW (t0::t1::t2::R3)) (iN (l.headD 0)) ([]++[jA st]) [] (.tuple [iN 2,.str t2]) _=_;have hn:=(iQ e0).1;rw[Ks hR (by simp) (l.headD 0) (by omega) (by simp)];show _=M.ret (asD (if(spW t2)[0]? = some (Str.ofString "says")then oQ (kh (spW t2) (l.headD 0)) (Rr.no 2) _ else .no 2 0));by_cases c2:(spW t2)[0]? = some (Str.ofString "says")
        ·rw[ak c2,ak c2]
         cases e2:kh (spW t2) (l.headD 0)with
         | no p=>rfl
         | ok sy =>
          exact Cb hR (by simp) (l.headD 0) st sy R3 3 0 (-1) [] (λt ht=>by simp[ht]) (by omega) (.inl ⟨rfl,rfl,rfl⟩) (by simp at hl ⊢;omega)
        ·rw[ac c2,ac c2];rfl
     ·rw[ac c1,ac c1];rfl
  ·rw[ac c0,ac c0];rfl
theorem AD(i p:Nat):(Az (A:=D×D×Unit) (B:=D×Unit) (onX (λe_=>.ret (.inr (e_,(.none,())))) (M.exc (noT i p)) λx1=>.ret (.inl (.none,x1,()))) (λs4=>bL s4.1 s4.2.1) (λe2 s3=>mL ["NoText"] e2.cls (bL (nh e2) s3.1)))=.ret (nmD i p):=by
 show mL ["NoText"] (noT i p).cls (bL (nh (noT i p)) .none)=_;kernel_rfl
theorem AC(d:D):(Az (A:=D×D×Unit) (B:=D×Unit) (onX (λe_=>.ret (.inr (e_,(.none,())))) (M.ret d) λx1=>.ret (.inl (.none,x1,()))) (λs4=>bL s4.1 s4.2.1) (λe2 s3=>mL ["NoText"] e2.cls (bL (nh e2) s3.1)))=.ret (.tuple [.str "told",d]):=by
 show bL .none d=_;unfold bL;rw[show jF .none .none=some true from rfl,oMS,bdR,ak rfl]
def xS(hR:Rz R)(hl:R.length<=500):cw (lW R)=.ret (asD (mJ R)):=by
 unfold cw;rw[uw hR hl]
 cases mJ R with
 | no i p=>exact AD i p
 | ok d=>exact AC d
def wt(ws:List Str):Nat:=(ws.map (·.length)).sum+ws.length
def dW(a b:List Str):wt (a++b)=wt a+wt b:=by
 unfold wt;rw[jo,List.sum_append,zzf];omega
def jn(a:List Str)(n:Nat):wt (a.take n)<=wt a:=by
 have:=dW (a.take n) (a.drop n);rw[Er]at this;omega
def jp(a:List Str)(n:Nat):wt (a.drop n)<=wt a:=by
 have:=dW (a.take n) (a.drop n);rw[Er]at this;omega
def BU(c:Nat):∀L:List (List Nat),L≠[]->(jl c L).length+1=(L.map (·.length)).sum+L.length
 | [],h=>absurd rfl h
 | [a],_=>by simp[jl]
 | a::b::r,_=>by
  have ih:=BU c (b::r) (by simp);unfold jl;rw[zzf,bi,ba,List.sum_cons,bi];omega
def Fk(x:Str):wt (spW x)<=x.length+1:=by
 by_cases h:spW x=[]
 ·rw[h];exact di _
 ·have e:=join_list 32 (spW x);rw[show sg 32=space from sp_is.symm,uU]at e;have l:=BU 32 ((spW x).map λw=>w.cps.toList) (by simpa using h);rw[<-e,len_list,sk,zzd]at l;have:(spW x).map ((λx=>x.length)∘λw:Str=>w.cps.toList)=(spW x).map (·.length):=K5 λw _=>len_list w
  rw[this]at l;unfold wt;omega
def tm(hok:∀w∈ws,PyData.strOk w=true)(hl:wt ws<=100000):∃y:Str,jb (.str " ") [.list (ws.map PyData.str)]=some (.str y)/\PyData.strOk y=true/\y.length<=wt ws:=by
 refine⟨Str.join space ws,?_,gW (br " ") hok,?_⟩
 ·show(match strsOf (ws.map PyData.str)with
   | some xs=>if JoinOk space xs then some (PyData.str (Txt.join space xs))else none
   | none=>none)=_
  rw[jO];dsimp only;rw[ak ?_]
  ·unfold Txt.join;rw[StrLaws.glued_eq_join]
  ·unfold JoinOk;rw[ny];refine joinFits_of_weight ?_ (by rw[qN];decide);unfold wt at hl;omega
 ·have:=StrLaws.join_length_le space ws;rw[qN]at this;unfold wt;omega
def hV(W:List Str)(n:Nat):bI (lW W) (some (n:Int)) none=some (lW (W.drop n)):=by
 show some (PyData.list (L4.cutD (W.map PyData.str) (some (n:Int)) none))=_;rw[Ce,<-LO]
def vg(W:List Str)(lo hi:Option Int):∃V:List Str,bI (lW W) lo hi=some (lW V)/\(∀w∈V,w∈W)/\wt V<=wt W:=by
 refine⟨(W.drop (HT.sIx (W.map PyData.str).length 0 lo)).take (HT.sIx (W.map PyData.str).length (W.map PyData.str).length hi - HT.sIx (W.map PyData.str).length 0 lo),?_,λw hw=>sw (ss hw),cr (jn _ _) (jp _ _)⟩;show some (PyData.list (L4.cutD (W.map PyData.str) lo hi))=_;unfold L4.cutD;rw[<-LO,<-List.map_take]
def gl(n:Nat):asI (iN n)=.ret (some (n:Int)):=rfl
def Fj(a b:List D)(h:a.length+b.length<=100000):aP (.list a) (.list b)=some (.list (a++b)):=ak (cr h (by decide))
def addW(a b:List Str)(h:a.length+b.length<=100000):aP (lW a) (lW b)=some (lW (a++b)):=(Fj _ _ (by rw[zzd,zzd];exact h)).trans (by rw[<-jo])
abbrev odd:List Str:=["", "0", "1", "2", "3", "4", "39", "40", "41", "00", "01", "-1", "yes", "no", "Yes", "meet", "says", "starts", "rooms", "1_0", "+1", "0 0", "1234567890", "x", "0,1"]
def Gq:∀o∈odd,PyData.strOk o=true/\o.length<=10:=by
 have:odd.all (λo=>PyData.strOk o&&decide (o.length<=10))=true:=by decide +kernel
 intro o ho;have:=List.all_eq_true.mp this o ho;rw[ai,zzi]at this;exact this
def Ej(T:Nat)(x:Str)(m:M (D×List D)):Prop:=∃(y:Str) (f':List D),m=.ret (.str y,f')/\PyData.strOk y=true/\y.length<=2*x.length+40/\Fd (T+10) f'
def Iv(m:M D):onT .str (.str " ") m=m:=rfl
set_option maxHeartbeats 1000000 in
def wg{f:List D}(hf:Fd T f)(hT:T<=900000)(hx:PyData.strOk x=true)(hl:x.length<=9000):Ej T x (df f (.str x)):=by
 have hwd:Wz x:=⟨hx,by omega⟩;have hW:=fw hwd;have hwl:=xW (x:=x);have hwt:=Fk x;have hWo:∀w∈spW x,PyData.strOk w=true:=λw hw=>(hW w hw).ok
 unfold df;obtain⟨at_,f1,e1,h1,hf1⟩:=bN (m:=(spW x).length+1) hf (by omega) (by omega) (by omega);have o1:aP (PyData.list [(.str ""),(.str "0"),(.str "1"),(.str "2"),(.str "3"),(.str "4"),(.str "39"),(.str "40"),(.str "41"),(.str "00"),(.str "01"),(.str "-1"),(.str "yes"),(.str "no"),(.str "Yes"),(.str "meet"),(.str "says")]) (PyData.list [(.str "starts"),(.str "rooms"),(.str "1_0"),(.str "+1"),(.str "0 0"),(.str "1234567890"),(.str "x"),(.str "0,1")])=some (lW odd):=Fj _ _ (by simp);obtain⟨way,f2,e2,h2,hf2⟩:=bN (m:=4) hf1 (by omega) (by omega) (by omega);rw[gI (by omega),bdR,bdR,m7,oMS,bdR,lv,oMS,bdR,show aC f (iN ((spW x).length+1))=_ from e1,bdR];dsimp only;rw[o1,oMS,bdR,show aC f1 (.int 4)=_ from e2,bdR];dsimp only;have lt:gA (iN way) (.int 2)=some (decide (way<2)):=by
  show gA (.int _) (.int _)=_;rw[L4.ltI];exact congrArg some (decide_eq_decide.mpr (by omega))
 rw[lt,oMS,bdR];by_cases c1:way<2
 ·rw[ay c1,ak rfl,gl,bdR,eI,oMS,bdR];obtain⟨d,f3,e3,hd,hf3⟩:=wA (m:=odd.map PyData.str) (by simp) (by simp) hf2 (by omega);obtain⟨o,ho,rfl⟩:=List.mem_map.mp hd;obtain⟨q1,q2⟩:=Gq o ho
  obtain⟨y,j1,j2,j3⟩:=tm (ws:=(spW x).take at_++[o]++(spW x).drop (at_+way)) (λw hw=>by
   rcases List.mem_append.mp hw with hw|hw
   ·rcases List.mem_append.mp hw with hw|hw
    ·exact hWo w (ss hw)
    ·rw[List.mem_singleton.mp hw];exact q1
   ·exact hWo w (sw hw)) (by
    rw[dW,dW];have:=jn (spW x) at_;have:=jp (spW x) (at_+way);have:wt [o]=o.length+1:=by simp[wt]
    omega)
  rw[show dk f2 (lW odd)=_ from e3,bdR];dsimp only;rw[show aP (lW ((spW x).take at_)) (.list [.str o])=some (lW ((spW x).take at_++[o]))from addW _ [o] (by rw[da];simp;omega),oMS,bdR,Fh,oMS,bdR,gl,bdR,hV,oMS,bdR,addW _ _ (by rw[zzf,da,fi];simp;omega),oMS,bdR,j1,oMS,bdR];refine⟨y,f3,rfl,j2,?_,hf3.le (by omega)⟩;refine cr j3 ?_;rw[dW,dW];have:=jn (spW x) at_;have:=jp (spW x) (at_+way);have:wt [o]=o.length+1:=by simp[wt]
  omega
 ·rw[aw c1,ac (by decide),show bC (iN way) (.int 2)=_ from qz way 2,oMS,bdR];by_cases c2:way=2
  ·obtain⟨y,j1,j2,j3⟩:=tm (ws:=(spW x).take at_++(spW x).drop (at_+1)) (λw hw=>by
    rcases List.mem_append.mp hw with hw|hw
    ·exact hWo w (ss hw)
    ·exact hWo w (sw hw)) (by
     rw[dW];have:=jn (spW x) at_;have:=jp (spW x) (at_+1)
     omega)
   rw[ay c2,ak rfl,gl,bdR,eI,oMS,bdR,lv,oMS,bdR,gl,bdR,hV,oMS,bdR,addW _ _ (by rw[da,fi];omega),oMS,bdR,j1,oMS,Iv,bdR];refine⟨y,f2,rfl,j2,?_,hf2.le (by omega)⟩;refine cr j3 ?_;rw[dW];have:=jn (spW x) at_;have:=jp (spW x) (at_+1);omega
  ·obtain⟨V,v1,v2,v3⟩:=vg (spW x) (some ((at_:Int) - 1)) (some (at_:Int));have vl:V.length<=wt V:=by unfold wt;omega
   obtain⟨y,j1,j2,j3⟩:=tm (ws:=(spW x).take at_++V++(spW x).drop at_) (λw hw=>by
    rcases List.mem_append.mp hw with hw|hw
    ·rcases List.mem_append.mp hw with hw|hw
     ·exact hWo w (ss hw)
     ·exact hWo w (v2 w hw)
    ·exact hWo w (sw hw)) (by
     rw[dW,dW];have:=jn (spW x) at_;have:=jp (spW x) at_
     omega)
   rw[aw c2,ac (by decide),gl,bdR,eI,oMS,bdR,show cU (iN at_) (.int 1)=some (.int ((at_:Int) - 1))from rfl,oMS,bdR,show asI (.int ((at_:Int) - 1))=M.ret (some ((at_:Int) - 1))from rfl,bdR,bdR,v1,oMS,bdR,addW _ _ (by rw[da];omega),oMS,bdR,bdR,hV,oMS,bdR,addW _ _ (by rw[zzf,da,fi];omega),oMS,bdR,j1,oMS,Iv,bdR];refine⟨y,f2,rfl,j2,?_,hf2.le (by omega)⟩;refine cr j3 ?_;rw[dW,dW];have a:=dW ((spW x).take at_) ((spW x).drop at_);rw[Er]at a;omega
structure RB(N B:Nat)(R:List Str):Prop where
 le:R.length<=N
 ok:∀t∈R,PyData.strOk t=true/\t.length<=B
def RB.mono{N' B':Nat}(h:RB N B R)(h1:N<=N')(h2:B<=B'):RB N' B' R:=⟨cr h.le h1,λt ht=>⟨(h.ok t ht).1,cr (h.ok t ht).2 h2⟩⟩
def Jq(T N B:Nat)(m:M (D×List D)):Prop:=∃(R:List Str) (f':List D),m=.ret (lW R,f')/\RB (N+1) (2*B+40) R/\Fd (T+20) f'
def D3{f:List D}(hf:Fd T f)(hT:T<=800000)(h:RB N B R)(hN:N<=400)(hB:B<=9000):Jq T N B (eS f (lW R)):=by
 have hl:=h.le;unfold eS;obtain⟨at_,f1,e1,h1,hf1⟩:=bN (m:=R.length+1) hf (by omega) (by omega) (by omega);obtain⟨to,f2,e2,h2,hf2⟩:=bN (m:=R.length+1) hf1 (by omega) (by omega) (by omega);obtain⟨way,f3,e3,h3,hf3⟩:=bN (m:=7) hf2 (by omega) (by omega) (by omega);rw[m7,oMS,bdR,lv,oMS,bdR,show aC f (iN (R.length+1))=_ from e1,bdR];dsimp only;rw[bdR,lv,oMS,bdR,show aC f1 (iN (R.length+1))=_ from e2,bdR];dsimp only;rw[show aC f2 (.int 7)=_ from e3,bdR];dsimp only;have ltN:∀a b:Nat,gA (iN a) (iN b)=some (decide (a<b)):=λa b=>by
  show gA (.int _) (.int _)=_;rw[L4.ltI];exact congrArg some (decide_eq_decide.mpr (by omega))
 have okT:∀t∈R.take at_,PyData.strOk t=true/\t.length<=2*B+40:=λt ht=>by
  have:=h.ok t (ss ht);exact⟨this.1,by omega⟩
 have okD:∀k,∀t∈R.drop k,PyData.strOk t=true/\t.length<=2*B+40:=λk t ht=>by
  have:=h.ok t (sw ht);exact⟨this.1,by omega⟩
 have app:∀{a b:List Str},(∀t∈a,PyData.strOk t=true/\t.length<=2*B+40)->(∀t∈b,PyData.strOk t=true/\t.length<=2*B+40)->∀t∈a++b,PyData.strOk t=true/\t.length<=2*B+40:=λha hb t ht=>by
  rcases List.mem_append.mp ht with ht|ht
  ·exact ha t ht
  ·exact hb t ht
 have one1:∀{y:Str},PyData.strOk y=true->y.length<=2*B+40->∀t∈[y],PyData.strOk t=true/\t.length<=2*B+40:=λh1 h2 t ht=>by
  rw[List.mem_singleton.mp ht];exact⟨h1,h2⟩
 rw[show gA (iN way) (.int 4)=_ from ltN way 4,oMS,bdR,ltN,oMS,L4.iteB,bdR]
 cases c:decide (way<4)&&decide (at_<R.length)with
 | true =>
  rw[ai,zzi,zzi]at c;have hx:R[at_]? = some R[at_]:=nc c.2;have hxm:=h.ok R[at_] (List.getElem_mem c.2);obtain⟨y,f4,e4,y1,y2,hf4⟩:=wg hf3 (by omega) hxm.1 (by omega);rw[ak rfl,gl,bdR,eI,oMS,bdR,ixW hx,oMS,bdR,e4,bdR];dsimp only;rw[show aP (lW (R.take at_)) (.list [.str y])=some (lW (R.take at_++[y]))from addW _ [y] (by rw[da];simp;omega),oMS,bdR,bdR,gl,bdR,hV,oMS,bdR,addW _ _ (by rw[zzf,da,fi];simp;omega),oMS,bdR];exact⟨_,f4,rfl,⟨by rw[zzf,zzf,da,fi];simp;omega,app (app okT (one1 y1 (by omega))) (okD _)⟩,hf4.le (by omega)⟩
 | false =>
  rw[ac (by decide),show bC (iN way) (.int 4)=_ from qz way 4,oMS,bdR];by_cases c4:way=4
  ·rw[ay c4,ak rfl,gl,bdR,eI,oMS,bdR,bdR,gl,bdR,hV,oMS,bdR,addW _ _ (by rw[da,fi];omega),oMS,bdR];exact⟨_,f3,rfl,⟨by rw[zzf,da,fi];omega,app okT (okD _)⟩,hf3.le (by omega)⟩
  ·rw[aw c4,ac (by decide),show bC (iN way) (.int 5)=_ from qz way 5,oMS,bdR];by_cases c5:way=5
   ·obtain⟨V,v1,v2,v3⟩:=vg R (some (to:Int)) (some ((to+1:Nat):Int));have vl:V.length<=1:=by
     have e:V=(R.drop to).take 1:=by
      have:bI (lW R) (some (to:Int)) (some ((to+1:Nat):Int))=some (lW ((R.drop to).take 1)):=by
       show some (PyData.list (L4.cutD (R.map PyData.str) (some (to:Int)) (some ((to+1:Nat):Int))))=_;unfold L4.cutD;rw[HT.sIx_nat,HT.sIx_nat,zzd,yp (show to<=R.length by omega),<-LO,<-List.map_take];congr 3;by_cases ht:to+1<=R.length
       ·rw[yp ht];congr 1;omega
       ·rw[Lj (by omega),L9 (by omega)];simp
      rw[v1]at this;injection this with this;injection this with this;exact Lz (λ{x y} h=>by injection h) |>.mp this
     rw[e,da];omega
    rw[ay c5,ak rfl,gl,bdR,eI,oMS,bdR,gl,bdR,lv,oMS,bdR,gl,bdR,v1,oMS,bdR,addW _ _ (by rw[da];omega),oMS,bdR,bdR,hV,oMS,bdR,addW _ _ (by rw[zzf,da,fi];omega),oMS,bdR];refine⟨_,f3,rfl,⟨by rw[zzf,zzf,da,fi];omega,app (app okT λt ht=>?_) (okD _)⟩,hf3.le (by omega)⟩;have:=h.ok t (v2 t ht);exact⟨this.1,by omega⟩
   ·rw[aw c5,ac (by decide),show bC (iN way) (.int 6)=_ from qz way 6,oMS,bdR];by_cases c6:way=6
    ·rw[ay c6,ak rfl,gl,bdR,eI,oMS,bdR];exact⟨_,f3,rfl,⟨by rw[da];omega,okT⟩,hf3.le (by omega)⟩
    ·rw[aw c6,ac (by decide),gl,bdR,eI,oMS,bdR,show aP (lW (R.take at_)) (PyData.list [(.str "meet 0 0 0 1")])=some (lW (R.take at_++([Str.ofString "meet 0 0 0 1"]:List Str)))from addW _ [Str.ofString "meet 0 0 0 1"] (by rw[da];simp;omega),oMS,bdR,bdR,hV,oMS,bdR,addW _ _ (by rw[zzf,da,fi];simp;omega),oMS,bdR];have l12:(Str.ofString "meet 0 0 0 1").length<=40:=by decide +kernel
     exact⟨_,f3,rfl,⟨by rw[zzf,zzf,da,fi];simp;omega,app (app okT (one1 (br _) (by omega))) (okD _)⟩,hf3.le (by omega)⟩
def sU{W:List Str}:∀(bs:List (Int×Int)) (q p:Nat),bc W q bs=.no p->p<q+bs.length
 | [],q,p,h=>by cases h
 | b::bs,q,p,h=>by
  unfold bc at h;rw[bi]
  cases e:nR W b.1 b.2 q with
  | none=>rw[e]at h;injection h with h;omega
  | some n =>
   rw[e]at h;have h:(bc W (q+1) bs).bind (λl=>.ok (n::l))=.no p:=h
   cases e2:bc W (q+1) bs with
   | no p' =>
    rw[e2]at h;injection h with h;have:=sU bs (q+1) p' e2;omega
   | ok l=>rw[e2]at h;cases h
def yD{W:List Str}{c:Int}:∀(bs:List (Int×Int)) (q:Nat) (l:List Nat),(∀b∈bs,b.2<=c)->bc W q bs=.ok l->l.length=bs.length/\∀x∈l,(x:Int)<=c
 | [],q,l,_,h=>by injection h with h;subst h;exact⟨rfl,λx hx=>nomatch hx⟩
 | b::bs,q,l,hb,h=>by
  unfold bc at h
  cases e:nR W b.1 b.2 q with
  | none=>rw[e]at h;cases h
  | some n =>
   rw[e]at h;have h:(bc W (q+1) bs).bind (λl=>.ok (n::l))=.ok l:=h
   cases e2:bc W (q+1) bs with
   | no p'=>rw[e2]at h;cases h
   | ok l' =>
    rw[e2]at h;injection h with h;subst h;obtain⟨i1,i2⟩:=yD bs (q+1) l' (λb hb'=>hb b (zzg _ hb')) e2;obtain⟨_,_,_,_,_,g⟩:=jG e;have:=hb b am;refine⟨by rw[bi,bi,i1],λx hx=>?_⟩;rcases List.mem_cons.mp hx with rfl|hx
    ·omega
    ·exact i2 x hx
def yc{W:List Str}{bs:List (Int×Int)}{c:Int}(hb:∀b∈bs,b.2<=c):(∀p,dE W bs=.no p->p<=bs.length+1)/\∀l,dE W bs=.ok l->l.length=bs.length/\∀x∈l,(x:Int)<=c:=by
 unfold dE
 cases e:bc W 1 bs with
 | no p' =>
  refine⟨λp h=>?_,λl h=>?_⟩
  ·injection h with h;have:=sU bs 1 p' e;omega
  ·cases h
 | ok l' =>
  refine⟨λp h=>?_,λl h=>?_⟩
  ·have h:(if bs.length+1<W.length then Rd.no (bs.length+1)else .ok l')=.no p:=h;split at h
   ·injection h with h;omega
   ·cases h
  ·have h:(if bs.length+1<W.length then Rd.no (bs.length+1)else .ok l')=.ok l:=h;split at h
   ·cases h
   ·injection h with h;subst h;exact yD bs 1 l' hb e
def xY{W:List Str}:∀(m q:Nat),(∀p,eO W q m=.no p->p<q+m)/\∀l,eO W q m=.ok l->l.length=m
 | 0,q=>⟨λp h=>(by cases h),λl h=>by injection h with h;subst h;rfl⟩
 | m+1,q=>by
  obtain⟨i1,i2⟩:=xY (W:=W) m (q+1);unfold eO
  cases e:W[q]? with
  | none=>exact⟨λp h=>by injection h with h;omega,λl h=>by cases h⟩
  | some w =>
   dsimp only;split
   ·cases e2:eO W (q+1) m with
    | no p'=>exact⟨λp h=>by injection h with h;have:=i1 p' e2;omega,λl h=>by cases h⟩
    | ok l'=>exact⟨λp h=>(by cases h),λl h=>by injection h with h;subst h;rw[bi,i2 l' e2]⟩
   ·exact⟨λp h=>by injection h with h;omega,λl h=>by cases h⟩
def C7{W:List Str}:(∀p,kh W n=.no p->p<=n+1)/\∀l,kh W n=.ok l->l.length=n:=by
 obtain⟨i1,i2⟩:=xY (W:=W) n 1;unfold kh
 cases e:eO W 1 n with
 | no p'=>exact⟨λp h=>by injection h with h;have:=i1 p' e;omega,λl h=>by cases h⟩
 | ok l' =>
  refine⟨λp h=>?_,λl h=>?_⟩
  ·have h:(if n+1<W.length then Rd.no (n+1)else .ok l')=.no p:=h;split at h
   ·injection h with h;omega
   ·cases h
  ·have h:(if n+1<W.length then Rd.no (n+1)else .ok l')=.ok l:=h;split at h
   ·cases h
   ·injection h with h;subst h;exact i2 l' e
def Dx{W:List Str}(h:fX W n a0 b0=.no p):p<=5:=by
 unfold fX at h
 cases e1:nR W a0 ((n:Int) - 1) 1 with
 | none=>rw[e1]at h;injection h with h;omega
 | some a =>
  rw[e1]at h;have h:(bc W 2 [(gE a a0 b0,(n:Int) - 1),(0,(n:Int) - 1),(0,(n:Int) - 1)]).bind (wY W a)=.no p:=h
  cases e:bc W 2 [(gE a a0 b0,(n:Int) - 1),(0,(n:Int) - 1),(0,(n:Int) - 1)]with
  | no p' =>
   rw[e]at h;injection h with h;have:=sU _ 2 p' e;simp at this;omega
  | ok l =>
   rw[e]at h;obtain⟨b,c,d,rfl,_⟩:=BA e;have h:(if(a=c/\b=d)\/(a=d/\b=c)then Rd.no 4 else if 5<W.length then .no 5 else .ok (a,b,c,d))=.no p:=h;split at h
   ·injection h with h;omega
   ·split at h
    ·injection h with h;omega
    ·cases h
def Few(r:Rr):Prop:=match r with
 | .no i p=>i<=1000/\p<=1000
 | .ok d=>Sm d/\sz d<=29000/\d.depth<=50
def FL{st:List Nat}{sy:List Bool}(hn:n<=40)(hs:st.length<=10)(hs2:∀x∈st,x<=40)(hy:sy.length<=50)(hm:ms.length<=1000)(hm2:∀m∈ms,m.1<=40/\m.2.1<=40/\m.2.2.1<=40/\m.2.2.2<=40):Few (rlD n st sy ms):=by
 refine⟨?_,?_,?_⟩
 ·simp only[Sm,Sms,iN];refine⟨by omega,?_,?_,?_,trivial⟩
  ·exact tV λd hd=>by
    obtain⟨x,hx,rfl⟩:=List.mem_map.mp hd;have:=hs2 x hx;simp only[Sm];omega
  ·exact tV λd hd=>by
    obtain⟨m,hx,rfl⟩:=List.mem_map.mp hd;obtain⟨q1,q2,q3,q4⟩:=hm2 m hx;simp only[mD,iN,Sm,Sms];exact⟨by omega,by omega,by omega,by omega,trivial⟩
  ·exact tV λd hd=>by
    obtain⟨x,hx,rfl⟩:=List.mem_map.mp hd;simp only[Sm]
 ·have e1:szs (st.map iN)=st.length*1:=nq (λi=>by simp[sz]) st;have e2:szs (ms.map mD)=ms.length*5:=nq (λi=>by simp[mD,sz,szs]) ms;have e3:szs (sy.map PyData.bool)=sy.length*1:=nq (λi=>by simp[sz]) sy;simp only[sz,szs,e1,e2,e3];omega
 ·have d1:PyData.depthAll (st.map iN)<=1:=fK λd hd=>by
   obtain⟨x,_,rfl⟩:=List.mem_map.mp hd;simp[iN,PyData.depth]
  have d2:PyData.depthAll (ms.map mD)<=10:=fK λd hd=>by
   obtain⟨m,_,rfl⟩:=List.mem_map.mp hd;simp[mD,iN,PyData.depth,PyData.depthAll]
  have d3:PyData.depthAll (sy.map PyData.bool)<=1:=fK λd hd=>by
   obtain⟨m,_,rfl⟩:=List.mem_map.mp hd;simp[PyData.depth]
  simp only[PyData.depth,PyData.depthAll];omega
def q8{n:Nat}{st:List Nat}{sy:List Bool}(hn:n<=40)(hs:st.length<=10)(hs2:∀x∈st,x<=40)(hy:sy.length<=50):∀(rest:List Str) (i a0:Nat) (b0:Int) (acc:List Mt),(a0:Int)<=b0+1->i+rest.length<=1000->acc.length+rest.length<=1000->(∀m∈acc,m.1<=40/\m.2.1<=40/\m.2.2.1<=40/\m.2.2.2<=40)->Few (gC (rlD n st sy) n i rest a0 b0 acc)
 | [],i,a0,b0,acc,_,_,hl,hm=>FL hn hs hs2 hy (by simpa using hl) hm
 | t::r,i,a0,b0,acc,hb,hi,hl,hm=>by
  rw[bi]at hi hl;unfold gC;split
  ·cases e:fX (spW t) n a0 b0 with
   | no p=>exact⟨by omega,by have:=Dx e;omega⟩
   | ok m =>
    obtain⟨g1,g2,g3,g4,g5⟩:=yH e hb;refine q8 hn hs hs2 hy r (i+1) m.1 m.2.1 (acc++[m]) (by omega) (by omega) (by rw[zzf,gt];omega) λx hx=>?_
    rcases List.mem_append.mp hx with hx|hx
    ·exact hm x hx
    ·rw[List.mem_singleton.mp hx];exact⟨by omega,by omega,by omega,by omega⟩
  ·exact⟨by omega,di _⟩
def A1(hl:R.length<=500):Few (mJ R):=by
 unfold mJ Am
 cases R[0]? with
 | none=>exact⟨by omega,di _⟩
 | some t0 =>
  dsimp only;split
  ·obtain⟨n1,n2⟩:=yc (W:=spW t0) (bs:=[((1:Int),(40:Int))]) (c:=40) (λb hb=>by rw[List.mem_singleton.mp hb];decide)
   cases e0:dE (spW t0) [(1,40)]with
   | no p=>exact⟨by omega,by have:=n1 p e0;simp at this;omega⟩
   | ok l =>
    have hn:=(iQ e0).1;show Few (match R[1]? with|none=>_|some t=>_)
    cases R[1]? with
    | none=>exact⟨by omega,di _⟩
    | some t1 =>
     dsimp only;split
     ·have len:(stB (spW t1) (l.headD 0)).length<=4:=by simp;omega
      obtain⟨m1,m2⟩:=yc (W:=spW t1) (bs:=stB (spW t1) (l.headD 0)) (c:=39) (λb hb=>by rw[(List.mem_replicate.mp hb).2];show((l.headD 0:Nat):Int) - 1<=39;omega)
      cases e1:dE (spW t1) (stB (spW t1) (l.headD 0))with
      | no p=>exact⟨by omega,by have:=m1 p e1;omega⟩
      | ok st =>
       obtain⟨s1,s2⟩:=m2 st e1;show Few (match R[2]? with|none=>_|some t=>_)
       cases R[2]? with
       | none=>exact⟨by omega,di _⟩
       | some t2 =>
        dsimp only;split
        ·obtain⟨y1,y2⟩:=C7 (W:=spW t2) (n:=l.headD 0)
         cases e2:kh (spW t2) (l.headD 0)with
         | no p=>exact⟨by omega,by have:=y1 p e2;omega⟩
         | ok sy =>
          have:=y2 sy e2;exact q8 hn (by omega) (λx hx=>by have:=s2 x hx;omega) (by omega) (R.drop 3) 3 0 (-1) [] (by decide) (by rw[fi];omega) (by rw[fi];simp;omega) (λm hm=>nomatch hm)
        ·exact⟨by omega,di _⟩
     ·exact⟨by omega,di _⟩
  ·exact⟨by omega,di _⟩
def G7{r:Rr}(h:Few r):Sm (asD r)/\sz (asD r)<=30000/\(asD r).depth<=60:=by
 cases r with
 | no i p =>
  obtain⟨h1,h2⟩:=h;refine⟨?_,?_,?_⟩
  ·simp only[asD,Sm,Sms,iN];exact⟨by decide +kernel,by omega,by omega,trivial⟩
  ·simp[asD,sz,szs]
  ·simp[asD,PyData.depth,PyData.depthAll]
 | ok d =>
  obtain⟨h1,h2,h3⟩:=h;refine⟨?_,?_,?_⟩
  ·simp only[asD,Sm,Sms];exact⟨by decide +kernel,h1,trivial⟩
  ·simp only[asD,sz,szs];omega
  ·simp only[asD,PyData.depth,PyData.depthAll];omega
def alike(hR:Rz R)(hl:R.length<=500)(k:Bool->M S):(bd (bd (bd (bd (bd (oM (rA [lW R])) λl18=>M.ret (PyData.list l18)) λx19=>cw x19) λx20=>oM (kW [x20])) λx22=>bd (bd (eD (lW R)) λx21=>oM (kW [x21])) λx23=>oM (iA x22 x23)) k)=k false:=by
 obtain⟨r1,r2,r3⟩:=G7 (A1 hl);rw[show rA [lW R]=some (R.map PyData.str)from rfl,oMS,bdR,bdR,xS hR hl,bdR,EE r1 r2 r3,oMS,bdR,GV hR hl,bdR,EE r1 r2 r3,oMS,bdR,Gw r1,oMS,bdR]
def RB.rz(h:RB N B R)(hB:B<=19000):Rz R:=λt ht=>⟨(h.ok t ht).1,cr (h.ok t ht).2 hB⟩
def xR{f:List D}(hf:Fd T f)(hT:T<=700000)(h:RB N B R)(hN:N<=400)(hB:B<=9000)(kn7:D×Unit->M D)(sc d:D)(kn16:D×List D×D×Unit->M D)
  (kk:∀(R':List Str) (f':List D),RB (N+1) (2*B+40) R'->Fd (T+30) f'->kn16 (sc,f',lW R',())=.ret (.bool true)):jf kn7 sc f (lW R) d kn16=.ret (.bool true):=by
 unfold jf;obtain⟨R',f1,e1,h1,hf1⟩:=D3 hf (by omega) h hN hB;obtain⟨v,f2,e2,h2,hf2⟩:=bN (m:=3) hf1 (by omega) (by omega) (by omega);rw[e1,bdR];dsimp only;rw[alike (h1.rz (by omega)) (by have:=h1.le;omega),ac (by decide),show aC f1 (.int 3)=_ from e2,bdR];dsimp only;rw[show bC (iN v) (.int 0)=_ from qz v 0,oMS,bdR];split
 ·exact kk R' f2 h1 (hf2.le (by omega))
 ·exact kk R f2 (h.mono (by omega) (by omega)) (hf2.le (by omega))
def KI : @vp = @jf:=rfl
def KJ : @vq = @pR:=rfl
def turns{f:List D}(hf:Fd T f)(hT:T<=600000)(h:RB 100 300 R)(kn7:D×Unit->M D)(sc:D)(kk:kn7 (sc,())=.ret (.bool true)) :
  (bd (oM (bZ [(.int 4)])) λl15=>jC (λ(s27:D×List D×D×Unit) d28 kn=>jf kn7 s27.1 s27.2.1 s27.2.2.1 d28 kn) l15 (sc,f,lW R,()) (λs27=>pR kn7 s27.1 s27.2.1 s27.2.2.1))=.ret (.bool true):=by
 rw[show bZ [.int 4]=some [iN 0,iN 1,iN 2,iN 3]from by kernel_rfl,oMS,bdR,e8,cu];refine xR hf (by omega) h (by omega) (by omega) kn7 sc _ _ λR1 f1 a1 b1=>?_
 rw[cu];refine xR b1 (by omega) a1 (by omega) (by omega) kn7 sc _ _ λR2 f2 a2 b2=>?_
 rw[cu];refine xR b2 (by omega) a2 (by omega) (by omega) kn7 sc _ _ λR3 f3 a3 b3=>?_
 rw[cu];refine xR b3 (by omega) a3 (by omega) (by omega) kn7 sc _ _ λR4 f4 a4 b4=>?_
 rw[cu];exact kk
def Hn(h:Wd w):PyData.strOk w=true:=by
 unfold PyData.strOk;rw[Array.all_eq_true_iff_forall_mem];intro d hd;have:=h.as d (Array.mem_toList_iff.mpr hd);simp;omega
def yb(h:Rs r):∃R:List Str,dB r.d=.ret (lW R)/\RB 100 300 R:=by
 refine⟨(mK r).map tx,?_,?_,?_⟩
 ·rw[wM h];show M.ret (PyData.list ((mK r).map λws=>PyData.str (tx ws)))=M.ret (PyData.list (((mK r).map tx).map PyData.str));rw[sk];rfl
 ·have:=h.m;rw[zzd];simp[mK];omega
 ·intro t ht;obtain⟨ws,hws,rfl⟩:=List.mem_map.mp ht;obtain⟨h1,h2,h3⟩:=h.words ws hws;refine⟨?_,Ax h1 h3⟩;unfold tx;rw[show sg 32=Str.ofString " " from sp_is.symm];exact gW (br " ") λw hw=>Hn (h1 w hw)
def Kg(w:Wf r)(hn:r.n<=6):r.ms.length<=60:=by
 have nd:(r.ms.map λm=>(m.1,m.2.1)).Nodup:=by
  unfold List.Nodup;rw[Go];exact w.so.imp λh=>wv h
 have sub:(r.ms.map λm=>(m.1,m.2.1)) ⊆ (List.range 6).flatMap λa=>(List.range 6).map λb=>(a,b):=λp hp=>by
  obtain⟨m,hm,rfl⟩:=List.mem_map.mp hp;have h1:=w.ms m hm;have:=h1.ab;have:=h1.b;exact List.mem_flatMap.mpr ⟨m.1,List.mem_range.mpr (by omega),List.mem_map.mpr ⟨m.2.1,List.mem_range.mpr (by omega),rfl⟩⟩
 have:=nd.length_le_of_subset sub;rw[zzd]at this;exact cr this (by decide)
def GB(ns:List Int)(hn:ns.length<=63)(k:Nat)(kn7:D×Unit->M D)(kk:kn7 (.list (ns.map PyData.int),())=.ret (.bool true)):pQ (.list (ns.map PyData.int)) (iN k) kn7=.ret (.bool true):=by
 obtain⟨f0,e0,hf0⟩:=DR ns k hn;obtain⟨s,f1,e1,hs,hf1⟩:=bN (m:=4) hf0 (by omega) (by omega) (by omega);obtain⟨x,f2,e2,hx,hf2⟩:=bN (m:=9) hf1 (by omega) (by omega) (by omega);unfold pQ;rw[e0,bdR,show aC f0 (.int 4)=_ from e1,bdR];dsimp only;rw[CH,oMS,bdR,show aC f1 (.int 9)=_ from e2,bdR];dsimp only;rw[show bC (iN x) (.int 1)=_ from qz x 1,oMS,bdR];by_cases h1:x=1
 ·obtain⟨r,f3,e3,ru,hm,hf3⟩:=BZ (sorts:=s+1) hf2 (by omega) (by omega) (by omega);obtain⟨R,e4,hR⟩:=yb (r:=r) ⟨ru.w,ru.n,ru.s1,ru.s4,by omega⟩;rw[ay h1,ak rfl,e3,bdR];dsimp only;rw[e4,bdR];exact turns hf3 (by omega) hR kn7 _ kk
 ·obtain⟨r,f3,e3,w,hn6,hst,hm,hf3⟩:=C5 (most:=4) (sorts:=s+1) hf2 (by omega) (by omega) (by omega) (by omega) (by omega);obtain⟨R,e4,hR⟩:=yb (r:=r) ⟨w,by omega,by omega,by omega,Kg w (by omega)⟩;rw[aw h1,ac (by decide),show eR f2 (.int 4) (iN (s+1))=_ from e3,bdR];dsimp only;rw[e4,bdR];exact turns hf3 (by omega) hR kn7 _ kk
def main:∀ns:List Int,ns.length<=63->zf (.list (ns.map PyData.int))=.ret (.bool true):=by
 intro ns hn;unfold zf;have t0:cw (PyData.list [])=.ret (nmD 0 0):=xS (R:=[]) (λt ht=>nomatch ht) (by simp);have e1:cI [.list (ns.map PyData.int)]=some (.int (ns.length:Int)):=by rw[L4.lenL,zzd]
 have e2:jM [.int 10,.int (ns.length:Int)]=some (iN (min 10 ns.length)):=min2 10 ns.length;have e3:aP (.int 2) (iN (min 10 ns.length))=some (iN (2+min 10 ns.length)):=Ky 2 _;rw[t0,bdR,show iA (nmD 0 0) (.tuple [(.str "none"),(.int 0),(.int 0)])=some false from by kernel_rfl,oMS,bdR,ac (by decide),e1,oMS,bdR,e2,oMS,bdR,e3,oMS,bdR,fU _ (by omega),oMS,bdR];refine DP (P:=λi s=>s=(PyData.list (ns.map PyData.int),())) _ 0 _ _ ?_ rfl ?_
 ·rintro j s d hd _ hj rfl kn hkn;obtain⟨k,hk,rfl⟩:=List.mem_map.mp hd;dsimp only;exact GB ns hn k kn (hkn _ rfl)
 ·rintro s rfl;rfl
end K11
namespace PySem.W.Fast
def tw9052931992703104140:=()
def tw9748572463385091102:=()
def tw15872597180770206833:=()
def tw15738257073926501154:=()
def tw439867047752055989:=()
def tw2188731864054075807:=()
def tw12795019980303539249:=()
def tw17488597575749027815:=()
def tw13846995274551787075:=()
def tw8463610255723747675:=()
def tw6796875005374525133:=()
def tw13511551333576615944:=()
def tw16671328169018049799:=()
def tw168272590834983748:=()
def tw17238535806859294278:=()
def tw15208095257777627402:=()
def tw4297755950010520408:=()
def tw5664602489175822750:=()
def tw13512602902681717907:=()
def tw2497451290755286485:=()
def tw1378422003951865215:=()
def tw10702674474431651422:=()
def tw8550008617893016455:=()
def tw5242547038647466256:=()
def tw12696192596856569988:=()
def tw12152678855074695595:=()
def tw6291545189774779705:=()
def tw15863586225727167555:=()
def tw12708579339742669855:=()
def tw18090304221493891541:=()
def tw13645542775272201147:=()
def tw3744312732352922412:=()
def tw11592007934576568596:=()
def tw6421055279969190461:=()
def tw2981376744191250150:=()
def tw13851860138192962170:=()
def tw14379957676528801153:=()
def tw8744859972982481729:=()
def tw7184909633344744004:=()
def tw191200907284101488:=()
def tw15504902703298709242:=()
def tw227242028231620760:=()
def tw11230041129002383854:=()
def tw16596390322766315391:=()
def tw18037441927952323604:=()
def tw2758727651220289964:=()
def tw11452290253707457825:=()
def tw7755958970216668323:=()
def tw13910638686584387817:=()
def tw4920118270715349096:=()
def tw10829331347216850496:=()
def tw8113896612668891559:=()
def tw301808208384102020:=()
def tw6585258213184223456:=()
def tw17681907536722958550:=()
def tw11324545208631152732:=()
def tw2690885452724378397:=()
def tw10954859360909744741:=()
def tw6746197731471403953:=()
def tw10954096888283592760:=()
def tw8019644613585076326:=()
def tw6135004412865920688:=()
def tw14691555670892454050:=()
def tw9425043917128275702:=()
def tw4044758351277753960:=()
def tw15089483701668082939:=()
def tw9479479737807940738:=()
def tw14015365318424488267:=()
def tw11185058556004593624:=()
def tw16506815464889895022:=()
def tw9733488774846985977:=()
def tw6237051264856723170:=()
def tw1889703779737543553:=()
def tw15682328399046703929:=()
def tw15898750193290801872:=()
def tw6089989341645534268:=()
def tw12207364605111270985:=()
def tw11555031574699572153:=()
def tw18193248262824710807:=()
def tw11909908360851894397:=()
def tw15100483868865951412:=()
def tw2686792840937739172:=()
def tw14998943830324512104:=()
def tw3996151363460635517:=()
def tw2209632182422620285:=()
def tw5206813643574507451:=()
def tw13503291645547512487:=()
def tw10487331133997123843:=()
def tw17217259281616869124:=()
def tw14897455263448348365:=()
end PySem.W.Fast
namespace K11
open PySem PySem.Spec PyProof.Rows L2 L3 L4
def all_mk{l:PySem.W.OpenLaw}{w:World}{K:Fg}{h:Heap}{mg:zzl}{fa Cl_NoText Cl_PassError CA_Row:Addr}(X:K.In h)(G:h.Ns mainGlobals mg)(hfa:mg "law" = some (.ref fa))(w0:Ci K "Row" CA_Row aA)(p0:Fa K "_wall" rY)(p1:Fa K "number_of" iG)(p2:Fi K CA_Row "Row.__init__" fF)(p3:Fm K CA_Row "refuse" "Row.refuse" g7)(p4:Fm K CA_Row "has_more" "Row.has_more" fE)(p5:Fm K CA_Row "upcoming" "Row.upcoming" fD)(p6:Fm K CA_Row "take_word" "Row.take_word" eV)(p7:Fm K CA_Row "take_number" "Row.take_number" dD)(p8:Fm K CA_Row "take_sorts" "Row.take_sorts" dZ)(p9:Fm K CA_Row "finish" "Row.finish" g8)(p10:Fa K "begun_row" iH)(p11:Fa K "read_rooms" gZ)(p12:Fa K "read_starts" gs)(p13:Fa K "read_says" iE)(p14:Fa K "unchanging" gY)(p15:Fa K "read_meeting" fy)(p16:Fa K "read_rule" iF)(p17:Fa K "_law_feed" iO)(p18:Fa K "_law_next" iM)(p19:Fa K "_law_one" jP)(p20:Fa K "_law_rule" iK)(p21:Fa K "_law_great" g6)(p22:Fa K "_law_rows" iL)(p23:Fa K "_law_number" gw)(p24:Fa K "_law_numbers" fA)(p25:Fa K "_law_says" iJ)(p26:Fa K "_law_meeting" fB)(p27:Fa K "_law_due" jQ)(p28:Fa K "_law_told" iI)(p29:Fa K "_law_row_bent" eU)(p30:Fa K "_law_bent" iP)(p31:Fa K "law" AX)(q0:Xa K "NoText" "NoText.__init__" gv ["row", "word"])(gaK:PySem.W.nsIn K mainGlobals "NoText" = some (some (.ref Cl_NoText)))(ga9:PySem.W.nsIn K mainGlobals "PassError" = some (some (.ref Cl_PassError)))(gaM:PySem.W.kitOne K (.ref Cl_NoText) (.ref Cl_NoText)=some true)(gaG:PySem.W.exmOne K (.ref Cl_NoText) (.ref Cl_PassError)=some true)(kc0:Kc K "MOST_ROOMS" (.int 40))(kc1:Kc K "MOST_SORTS" (.int 4))(kc2:Kc K "FIGURES" (.str "0123456789"))(kc3:Kc K "MOST_FIGURES" (.int 9))(bz:(BL.all λx=>IN (PySem.W.nsIn K mainGlobals x))=true) :
  ∃fd:FuncData,(∀(s:Shared) (v:Value),BindsTo s fd ⟨[v],[]⟩ [("_law_script",v)])/\∀base:Heap,K.In base->base.Ns mainGlobals mg->FnOk l.prog w K mg base (CX1 l.prog w) 10 fa fd ["_law_script"] (spD K 1 sZ):=by
 obtain⟨IC_Row,NF_Row⟩:=w0;obtain⟨f0,fd0,a0,F0⟩:=p0;obtain⟨f1,fd1,a1,F1⟩:=p1;obtain⟨f2,fd2,a2,F2⟩:=p2;obtain⟨f3,fd3,a3,F3⟩:=p3;obtain⟨f4,fd4,a4,F4⟩:=p4;obtain⟨f5,fd5,a5,F5⟩:=p5;obtain⟨f6,fd6,a6,F6⟩:=p6;obtain⟨f7,fd7,a7,F7⟩:=p7;obtain⟨f8,fd8,a8,F8⟩:=p8;obtain⟨f9,fd9,a9,F9⟩:=p9;obtain⟨f10,fd10,a10,F10⟩:=p10;obtain⟨f11,fd11,a11,F11⟩:=p11;obtain⟨f12,fd12,a12,F12⟩:=p12;obtain⟨f13,fd13,a13,F13⟩:=p13;obtain⟨f14,fd14,a14,F14⟩:=p14;obtain⟨f15,fd15,a15,F15⟩:=p15;obtain⟨f16,fd16,a16,F16⟩:=p16;obtain⟨f17,fd17,a17,F17⟩:=p17;obtain⟨f18,fd18,a18,F18⟩:=p18;obtain⟨f19,fd19,a19,F19⟩:=p19;obtain⟨f20,fd20,a20,F20⟩:=p20;obtain⟨f21,fd21,a21,F21⟩:=p21;obtain⟨f22,fd22,a22,F22⟩:=p22;obtain⟨f23,fd23,a23,F23⟩:=p23;obtain⟨f24,fd24,a24,F24⟩:=p24;obtain⟨f25,fd25,a25,F25⟩:=p25;obtain⟨f26,fd26,a26,F26⟩:=p26;obtain⟨f27,fd27,a27,F27⟩:=p27;obtain⟨f28,fd28,a28,F28⟩:=p28;obtain⟨f29,fd29,a29,F29⟩:=p29;obtain⟨f30,fd30,a30,F30⟩:=p30;obtain⟨f31,fd31,a31,F31⟩:=p31;obtain⟨C0,D0,g0,gd0,b0,G0,x0,y0,z0,u0,v0⟩:=q0
 cases Gs b0 gaK
 have xn0_NoText:=u0 _ (.head _);have xn1_NoText:=u0 _ (.tail _ (.head _))
 cases hfa.symm.trans (eg X G a31)
 have B:BN mg:=Jd X G bz;have Kn:KN mg:=⟨yN X G kc0,yN X G kc1,yN X G kc2,yN X G kc3⟩;have Kx:KX K mg:=⟨⟨_,eg X G gaK,⟨⟨_,gaK,gaM⟩,trivial⟩⟩,⟨⟨_,gaK,xn0_NoText⟩,trivial⟩,⟨⟨_,gaK,xn1_NoText⟩,trivial⟩,⟨_,eg X G ga9,⟨⟨_,gaK,gaG⟩,trivial⟩⟩⟩;refine⟨fd31,λs v=>?_,λbase _ _=>?_⟩
 ·obtain⟨_,_,_,_,_,_,_,_,_,rfl,_⟩:=F31.ex;exact .of_eq rfl
 have X_NoText:=Aj (P:=l.prog) (w:=w) (base:=base) G0 x0 (eg X G b0) y0 z0 u0 v0;have gbv:=By (P:=l.prog) (w:=w) (base:=base) F0 (eg X G a0) B Kn Kx;have gbc:=sI (P:=l.prog) (w:=w) (base:=base) F1 (eg X G a1) B Kn Kx;have gaS:=m6 (P:=l.prog) (w:=w) (base:=base) F2 a2 (eg X G IC_Row.ns) B Kn Kx IC_Row NF_Row;have gal:=qt (P:=l.prog) (w:=w) (base:=base) F3 a3 B Kn Kx IC_Row NF_Row X_NoText;have gap:=m5 (P:=l.prog) (w:=w) (base:=base) F4 a4 B Kn Kx IC_Row NF_Row;have gaC:=mZ (P:=l.prog) (w:=w) (base:=base) F5 a5 B Kn Kx IC_Row NF_Row gap gal;have gaz:=lH (P:=l.prog) (w:=w) (base:=base) F6 a6 B Kn Kx IC_Row NF_Row gaC gal;have gah:=jU (P:=l.prog) (w:=w) (base:=base) F7 a7 B Kn Kx IC_Row NF_Row gbc gaC gal;have gbA:=ky (P:=l.prog) (w:=w) (base:=base) F8 a8 B Kn Kx IC_Row NF_Row gbv;have gam:=qu (P:=l.prog) (w:=w) (base:=base) F9 a9 B Kn Kx IC_Row NF_Row gap gal;have gat:=sL (P:=l.prog) (w:=w) (base:=base) F10 (eg X G a10) B Kn Kx IC_Row NF_Row gaS gaz X_NoText;have ga5:=qq (P:=l.prog) (w:=w) (base:=base) F11 (eg X G a11) B Kn Kx IC_Row NF_Row gat gah gam;have gaX:=oR (P:=l.prog) (w:=w) (base:=base) F12 (eg X G a12) B Kn Kx IC_Row NF_Row gat gam gah gap;have gbd:=sG (P:=l.prog) (w:=w) (base:=base) F13 (eg X G a13) B Kn Kx IC_Row NF_Row gat gam gaz;have ga4:=qp (P:=l.prog) (w:=w) (base:=base) F14 (eg X G a14) B Kn Kx;have gaT:=mW (P:=l.prog) (w:=w) (base:=base) F15 (eg X G a15) B Kn Kx IC_Row NF_Row gat gah gam ga4;have gbf:=sH (P:=l.prog) (w:=w) (base:=base) F16 (eg X G a16) B Kn Kx ga5 gaX gbd gaT;have gbg:=sR (P:=l.prog) (w:=w) (base:=base) F17 (eg X G a17) B Kn Kx;have gad:=sQ (P:=l.prog) (w:=w) (base:=base) F18 (eg X G a18) B Kn Kx;have gaF:=uI (P:=l.prog) (w:=w) (base:=base) F19 (eg X G a19) B Kn Kx gad;have gbi:=sO (P:=l.prog) (w:=w) (base:=base) F20 (eg X G a20) B Kn Kx gad gaF;have ga8:=qr (P:=l.prog) (w:=w) (base:=base) F21 (eg X G a21) B Kn Kx gaF gad;have gbh:=sP (P:=l.prog) (w:=w) (base:=base) F22 (eg X G a22) B Kn Kx;have gaY:=oV (P:=l.prog) (w:=w) (base:=base) F23 (eg X G a23) B Kn Kx;have gaq:=mX (P:=l.prog) (w:=w) (base:=base) F24 (eg X G a24) B Kn Kx gaY;have gbe:=sN (P:=l.prog) (w:=w) (base:=base) F25 (eg X G a25) B Kn Kx;have gaU:=mY (P:=l.prog) (w:=w) (base:=base) F26 (eg X G a26) B Kn Kx gaq;have gbo:=uJ (P:=l.prog) (w:=w) (base:=base) F27 (eg X G a27) B Kn Kx gaq gbe gaU;have gaZ:=sM (P:=l.prog) (w:=w) (base:=base) F28 (eg X G a28) B Kn Kx gbf;have gaP:=lG (P:=l.prog) (w:=w) (base:=base) F29 (eg X G a29) B Kn Kx gad gaF;have gbj:=sT (P:=l.prog) (w:=w) (base:=base) F30 (eg X G a30) B Kn Kx gad gaP;exact GS F31 B Kn Kx gaZ gbg gbh gad ga8 gbi gbj gbo
def walk{l:PySem.W.OpenLaw}{q:Program}{loose:List Str}{XP:(Str->Option Value)->Heap->Prop}{YP:World->Heap->Prop}{d:DefRec}{K:Params->Fg}(main:∀ns:List Int,ns.length<=63->zf (.list (ns.map PyData.int))=.ret (.bool true))(hn:l.most=some 63)(hdf:d.params.defaults=[])
  (hY:∀(w:World) (h:Heap),YP w h->(K w.params).In h)
  (F:∀(w:World) (mg:zzl) (fa:Addr) (h:Heap),(K w.params).In h->h.Ns mainGlobals mg->mg d.name=some (.ref fa) ->
   ∃fd:FuncData,(∀(s:Shared) (u:Value),BindsTo s fd ⟨[u],[]⟩ [("_law_script",u)])/\∀base:Heap,(K w.params).In base->base.Ns mainGlobals mg->FnOk l.prog w (K w.params) mg base (CX1 l.prog w) 10 fa fd ["_law_script"] (spD (K w.params) 1 sZ)) :
  PySem.W.WalkO q loose XP YP l.row.toRowW d [] (λf vs=>PySem.call f vs) :=
 L2.walk_of (n:=63) (k:=10) (x := "_law_script") (CX:=λw=>CX1 l.prog w) (sp:=λw=>spD (K w.params) 1 sZ) hn (by decide) hdf ⟨rfl,by decide,by decide,rfl⟩ hY F (λw H a ns hl _ hS=>z6 hS (main ns hl)) λ_ _ _ _ _ ⟨_,_,_,_,_,_,_,_,_,_,z⟩=>z
end K11
open PySem PySem.W PyProof.Rows L4
set_option maxRecDepth 100000 in
set_option maxHeartbeats 0 in
theorem PySem.Challenge.cw_passersby_k11_rows_that_write_no_rule_holds : PySem.Challenge.rw_passersby_k11_rows_that_write_no_rule.Holds := by
 w_on;o_law;k_head;(case hw=>w_witness2)
 k_fill
 refine K11.walk (l:=PySem.Challenge.rw_passersby_k11_rows_that_write_no_rule) K11.main rfl rfl (λw h Y=>PySem.W.kIn_of Y) ?F
 case F =>
  intro w mg fa h KX G hmg;refine' K11.all_mk KX G hmg (Jc ?wa0 ?wb0 ?wc0 ?wd0 ?we0 (naC ?n0_0 (naC ?n0_1 (naC ?n0_2 (naC ?n0_3 na0))))) (cG ?a0 ?l0 ?c0 ?k0) (cG ?a1 ?l1 ?c1 ?k1) (IZ ?a2 ?l2 ?c2 ?k2 ?i2 ?m2 ?o2) (pA ?a3 ?l3 ?c3 ?k3 ?i3) (pA ?a4 ?l4 ?c4 ?k4 ?i4) (pA ?a5 ?l5 ?c5 ?k5 ?i5) (pA ?a6 ?l6 ?c6 ?k6 ?i6) (pA ?a7 ?l7 ?c7 ?k7 ?i7) (pA ?a8 ?l8 ?c8 ?k8 ?i8) (pA ?a9 ?l9 ?c9 ?k9 ?i9) (cG ?a10 ?l10 ?c10 ?k10) (cG ?a11 ?l11 ?c11 ?k11) (cG ?a12 ?l12 ?c12 ?k12) (cG ?a13 ?l13 ?c13 ?k13) (cG ?a14 ?l14 ?c14 ?k14) (cG ?a15 ?l15 ?c15 ?k15) (cG ?a16 ?l16 ?c16 ?k16) (cG ?a17 ?l17 ?c17 ?k17) (cG ?a18 ?l18 ?c18 ?k18) (cG ?a19 ?l19 ?c19 ?k19) (cG ?a20 ?l20 ?c20 ?k20) (cG ?a21 ?l21 ?c21 ?k21) (cG ?a22 ?l22 ?c22 ?k22) (cG ?a23 ?l23 ?c23 ?k23) (cG ?a24 ?l24 ?c24 ?k24) (cG ?a25 ?l25 ?c25 ?k25) (cG ?a26 ?l26 ?c26 ?k26) (cG ?a27 ?l27 ?c27 ?k27) (cG ?a28 ?l28 ?c28 ?k28) (cG ?a29 ?l29 ?c29 ?k29) (cG ?a30 ?l30 ?c30 ?k30) (cG ?a31 ?l31 ?c31 ?k31) (Hm ?xa0 ?xb0 ?xc0 ?xd0 ?xe0 ?xf0 ?xg0 ?xh0 ?xi0 ?xj0 ?xk0 ?xl0 ?xm0 ?xp0 ?xq0 ?xr0 ?xo0 (naC ?y0_0 (naC ?y1_0 na0))) ?gaK ?ga9 ?gaM ?gaG (yM ?ga0 ?gb0) (yM ?ga1 ?gb1) (yM ?ga2 ?gb2) (yM ?ga3 ?gb3) ?bz
  (case wa0=>k_is)
  (case wb0|wc0|wd0=>kernel_rfl)
  (case we0|n0_0|n0_1|n0_2|n0_3|a0|l0|c0|k0|a1|l1|c1|k1|a2|l2|c2|k2=>k_is)
  (case i2|m2=>kernel_rfl)
  (case o2|a3|l3|c3|k3=>k_is)
  (case i3=>kernel_rfl)
  (case a4|l4|c4|k4=>k_is)
  (case i4=>kernel_rfl)
  (case a5|l5|c5|k5=>k_is)
  (case i5=>kernel_rfl)
  (case a6|l6|c6|k6=>k_is)
  (case i6=>kernel_rfl)
  (case a7|l7|c7|k7=>k_is)
  (case i7=>kernel_rfl)
  (case a8|l8|c8|k8=>k_is)
  (case i8=>kernel_rfl)
  (case a9|l9|c9|k9=>k_is)
  (case i9=>kernel_rfl)
  (case a10|l10|c10|k10|a11|l11|c11|k11|a12|l12|c12|k12|a13|l13|c13|k13|a14|l14|c14|k14|a15|l15|c15|k15|a16|l16|c16|k16|a17|l17|c17|k17|a18|l18|c18|k18|a19|l19|c19|k19|a20|l20|c20|k20|a21|l21|c21|k21|a22|l22|c22|k22|a23|l23|c23|k23|a24|l24|c24|k24|a25|l25|c25|k25|a26|l26|c26|k26|a27|l27|c27|k27|a28|l28|c28|k28|a29|l29|c29|k29|a30|l30|c30|k30|a31|l31|c31|k31|xa0|xb0|xc0|xd0|xe0|xf0|xg0=>k_is)
  (case xh0=>kernel_rfl)
  (case xi0|xj0|xk0|xl0=>k_is)
  (case xm0=>kernel_rfl)
  (case xp0|xq0|xr0=>k_is)
  (case xo0=>kernel_rfl)
  (case y0_0|y1_0|gaK|ga9=>k_is)
  (case gaM|gaG=>kernel_rfl)
  (case ga0=>k_is)
  (case gb0=>first|exact⟨_,rfl⟩|rfl)
  (case ga1=>k_is)
  (case gb1=>first|exact⟨_,rfl⟩|rfl)
  (case ga2=>k_is)
  (case gb2=>first|exact⟨_,rfl⟩|rfl)
  (case ga3=>k_is)
  (case gb3=>first|exact⟨_,rfl⟩|rfl)
  (case bz=>kernel_rfl)
