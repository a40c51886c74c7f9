import PyProof.Rows.All
import Wide.All
import OpenK.AllK
import Wide.FinOn
import Lean
import PyProof.EqAt
import PyProof.EqKinds
import PyProof.TupleCall
import PySem.Challenge.RW_passersby_k33_answers
noncomputable section
set_option Elab.async false
set_option linter.all false
set_option maxRecDepth 100000
def i_:=@PySem.wpAny_bind
def s_:=@PySem.wpAny_pure
def Od:=@PySem.Heap.get?_push_of_some
def L_:=@List.length_map
def OX:=@PySem.Heap.get?_push_size
def Qh:=@List.length_append
def QC:=@List.mem_cons_of_mem
def OB:=@decide_eq_true_eq
abbrev Of:=PySem.Value->PySem.Shared->Prop
abbrev K_:=List (PySem.Addr×PySem.Obj)
abbrev Pn:=PySem.Str->Option PySem.Value
section
open PySem PySem.Spec PyProof.Rows
def ac:=@List.getElem?_eq_getElem
def ai:=@Nat.le_refl
def al:=@if_pos
def am:=@Bool.and_eq_true
def ar:=@if_neg
def aw:=@List.map_cons
def ax:=@List.size_toArray
def ay:=@Heap.lt_size
def ba:=@List.getElem?_set_ne
def be:=@Nat.zero_le
def bj:=@PySem.W.mg_of
def bo:=@Nat.lt_of_lt_of_le
def bu:=@decide_eq_false
def cr:=@decide_eq_true
def di:=@Nat.le_trans
def du:=@List.mem_cons_self
def eg:=@List.getD_eq_getElem?_getD
def eE:=@List.getElem?_set_self
def fu:=@List.getElem?_map
def gh:=@List.mem_append_right
def gs:=@List.length_cons
def gu:=@Nat.ne_of_lt
def ib:=@List.map_append
def ic:=@List.map_map
def ig:=@wpAny_field
def im:=@wpAny_newObj_type
def io:=@List.getElem?_append_left
def ir:=@List.getElem?_take_of_lt
def je:=@wpAny_callSpecial?_slot
def lf:=@List.foldl_cons
def li:=@List.append_nil
def lu:=@PySem.boot_len
def mo:=@Obj.data_mapFields
def ng:=@List.map_congr_left
def ni:=@List.find?_cons
def nu:=@Nat.lt_irrefl
def ny:=@List.filterMap_cons
def ou:=@wpAny_call_entry
def oC:=@List.getElem_mem
def oP:=@if_true
def oR:=@List.mem_cons
def pd:=@List.mem_append_left
def pi:=@wpAny_setField_rec
def pr:=@Nat.ne_of_gt
def pI:=@Bool.false_ne_true
def qu:=@Heap.size_push
def re:=@PyProof.Rows.callWith_type1
def se:=@wpAny_mono
def si:=@List.not_mem_nil
def sk:=@List.lookup_cons
def ss:=@List.length_take
def su:=@PySem.mem_of_lookup
def sw:=@List.replicate_succ
def sE:=@Int.toNat_natCast
def tu:=@List.length_filter_le
def ua:=@Bool.or_eq_true
def ue:=@wpAny_pyIter_tuple
def ug:=@wpAny_Call_Name_kw
def ul:=@List.length_drop
def um:=@wpAny_holding
def ur:=@List.length_range
def ut:=@List.getElem_of_mem
def u8:=@List.drop_eq_getElem_cons
def wa:=@Heap.get?_update_self
def we:=@tupleKind_room_in1
def wn:=@Nat.lt_of_le_of_lt
def wo:=@List.any_cons
def wE:=@List.mem_of_getElem?
def wP:=@decide_eq_false_iff_not
def wS:=@Bool.eq_iff_iff
def wT:=@List.take_of_length_le
def xt:=@Heap.get?_update_other
def xv:=@List.filter_cons
def xz:=@List.all_eq_true
def ye:=@wpAny_setField
def yi:=@wpAny_seqItems
def yp:=@List.length_zipIdx
def y9:=@Obj.isFreed_of_fields
def zi:=@List.mem_of_find?_eq_some
def At:=@List.length_nil
def Ba:=@List.flatten_cons
def Ch:=@PyProof.Rows.slot_tuple_getitem
def Cn:=@Array.length_toList
def Cr:=@List.getElem?_replicate
def Db:=@List.ext_getElem
def Er:=@decide_false
def Go:=@wpAny_passesOwn
def Is:=@PySem.F.slot_dict_get
def Ix:=@List.length_singleton
def Li:=@or_false
def Ma:=@if_false
def Me:=@Nat.mul_le_mul_right
def MZ:=@Nat.le_succ
def M0:=@F.slot_tuple_iterator_next
def M2:=@List.getElem_map
def M3:=@List.drop_length
def M4:=@wpAny_attempt
def M5:=@List.pairwise_cons
def M6:=@Bool.false_eq_true
def M7:=@PySem.F.plainAttrs_list
def M8:=@PySem.F.args_dict_get_2
def M9:=@wpAny_truthy_bool
def Na:=@wpAny_pyIter_list
def Nb:=@wpAny_loadPart_at
def Nc:=@wpAny_dictEntries
def Nd:=@PySem.F.entry_dict_get
def Nf:=@Nat.le_of_lt
def Ng:=@List.nodup_nil
def Nh:=@Calls.callWith_builtin
def Ni:=@Bool.not_eq_true'
def Nj:=@List.getElem?_toArray
def Nk:=@F.slot_enumerate_next
def Nl:=@wpAny_typeNameOfWhole_itemiter
def Nm:=@wpAny_isInstance
def Nn:=@Nat.min_le_right
def No:=@Nat.lt_succ_self
def Np:=@wpAny_standAt
def Nq:=@List.sum_cons
def Nr:=@List.all_cons
def Nt:=@wpAny_typeNameOfWhole_keyiter
def Nu:=@wpAny_execs_nil
def Nv:=@Option.map_some
def Nw:=@List.of_mem_zip
def Nx:=@List.forIn_cons
def Ny:=@Int.natCast_add
def Nz:=@List.getElem?_range
def NA:=@List.flatMap_append
def NB:=@Nat.succ_mul
def ND:=@isSubtype_stop
def NE:=@Nat.mul_le_mul
def NF:=@List.getElem?_append_right
def NG:=@Int.emod_lt_of_pos
def NH:=@Bool.false_and
def NI:=@wpAny_pyIter_enum
def NJ:=@wpAny_letGo
def NL:=@sizeLine_eq
def NM:=@Obj.cls_mapFields
def NN:=@Nat.lt_succ_of_lt
def NO:=@List.flatMap_cons
def NP:=@wpAny_onRaise
def NQ:=@PySem.F.args_tuple_add_2
def NR:=@PySem.F.entry_tuple_add
def NS:=@Option.bind_some
def NT:=@Nat.min_eq_right
def NU:=@wpAny_typeOf
def NV:=@wpAny_rule
def NW:=@wpAny_isOneOf_itemiter
def NX:=@codeAny_mono
def NY:=@call_meetsIn
def NZ:=@call_meets
def N0:=@PySem.F.slot_tuple_add
def N1:=@Nat.lt_trans
def N2:=@List.range_succ_eq_map
def N3:=@List.map_nil
def N4:=@List.any_map
def N5:=@wpAny_dictEpoch
def N6:=@Nat.min_eq_left
def N7:=@List.length_set
def N8:=@List.find?_some
def N9:=@Int.emod_nonneg
def Oa:=@F.slot_zip_next
def Ob:=@wpAny_notOrdered_dict
def Oc:=@List.length_replicate
end
namespace L2
open PySem PySem.Spec PyProof.Rows
variable {s:Shared}{pos p:Pos}{x:Str}{a_:K_}{A:Around}{u:Value}{a b:Addr}{P:Program}{w:World}{h h' base:Heap}{e tg c:Expr}{t' i:Nat}{E:Of}{us:List Value}{o:Obj}{es:List Expr}{f:Value->Value->Sem Value}{ch fp:List Addr}{Q:Unit->Shared->Prop}{op:Operator}{body:List Stmt}{mg:Pn}
abbrev Key:=Sum Int Str
def tK:Key->Value->Bool
 | .inl k,v=>Value.isInt k v
 | .inr x,v=>Value.isStrOf x v
def MA(w:World):Key->Int
 | .inl k=>hashInt k
 | .inr x=>hashStr w x
def cx:∀{k:Key} {v:Value},tK k v=true->(∃i t,k=Sum.inl i/\v=Value.int i t)\/(∃x t,k=Sum.inr x/\v=Value.str x t)
 | .inl i,v,h=>by
  obtain⟨t,e⟩:=Value.isInt_shape (k:=i) (v:=v) h;exact .inl ⟨i,t,rfl,e⟩
 | .inr x,v,h=>by
  obtain⟨t,e⟩:=Value.isStrOf_shape (x:=x) (v:=v) h;exact .inr ⟨x,t,rfl,e⟩
def BA(i:Int)(t:Tok):tK (.inl i) (.int i t)=true:=by simp[tK,Value.isInt]
def Bz(x:Str)(t:Tok):tK (.inr x) (.str x t)=true:=by simp[tK,Value.isStrOf]
def IW(a b:Int):decide ((Sum.inl a:Key)=Sum.inl b)=(a==b):=by
 by_cases e:a=b
 ·subst e;simp
 ·have h:¬ (Sum.inl a:Key)=Sum.inl b:=λq=>e (Sum.inl.inj q)
  rw[bu h];exact(beq_eq_false_iff_ne.mpr e).symm
def IT(a b:Str):decide ((Sum.inr a:Key)=Sum.inr b)=decide (a=b):=by
 by_cases e:a=b
 ·subst e;simp
 ·have h:¬ (Sum.inr a:Key)=Sum.inr b:=λq=>e (Sum.inr.inj q)
  rw[bu h,bu e]
def IV(a:Int)(b:Str):decide ((Sum.inl a:Key)=Sum.inr b)=false:=bu (λq=>nomatch q)
def IU(a:Str)(b:Int):decide ((Sum.inr a:Key)=Sum.inl b)=false:=bu (λq=>nomatch q)
def bL(prog:Program)(w:World):PySem.KeyKind prog w Key where
 is:=tK
 hash:=MA w
 inj:=λv a b ha hb=>by
  rcases cx ha with ⟨i,t,rfl,rfl⟩|⟨x,t,rfl,rfl⟩
  ·rcases cx hb with ⟨j,u,rfl,e⟩|⟨y,u,rfl,e⟩
   ·injection e with e1 _;rw[e1]
   ·exact nomatch e
  ·rcases cx hb with ⟨j,u,rfl,e⟩|⟨y,u,rfl,e⟩
   ·exact nomatch e
   ·injection e with e1 _;rw[e1]
 byValue:=λk v h=>by
  rcases cx h with ⟨i,t,rfl,rfl⟩|⟨x,t,rfl,rfl⟩<;>rfl
 pyHash:=λhv h=>by
  rcases cx hv with ⟨i,t,rfl,rfl⟩|⟨x,t,rfl,rfl⟩
  ·exact wpAny_pyHash_int h
  ·exact wpAny_pyHash_str h
 eqBool:=λhu hv h=>by
  rcases cx hu with ⟨i,t,rfl,rfl⟩|⟨x,t,rfl,rfl⟩
  ·rcases cx hv with ⟨j,u,rfl,rfl⟩|⟨y,u,rfl,rfl⟩
   ·rw[IW]at h;exact wpAny_eqBool_int h
   ·rw[IV]at h;exact SeqAt.EqAt.int_str i t y u _ _ _ _ h
  ·rcases cx hv with ⟨j,u,rfl,rfl⟩|⟨y,u,rfl,rfl⟩
   ·rw[IU]at h;exact SeqAt.EqAt.str_int x t j u _ _ _ _ h
   ·rw[IT]at h;exact wpAny_eqBool_str h
 «strs»:=λk x t v h=>by
  rcases cx h with ⟨i,u,rfl,e⟩|⟨y,u,rfl,e⟩
  ·exact nomatch e
  ·injection e with e1 _;subst e1
   cases v<;>rfl
def wG(prog:Program)(w:World)(i:Int)(t:Tok):(bL prog w).is (.inl i) (.int i t)=true:=BA i t
def wF(prog:Program)(w:World)(x:Str)(t:Tok):(bL prog w).is (.inr x) (.str x t)=true:=Bz x t
inductive V where
 | OU|bl (b:Bool)|int (i:Int)|str (x:Str)|ZQ (b:Array UInt8)|flt (b:UInt64)|ref (a:Addr)|ty (n:String)
 deriving DecidableEq
def RelV:V->Value->Prop
 | .OU,u=>u=Value.none
 | .bl b,u=>u=Value.bool b
 | .int i,u=>∃t,u=Value.int i t
 | .str x,u=>∃t,u=Value.str x t
 | .ZQ b,u=>∃t,u=Value.bytes b t
 | .flt b,u=>∃t,u=Value.float b t
 | .ref a,u=>u=Value.ref a
 | .ty n,u=>u=Value.type n
abbrev Vals:List V->List Value->Prop:=Paired RelV
def Vals.length{xs:List V}(r:Vals xs us):xs.length=us.length:=Paired.length r
def Vals.get:∀{xs:List V} {us:List Value} {i:Nat} {x:V},Vals xs us->xs[i]? = some x->∃u,us[i]? = some u/\RelV x u
 | _,_,_,_,.nil,e=>by simp at e
 | _,_,0,_,.cons r _,e=>by simp at e;subst e;exact⟨_,rfl,r⟩
 | _,_,i+1,x,.cons _ t,e=>by
  obtain⟨u,h1,h2⟩:=Vals.get (i:=i) (x:=x) t (by simpa using e);exact⟨u,by simpa using h1,h2⟩
def Vals.set{x:V}(r:RelV x u):∀{xs:List V} {us:List Value} (i:Nat),Vals xs us->Vals (xs.set i x) (us.set i u)
 | _,_,_,.nil=>.nil
 | _,_,0,.cons _ t=>.cons r t
 | _,_,i+1,.cons q t=>.cons q (Vals.set r i t)
def Vals.append:∀{xs ys:List V} {us ws:List Value},Vals xs us->Vals ys ws->Vals (xs++ys) (us++ws):=by
 intro xs ys us ws h s
 induction h with
 | nil=>exact s
 | cons r _ ih=>exact .cons r ih
def Vals.take:∀{xs:List V} {us:List Value} (n:Nat),Vals xs us->Vals (xs.take n) (us.take n)
 | _,_,0,_=>.nil
 | _,_,_+1,.nil=>.nil
 | _,_,n+1,.cons r t=>.cons r (Vals.take n t)
def Vals.drop:∀{xs:List V} {us:List Value} (n:Nat),Vals xs us->Vals (xs.drop n) (us.drop n)
 | _,_,0,r=>r
 | _,_,_+1,.nil=>.nil
 | _,_,n+1,.cons _ t=>Vals.drop n t
def Qx:Option V->Option Value->Prop
 | some v,some u=>RelV v u
 | none,none=>True
 | _,_=>False
def KV{κ:Type}:List (κ×V)->List (κ×Value)->Prop:=Paired λ(p:κ×V) (q:κ×Value)=>p.1=q.1/\RelV p.2 q.2
def kV:Key->V
 | .inl i=>.int i
 | .inr x=>.str x
inductive HO where
 | lst (xs:List V)
 | tup (xs:List V)
 | dK (kvs:List (Key×V))|dT (kvs:List (List Key×V))
 | set (S:Int->Bool) (n:Nat)
 | ins (C dx:Addr) (fs:List (Str×V))
 | own (x:Addr)
 | xd (fs:List (Str×V))
 | met (f x:Addr)
 | UW (lo hi:Int)
 | OQ (o:Obj) (u:HO)
 | WZ (ps:Array Value)
 | obj (o:Obj)
 | ext (φ:Heap->Prop)
abbrev Hp:=Addr->Option HO
def upd(H:Hp)(a:Addr)(o:HO):Hp:=λb=>if b=a then some o else H b
def aJ{H:Hp}{o:HO}:upd H a o a=some o:=by unfold upd;rw[al rfl]
def aD{H:Hp}{o:HO}(h:b≠a):upd H a o b=H b:=by unfold upd;rw[ar h]
def wD{H:Hp}{o u:HO}(h:H a=some o)(h':H b=some u)(d:o≠u):a≠b:=by
 intro e;subst e;rw[h]at h';exact d (Option.some.inj h')
def aR{H:Hp}{o:HO}(h:H a=some o)(h':H b=none):a≠b:=by
 intro e;subst e;rw[h]at h';cases h'
section
variable (P:Program) (w:World)
def _root_.L2.T8(h:Heap)(a:Addr):Prop:=∃o,h.get? a=some o/\o.dict=none
def _root_.L2.T8.new(h:Heap)(items:Array Value):T8 (h.push { cls:=.type "tuple",data:=.seq items }) h.objs.size:=⟨_,OX _ rfl,rfl⟩
def v_(H:Hp)(h:Heap)(a:Addr):HO->Prop
 | .lst xs=>xs.length<=sizeLine/\∃(k_:List Value) (n:Nat),Vals xs k_/\h.get? a=some { cls:=.type "list",data:=.seq k_.toArray n }
 | .tup xs=>xs.length<=sizeLine/\∃k_:List Value,Vals xs k_/\IsTup h a k_.toArray/\T8 h a
 | .dK kvs=>kvs.length<=sizeLine/\(a==sysModules)=false/\∃vs,KV kvs vs/\h.DictOf (bL P w) a vs
 | .dT kvs=>kvs.length<=sizeLine/\(a==sysModules)=false/\∃xs:List (List Key×Addr×Value),
   Paired (λ(p:List Key×V) (q:List Key×Addr×Value)=>p.1=q.1/\H q.2.1=some (.tup (p.1.map kV))/\RelV p.2 q.2.2) kvs xs /\
   ∃o es ep,h.get? a=some o/\o.ExactDict/\o.data=.dict es ep/\es.toList=xs.map (entryOfKey (tupleKind (bL P w)))/\(xs.map (·.1)).Nodup
 | .set S n=>h.SetOf (intKind P w) a S n
 | .ins C dx fs=>H dx=some (.own a)/\fs.length<=1000/\dx≠a/\h.get? a=some (PySem.W.instObj C dx) /\
   ∃mA,h.Ns1 dx mA/\(∀f,Qx (fs.lookup f) (mA f))/\PySem.Within mA (fs.map (·.1))
 | .own _=>∃o,h.get? a=some o
 | .xd fs=>∃mA,h.Ns1 a mA/\∀f,Qx (fs.lookup f) (mA f)
 | .UW lo hi=>∃t u v,h.get? a=some { cls:=.type "range",data:=.fields #[.int lo t,.int hi u,.int 1 v] }
 | .OQ o u=>h.get? a=some o/\v_ H h a u
 | .WZ ps=>h.get? a=some { cls:=.none,data:=.fields ps }
 | .obj o=>h.get? a=some o
 | .met f x=>h.get? a=some (PySem.W.methodObj (.ref f) (.ref x))
 | .ext φ=>φ h/\(∃o,h.get? a=some o)/\∀h1 h2:Heap,φ h1->(∀o,h1.get? a=some o->h2.get? a=some o)->φ h2
def O5(H:Hp)(h:Heap):Prop:=∀a o,H a=some o->v_ P w H h a o
end
section
variable {H H':Hp} {o:HO}
def v_.lt(x:v_ P w H h a o):a<h.objs.size:=by
 cases o with
 | lst xs=>obtain⟨_,_,_,_,e⟩:=x;exact ay e
 | tup xs=>obtain⟨_,_,_,p⟩:=x;exact p.1.lt
 | dK kvs=>obtain⟨_,_,_,_,o,_,_,e,_⟩:=x;exact ay e
 | dT kvs=>obtain⟨_,_,_,_,o,_,_,e,_⟩:=x;exact ay e
 | set S n=>obtain⟨o,_,_,_,e,_⟩:=x;exact ay e
 | ins C dx fs=>obtain⟨_,_,_,e,_⟩:=x;exact ay e
 | own y=>obtain⟨_,e⟩:=x;exact ay e
 | xd fs=>obtain⟨_,⟨_,_,_,e,_⟩,_⟩:=x;exact ay e
 | UW lo hi=>obtain⟨_,_,_,e⟩:=x;exact ay e
 | OQ ob u=>obtain⟨e,_⟩:=x;exact ay e
 | WZ ps=>exact ay (show h.get? a=some _ from x)
 | obj ob=>exact ay (show h.get? a=some _ from x)
 | met f y=>exact ay (show h.get? a=some _ from x)
 | ext φ=>obtain⟨_,⟨_,e⟩,_⟩:=x;exact ay e
def Paired.Xf{α β:Type}{F G:α->β->Prop}:∀{l₁:List α} {l₂:List β},Paired F l₁ l₂->(∀a b,F a b->G a b)->Paired G l₁ l₂:=by
 intro l₁ l₂ h f
 induction h with
 | nil=>exact .nil
 | cons r _ ih=>exact .cons (f _ _ r) ih
def v_.QY(x:v_ P w H h a o)(k:∀b u,(b=a\/H b=some (.own a))->h.get? b=some u->h'.get? b=some u)
  (ho:∀b,H b=some (.own a)->H' b=some (.own a)) (ht:∀b xs,H b=some (.tup xs)->H' b=some (.tup xs)):v_ P w H' h' a o:=by
 induction o with
 | lst xs=>obtain⟨z,k_,n,r,e⟩:=x;exact⟨z,k_,n,r,k _ _ (.inl rfl) e⟩
 | tup xs=>obtain⟨z,k_,r,⟨ob,e,c⟩,ob2,e2,c2⟩:=x;exact⟨z,k_,r,⟨ob,k _ _ (.inl rfl) e,c⟩,ob2,k _ _ (.inl rfl) e2,c2⟩
 | dK kvs=>obtain⟨z,y,vs,r,ob,es,ep,e,c⟩:=x;exact⟨z,y,vs,r,ob,es,ep,k _ _ (.inl rfl) e,c⟩
 | dT kvs =>
  obtain⟨z,y,xs,r,ob,es,ep,e,c⟩:=x;exact⟨z,y,xs,Paired.Xf r λp q z=>⟨z.1,ht _ _ z.2.1,z.2.2⟩,ob,es,ep,k _ _ (.inl rfl) e,c⟩
 | set S n=>obtain⟨ob,es,ep,t,e,c⟩:=x;exact⟨ob,es,ep,t,k _ _ (.inl rfl) e,c⟩
 | ins C dx fs =>
  obtain⟨d,z,ne,e,mA,⟨od,es,ep,e2,c⟩,r⟩:=x;exact⟨ho _ d,z,ne,k _ _ (.inl rfl) e,mA,⟨od,es,ep,k _ _ (.inr d) e2,c⟩,r⟩
 | own y=>obtain⟨ob,e⟩:=x;exact⟨ob,k _ _ (.inl rfl) e⟩
 | xd fs=>obtain⟨mA,⟨od,es,ep,e,c⟩,r⟩:=x;exact⟨mA,⟨od,es,ep,k _ _ (.inl rfl) e,c⟩,r⟩
 | UW lo hi=>obtain⟨t,u,v,e⟩:=x;exact⟨t,u,v,k _ _ (.inl rfl) e⟩
 | OQ ob u ih=>obtain⟨e,q⟩:=x;exact⟨k _ _ (.inl rfl) e,ih q⟩
 | WZ ps =>
  have e:h.get? a=some { cls:=.none,data:=.fields ps }:=x;show h'.get? a=some { cls:=.none,data:=.fields ps };exact k a _ (.inl rfl) e
 | met f y =>
  have e:h.get? a=some (PySem.W.methodObj (.ref f) (.ref y)):=x;show h'.get? a=some (PySem.W.methodObj (.ref f) (.ref y));exact k a _ (.inl rfl) e
 | obj ob=>exact k a _ (.inl rfl) (show h.get? a=some ob from x)
 | ext φ=>obtain⟨p,⟨o,e⟩,st⟩:=x;exact⟨st _ _ p λo q=>k _ _ (.inl rfl) q,⟨o,k _ _ (.inl rfl) e⟩,st⟩
def O5.lt(x:O5 P w H h)(e:H a=some o):a<h.objs.size:=(x a o e).lt
def O5.fresh(x:O5 P w H h)(e:h.objs.size<=a):H a=none:=by
 cases q:H a with
 | none=>rfl
 | some u=>exact absurd (bo (x.lt q) e) (nu _)
def O5.kept(x:O5 P w H h)(k:∀b u,h.get? b=some u->h'.get? b=some u):O5 P w H h':=λa o e =>
 (x a o e).QY (λb u _ q=>k b u q) (λ_ q=>q) λ_ _ q=>q
def O5.laid(x:O5 P w H h)(k:∀b u,h.get? b=some u->h'.get? b=some u)(hp:h.objs.size<=a)(new:v_ P w (upd H a o) h' a o):O5 P w (upd H a o) h':=λb u e=>by
 have hn:=x.fresh hp;by_cases hb:b=a
 ·subst hb;rw[aJ]at e;cases e;exact new
 ·rw[aD hb]at e;exact(x b u e).QY (λc v _ q=>k c v q) (λc q=>by rw[aD (aR q hn)];exact q) λc xs q=>by rw[aD (aR q hn)];exact q
end
def Rd(H:Hp)(a:Addr)(u:HO):Prop:=H a=some u\/∃o,H a=some (.OQ o u)
def Rd.ok{H:Hp}{u:HO}(r:Rd H a u)(x:O5 P w H h):v_ P w H h a u:=by
 rcases r with r|⟨o,r⟩
 ·exact x a u r
 ·obtain⟨_,q⟩:=x a _ r;exact q
def ZZ:Option HO->Prop
 | some (.lst _)=>True
 | some (.dK _)=>True
 | some (.dT _)=>True
 | some (.set _ _)=>True
 | some (.obj _)=>True
 | some (.ins _ _ _)=>True
 | some (.ext _)=>True
 | _=>False
section
variable {H:Hp} {x e:Addr} {o':HO}
def O5.write(ok:O5 P w H h)(mu:ZZ (H x))(he:e=x\/H e=some (.own x))(k:∀b u,b≠e->h.get? b=some u->h'.get? b=some u)(Ye:∃u,h'.get? e=some u)
  (new:v_ P w (upd H x o') h' x o'):O5 P w (upd H x o') h':=λb u q=>by
 have Y2:∀c y,H c=some (.own y)->c≠x:=λc y r z=>by subst z;rw[r]at mu;exact mu
 have zab:∀c xs,H c=some (.tup xs)->c≠x:=λc xs r z=>by subst z;rw[r]at mu;exact mu
 by_cases hb:b=x
 ·subst hb;rw[aJ]at q;cases q;exact new
 ·rw[aD hb]at q;by_cases Xz:b=e
  ·have q':H b=some (.own x):=by
    rcases he with z|z
    ·exact absurd (Xz.trans z) hb
    ·rw[Xz];exact z
   rw[q]at q';cases q';obtain⟨v,hv⟩:=Ye;exact⟨v,by rw[Xz];exact hv⟩
  ·refine(ok b u q).QY (λc v hc r=>k c v ?_ r) (λc r=>by rw[aD (Y2 c b r)];exact r) λc xs r=>by rw[aD (zab c xs r)];exact r
   rcases hc with rfl|hc
   ·exact Xz
   ·rintro rfl;rcases he with z|z
    ·exact Y2 c b hc z
    ·rw[hc]at z;cases z;exact hb rfl
end
structure Un(fs ex:List Addr)(H H':Hp)(h h':Heap):Prop where
 keep:∀b o,h.get? b=some o->H b=none->b∉fs->b∉ex->h'.get? b=some o
 slot:∀b o,h.get? b=some o->H b=none->b∈fs->b∉ex->∃sl,h'.get? b=some { o with slots:=sl }
 free:∀b o,h.get? b=some o->H b=none->b∉ex->H' b=none
 there:∀b o,h.get? b=some o->b∉ex->∃o',h'.get? b=some o'
 Qm:∀b xs,H b=some (.tup xs)->H' b=some (.tup xs)
 Qb:∀b o u,H b=some (.OQ o u)->H' b=some (.OQ o u)
 Qn:∀b ps,H b=some (.WZ ps)->∃more,H' b=some (.WZ (ps++more))
section
variable {fs fs' ex ex':List Addr} {H H1 H2:Hp} {h1 h2:Heap} {x e:Addr} {o:HO}
def Un.any(u:Un fs ex H H1 h h1){ob:Obj}(q:h.get? b=some ob)(n:H b=none)(hx:b∉ex):∃sl,h1.get? b=some { ob with slots:=sl }:=by
 by_cases hb:b∈fs
 ·exact u.slot b ob q n hb hx
 ·exact⟨ob.slots,u.keep b ob q n hb hx⟩
def Un.kept(k:∀b u,h.get? b=some u->h'.get? b=some u):Un fs ex H H h h' :=
 ⟨λb ob q _ _ _=>k b ob q,λb ob q _ _ _=>⟨ob.slots,k b ob q⟩,λ_ _ _ n _=>n,λb ob q _=>⟨ob,k b ob q⟩,λ_ _ q=>q,λ_ _ _ q=>q,λ_ ps q=>⟨#[],by rw[q];simp⟩⟩
def Un.refl:Un fs ex H H h h:=Un.kept λ_ _ q=>q
def Un.laid(k:∀b u,h.get? b=some u->h'.get? b=some u)(hp:h.objs.size<=a)(hn:H a=none):Un fs ex H (upd H a o) h h' where
 keep:=λb u q _ _ _=>k b u q
 slot:=λb u q _ _ _=>⟨u.slots,k b u q⟩
 free:=λb u q n _=>by rw[aD (gu (bo (ay q) hp))];exact n
 there:=λb u q _=>⟨u,k b u q⟩
 Qm:=λb xs q=>by rw[aD (aR q hn)];exact q
 Qb:=λb u xs q=>by rw[aD (aR q hn)];exact q
 Qn:=λb ps q=>⟨#[],by rw[aD (aR q hn),q];simp⟩
def Un.write(mu:ZZ (H x))(he:e=x\/H e=some (.own x))(k:∀b u,b≠e->h.get? b=some u->h'.get? b=some u)(Ye:∃u,h'.get? e=some u):Un fs ex H (upd H x o) h h':=by
 have hx:∀b,H b=none->b≠x:=λb n z=>by subst z;rw[n]at mu;exact mu
 have hb:∀b,H b=none->b≠e:=λb n z=>by
  subst z;rcases he with r|r
  ·exact hx b n r
  ·rw[n]at r;cases r
 have hm:∀b u,H b=some u->¬ ZZ (some u)->b≠x:=λb u q nm z=>by subst z;rw[q]at mu;exact nm mu
 refine⟨λb u q n _ _=>k b u (hb b n) q,λb u q n _ _=>⟨u.slots,k b u (hb b n) q⟩,λb u q n _=>by rw[aD (hx b n)];exact n,λb u q _=>?_,
  λb xs q=>by rw[aD (hm b _ q λz=>z)];exact q,λb u xs q=>by rw[aD (hm b _ q λz=>z)];exact q,λb ps q=>⟨#[],by rw[aD (hm b _ q λz=>z),q];simp⟩⟩
 by_cases Xz:b=e
 ·subst Xz;exact Ye
 ·exact⟨u,k b u Xz q⟩
end
def Sy(h:Heap)(H:Hp):List Addr:=(List.range h.objs.size).filter λa=>(H a).isSome
def uV(h:Heap)(H:Hp):Heap:=PySem.W.hideAll h (Sy h H)
def BD(h:Heap)(H:Hp):(uV h H).objs.size=h.objs.size:=PySem.W.hideAll_size _ _
def D1{H:Hp}(e:h.get? b=some o)(n:H b=none):(uV h H).get? b=some o :=
 PySem.W.hideAll_get _ e λhm=>by
  have q:(H b).isSome=true:=(List.mem_filter.mp hm).2;rw[n]at q;simp at q
def FK{H:Hp}(e:(uV h H).get? b=some o):h.get? b=some o/\H b=none:=by
 have e':h.get? b=some o:=PySem.W.of_hideAll (Sy h H) e;refine⟨e',?_⟩
 cases q:H b with
 | none=>rfl
 | some x =>
  have hm:b∈Sy h H:=List.mem_filter.mpr ⟨List.mem_range.mpr (ay e'),by simp[q]⟩;have z:(uV h H).get? b=none:=PySem.W.hideAll_none (Sy h H) hm;rw[z]at e;cases e
structure Mod(K:PySem.W.Frag)(mg:Pn)(base:Heap):Prop where
 Zc:K.In base
 glob:base.Ns mainGlobals mg
 blt:∃mb,base.Ns builtinsNs mb/\∀x:Str,x ≠ "__name__" -> mb x=bootBuiltins x
 nolimit:base.NoLimit
structure Cx where
 prog:Program
 w:World
 K:PySem.W.Frag
 mg:Str->Option Value
 base:Heap
 A:Around
 N:List Str
 s₀:Shared
 H₀:Hp
 env:Env
 outer:List Env
 stack:List Env
 ex:List Addr
 fn:Str->Bool
 calm:Bool
 pn:List (Addr×Obj)
 xe:Value->Shared->Prop
def Q8(l:List Env):List Addr:=l.filterMap (·.frame)
abbrev Cx.fs(X:Cx):List Addr:=Q8 X.outer
def RY(sc:Scope)(x:Str):Prop:=sc.names.lookup x=some .local\/sc.names.lookup x=some .cell\/sc.names.lookup x=some .free
def Loc(sc:Scope)(x:Str):Prop:=sc.names.lookup x=some .local\/sc.names.lookup x=some .cell
def Look(env:Env)(h:Heap)(m:Pn)(x:Str)(u:Value):Prop :=
 (env.kindOf x=some .local/\m x=some u)\/((env.kindOf x=some .cell\/env.kindOf x=some .free)/\∃c,env.cells.lookup x=some c/\h.IsCell c (some u))
structure Cx.Ok(X:Cx):Prop where
 mod:Mod X.K X.mg X.base
 kind:X.env.scope.kind=.function
 glob:X.env.globals=mainGlobals
 blt:X.env.builtins=builtinsNs
 above:X.s₀.heap.objs.size<=X.env.locals
 inj:∀x y c,X.env.cells.lookup x=some c->X.env.cells.lookup y=some c->x=y
 has:∀x,(X.env.kindOf x=some .cell\/X.env.kindOf x=some .free)->∃c,X.env.cells.lookup x=some c
 XU:∀x c,X.fn x=true->X.env.cells.lookup x=some c->X.s₀.heap.objs.size<=c
 hd:X.calm=true->X.A.handled=none
 frames:X.A.frames=some X.stack
 Ua:X.stack=X.outer\/(X.stack=X.env::X.outer/\X.env.frame=some X.env.locals)
 exf:∀b∈X.ex,b≠X.env.locals/\∀x c,X.env.cells.lookup x=some c->c≠b
 bs:∀b o,X.base.get? b=some o->X.s₀.heap.get? b=some o/\X.H₀ b=none
 U8:X.base.objs.size<=X.s₀.heap.objs.size
 SO:∀b o,X.base.get? b=some o->b∉X.ex
 S_:∀b∈X.ex,b∉X.fs
 Qa:X.s₀.heap.FunFrames X.base X.outer
 VZ:∀b∈X.fs,X.H₀ b=none
structure Inv(X:Cx)(a_:K_)(Z:List (Option V))(H:Hp)(s:Shared):Prop where
 ok:X.Ok
 os:s.os=X.s₀.os
 bare:AllBare s.gens
 base:Un X.fs X.ex X.H₀ H X.s₀.heap s.heap
 loc:∃m,s.heap.Ns X.env.locals m/\∀(i:Nat) (x:Str) (v:V),X.N[i]? = some x->Z[i]? = some (some v)->RY X.env.scope x->∃u,RelV v u/\Look X.env s.heap m x u
 cell:∀x c,X.env.cells.lookup x=some c->∃v,s.heap.IsCell c v
 free:H X.env.locals=none
 OL:∀x c,X.env.cells.lookup x=some c->H c=none
 pin:∀p∈X.pn++a_,s.heap.get? p.1=some p.2/\H p.1=none/\p.1≠X.env.locals/\p.1∉X.fs/\∀v,p.2.data≠.cell v
 n_:O5 X.prog X.w H s.heap
 len:Z.length=X.N.length
section
variable {X:Cx} {Z:List (Option V)} {H H':Hp}
def Cx.Ok.Vu(ok:X.Ok)(e:X.base.get? b=some o):b∉X.fs:=λhb=>by
 have:=(ok.Qa.mem hb).1;rw[e]at this;cases this
def Inv.bs(I:Inv X a_ Z H s):∀b o,X.base.get? b=some o->s.heap.get? b=some o/\H b=none:=λb o e =>
 ⟨I.base.keep b o (I.ok.bs b o e).1 (I.ok.bs b o e).2 (I.ok.Vu e) (I.ok.SO b o e),I.base.free b o (I.ok.bs b o e).1 (I.ok.bs b o e).2 (I.ok.SO b o e)⟩
def Inv.bk(I:Inv X a_ Z H s):∀b o,X.base.get? b=some o->s.heap.get? b=some o:=λb o e=>(I.bs b o e).1
def Inv.mod(I:Inv X a_ Z H s):Mod X.K X.mg X.base:=I.ok.mod
def Inv.Sa(I:Inv X a_ Z H s):X.K.In s.heap:=I.ok.mod.Zc.keeps I.bk
def Inv.lt(I:Inv X a_ Z H s):X.env.locals<s.heap.objs.size:=let ⟨_,hn,_⟩:=I.loc;hn.lt
def Inv.sz(I:Inv X a_ Z H s):X.s₀.heap.objs.size<=s.heap.objs.size:=di I.ok.above (Nf I.lt)
def Inv.Y3(I:Inv X a_ Z H s)(h:s.heap.objs.size<=a):a∉X.fs:=λhb=>by
 obtain⟨_,o,ho,_⟩:=I.ok.Qa.mem hb;exact absurd (bo (ay ho) (di I.sz h)) (nu _)
def Inv.V5(I:Inv X a_ Z H s):∀x c,X.env.cells.lookup x=some c->c≠X.env.locals:=λx c e z=>by
 obtain⟨v,o,ho,hd⟩:=I.cell x c e;obtain⟨m,⟨o',es,ep,TX,hd',_⟩,_⟩:=I.loc;rw[z,TX]at ho;cases ho;rw[hd']at hd;cases hd
def Inv.Qa(I:Inv X a_ Z H s):s.heap.FunFrames X.base X.outer:=by
 have all:∀(l:List Env),(∀b∈Q8 l,b∈X.fs)->X.s₀.heap.FunFrames X.base l->s.heap.FunFrames X.base l:=by
  intro l
  induction l with
  | nil=>intro _ _;trivial
  | cons env r ih =>
   intro hs hl;obtain⟨hk,⟨L,o,hf,hn,ho,hd⟩,hr⟩:=hl;have hL:L∈X.fs:=hs L (by unfold Q8;rw[ny,hf];exact du);obtain⟨sl,e⟩:=I.base.slot L o ho (I.ok.VZ L hL) hL λz=>I.ok.S_ L z hL
   exact⟨hk,⟨L,_,hf,hn,e,hd⟩,ih (λb hb=>hs b (by unfold Q8;rw[ny,hf];exact QC _ hb)) hr⟩
 exact all X.outer (λ_ hb=>hb) I.ok.Qa
def Inv.stack(I:Inv X a_ Z H s):s.heap.FunFrames X.base X.stack:=by
 rcases I.ok.Ua with e|⟨e,hf⟩
 ·rw[e];exact I.Qa
 ·rw[e];obtain⟨m,hn,_⟩:=I.loc;refine .cons (by rw[I.ok.kind];decide) hf hn ?_ I.Qa;exact Heap.get?_none_of_le (di I.ok.U8 I.ok.above)
def Inv.QX(I:Inv X a_ Z H s):∀b∈Q8 X.stack,b∈X.env.locals::X.fs:=λb hb=>by
 rcases I.ok.Ua with e|⟨e,hf⟩
 ·rw[e]at hb;exact QC _ hb
 ·rw[e]at hb;unfold Q8 at hb;rw[ny,hf]at hb;exact hb
def Inv.QR(I:Inv X a_ Z H s):∀b∈Q8 X.stack,H b=none:=λb hb=>by
 rcases List.mem_cons.mp (I.QX b hb)with e|hb
 ·rw[e];exact I.free
 ·obtain⟨_,o,ho,_⟩:=I.ok.Qa.mem hb;exact I.base.free b o ho (I.ok.VZ b hb) λz=>I.ok.S_ b z hb
theorem Inv.step{g':Array GenState}{d':Drawn}(I:Inv X a_ Z H s)
  (RI:∀b∈ch,(b∈X.ex\/X.s₀.heap.objs.size<=b)/\b≠X.env.locals/\(∀x c,X.env.cells.lookup x=some c->c≠b)/\∀p∈X.pn++a_,p.1≠b)
  (keep:∀b o,b≠X.env.locals->b∉X.fs->b∉ch->s.heap.get? b=some o->H b=none->h'.get? b=some o)
  (slot:∀b o,b≠X.env.locals->b∈X.fs->b∉ch->s.heap.get? b=some o->H b=none->∃sl,h'.get? b=some { o with slots:=sl }) (free:∀b o,b∉ch->s.heap.get? b=some o->H b=none->H' b=none)
  (there:∀b o,b∉ch->s.heap.get? b=some o->∃o',h'.get? b=some o')
  (Qm:∀b xs,H b=some (.tup xs)->H' b=some (.tup xs)) (Qb:∀b o u,H b=some (.OQ o u)->H' b=some (.OQ o u)) (Qn:∀b ps,H b=some (.WZ ps)->∃more,H' b=some (.WZ (ps++more)))
  (ns:∀m,s.heap.Ns X.env.locals m->h'.Ns X.env.locals m) (n_:O5 X.prog X.w H' h') (hg:AllBare g') :
  Inv X a_ Z H' { s with heap:=h',gens:=g',drawn:=d',toks:=t' }:=by
 have X_:∀b o,X.s₀.heap.get? b=some o->b≠X.env.locals:=λb o e=>gu (bo (ay e) I.ok.above)
 have neC:∀b o,X.s₀.heap.get? b=some o->b∉X.ex->b∉ch:=λb o e hx hb=>by
  rcases(RI b hb).1 with z|z
  ·exact hx z
  ·exact absurd (bo (ay e) z) (nu _)
 have cellK:∀x c,X.env.cells.lookup x=some c->∀v,s.heap.IsCell c v->h'.IsCell c v:=λx c e v ⟨o,ho,hd⟩=>by
  have Y6:c∉ch:=λz=>(RI c z).2.2.1 x c e rfl
  by_cases hc:c∈X.fs
  ·obtain⟨sl,q⟩:=slot c o (I.V5 x c e) hc Y6 ho (I.OL x c e);exact⟨_,q,hd⟩
  ·exact⟨o,keep c o (I.V5 x c e) hc Y6 ho (I.OL x c e),hd⟩
 refine⟨I.ok,I.os,hg,⟨λb o e n hb hx=>?_,λb o e n hb hx=>?_,λb o e n hx=>?_,λb o e hx=>?_,λb xs e=>Qm b xs (I.base.Qm b xs e),λb o xs e=>Qb b o xs (I.base.Qb b o xs e),λb ps e=>?_⟩,?_,λx c e=>?_,?_,λx c e=>?_,λp hp=>?_,n_,I.len⟩
 ·exact keep b o (X_ b o e) hb (neC b o e hx) (I.base.keep b o e n hb hx) (I.base.free b o e n hx)
 ·obtain⟨sl,e1⟩:=I.base.slot b o e n hb hx;obtain⟨sl',e2⟩:=slot b _ (X_ b o e) hb (neC b o e hx) e1 (I.base.free b o e n hx);exact⟨sl',e2⟩
 ·obtain⟨o',e1⟩:=I.base.there b o e hx;exact free b o' (neC b o e hx) e1 (I.base.free b o e n hx)
 ·obtain⟨o',e1⟩:=I.base.there b o e hx;exact there b o' (neC b o e hx) e1
 ·obtain⟨m1,e1⟩:=I.base.Qn b ps e;obtain⟨m2,e2⟩:=Qn b _ e1;exact⟨m1++m2,by rw[e2,Array.append_assoc]⟩
 ·obtain⟨m,hn,hl⟩:=I.loc;refine⟨m,ns m hn,λi x v e1 e2 e3=>?_⟩;obtain⟨u,r,l⟩:=hl i x v e1 e2 e3;refine⟨u,r,?_⟩;rcases l with l|⟨k,c,e,z⟩
  ·exact .inl l
  ·exact .inr ⟨k,c,e,cellK x c e _ z⟩
 ·obtain⟨v,z⟩:=I.cell x c e;exact⟨v,cellK x c e v z⟩
 ·obtain⟨m,⟨o,_,_,ho,_⟩,_⟩:=I.loc;exact free _ o (λz=>(RI _ z).2.1 rfl) ho I.free
 ·obtain⟨v,o,ho,hd⟩:=I.cell x c e;exact free c o (λz=>(RI c z).2.2.1 x c e rfl) ho (I.OL x c e)
 ·obtain⟨e,n,ne,nf,d⟩:=I.pin p hp;have Y6:p.1∉ch:=λz=>(RI p.1 z).2.2.2 p hp rfl
  exact⟨keep p.1 p.2 ne nf Y6 e n,free p.1 p.2 Y6 e n,ne,nf,d⟩
theorem Inv.un(I:Inv X a_ Z H s)(u:Un X.fs [] H H' s.heap h')(n_:O5 X.prog X.w H' h'):Inv X a_ Z H' { s with heap:=h',toks:=t' }:=by
 obtain⟨m,⟨o,es,ep,ho,r⟩,_⟩:=id I.loc;obtain⟨sl,hL⟩:=u.any ho I.free (by simp)
 exact I.step (g':=s.gens) (d':=s.drawn) (ch:=[]) (λ_ z=>nomatch z) (λb o _ hb _ e n=>u.keep b o e n hb (by simp)) (λb o _ hb _ e n=>u.slot b o e n hb (by simp)) (λb o _ e n=>u.free b o e n (by simp)) (λb o _ e=>u.there b o e (by simp)) u.Qm u.Qb u.Qn (λm' hm=>by
  obtain⟨o',T6,ep',TX,r'⟩:=hm;rw[ho]at TX;cases TX
  exact⟨_,T6,ep',hL,r'⟩) n_ I.bare
theorem Inv.call{g':Array GenState}{d':Drawn}(I:Inv X a_ Z H s)(u:Un (Q8 X.stack) ch H H' s.heap h')(n_:O5 X.prog X.w H' h')(hg:AllBare g')
  (RI:∀b∈ch,(b∈X.ex\/X.s₀.heap.objs.size<=b)/\b≠X.env.locals/\(∀x c,X.env.cells.lookup x=some c->c≠b)/\∀p∈X.pn++a_,p.1≠b) :
  Inv X a_ Z H' { s with heap:=h',gens:=g',drawn:=d',toks:=t' }:=by
 obtain⟨m,⟨o,es,ep,ho,r⟩,_⟩:=id I.loc;obtain⟨sl,hL⟩:=u.any ho I.free λz=>(RI _ z).2.1 rfl
 exact I.step (ch:=ch) RI (λb o hL hb hc e n=>u.keep b o e n (λz=>(List.mem_cons.mp (I.QX b z)).elim hL hb) hc) (λb o _ _ hc e n=>u.any e n hc) (λb o hc e n=>u.free b o e n hc) (λb o hc e=>u.there b o e hc) u.Qm u.Qb u.Qn (λm' hm=>by
  obtain⟨o',T6,ep',TX,r'⟩:=hm;rw[ho]at TX;cases TX
  exact⟨_,T6,ep',hL,r'⟩) n_ hg
theorem Inv.turned{it:Addr}(I:Inv X a_ Z H s)(k:∀b o,b≠it->s.heap.get? b=some o->h'.get? b=some o)(hn:H it=none)(hL:it≠X.env.locals)
  (h1:it∈X.ex\/X.s₀.heap.objs.size<=it) (h2:∀x c,X.env.cells.lookup x=some c->c≠it) (h3:∀p∈X.pn++a_,p.1≠it):Inv X a_ Z H { s with heap:=h',toks:=t' }:=by
 have Wq:∀b u,H b=some u->b≠it:=λb u e z=>by rw[z,hn]at e;cases e
 refine I.step (g':=s.gens) (d':=s.drawn) (ch:=[it]) (λb hb=>?_) (λb o _ _ hc e _=>k b o (λz=>hc (by simp[z])) e) (λb o _ _ hc e _=>⟨o.slots,k b o (λz=>hc (by simp[z])) e⟩) (λ_ _ _ _ n=>n)
  (λb o hc e=>⟨o,k b o (λz=>hc (by simp[z])) e⟩) (λ_ _ e=>e) (λ_ _ _ e=>e) (λb ps e=>⟨#[],by rw[e];simp⟩) (λm hm=>?_) (λb u e=>?_) I.bare
 ·have e:b=it:=by simpa using hb
  subst e;exact⟨h1,hL,h2,h3⟩
 ·obtain⟨o,es,ep,ho,r⟩:=hm;exact⟨o,es,ep,k _ o (Ne.symm hL) ho,r⟩
 ·refine(I.n_ b u e).QY (λc v hc q=>k c v ?_ q) (λ_ q=>q) λ_ _ q=>q
  rcases hc with z|z
  ·rw[z];exact Wq b u e
  ·exact Wq c _ z
theorem Inv.tok(I:Inv X a_ Z H s)(t:Nat):Inv X a_ Z H { s with toks:=t }:=I.un (h':=s.heap) (t':=t) Un.refl I.n_
theorem Inv.kept(I:Inv X a_ Z H s)(k:∀b u,s.heap.get? b=some u->h'.get? b=some u):Inv X a_ Z H { s with heap:=h',toks:=t' }:=I.un (Un.kept k) (I.n_.kept k)
theorem Inv.laid{o:HO}(I:Inv X a_ Z H s)(k:∀b u,s.heap.get? b=some u->h'.get? b=some u)(hp:s.heap.objs.size<=a)(new:v_ X.prog X.w (upd H a o) h' a o) :
  Inv X a_ Z (upd H a o) { s with heap:=h',toks:=t' }:=I.un (Un.laid k hp (I.n_.fresh hp)) (I.n_.laid k hp new)
theorem Inv.write{x e:Addr}{o:HO}(I:Inv X a_ Z H s)(mu:ZZ (H x))(he:e=x\/H e=some (.own x))(k:∀b u,b≠e->s.heap.get? b=some u->h'.get? b=some u)(Ye:∃u,h'.get? e=some u)
  (new:v_ X.prog X.w (upd H x o) h' x o):Inv X a_ Z (upd H x o) { s with heap:=h',toks:=t' }:=I.un (Un.write mu he k Ye) (I.n_.write mu he k Ye new)
def Inv.QS{R7:K_}(I:Inv X a_ Z H s)(h:∀p∈R7,s.heap.get? p.1=some p.2/\H p.1=none/\p.1≠X.env.locals/\p.1∉X.fs/\∀v,p.2.data≠.cell v):Inv X R7 Z H s :=
 ⟨I.ok,I.os,I.bare,I.base,I.loc,I.cell,I.free,I.OL,λp hp=>(List.mem_append.mp hp).elim (λz=>I.pin p (pd _ z)) (h p),I.n_,I.len⟩
def qC{N:List Str}(hN:N.Nodup){j:Nat}(a:N[i]? = some x)(b:N[j]? = some x):i=j:=by
 obtain⟨h1,e1⟩:=List.getElem?_eq_some_iff.mp a;obtain⟨h2,e2⟩:=List.getElem?_eq_some_iff.mp b;exact(List.getElem_inj hN).mp (e1.trans e2.symm)
def sI{M:Model}{v:V}(I:Inv X a_ Z H s)(hN:X.N.Nodup)(hi:X.N[i]? = some x)(hx:Loc X.env.scope x)(r:RelV v u)
  (h:∀s',Inv X a_ (Z.set i (some v)) H s'->(∃a,Heap.SameBut a s.heap s'.heap/\(a=X.env.locals\/X.env.cells.lookup x=some a))->Q () s') (hf:X.fn x=true\/X.env.scope.names.lookup x=some .local:=by first|exact .inl rfl|exact .inr rfl|assumption):wpAny M A (storeName X.env x u) Q E s:=by
 obtain⟨m,hn,hl⟩:=id I.loc;have zaE:(X.env.scope.kind==.class||(X.env.scope.kind==.module&&X.env.locals != X.env.globals))=false:=by rw[I.ok.kind];rfl
 have hiσ:i<Z.length:=by rw[I.len];exact(List.getElem?_eq_some_iff.mp hi).1
 have V5:=I.V5;have tracked:∀{a:Addr} {h':Heap},(∃o,s.heap.get? a=some o/\H a=none)->Heap.SameBut a s.heap h'->O5 X.prog X.w H h':=λ{a h'} ha hs b ob e=>by
  obtain⟨_,_,Ru⟩:=ha;refine(I.n_ b ob e).QY (λc w' hc q=>(hs.2 c ?_).trans q) (λ_ q=>q) λ_ _ q=>q
  rintro rfl;rcases hc with rfl|hc
  ·rw[Ru]at e;cases e
  ·rw[Ru]at hc;cases hc
 rcases hx with hk|hk
 ·refine wpAny_storeName_local hk hn (λh' hn' hs=>?_) zaE;obtain⟨oL,_,_,hoL,_⟩:=id hn;refine h _ ⟨I.ok,I.os,I.bare,⟨λb o e n hb hx=>?_,λb o e n hb hx=>?_,I.base.free,λb o e hx=>?_,I.base.Qm,I.base.Qb,I.base.Qn⟩,⟨_,hn',λj y v' e1 e2 e3=>?_⟩,λy c e=>?_,I.free,I.OL,λp hp=>?_,tracked ⟨oL,hoL,I.free⟩ hs,by simpa using I.len⟩ ⟨_,hs,.inl rfl⟩
  ·exact(hs.2 b (gu (bo (ay e) I.ok.above))).trans (I.base.keep b o e n hb hx)
  ·obtain⟨sl,e1⟩:=I.base.slot b o e n hb hx;exact⟨sl,(hs.2 b (gu (bo (ay e) I.ok.above))).trans e1⟩
  ·obtain⟨o',e1⟩:=I.base.there b o e hx;exact⟨o',(hs.2 b (gu (bo (ay e) I.ok.above))).trans e1⟩
  ·by_cases hj:j=i
   ·subst hj;rw[hi]at e1;cases e1;rw[eE hiσ]at e2
    cases e2
    exact⟨u,r,.inl ⟨hk,by simp⟩⟩
   ·rw[ba (Ne.symm hj)]at e2;obtain⟨u',r',q⟩:=hl j y v' e1 e2 e3;refine⟨u',r',?_⟩;rcases q with ⟨k,e⟩|⟨k,c,e,z⟩
    ·refine .inl ⟨k,?_⟩;have:y≠x:=λe=>hj (qC hN e1 (e▸hi))
     simp[this,e]
    ·exact .inr ⟨k,c,e,z.sameBut hs (V5 y c e)⟩
  ·obtain⟨w',z⟩:=I.cell y c e;exact⟨w',z.sameBut hs (V5 y c e)⟩
  ·obtain⟨e,n,ne,nf,d⟩:=I.pin p hp;exact⟨(hs.2 p.1 ne).trans e,n,ne,nf,d⟩
 ·have UK:X.fn x=true:=by
   rcases hf with z|z
   ·exact z
   ·rw[z]at hk;cases hk
  obtain⟨c,hc⟩:=I.ok.has x (.inl hk);obtain⟨w',z⟩:=I.cell x c hc;refine wpAny_storeName_cell I.ok.kind hk hc z (λh' QL hs=>?_);obtain⟨oc,hoc,zax⟩:=id z;refine h { s with heap:=h' } ⟨I.ok,I.os,I.bare,⟨λb o e n hb hx=>?_,λb o e n hb hx=>?_,I.base.free,λb o e hx=>?_,I.base.Qm,I.base.Qb,I.base.Qn⟩,⟨m,hn.sameBut hs (Ne.symm (V5 x c hc)),λj y v' e1 e2 e3=>?_⟩,λy c' e=>?_,I.free,I.OL,λp hp=>?_,tracked ⟨oc,hoc,I.OL x c hc⟩ hs,by simpa using I.len⟩ ⟨c,hs,.inr hc⟩
  ·exact(hs.2 b (gu (bo (ay e) (I.ok.XU x c UK hc)))).trans (I.base.keep b o e n hb hx)
  ·obtain⟨sl,e1⟩:=I.base.slot b o e n hb hx;exact⟨sl,(hs.2 b (gu (bo (ay e) (I.ok.XU x c UK hc)))).trans e1⟩
  ·obtain⟨o',e1⟩:=I.base.there b o e hx;exact⟨o',(hs.2 b (gu (bo (ay e) (I.ok.XU x c UK hc)))).trans e1⟩
  ·by_cases hj:j=i
   ·subst hj;rw[hi]at e1;cases e1;rw[eE hiσ]at e2
    cases e2
    exact⟨u,r,.inr ⟨.inl hk,c,hc,QL⟩⟩
   ·rw[ba (Ne.symm hj)]at e2;obtain⟨u',r',q⟩:=hl j y v' e1 e2 e3;refine⟨u',r',?_⟩;rcases q with q|⟨k,c',e,z'⟩
    ·exact .inl q
    ·refine .inr ⟨k,c',e,z'.sameBut hs ?_⟩;rintro rfl;exact hj (qC hN e1 (I.ok.inj _ _ _ e hc▸hi))
  ·by_cases RU:c'=c
   ·subst RU;exact⟨_,QL⟩
   ·obtain⟨w2,z2⟩:=I.cell y c' e;exact⟨w2,z2.sameBut hs RU⟩
  ·obtain⟨e,n,ne,nf,d⟩:=I.pin p hp;refine⟨(hs.2 p.1 ?_).trans e,n,ne,nf,d⟩;intro q;rw[q,hoc]at e;have q':oc=p.2:=Option.some.inj e;exact d w' (by rw[<-q'];exact zax)
def lE{M:Model}{v:V}(I:Inv X a_ Z H s)(hN:X.N.Nodup)(hi:X.N[i]? = some x)(hx:Loc X.env.scope x)(r:RelV v u)
  (h:∀s',Inv X a_ (Z.set i (some v)) H s'->Q () s') (hf:X.fn x=true\/X.env.scope.names.lookup x=some .local:=by first|exact .inl rfl|exact .inr rfl|assumption):wpAny M A (storeName X.env x u) Q E s :=
 sI I hN hi hx r (λs' I' _=>h s' I') hf
def Inv.WL{s':Shared}(I:Inv X a_ Z H s)(ho:s'.os=s.os)(u:Un (Q8 X.stack) ch H H' s.heap s'.heap)(n_:O5 X.prog X.w H' s'.heap)(hg:AllBare s'.gens)
  (RI:∀b∈ch,(b∈X.ex\/X.s₀.heap.objs.size<=b)/\b≠X.env.locals/\(∀x c,X.env.cells.lookup x=some c->c≠b)/\∀p∈X.pn++a_,p.1≠b):Inv X a_ Z H' s':=by
 obtain⟨h',g',d',t',o'⟩:=s';have e:o'=s.os:=ho;subst e;exact I.call (g':=g') (t':=t') (d':=d') u n_ hg RI
end
abbrev XK:=Value->Option Addr->Hp->Prop
abbrev St:=List (Option V)
abbrev VK:=V->Hp->Prop
abbrev TE:=St->Hp->VK->Prop
abbrev TT:=St->Hp->(Bool->Hp->Prop)->Prop
abbrev TA:=St->Hp->(List V->Hp->Prop)->Prop
structure Ends where
 nx:St->Hp->Prop
 rt:VK
 bk:St->Hp->Prop:=λ_ _=>False
 ct:St->Hp->Prop:=λ_ _=>False
abbrev TS:=Ends->St->Hp->Prop
def EP(X:Cx)(a_:K_)(Z:St)(Q:VK)(u:Value)(s':Shared):Prop:=∃v H',Inv X a_ Z H' s'/\RelV v u/\Q v H'
def TP(X:Cx)(a_:K_)(Z:St)(Q:Bool->Hp->Prop)(b:Bool)(s':Shared):Prop:=∃H',Inv X a_ Z H' s'/\Q b H'
def AP(X:Cx)(a_:K_)(Z:St)(Q:List V->Hp->Prop)(us:List Value)(s':Shared):Prop:=∃vs H',Inv X a_ Z H' s'/\Vals vs us/\Q vs H'
def SP(X:Cx)(a_:K_)(D:Ends)(f:Flow)(s':Shared):Prop :=
 match f with
 | .next=>∃σ' H',Inv X a_ σ' H' s'/\D.nx σ' H'
 | .brk=>∃σ' H',Inv X a_ σ' H' s'/\D.bk σ' H'
 | .cont=>∃σ' H',Inv X a_ σ' H' s'/\D.ct σ' H'
 | .ret u=>∃v σ' H',Inv X a_ σ' H' s'/\RelV v u/\D.rt v H'
def PE(X:Cx)(e:Expr)(t:TE):Prop :=
 ∀(a_:K_) (s:Shared) (Z:St) (H:Hp) (Q:VK),Inv X a_ Z H s->t Z H Q->wpAny (model X.prog X.w) X.A (eval e X.env) (EP X a_ Z Q) X.xe s
def PT(X:Cx)(e:Expr)(t:TT):Prop :=
 ∀(a_:K_) (s:Shared) (Z:St) (H:Hp) (Q:Bool->Hp->Prop),Inv X a_ Z H s->t Z H Q->wpAny (model X.prog X.w) X.A (isTrue e X.env (eval e X.env)) (TP X a_ Z Q) X.xe s
def PW(X:Cx)(e:Expr)(t:TT):Prop :=
 ∀(whole:Sem Value) (a_:K_) (s:Shared) (Z:St) (H:Hp) (Q:Bool->Hp->Prop),Inv X a_ Z H s->t Z H Q->wpAny (model X.prog X.w) X.A (isTrue e X.env whole) (TP X a_ Z Q) X.xe s
def PA(X:Cx)(es:List Expr)(t:TA):Prop :=
 ∀(pos:Pos) (a_:K_) (s:Shared) (Z:St) (H:Hp) (Q:List V->Hp->Prop),Inv X a_ Z H s->t Z H Q->wpAny (model X.prog X.w) X.A (spliced (backTo pos (starEach es X.env))) (AP X a_ Z Q) X.xe s
def PS(X:Cx)(st:Stmt)(t:TS):Prop :=
 ∀(a_:K_) (s:Shared) (Z:St) (H:Hp) (D:Ends),Inv X a_ Z H s->t D Z H->wpAny (model X.prog X.w) X.A (exec st X.env) (SP X a_ D) X.xe s
def SF(X:Cx)(st:List Stmt)(t:TS):Prop :=
 ∀(a_:K_) (s:Shared) (Z:St) (H:Hp) (D:Ends),Inv X a_ Z H s->t D Z H->wpAny (model X.prog X.w) X.A (execs st X.env) (SP X a_ D) X.xe s
def u_{α:Type}{t:Sem α}{Q Q':α->Shared->Prop}{M:Model}(h:wpAny M A t Q E s)(hQ:∀a s,Q a s->Q' a s):wpAny M A t Q' E s:=se h hQ λ_ _ x=>x
section
variable {X:Cx}
def kj(i:Nat):TE:=λZ H Q=>∃v,Z[i]? = some (some v)/\Q v H
def tC(v:V):TE:=λ_ H Q=>Q v H
theorem cO(hN:X.N[i]? = some x)(hv:RY X.env.scope x)(hd:(x==("__debug__" : Str))=false:=by decide)(O2:(x==("__classdict__" : Str))=false:=by decide):PE X (.Name x pos) (kj i):=by
 intro a_ s Z H Q I h;obtain⟨v,e,h⟩:=h;obtain⟨m,hn,hl⟩:=I.loc;obtain⟨u,r,l⟩:=hl i x v hN e hv;have fin:EP X a_ Z Q u s:=⟨v,H,I,r,h⟩;rcases l with ⟨hk,hm⟩|⟨hk,c,hc,Rv⟩
 ·exact wpAny_Name (wpAny_loadName_local I.ok.kind hk hn hm fin) hd
 ·rcases hk with hk|hk
  ·exact wpAny_Name (wpAny_loadName_cell I.ok.kind hk hc Rv fin) hd
  ·exact wpAny_Name (wpAny_loadName_free I.ok.kind hk hc Rv fin O2) hd
def Dj{i j pos}:PE X (.Constant (.int i) j pos) (tC (.int i)):=λ_ _ _ H _ I h=>wpAny_Constant_int ⟨.int i,H,I.tok _,⟨_,rfl⟩,h⟩
def KZ{b j pos}:PE X (.Constant (.bool b) j pos) (tC (.bl b)):=λ_ _ _ H _ I h=>Constant_bool ⟨.bl b,H,I,rfl,h⟩
def Il{j pos}:PE X (.Constant .none j pos) (tC .OU):=λ_ _ _ H _ I h=>Constant_none ⟨.OU,H,I,rfl,h⟩
def Ij{x j pos}:PE X (.Constant (.str x) j pos) (tC (.str x)):=λ_ _ _ H _ I h=>Calls.Constant_str ⟨.str x,H,I.tok _,⟨_,rfl⟩,h⟩
def Gl(X:Cx)(x:Str):Prop:=X.env.kindOf x=some .globalImplicit
theorem lY{Z:St}{H:Hp}{Q:Of}(I:Inv X a_ Z H s)(hg:Gl X x)(hm:X.mg x=some u)(h:Q u s)
  (hd:(x==("__debug__" : Str))=false:=by decide):wpAny (model X.prog X.w) X.A (eval (.Name x pos) X.env) Q E s :=
 Calls.Name_function_global I.ok.kind hg (Calls.loadGlobal_global (by rw[I.ok.glob];exact I.mod.glob.keeps I.bk) hm h) hd
theorem i3{Z:St}{H:Hp}{Q:Of}(I:Inv X a_ Z H s)(hg:Gl X x)(hm:X.mg x=none)(hv:bootBuiltins x=some u)(h:Q u s)
  (hn:x ≠ "__name__":=by decide) (hd:(x==("__debug__" : Str))=false:=by decide):wpAny (model X.prog X.w) X.A (eval (.Name x pos) X.env) Q E s:=by
 obtain⟨mb,h1,h2⟩:=I.mod.blt;exact Calls.Name_function_global I.ok.kind hg (Calls.loadGlobal_builtin (by rw[I.ok.glob];exact I.mod.glob.keeps I.bk) hm (by rw[I.ok.blt];exact h1.keeps I.bk) ((h2 x hn).trans hv) h) hd
theorem ux{v:V}(hg:Gl X x)(hm:X.mg x=some u)(r:RelV v u)(hd:(x==("__debug__" : Str))=false:=by decide):PE X (.Name x pos) (tC v) :=
 λ_ _ _ H _ I h=>lY I hg hm ⟨v,H,I,r,h⟩ hd
theorem Fx{v:V}(hg:Gl X x)(hm:X.mg x=none)(hv:bootBuiltins x=some u)(r:RelV v u)(hn:x ≠ "__name__":=by decide)(hd:(x==("__debug__" : Str))=false:=by decide):PE X (.Name x pos) (tC v) :=
 λ_ _ _ H _ I h=>i3 I hg hm hv ⟨v,H,I,r,h⟩ hn hd
variable {a b:Expr} {ta tb:TE}
variable {tA tB':TT} {rest:List Expr}
def L8(t u:TT):TT:=λZ H Q=>t Z H λc H1=>if c=true then u Z H1 Q else Q false H1
def tOr(t u:TT):TT:=λZ H Q=>t Z H λc H1=>if c=true then Q true H1 else u Z H1 Q
def LY(t:TT):TT:=λZ H Q=>t Z H λc H1=>Q (!c) H1
def zJ(ha:PT X a tA):PW X (.BoolOp .And [a] pos) tA:=by
 intro wh a_ s Z H Q I h;refine isTrue_and (u_ (ha a_ s Z H Q I h) λc s1 e=>?_)
 cases c with
 | true=>exact isTrue_and_nil e
 | false=>exact e
def Ib(ha:PT X a tA):PW X (.BoolOp .Or [a] pos) tA:=by
 intro wh a_ s Z H Q I h;refine isTrue_or (u_ (ha a_ s Z H Q I h) λc s1 e=>?_)
 cases c with
 | false=>exact isTrue_or_nil e
 | true=>exact e
def C4(ha:PT X a tA)(hb:PW X (.BoolOp .And (b::rest) pos) tB'):PW X (.BoolOp .And (a::b::rest) pos) (L8 tA tB'):=by
 intro wh a_ s Z H Q I h;refine isTrue_and (u_ (ha a_ s Z H _ I h) λc s1 ⟨H1,I1,q1⟩=>?_)
 cases c with
 | true=>exact hb wh a_ s1 Z H1 Q I1 q1
 | false=>exact⟨H1,I1,q1⟩
def KP(ha:PT X a tA)(hb:PW X (.BoolOp .Or (b::rest) pos) tB'):PW X (.BoolOp .Or (a::b::rest) pos) (tOr tA tB'):=by
 intro wh a_ s Z H Q I h;refine isTrue_or (u_ (ha a_ s Z H _ I h) λc s1 ⟨H1,I1,q1⟩=>?_)
 cases c with
 | true=>exact⟨H1,I1,q1⟩
 | false=>exact hb wh a_ s1 Z H1 Q I1 q1
def Ic(ha:PT X a tA):PT X (.UnaryOp .Not a pos) (LY tA):=by
 intro a_ s Z H Q I h;exact isTrue_not (ha a_ s Z H (λc H1=>Q (!c) H1) I h)
def Kh(ta tb:TE):TE:=λZ H Q=>ta Z H λx H1=>∃c,x=.bl c/\if c=true then tb Z H1 Q else Q (.bl false) H1
def LX(ta tb:TE):TE:=λZ H Q=>ta Z H λx H1=>∃c,x=.bl c/\if c=true then Q (.bl true) H1 else tb Z H1 Q
def Ik{op}{t:TE}(h:PE X a t):PE X (.BoolOp op [a] pos) t:=λa_ s Z H Q I hw=>BoolOp_one (h a_ s Z H Q I hw)
def Io(ha:PE X a ta)(hb:PE X (.BoolOp .And (b::rest) pos) tb):PE X (.BoolOp .And (a::b::rest) pos) (Kh ta tb):=by
 intro a_ s Z H Q I h;refine BoolOp_and (u_ (ha a_ s Z H _ I h) λv s1 ⟨x,H1,I1,r1,q1⟩=>?_);obtain⟨c,rfl,q1⟩:=q1
 cases r1
 refine M9 ?_
 cases c with
 | true=>exact hb a_ s1 Z H1 Q I1 q1
 | false=>exact⟨.bl false,H1,I1,rfl,q1⟩
def KY(ha:PE X a ta)(hb:PE X (.BoolOp .Or (b::rest) pos) tb):PE X (.BoolOp .Or (a::b::rest) pos) (LX ta tb):=by
 intro a_ s Z H Q I h;refine BoolOp_or (u_ (ha a_ s Z H _ I h) λv s1 ⟨x,H1,I1,r1,q1⟩=>?_);obtain⟨c,rfl,q1⟩:=q1
 cases r1
 refine M9 ?_
 cases c with
 | false=>exact hb a_ s1 Z H1 Q I1 q1
 | true=>exact⟨.bl true,H1,I1,rfl,q1⟩
def tIf(t:TT)(ta tb:TE):TE:=λZ H Q=>t Z H λc H1=>if c=true then ta Z H1 Q else tb Z H1 Q
def v5(hc:PT X c tA)(ha:PE X a ta)(hb:PE X b tb):PE X (.IfExp c a b pos) (tIf tA ta tb):=by
 intro a_ s Z H Q I h;refine wpAny_IfExp (u_ (hc a_ s Z H _ I h) λd s1 ⟨H1,I1,q1⟩=>?_)
 cases d with
 | true=>exact ha a_ s1 Z H1 Q I1 q1
 | false=>exact hb a_ s1 Z H1 Q I1 q1
end
def Ot(K:PySem.W.Frag)(H:Hp)(a:Addr)(xs:List V):Prop :=
 Rd H a (.lst xs) \/
  ∃(o:Obj) (k_:Array Value) (n:Nat),K.lookup a=some o/\o.cls=.type "list" /\ o.dict=none/\o.data=.seq k_ n/\k_.size<=sizeLine/\Vals xs k_.toList
def N_(K:PySem.W.Frag)(H:Hp)(a:Addr)(xs:List V):Prop :=
 Rd H a (.tup xs) \/
  ∃(o:Obj) (k_:Array Value) (n:Nat),K.lookup a=some o/\o.cls=.type "tuple" /\ o.data=.seq k_ n/\k_.size<=sizeLine/\Vals xs k_.toList
def MM:Value->Option V
 | .none=>some .OU
 | .bool b=>some (.bl b)
 | .int i _=>some (.int i)
 | .str x _=>some (.str x)
 | .bytes b _=>some (.ZQ b)
 | .float b _=>some (.flt b)
 | .ref a=>some (.ref a)
 | .type n=>some (.ty n)
 | _=>none
def RelV.abs{x:V}(r:RelV x u):MM u=some x:=by
 cases x with
 | OU=>cases r;rfl
 | bl _=>cases r;rfl
 | int _=>obtain⟨t,rfl⟩:=r;rfl
 | str _=>obtain⟨t,rfl⟩:=r;rfl
 | ZQ _=>obtain⟨t,rfl⟩:=r;rfl
 | flt _=>obtain⟨t,rfl⟩:=r;rfl
 | ref _=>cases r;rfl
 | ty _=>cases r;rfl
def RelV.inj{x y:V}(r:RelV x u)(q:RelV y u):x=y:=Option.some.inj (r.abs.symm.trans q.abs)
def Vals.inj:∀{xs ys:List V} {us:List Value},Vals xs us->Vals ys us->xs=ys:=by
 intro xs ys us h
 induction h generalizing ys with
 | nil=>intro h2;cases h2;rfl
 | cons r _ ih =>
  intro h2
  cases h2 with
  | cons r' t'=>rw[r.inj r',ih t']
section
variable {X:Cx} {Z:St} {H:Hp} {xs ys:List V}
def Ot.of{K:PySem.W.Frag}(h:H a=some (.lst xs)):Ot K H a xs:=.inl (.inl h)
def N_.of{K:PySem.W.Frag}(h:H a=some (.tup xs)):N_ K H a xs:=.inl (.inl h)
theorem Inv.list(I:Inv X a_ Z H s)(h:Ot X.K H a xs):∃k_:List Value,Vals xs k_/\PlainL s.heap a k_.toArray/\xs.length<=sizeLine:=by
 rcases h with h|⟨o,k_,n,hk,hc,hd,hs,hz,r⟩
 ·obtain⟨z,k_,n,r,e⟩:=h.ok I.n_;exact⟨k_,r,⟨_,n,e,rfl,rfl,rfl⟩,z⟩
 ·refine⟨k_.toList,r,⟨o,n,I.Sa a o hk,hc,hd,by simpa using hs⟩,?_⟩;have e:=r.length;simp only[Cn]at e;lia
theorem Inv.tuple(I:Inv X a_ Z H s)(h:N_ X.K H a xs):∃k_:List Value,Vals xs k_/\IsTup s.heap a k_.toArray/\xs.length<=sizeLine:=by
 rcases h with h|⟨o,k_,n,hk,hc,hs,hz,r⟩
 ·obtain⟨z,k_,r,p⟩:=h.ok I.n_;exact⟨k_,r,p.1,z⟩
 ·refine⟨k_.toList,r,⟨o,I.Sa a o hk,hc,n,by simpa using hs⟩,?_⟩;have e:=r.length;simp only[Cn]at e;lia
def Inv.R9(I:Inv X a_ Z H s)(h:Ot X.K H a xs)(h':Ot X.K H a ys):xs=ys:=by
 obtain⟨k_,r,⟨o,n,e,_,_,d⟩,_⟩:=I.list h;obtain⟨its',r',⟨o',n',e',_,_,d'⟩,_⟩:=I.list h';rw[e]at e';cases e';rw[d]at d';injection d' with d1 _;have:k_=its':=by simpa using congrArg Array.toList d1
 subst this;exact r.inj r'
def Inv.Pg(I:Inv X a_ Z H s)(h:N_ X.K H a xs)(h':N_ X.K H a ys):xs=ys:=by
 obtain⟨k_,r,⟨o,e,_,n,d⟩,_⟩:=I.tuple h;obtain⟨its',r',⟨o',e',_,n',d'⟩,_⟩:=I.tuple h';rw[e]at e';cases e';rw[d]at d';injection d' with d1 _;have:k_=its':=by simpa using congrArg Array.toList d1
 subst this;exact r.inj r'
end
section
variable {X:Cx} {st:Stmt} {rest:List Stmt} {t u:TS} {te:TE}
def GR:TS:=λD Z H=>D.nx Z H
def EZ(t u:TS):TS:=λD Z H=>t { D with nx:=u D } Z H
def zN:SF X [] GR:=λ_ _ Z H _ I h=>Nu ⟨Z,H,I,h⟩
def jB(h1:PS X st t)(h2:SF X rest u):SF X (st::rest) (EZ t u):=by
 intro a_ s Z H D I h;refine wpAny_execs_cons (u_ (h1 a_ s Z H { D with nx:=u D } I h) λf s1 q=>?_)
 cases f with
 | next =>
  obtain⟨σ',H',I',q⟩:=q;exact h2 a_ s1 σ' H' D I' q
 | ret v=>exact q
 | brk=>exact q
 | cont=>exact q
def lG(h1:PS X st t):SF X [st] t:=by
 intro a_ s Z H D I h;refine wpAny_execs_cons (u_ (h1 a_ s Z H D I h) λf s1 q=>?_)
 cases f with
 | next=>exact Nu q
 | ret v=>exact q
 | brk=>exact q
 | cont=>exact q
def Fm:PS X (.Pass pos) GR:=λ_ _ Z H _ I h=>wpAny_Pass ⟨Z,H,I,h⟩
def Inv.quiet{Z:St}{H:Hp}(I:Inv X a_ Z H s):interactive X.env=false:=by simp[interactive,I.ok.kind]
def GS(te:TE):TS:=λD Z H=>te Z H λ_ H1=>D.nx Z H1
def o8(he:PE X e te)(hs:swapsWith e none pos.line X.env=pure false:=by rfl):PS X (.Expr e pos) (GS te):=by
 intro a_ s Z H D I h;exact wpAny_Expr_any (u_ (he a_ s Z H _ I h) λv s1 ⟨x,H1,I1,r1,q1⟩=>⟨Z,H1,I1,q1⟩) I.quiet hs
def HG(te:TE):TS:=λD Z H=>te Z H D.rt
def yn(he:PE X e te):PS X (.Return (some e) pos) (HG te):=by
 intro a_ s Z H D I h;exact wpAny_Return_some (u_ (he a_ s Z H _ I h) λv s1 ⟨x,H1,I1,r1,q1⟩=>⟨x,Z,H1,I1,r1,q1⟩)
def LZ(c:TT)(t u:TS):TS:=λD Z H=>c Z H λb H1=>if b=true then t D Z H1 else u D Z H1
def KR{a b:List Stmt}{tc:TT}(hc:PT X c tc)(ha:SF X a t)(hb:SF X b u):PS X (.If c a b pos) (LZ tc t u):=by
 intro a_ s Z H D I h;refine wpAny_If (u_ (hc a_ s Z H _ I h) λd s1 ⟨H1,I1,q1⟩=>?_)
 cases d with
 | true=>exact ha a_ s1 Z H1 D I1 q1
 | false=>exact hb a_ s1 Z H1 D I1 q1
end
abbrev TG:=V->St->Hp->(St->Hp->Prop)->Prop
abbrev Wb:=List V->St->Hp->(St->Hp->Prop)->Prop
def PG(X:Cx)(target:Expr)(t:TG):Prop :=
 ∀(a_:K_) (s:Shared) (Z:St) (H:Hp) (v:V) (u:Value) (Q:St->Hp->Prop),Inv X a_ Z H s->RelV v u->t v Z H Q ->
  wpAny (model X.prog X.w) X.A (assign target X.env u) (λ_ s'=>∃σ' H',Inv X a_ σ' H' s'/\Q σ' H') X.xe s
def Yv(X:Cx)(ts:List Expr)(t:Wb):Prop :=
 ∀(a_:K_) (s:Shared) (Z:St) (H:Hp) (vs:List V) (us:List Value) (Q:St->Hp->Prop),Inv X a_ Z H s->Vals vs us->t vs Z H Q ->
  wpAny (model X.prog X.w) X.A (assignInOrder ((assignEach ts X.env).map (·.2)) us) (λ_ s'=>∃σ' H',Inv X a_ σ' H' s'/\Q σ' H') X.xe s
abbrev EO:=V->V->V->Hp->(Hp->Prop)->Prop
def JT(X:Cx)(t:EO):Prop :=
 ∀(a_:K_) (s:Shared) (Z:St) (H:Hp) (o i v:V) (ov iv u:Value) (Q:Hp->Prop),Inv X a_ Z H s->RelV o ov->RelV i iv->RelV v u->t o i v H Q ->
  wpAny (model X.prog X.w) X.A (setItem ov iv u) (λ_ s'=>∃H',Inv X a_ Z H' s'/\Q H') X.xe s
abbrev Wa:=V->V->Hp->VK->Prop
def Yu(X:Cx)(op:Operator)(t:Wa):Prop :=
 ∀(a_:K_) (s:Shared) (Z:St) (H:Hp) (x y:V) (v u:Value) (Q:VK),Inv X a_ Z H s->RelV x v->RelV y u->t x y H Q ->
  wpAny (model X.prog X.w) X.A (inplaceOp op v u) (EP X a_ Z Q) X.xe s
section
variable {X:Cx}
def gn(i:Nat):TG:=λv Z H Q=>Q (Z.set i (some v)) H
def lH(hN:X.N.Nodup)(hi:X.N[i]? = some x)(hx:Loc X.env.scope x)(hf:X.fn x=true\/X.env.scope.names.lookup x=some .local:=by first|exact .inl rfl|exact .inr rfl|assumption):PG X (.Name x pos) (gn i):=by
 intro a_ s Z H v u Q I r h;exact wpAny_assign_Name (lE I hN hi hx r (λs' I'=>⟨_,H,I',h⟩) hf)
def Jd:Wb:=λvs Z H Q=>vs=[]/\Q Z H
def wY(t:TG)(u:Wb):Wb:=λvs Z H Q=>∃v r,vs=v::r/\t v Z H λσ' H'=>u r σ' H' Q
def zS:Yv X [] Jd:=by
 intro a_ s Z H vs us Q I r h;obtain⟨e,h⟩:=h;subst e
 cases r
 exact assignInOrder_nil ⟨Z,H,I,h⟩
def qq{t:TG}{u:Wb}(h1:PG X e t)(h2:Yv X es u)
  (hs:(assignEach (e::es) X.env).map (·.2)=assign e X.env::(assignEach es X.env).map (·.2):=by rfl):Yv X (e::es) (wY t u):=by
 intro a_ s Z H vs us Q I r h;obtain⟨v,vr,e1,h⟩:=h;subst e1
 cases r with
 | cons r rr =>
  rw[hs];refine assignInOrder_cons (u_ (h1 a_ s Z H _ _ _ I r h) λ_ s1 ⟨σ1,H1,I1,q1⟩=>?_);exact h2 a_ s1 σ1 H1 _ _ Q I1 rr q1
def Jc(K:PySem.W.Frag)(n:Nat)(t:Wb):TG:=λv Z H Q=>∃a xs,v=.ref a/\N_ K H a xs/\xs.length=n/\t xs Z H Q
theorem Dg{k:Nat}{t:Wb}{n:Nat}(hc:X.calm=true)(h:Yv X es t)
  (hn:(assignEach es X.env).length=n:=by rfl) (TV:(assignEach es X.env).findIdx? (·.1)=none:=by rfl):PG X (.Tuple es k pos) (Jc X.K n t):=by
 intro a_ s Z H v u Q I r hw;obtain⟨a,xs,e1,hq,hl,hw⟩:=hw;subst e1
 cases r
 obtain⟨k_,rv,ht,hz⟩:=I.tuple hq;refine assign_Tuple_tuple (I.ok.hd hc) ht (by simp[hn,<-hl,rv.length]) TV λh' hx=>?_
 have I1:Inv X a_ Z H { s with heap:=h' }:=I.kept (t':=s.toks) λb o e=>hx b o (gu (ay e)) e
 exact h a_ _ Z H xs _ Q I1 (by simpa using rv) hw
def ME(to ti:TE)(t:EO):TG:=λv Z H Q=>to Z H λo H1=>ti Z H1 λi H2=>t o i v H2 λH3=>Q Z H3
def Ii{o i:Expr}{to ti:TE}{t:EO}(ho:PE X o to)(hi:PE X i ti)(hs:JT X t)
  (ha:∀v,assign (.Subscript o i pos) X.env v=(do
   let ov <-holding [v] (eval o X.env)
   let iv <-holding [v,ov] (eval i X.env)
   standAt pos
   holding [v,ov,iv] (setItem ov iv v)
   release [v,ov,iv] []):=by intro _;rfl):PG X (.Subscript o i pos) (ME to ti t):=by
 intro a_ s Z H v u Q I r h;rw[ha];refine i_ (um (u_ (ho a_ s Z H _ I h) λov s1 ⟨x,H1,I1,r1,q1⟩=>?_));refine i_ (um (u_ (hi a_ s1 Z H1 _ I1 q1) λiv s2 ⟨y,H2,I2,r2,q2⟩=>?_));refine i_ (Np (i_ (um (u_ (hs a_ s2 Z H2 x y v ov iv u _ I2 r1 r2 r q2) λ_ s3 ⟨H3,I3,q3⟩=>?_))));exact wpAny_release ⟨Z,H3,I3,q3⟩
def E3(te:TE)(g:TG):TS:=λD Z H=>te Z H λx H1=>g x Z H1 D.nx
def C8{te:TE}{g:TG}(he:PE X e te)(hg:PG X tg g)(hs:swapsWithSole [tg] e pos.line X.env=pure false:=by rfl)(hw:swappedStores [tg] e X.env=pure none:=by rfl)
  (h1:(assignEach [tg] X.env).map (·.2)=[assign tg X.env]:=by rfl):PS X (.Assign [tg] e pos) (E3 te g):=by
 intro a_ s Z H D I h;refine wpAny_Assign_stores (u_ (he a_ s Z H _ I h) λv s1 ⟨x,H1,I1,r1,q1⟩=>?_) hs hw;rw[h1];exact u_ (hg a_ s1 Z H1 x v _ I1 r1 q1) λ_ s2 q=>q
def jC{te:TE}{pos':Pos}(hN:X.N.Nodup)(hi:X.N[i]? = some x)(hx:Loc X.env.scope x)(he:PE X e te)(hs:swapsWith e (some (.Name x pos')) pos.line X.env=pure false:=by rfl)(hf:X.fn x=true\/X.env.scope.names.lookup x=some .local:=by first|exact .inl rfl|exact .inr rfl|assumption) :
  PS X (.Assign [.Name x pos'] e pos) (E3 te (gn i)):=by
 intro a_ s Z H D I h;refine wpAny_Assign_Name (u_ (he a_ s Z H _ I h) λv s1 ⟨y,H1,I1,r1,q1⟩=>?_) hs;exact lE I1 hN hi hx r1 (λs2 I2=>⟨_,H1,I2,q1⟩) hf
def L7(i:Nat)(te:TE)(ti:Wa):TS:=λD Z H=>∃x,Z[i]? = some (some x)/\te Z H λy H1=>ti x y H1 λz H2=>D.nx (Z.set i (some z)) H2
theorem Ie{te:TE}{ti:Wa}{pos':Pos}(hN:X.N.Nodup)(hi:X.N[i]? = some x)(hx:Loc X.env.scope x)(he:PE X e te)(ho:Yu X op ti)(hf:X.fn x=true\/X.env.scope.names.lookup x=some .local:=by first|exact .inl rfl|exact .inr rfl|assumption) :
  PS X (.AugAssign (.Name x pos') op e pos) (L7 i te ti):=by
 intro a_ s Z H D I h;obtain⟨v,e1,h⟩:=h;obtain⟨m,hn,hl⟩:=I.loc;have vis:RY X.env.scope x:=by rcases hx with k|k;exact .inl k;exact .inr (.inl k)
 obtain⟨u,r,l⟩:=hl i x v hi e1 vis;refine wpAny_AugAssign_Name ?_;have go:wpAny (model X.prog X.w) X.A (eval e X.env) (λw s₂=>wpAny (model X.prog X.w) X.A (inplaceOp op u w) (λr s₃=>wpAny (model X.prog X.w) X.A (storeName X.env x r) (λ_=>SP X a_ D .next) X.xe s₃) X.xe s₂) X.xe s:=by
  refine u_ (he a_ s Z H _ I h) λw s1 ⟨y,H1,I1,r1,q1⟩=>?_
  refine u_ (ho a_ s1 Z H1 v y u w _ I1 r r1 q1) λz s2 ⟨zv,H2,I2,r2,q2⟩=>?_
  exact lE I2 hN hi hx r2 (λs3 I3=>⟨_,H2,I3,q2⟩) hf
 rcases l with ⟨hk,hm⟩|⟨hk,c,hc,Rv⟩
 ·exact wpAny_loadName_local I.ok.kind hk hn hm go
 ·rcases hk with hk|hk
  ·exact wpAny_loadName_cell I.ok.kind hk hc Rv go
  ·rcases hx with k|k
   ·have:X.env.scope.names.lookup x=some .free:=hk;rw[k]at this;cases this
   ·have:X.env.scope.names.lookup x=some .free:=hk;rw[k]at this;cases this
def Kg(to ti te:TE)(Vg:V->V->Hp->VK->Prop)(tip:Wa)(Ve:EO):TS:=λD Z H=>to Z H λo H1=>ti Z H1 λi H2=>Vg o i H2 λx H3=>te Z H3 λy H4=>tip x y H4 λz H5=>Ve o i z H5 λH6=>D.nx Z H6
def LQ(X:Cx)(t:V->V->Hp->VK->Prop):Prop :=
 ∀(a_:K_) (s:Shared) (Z:St) (H:Hp) (o i:V) (ov iv:Value) (Q:VK),Inv X a_ Z H s->RelV o ov->RelV i iv->t o i H Q ->
  wpAny (model X.prog X.w) X.A (getItem ov iv) (EP X a_ Z Q) X.xe s
theorem Fo{o i:Expr}{to ti te:TE}{Vg:V->V->Hp->VK->Prop}{tip:Wa}{Ve:EO}{Ov:Pos}(ho:PE X o to)(hi:PE X i ti)(hg:LQ X Vg)(he:PE X e te)(hp:Yu X op tip)(hs:JT X Ve)
  (ha:∀ov iv new,augStore i ov iv new=(do holding [new,ov,iv] (setItem ov iv new);release [new,ov,iv] [];pure .next):=by intros;rfl):PS X (.AugAssign (.Subscript o i Ov) op e pos) (Kg to ti te Vg tip Ve):=by
 intro a_ s Z H D I h;refine wpAny_AugAssign_SubscriptAny (u_ (ho a_ s Z H _ I h) λov s1 ⟨x1,H1,I1,r1,q1⟩=>?_) ha;refine u_ (hi a_ s1 Z H1 _ I1 q1) λiv s2 ⟨x2,H2,I2,r2,q2⟩=>?_
 refine u_ (hg a_ s2 Z H2 x1 x2 ov iv _ I2 r1 r2 q2) λold s3 ⟨x3,H3,I3,r3,q3⟩=>?_
 refine u_ (he a_ s3 Z H3 _ I3 q3) λv s4 ⟨x4,H4,I4,r4,q4⟩=>?_
 refine u_ (hp a_ s4 Z H4 x3 x4 old v _ I4 r3 r4 q4) λnew s5 ⟨x5,H5,I5,r5,q5⟩=>?_
 exact u_ (hs a_ s5 Z H5 x1 x2 x5 ov iv new _ I5 r1 r2 r5 q5) λ_ s6 ⟨H6,I6,q6⟩=>⟨Z,H6,I6,q6⟩
def ipI(f:Int->Int->Int):Wa:=λx y H Q=>∃i j,x=.int i/\y=.int j/\Q (.int (f i j)) H
def yN:Yu X .Add (ipI λi j=>i+j):=by
 intro a_ s Z H x y v u Q I r1 r2 h;obtain⟨i,j,e1,e2,q⟩:=h;subst e1;subst e2;obtain⟨t,rfl⟩:=r1;obtain⟨t',rfl⟩:=r2;exact iadd_int ⟨.int _,H,I.tok _,⟨_,rfl⟩,q⟩
def I9:Yu X .Sub (ipI λi j=>i - j):=by
 intro a_ s Z H x y v u Q I r1 r2 h;obtain⟨i,j,e1,e2,q⟩:=h;subst e1;subst e2;obtain⟨t,rfl⟩:=r1;obtain⟨t',rfl⟩:=r2;exact isub_int ⟨.int _,H,I.tok _,⟨_,rfl⟩,q⟩
end
section
variable {X:Cx}
def HF(c:TT)(tb:TS):TS:=λD Z H=>∃W:Nat->St->Hp->Prop,(∃m,W m Z H)/\∀m Z H,W m Z H ->
 c Z H λb H1=>if b=true then ∃N:St->Hp->Prop,(∀σ' H',N σ' H'->∃m',m'<m/\W m' σ' H')/\tb { D with nx:=N,ct:=N,bk:=D.nx } Z H1 else D.nx Z H1
def C6{tc:TT}{tb:TS}(hp:PassesOwn (model X.prog X.w) X.A X.env X.xe)(hc:PT X c tc)(hb:SF X body tb):PS X (.While c body [] pos) (HF tc tb):=by
 intro a_ s Z H D I h;obtain⟨W,⟨m0,w0⟩,turn⟩:=h;refine wpAny_While (codeAny_whileLoop (λn s'=>∃σ' H',Inv X a_ σ' H' s'/\W n σ' H') ?_ m0 ⟨Z,H,I,w0⟩);rintro n s1 ⟨σ1,H1,I1,w1⟩;refine Go hp (u_ (hc a_ s1 σ1 H1 _ I1 (turn n σ1 H1 w1)) λb s2 ⟨H2,I2,q2⟩=>?_)
 cases b with
 | true =>
  obtain⟨N,hN,q2⟩:=q2;rw[al rfl];refine Go hp (u_ (hb a_ s2 σ1 H2 _ I2 q2) λf s3 q3=>?_)
  cases f with
  | next =>
   obtain⟨σ3,H3,I3,n3⟩:=q3;obtain⟨m',hm,w3⟩:=hN σ3 H3 n3;exact⟨m',hm,σ3,H3,I3,w3⟩
  | cont =>
   obtain⟨σ3,H3,I3,n3⟩:=q3;obtain⟨m',hm,w3⟩:=hN σ3 H3 n3;exact⟨m',hm,σ3,H3,I3,w3⟩
  | brk=>exact q3
  | ret v=>exact q3
 | false =>
  rw[ar pI];exact Nu ⟨σ1,H2,I2,q2⟩
end
structure It where
 go:Nat->Hp->Prop
 Sw:Nat->Hp->V->Hp->Prop
 stop:Nat->Hp->Prop
def lA(X:Cx)(a_:K_)(H:Hp)(b:Addr):Prop :=
 H b=none/\b≠X.env.locals/\b∉X.fs/\(b∈X.ex\/X.s₀.heap.objs.size<=b)/\(∀x c,X.env.cells.lookup x=some c->c≠b)/\∀p∈X.pn++a_,p.1≠b
def Inv.Pm{X:Cx}{Z:St}{H H':Hp}(I:Inv X a_ Z H s)(hb:s.heap.objs.size<=b)(hn:H' b=none):lA X a_ H' b:=by
 refine⟨hn,pr (bo I.lt hb),I.Y3 hb,.inr (di I.sz hb),λx c e z=>?_,λp hp z=>?_⟩
 ·obtain⟨v,q⟩:=I.cell x c e;exact absurd (bo q.lt (by rw[z];exact hb)) (nu _)
 ·exact absurd (bo (ay (I.pin p hp).1) (by rw[z];exact hb)) (nu _)
structure Turn(P:Program)(w:World)(K:PySem.W.Frag)(tg:Expr)(J:It)(fp:List Addr)(it:Addr)(tn:Nat->Heap->Prop):Prop where
 mem:it∈fp
 obj:∀i h,tn i h->∀b∈fp,∃o,h.get? b=some o/\∀v,o.data≠.cell v
 keep:∀i h h',tn i h->(∀b∈fp,∀o,h.get? b=some o->h'.get? b=some o)->tn i h'
 item:∀(X:Cx),X.prog=P->X.w=w->X.K=K->X.calm=true->∀(i:Nat) (a_:K_) (s:Shared) (Z:St) (H:Hp) (E:Of),Inv X a_ Z H s->(∀b∈fp,lA X a_ H b)->tn i s.heap->J.go i H ->
  wpAny (model P w) X.A (pyNext (.ref it)) (λr s1=>∃u,r=some u /\
   wpAny (model P w) X.A (letOwnedTupleGo tg (.ref it) u) (λ_ s2=>∃x H',Inv X a_ Z H' s2/\RelV x u/\J.Sw i H x H'/\tn (i+1) s2.heap/\∀b∈fp,H' b=none) E s1) E s
 done:∀(X:Cx),X.prog=P->X.w=w->X.K=K->X.calm=true->∀(i:Nat) (a_:K_) (s:Shared) (Z:St) (H:Hp) (E:Of),Inv X a_ Z H s->(∀b∈fp,lA X a_ H b)->tn i s.heap->J.stop i H ->
  wpAny (model P w) X.A (pyNext (.ref it)) (λr s1=>r=none/\Inv X a_ Z H s1) E s
 self:∀(A:Around) (i:Nat) (s:Shared) (Q:Of) (E:Of),tn i s.heap->Q (.ref it) s->wpAny (model P w) A (pyIter (.ref it)) Q E s
abbrev TI:=St->Hp->(It->Hp->Prop)->Prop
def PIE(X:Cx)(a_:K_)(Z:St)(tg:Expr)(R:It->Hp->Prop)(itv:Value)(s2:Shared):Prop :=
 ∃(it:Addr) (fp:List Addr) (tn:Nat->Heap->Prop) (J:It) (H':Hp),itv=.ref it/\Inv X a_ Z H' s2/\Turn X.prog X.w X.K tg J fp it tn/\tn 0 s2.heap/\(∀b∈fp,lA X a_ H' b)/\R J H'
def PI(X:Cx)(tg iter:Expr)(wi:TI):Prop :=
 ∀(a_:K_) (s:Shared) (Z:St) (H:Hp) (R:It->Hp->Prop),Inv X a_ Z H s->wi Z H R ->
  wpAny (model X.prog X.w) X.A (eval iter X.env) (λv s1=>wpAny (model X.prog X.w) X.A (pyIter v) (PIE X a_ Z tg R) X.xe s1) X.xe s
def An{M:Model}{it:Addr}{n:String}{vs:Array Value}(ho:s.heap.get? it=some o)(hc:o.cls=.type n)(hd:o.data=.fields vs)
  (hn:["enumerate","zip","dict_itemiterator","dict_reverseitemiterator","odict_iterator","itertools.zip_longest","itertools.pairwise"].contains n=false) (hQ:Q () s):wpAny M A (letOwnedTupleGo tg (.ref it) u) Q E s:=by
 unfold letOwnedTupleGo
 cases tg<;>first
  | exact s_ hQ
  | (cases u<;>first
     | exact s_ hQ
     | (refine i_ (wpAny_load ho ?_)
        rw[hc,hd];show wpAny M A (if(["enumerate","zip","dict_itemiterator","dict_reverseitemiterator","odict_iterator","itertools.zip_longest","itertools.pairwise"].contains n&&vs[0]? == some (rawInt _))=true then _ else _) Q E s;rw[ar (by intro h;rw[hn,NH]at h;cases h)]
        exact s_ hQ))
def Yw(K:PySem.W.Frag)(a:Addr):It :=
 ⟨λi H=>∃xs x,Ot K H a xs/\xs[i]? = some x,λi H x H'=>H'=H/\∀xs,Ot K H a xs->xs[i]? = some x,λi H=>∃xs,Ot K H a xs/\xs.length<=i⟩
def Z1(K:PySem.W.Frag)(a:Addr):It :=
 ⟨λi H=>∃xs x,N_ K H a xs/\xs[i]? = some x,λi H x H'=>H'=H/\∀xs,N_ K H a xs->xs[i]? = some x,λi H=>∃xs,N_ K H a xs/\xs.length<=i⟩
def X3(lo:Int)(n:Nat):It:=⟨λi _=>i<n,λi H x H'=>H'=H/\x=.int (lo+i),λi _=>n<=i⟩
theorem mO{K:PySem.W.Frag}(a it:Addr):Turn P w K tg (Yw K a) [it] it (λi h=>h.IsListIter it a i) where
 mem:=by simp
 obj:=λi h st b hb=>by
  have e:b=it:=by simpa using hb
  subst e;obtain⟨o,e,c,d⟩:=st;exact⟨o,e,λv z=>by rw[d]at z;cases z⟩
 keep:=λi h h' st k=>st.at λo e=>k it (by simp) o e
 item:=by
  intro X hP hw hK hc i a_ s Z H E I hf st hg;subst hP hw hK;obtain⟨xs,x,hq,hx⟩:=hg;obtain⟨k_,rv,p,hz⟩:=I.list hq;obtain⟨u,hu,ru⟩:=rv.get hx;obtain⟨f0,f1,f2,f3,f4,f5⟩:=hf it (by simp);refine wpAny_pyNext_list_item st p.isList (x:=u) (by simpa using hu) λh' TK sb=>?_
  have I1:Inv X a_ Z H { s with heap:=h' }:=I.turned (t':=s.toks) (λb o hb e=>(sb.2 b hb).trans e) f0 f1 f3 f4 f5;obtain⟨o,e,c,d⟩:=id TK;exact⟨u,rfl,An (s:={ s with heap:=h' }) e c d (by decide) ⟨x,H,I1,ru,⟨rfl,λys hy=>by rw[I.R9 hy hq];exact hx⟩,TK,λb hb=>(hf b hb).1⟩⟩
 done:=by
  intro X hP hw hK hc i a_ s Z H E I hf st hg;subst hP hw hK;obtain⟨xs,hq,hx⟩:=hg;obtain⟨k_,rv,p,hz⟩:=I.list hq;obtain⟨f0,f1,f2,f3,f4,f5⟩:=hf it (by simp);have hl:=rv.length;exact wpAny_pyNext_list_end (I.ok.hd hc) st p.isList (by simp;lia) λh' eb=>⟨rfl,I.turned (t':=s.toks) (λb o hb e=>eb b o hb e) f0 f1 f3 f4 f5⟩
 self:=λ_ _ _ _ _ st h=>wpAny_pyIter_listiter st h
theorem pP{K:PySem.W.Frag}(a it:Addr):Turn P w K tg (Z1 K a) [it] it (λi h=>h.IsTupleIter it a i) where
 mem:=by simp
 obj:=λi h st b hb=>by
  have e:b=it:=by simpa using hb
  subst e;obtain⟨o,e,c,d⟩:=st;exact⟨o,e,λv z=>by rw[d]at z;cases z⟩
 keep:=λi h h' st k=>st.at λo e=>k it (by simp) o e
 item:=by
  intro X hP hw hK hc i a_ s Z H E I hf st hg;subst hP hw hK;obtain⟨xs,x,hq,hx⟩:=hg;obtain⟨k_,rv,p,hz⟩:=I.tuple hq;obtain⟨u,hu,ru⟩:=rv.get hx;obtain⟨f0,f1,f2,f3,f4,f5⟩:=hf it (by simp);refine wpAny_pyNext_tuple_item st (show s.heap.IsTuple a k_.toArray from p) (x:=u) (by simpa using hu) λh' TK sb=>?_
  have I1:Inv X a_ Z H { s with heap:=h' }:=I.turned (t':=s.toks) (λb o hb e=>(sb.2 b hb).trans e) f0 f1 f3 f4 f5;obtain⟨o,e,c,d⟩:=id TK;exact⟨u,rfl,An (s:={ s with heap:=h' }) e c d (by decide) ⟨x,H,I1,ru,⟨rfl,λys hy=>by rw[I.Pg hy hq];exact hx⟩,TK,λb hb=>(hf b hb).1⟩⟩
 done:=by
  intro X hP hw hK hc i a_ s Z H E I hf st hg;subst hP hw hK;obtain⟨xs,hq,hx⟩:=hg;obtain⟨k_,rv,p,hz⟩:=I.tuple hq;obtain⟨f0,f1,f2,f3,f4,f5⟩:=hf it (by simp);have hl:=rv.length;exact wpAny_pyNext_tuple_end (I.ok.hd hc) st (show s.heap.IsTuple a k_.toArray from p) (by simp;lia) λh' eb=>⟨rfl,I.turned (t':=s.toks) (λb o hb e=>eb b o hb e) f0 f1 f3 f4 f5⟩
 self:=λ_ _ _ _ _ st h=>wpAny_pyIter_tupleiter st h
theorem xY{K:PySem.W.Frag}(it:Addr)(lo:Int)(n:Nat):Turn P w K tg (X3 lo n) [it] it (λi h=>IsRangeIter h it (lo+(i:Nat)*1) ((n:Int) - (i:Nat)) 1) where
 mem:=by simp
 obj:=λi h st b hb=>by
  have e:b=it:=by simpa using hb
  subst e
  exact⟨_,st,λv z=>by
   have z':Data.fields _=Data.cell v:=z
   cases z'⟩
 keep:=λi h h' st k=>k it (by simp) _ st
 item:=by
  intro X hP hw hK hc i a_ s Z H E I hf st hg;subst hP hw hK;obtain⟨f0,f1,f2,f3,f4,f5⟩:=hf it (by simp);have W:=Walks.range (prog:=X.prog) (w:=X.w) (I.ok.hd hc) it lo 1 n;refine W.item i s _ _ hg st λv h' tk hv TK kk=>?_
  obtain⟨t,rfl⟩:=hv;have I1:Inv X a_ Z H { s with heap:=h',toks:=tk }:=I.turned (λb o hb e=>kk b o (by simpa using hb) e) f0 f1 f3 f4 f5;refine⟨_,rfl,An (s:={ s with heap:=h',toks:=tk }) (n := "range_iterator") TK rfl rfl (by decide) ⟨.int (lo+i),H,I1,⟨t,?_⟩,⟨rfl,rfl⟩,TK,λb hb=>(hf b hb).1⟩⟩;rw[Int.mul_one]
 done:=by
  intro X hP hw hK hc i a_ s Z H E I hf st hg;subst hP hw hK;obtain⟨f0,f1,f2,f3,f4,f5⟩:=hf it (by simp);exact wpAny_pyNext_range_end (I.ok.hd hc) st (by have:n<=i:=hg;lia) λh' eb=>⟨rfl,I.turned (t':=s.toks) (λb o hb e=>eb b o hb e) f0 f1 f3 f4 f5⟩
 self:=λ_ _ _ _ _ st h=>wpAny_pyIter_rangeiter st h
section
variable {X:Cx}
def Al(K:PySem.W.Frag)(tl:TE):TI:=λZ H R=>tl Z H λx H1=>∃a,x=.ref a/\(∃xs,Ot K H1 a xs)/\R (Yw K a) H1
theorem Fq{l:Expr}{tl:TE}(hl:PE X l tl):PI X tg l (Al X.K tl):=by
 intro a_ s Z H R I h;refine u_ (hl a_ s Z H _ I h) λv s1 ⟨x,H1,I1,r1,q1⟩=>?_
 obtain⟨a,e,⟨xs,hq⟩,q⟩:=q1;subst e
 cases r1
 obtain⟨k_,rv,p,hz⟩:=I1.list hq;refine Na p.isList ?_;refine⟨s1.heap.objs.size,[s1.heap.objs.size],_,_,H1,rfl,I1.kept (t':=s1.toks) λb o e=>Od _ e,mO a _,⟨_,OX _ rfl,rfl,rfl⟩,λb hb=>?_,q⟩;have e:b=s1.heap.objs.size:=by simpa using hb
 subst e;exact I1.Pm (ai _) (I1.n_.fresh (ai _))
theorem vX{Z:St}{H:Hp}{R:It->Hp->Prop}{lo hi:Int}{t u v:Tok}{tk:Nat}(I:Inv X a_ Z H s)(h1 : -(2^62)<=lo)(h2:lo<2^62)(h3 : -(2^62)<=hi)(h4:hi<2^62)
  (q:R (X3 lo (hi - lo).toNat) H):wpAny (model X.prog X.w) X.A (pyIter (.ref s.heap.objs.size)) (PIE X a_ Z tg R) E { s with heap:=s.heap.push { cls:=.type "range",data:=.fields #[.int lo t,.int hi u,.int 1 v] },toks:=tk }:=by
 refine wpAny_pyIter_range (IsRange.new ..) (small_one h1 h2 h3 h4) ?_;have I1:Inv X a_ Z H { s with heap:=s.heap.push { cls:=.type "range",data:=.fields #[.int lo t,.int hi u,.int 1 v] },toks:=tk }:=I.kept λb o e=>Od _ e
 refine⟨(s.heap.push { cls:=.type "range",data:=.fields #[.int lo t,.int hi u,.int 1 v] }).objs.size,[(s.heap.push { cls:=.type "range",data:=.fields #[.int lo t,.int hi u,.int 1 v] }).objs.size],_,_,H,rfl,
  I1.kept (t':=tk) λb o e=>Od _ e,xY _ lo (hi - lo).toNat,?_,λb hb=>?_,q⟩
 ·have e1:lo+((0:Nat):Int)*1=lo:=by simp
  have e2:(((hi - lo).toNat:Nat):Int) - ((0:Nat):Int)=Builtin.Range.rangeSize lo hi 1:=by rw[rangeSize_one];split<;>lia
  show IsRangeIter _ _ (lo+((0:Nat):Int)*1) ((((hi - lo).toNat:Nat):Int) - ((0:Nat):Int)) 1;rw[e1,e2];exact OX _ rfl
 ·have e:b=(s.heap.push { cls:=.type "range",data:=.fields #[.int lo t,.int hi u,.int 1 v] }).objs.size:=by simpa using hb
  subst e;exact I1.Pm (ai _) (I1.n_.fresh (ai _))
def Lv(ta:TA):TI:=λZ H R=>ta Z H λvs H1=>∃j:Int,vs=[.int j] /\ -(2^62)<=j/\j<2^62/\R (X3 0 j.toNat) H1
def Lu(ta:TA):TI:=λZ H R=>ta Z H λvs H1=>∃i j:Int,vs=[.int i,.int j]/\(-(2^62)<=i/\i<2^62 /\ -(2^62)<=j/\j<2^62)/\R (X3 i (j - i).toNat) H1
theorem sX{a:Expr}{ta:TA}(hg:Gl X "range")(hm:X.mg "range"=none)(ha:PA X [a] ta)(hs:starEach [a] X.env=[(false,eval a X.env)]:=by rfl):PI X tg (.Call (.Name "range" p) [a] [] pos) (Lv ta):=by
 intro a_ s Z H R I h;refine Call_ (i3 I hg hm boot_range (re (u_ (ha pos a_ s Z H _ I h) λus s1 ⟨vs,H1,I1,r1,q1⟩=>?_) hs rfl));obtain⟨j,e,q1,q2,q⟩:=q1;subst e
 cases r1 with
 | cons r rr =>
  cases rr
  obtain⟨t,rfl⟩:=r;exact call_range_1 (vX I1 (by lia) (by lia) q1 q2 (by simpa using q))
theorem Bl{a b:Expr}{ta:TA}(hg:Gl X "range")(hm:X.mg "range"=none)(ha:PA X [a,b] ta)(hs:starEach [a,b] X.env=[(false,eval a X.env),(false,eval b X.env)]:=by rfl)(Rn:starEach [b] X.env=[(false,eval b X.env)]:=by rfl) :
  PI X tg (.Call (.Name "range" p) [a,b] [] pos) (Lu ta):=by
 intro a_ s Z H R I h;refine Call_ (i3 I hg hm boot_range (re (u_ (ha pos a_ s Z H _ I h) λus s1 ⟨vs,H1,I1,r1,q1⟩=>?_) (by rw[hs,Rn]) (by rw[Rn];rfl)));obtain⟨i,j,e,⟨q1,q2,q3,q4⟩,q⟩:=q1;subst e
 cases r1 with
 | cons r rr =>
  cases rr with
  | cons r' rr =>
   cases rr
   obtain⟨t,rfl⟩:=r;obtain⟨t',rfl⟩:=r';exact call_range_2 (vX I1 q1 q2 q3 q4 q)
def vK(wi:TI)(g:TG)(tb:TS):TS:=λD Z H=>wi Z H λJ H1=>∃W:Nat->Nat->St->Hp->Prop,(∃m,W 0 m Z H1)/\∀i m Z H,W i m Z H ->
 (J.stop i H/\D.nx Z H)\/(J.go i H/\∃N:St->Hp->Prop,(∀σ' H',N σ' H'->∃m',m'<m/\W (i+1) m' σ' H')/\∀x H',J.Sw i H x H'->g x Z H' λσ2 H2=>tb { D with nx:=N,ct:=N,bk:=D.nx } σ2 H2)
def qm(fp:List Addr)(h:Heap):List (Addr×Obj):=fp.filterMap λb=>(h.get? b).map λo=>(b,o)
def iY(hb:b∈fp)(e:h.get? b=some o):(b,o)∈qm fp h:=List.mem_filterMap.mpr ⟨b,hb,by rw[e];rfl⟩
def Br{p:Addr×Obj}(hp:p∈qm fp h):p.1∈fp/\h.get? p.1=some p.2:=by
 obtain⟨b,hb,e⟩:=List.mem_filterMap.mp hp
 cases q:h.get? b with
 | none=>rw[q]at e;cases e
 | some o =>
  rw[q]at e;have e':(b,o)=p:=Option.some.inj e;subst e';exact⟨hb,q⟩
def Inv.pinned{Z:St}{H:Hp}(I:Inv X a_ Z H s)(hf:∀b∈fp,lA X a_ H b)(ho:∀b∈fp,∃o,s.heap.get? b=some o/\∀v,o.data≠.cell v):Inv X (a_++qm fp s.heap) Z H s :=
 I.QS λp hp=>(List.mem_append.mp hp).elim (λz=>I.pin p (gh _ z)) λz=>by
  obtain⟨hb,e⟩:=Br z;obtain⟨f0,f1,f2,_⟩:=hf p.1 hb;obtain⟨o,e',d⟩:=ho p.1 hb;rw[e]at e';cases e';exact⟨e,f0,f1,f2,d⟩
def Inv.PR{pl:K_}{Z:St}{H:Hp}(I:Inv X (a_++pl) Z H s):Inv X a_ Z H s:=I.QS λp hp=>I.pin p (gh _ (pd _ hp))
theorem uw{iter:Expr}{wi:TI}{g:TG}{tb:TS}(hp:PassesOwn (model X.prog X.w) X.A X.env X.xe)(hc:X.calm=true)(hi:PI X tg iter wi)(hg:PG X tg g)(hb:SF X body tb)
  (hs:∀x,foldedSetIterable iter X.env x=pure x:=by intro _;rfl):PS X (.For tg iter body [] pos) (vK wi g tb):=by
 intro a_ s Z H D I h;refine wpAny_For (u_ (hi a_ s Z H _ I h) λv s1 h1=>u_ h1 λitv s2 h2=>?_) hs;obtain⟨it,fp,tn,J,H2,e,I2,T,YM,f2,W,⟨m0,w0⟩,turn⟩:=h2;subst e;have SJ:∀{H':Hp},(∀b∈fp,H' b=none)->∀b∈fp,lA X a_ H' b:=λhn b hb=>⟨hn b hb,(f2 b hb).2⟩
 refine codeAny_forLoop_any (λn s'=>∃i σ' H',Inv X a_ σ' H' s'/\tn i s'.heap/\(∀b∈fp,H' b=none)/\W i n σ' H') ?_ m0 ⟨0,Z,H2,I2,YM,λb hb=>(f2 b hb).1,w0⟩;rintro n s3 ⟨i,σ3,H3,I3,YL,ZI,w3⟩;rcases turn i n σ3 H3 w3 with ⟨stop,qn⟩|⟨go,N,hN,step⟩
 ·refine Go hp (u_ (T.done X rfl rfl rfl hc i a_ s3 σ3 H3 X.xe I3 (SJ ZI) YL stop) λr s4 ⟨hr,I4⟩=>?_);subst hr;exact Nu ⟨σ3,H3,I4,qn⟩
 ·refine Go hp (u_ (T.item X rfl rfl rfl hc i a_ s3 σ3 H3 X.xe I3 (SJ ZI) YL go) λr s4 ⟨u,hr,h4⟩=>?_);subst hr;refine Go hp (u_ h4 λ_ s5 ⟨x,H5,I5,r5,y5,W0,fr5⟩=>?_);have I5':=I5.pinned (SJ fr5) (T.obj _ _ W0);refine Go hp (u_ (hg _ s5 σ3 H5 x u _ I5' r5 (step x H5 y5)) λ_ s6 ⟨σ6,H6,I6,q6⟩=>?_);refine Go hp (u_ (hb _ s6 σ6 H6 _ I6 q6) λf s7 q7=>?_);have again:∀{σ7:St} {H7:Hp},Inv X (a_++qm fp s5.heap) σ7 H7 s7->N σ7 H7->∃m,m<n/\∃i σ' H',Inv X a_ σ' H' s7/\tn i s7.heap/\(∀b∈fp,H' b=none)/\W i m σ' H':=λ{σ7 H7} I7 n7=>by
   obtain⟨m',hm,w7⟩:=hN σ7 H7 n7;refine⟨m',hm,i+1,σ7,H7,I7.PR,T.keep _ _ _ W0 λb hb o e=>(I7.pin (b,o) (gh _ (gh _ (iY hb e)))).1,λb hb=>?_,w7⟩;obtain⟨o,e,d⟩:=T.obj _ _ W0 b hb;exact(I7.pin (b,o) (gh _ (gh _ (iY hb e)))).2.1
  cases f with
  | next=>obtain⟨σ7,H7,I7,n7⟩:=q7;exact again I7 n7
  | cont=>obtain⟨σ7,H7,I7,n7⟩:=q7;exact again I7 n7
  | brk=>obtain⟨σ7,H7,I7,q7⟩:=q7;exact⟨σ7,H7,I7.PR,q7⟩
  | ret v=>obtain⟨x7,σ7,H7,I7,r7,q7⟩:=q7;exact⟨x7,σ7,H7,I7.PR,r7,q7⟩
end
abbrev R2:=V->V->Hp->VK->Prop
def OA(X:Cx)(f:Value->Value->Sem Value)(r:R2):Prop :=
 ∀(a_:K_) (s:Shared) (Z:St) (H:Hp) (x y:V) (v u:Value) (Q:VK),Inv X a_ Z H s->RelV x v->RelV y u->r x y H Q ->
  wpAny (model X.prog X.w) X.A (f v u) (EP X a_ Z Q) X.xe s
def UnR(X:Cx)(f:Value->Sem Value)(r:V->Hp->VK->Prop):Prop :=
 ∀(a_:K_) (s:Shared) (Z:St) (H:Hp) (x:V) (v:Value) (Q:VK),Inv X a_ Z H s->RelV x v->r x H Q ->
  wpAny (model X.prog X.w) X.A (f v) (EP X a_ Z Q) X.xe s
def p_(X:Cx)(f:Value)(r:List V->Hp->VK->Prop):Prop :=
 ∀(a_:K_) (s:Shared) (Z:St) (H:Hp) (xs:List V) (us:List Value) (Q:VK),Inv X a_ Z H s->Vals xs us->r xs H Q ->
  wpAny (model X.prog X.w) X.A (call f us) (EP X a_ Z Q) X.xe s
def MO(X:Cx)(r:V->Hp->(Bool->Hp->Prop)->Prop):Prop :=
 ∀(a_:K_) (s:Shared) (Z:St) (H:Hp) (x:V) (v:Value) (Q:Bool->Hp->Prop),Inv X a_ Z H s->RelV x v->r x H Q ->
  wpAny (model X.prog X.w) X.A (truthy v) (TP X a_ Z Q) X.xe s
def Wj(r:R2)(ta tb:TE):TE:=λZ H Q=>ta Z H λx H1=>tb Z H1 λy H2=>r x y H2 Q
def tUn(r:V->Hp->VK->Prop)(ta:TE):TE:=λZ H Q=>ta Z H λx H1=>r x H1 Q
def rI(C:Int->Int->Prop)(g:Int->Int->V):R2:=λx y H Q=>∃i j,x=.int i/\y=.int j/\C i j/\Q (g i j) H
def Tn(g:Int->Int->V):R2:=λx y H Q=>∃i j,x=.int i/\y=.int j/\Q (g i j) H
def rU(g:Int->V):V->Hp->VK->Prop:=λx H Q=>∃i,x=.int i/\Q (g i) H
section
variable {X:Cx} {a b:Expr} {ta tb tc:TE}
def Jy(ha:PE X a ta)(hb:PE X b tb){Z:St}{H:Hp}{R:V->V->Hp->Prop}(I:Inv X a_ Z H s)
  (h:ta Z H λx H1=>tb Z H1 λy H2=>R x y H2) {Q:Of} {f:Value->Value->Sem Value}
  (hf:∀v u s2 x y H2,Inv X a_ Z H2 s2->RelV x v->RelV y u->R x y H2->wpAny (model X.prog X.w) X.A (f v u) Q X.xe s2) :
  wpAny (model X.prog X.w) X.A (eval a X.env) (λv s₁=>wpAny (model X.prog X.w) X.A (eval b X.env) (λu s₂=>wpAny (model X.prog X.w) X.A (f v u) Q X.xe s₂) X.xe s₁) X.xe s:=by
 refine u_ (ha a_ s Z H _ I h) λv s1 ⟨x,H1,I1,r1,q1⟩=>?_
 refine u_ (hb a_ s1 Z H1 _ I1 q1) λu s2 ⟨y,H2,I2,r2,q2⟩=>?_
 exact hf v u s2 x y H2 I2 r1 r2 q2
def Dh{r:R2}(ho:OA X (binaryOp op) r)(ha:PE X a ta)(hb:PE X b tb):PE X (.BinOp a op b pos) (Wj r ta tb):=by
 intro a_ s Z H Q I h;exact wpAny_BinOp (Jy ha hb I h λv u s2 x y H2 I2 rx ry q=>ho a_ s2 Z H2 x y v u Q I2 rx ry q)
def KW{op:UnaryOp}{r:V->Hp->VK->Prop}(ho:UnR X (unaryOp op) r)(ha:PE X a ta):PE X (.UnaryOp op a pos) (tUn r ta):=by
 intro a_ s Z H Q I h;exact UnaryOp_ (u_ (ha a_ s Z H _ I h) λv s1 ⟨x,H1,I1,r1,q1⟩=>ho a_ s1 Z H1 x v Q I1 r1 q1)
theorem opI{C:Int->Int->Prop}{g:Int->Int->Int}
  (rule:∀(i j:Int) (t u:Tok) (s:Shared) (Q:Of) (E:Of),C i j->Q (.int (g i j) s.toks) { s with toks:=s.toks+1 }->wpAny (model X.prog X.w) X.A (f (.int i t) (.int j u)) Q E s) :
  OA X f (rI C λi j=>.int (g i j)):=by
 intro a_ s Z H x y v u Q I rx ry h;obtain⟨i,j,rfl,rfl,hc,q⟩:=h;obtain⟨t,rfl⟩:=rx;obtain⟨t',rfl⟩:=ry;exact rule i j t t' s _ _ hc ⟨.int (g i j),H,I.tok _,⟨_,rfl⟩,q⟩
theorem Lb{g:Int->Int->Int}
  (rule:∀(i j:Int) (t u:Tok) (s:Shared) (Q:Of) (E:Of),Q (.int (g i j) s.toks) { s with toks:=s.toks+1 }->wpAny (model X.prog X.w) X.A (f (.int i t) (.int j u)) Q E s) :
  OA X f (Tn λi j=>.int (g i j)):=by
 intro a_ s Z H x y v u Q I rx ry h;obtain⟨i,j,rfl,rfl,q⟩:=h;obtain⟨t,rfl⟩:=rx;obtain⟨t',rfl⟩:=ry;exact rule i j t t' s _ _ ⟨.int (g i j),H,I.tok _,⟨_,rfl⟩,q⟩
def IB{g:Int->Int->Bool}
  (rule:∀(i j:Int) (t u:Tok) (s:Shared) (Q:Of) (E:Of),Q (.bool (g i j)) s->wpAny (model X.prog X.w) X.A (f (.int i t) (.int j u)) Q E s) :
  OA X f (Tn λi j=>.bl (g i j)):=by
 intro a_ s Z H x y v u Q I rx ry h;obtain⟨i,j,rfl,rfl,q⟩:=h;obtain⟨t,rfl⟩:=rx;obtain⟨t',rfl⟩:=ry;exact rule i j t t' s _ _ ⟨.bl (g i j),H,I,rfl,q⟩
def LU(i j:Int):Prop:=0<j/\j<1073741824
def LS(i j:Int):Prop:=0<=j/\j<=1000000/\i.natAbs<2^64
def Wc(i j:Int):Prop:=(-(2^64)<i/\i<2^64)\/(-(2^64)<j/\j<2^64)
def Wc.ok{i j:Int}(h:Wc i j):IntMulOk i j:=by
 rcases h with ⟨h1,h2⟩|⟨h1,h2⟩
 ·exact .of_left (intBits_le_64 h1 h2)
 ·exact .of_right (intBits_le_64 h1 h2)
def Xb:OA X (binaryOp .Add) (Tn λi j=>.int (i+j)):=Lb λ_ _ _ _ _ _ _ q=>add_int q
def qw:OA X (binaryOp .Sub) (Tn λi j=>.int (i - j)):=Lb λ_ _ _ _ _ _ _ q=>sub_int q
def iR:OA X (binaryOp .Mult) (rI Wc λi j=>.int (i*j)):=opI λ_ _ _ _ _ _ _ hc q=>mul_int q hc.ok
theorem o9:OA X (binaryOp .FloorDiv) (rI LU λi j=>.int (i / j)):=opI λi j _ _ _ _ _ hc q=>by
 have h1:(0:Int)<j:=hc.1;have h2:j<1073741824:=hc.2;exact floordiv_int (by lia) (by rw[Int.fdiv_eq_ediv_of_nonneg i (by lia)];exact q) (.inl (PyProof.noPylong_small (by lia)))
theorem dU:OA X (binaryOp .Mod) (rI (λ_ j=>0<j) λi j=>.int (i % j)):=opI λi j _ _ _ _ _ hc q=>by
 have h1:(0:Int)<j:=hc;exact mod_int' (by lia) (by rw[Int.fmod_eq_emod_of_nonneg i (by lia)];exact q)
def Iz:OA X (binaryOp .Pow) (rI LS λi j=>.int (i^j.toNat)):=opI λ_ _ _ _ _ _ _ hc q=>pow_int_small hc.1 hc.2.1 hc.2.2 q
theorem unI{f:Value->Sem Value}{g:Int->Int}
  (rule:∀(i:Int) (t:Tok) (s:Shared) (Q:Of) (E:Of),Q (.int (g i) s.toks) { s with toks:=s.toks+1 }->wpAny (model X.prog X.w) X.A (f (.int i t)) Q E s) :
  UnR X f (rU λi=>.int (g i)):=by
 intro a_ s Z H x v Q I rx h;obtain⟨i,rfl,q⟩:=h;obtain⟨t,rfl⟩:=rx;exact rule i t s _ _ ⟨.int (g i),H,I.tok _,⟨_,rfl⟩,q⟩
def HA:UnR X (unaryOp .USub) (rU λi=>.int (-i)):=unI λ_ _ _ _ _ q=>neg_int q
end
section
variable {X:Cx} {a b:Expr} {ta tb tc:TE}
def yS{Z:St}{H:Hp}{Q:VK}{k k':Bool}(I:Inv X a_ Z H s)(q:Q (.bl k) H)(e:k=k'):EP X a_ Z Q (.bool k') s:=by
 subst e;exact⟨.bl k,H,I,rfl,q⟩
def La:OA X (compareOp .Lt) (Tn λi j=>.bl (decide (i<j))):=IB λ_ _ _ _ _ _ _ q=>lt_int q
def iu:OA X (compareOp .Gt) (Tn λi j=>.bl (decide (j<i))):=IB λ_ _ _ _ _ _ _ q=>gt_int q
def sY:OA X (compareOp .GtE) (Tn λi j=>.bl (decide (j<=i))):=IB λ_ _ _ _ _ _ _ q=>ge_int q
def Bo:OA X (compareOp .In) (λx y H Q=>∃i j,x=.str i/\y=.str j/\Q (.bl (!(Builtin.Str.occurrences j i 0 j.length 1).isEmpty)) H):=by
 intro a_ s Z H x y v u Q I rx ry h;obtain⟨i,j,rfl,rfl,q⟩:=h;obtain⟨t,rfl⟩:=rx;obtain⟨t',rfl⟩:=ry;exact in_str (yS I q rfl)
def FD:OA X (compareOp .IsNot) (λx y H Q=>y=.OU/\Q (.bl (!decide (x=.OU))) H):=by
 intro a_ s Z H x y v u Q I rx ry h;obtain⟨rfl,q⟩:=h
 cases ry
 refine isnot_none_gen (yS I q ?_)
 cases x<;>first
  | (cases rx;rfl)
  | (obtain⟨t,rfl⟩:=rx;rfl)
def uz:OA X (compareOp .NotIn) (λx y H Q=>∃i j,x=.str i/\y=.str j/\Q (.bl (!(!(Builtin.Str.occurrences j i 0 j.length 1).isEmpty))) H):=by
 intro a_ s Z H x y v u Q I rx ry h;obtain⟨i,j,rfl,rfl,q⟩:=h;obtain⟨t,rfl⟩:=rx;obtain⟨t',rfl⟩:=ry;exact notIn_str (yS I q rfl)
def OA.or{r r':R2}(h:OA X f r)(h':OA X f r'):OA X f (λx y H Q=>r x y H Q\/r' x y H Q):=by
 intro a_ s Z H x y v u Q I rx ry q;rcases q with q|q
 ·exact h a_ s Z H x y v u Q I rx ry q
 ·exact h' a_ s Z H x y v u Q I rx ry q
def zV{op:CmpOp}{r:R2}(ho:OA X (compareOp op) r)(ha:PE X a ta)(hb:PE X b tb)(hm:behindInMarks op b=false):PE X (.Compare a [op] [b] pos) (Wj r ta tb):=by
 intro a_ s Z H Q I h;exact wpAny_Compare1 (Jy ha hb I h λv u s2 x y H2 I2 rx ry q=>ho a_ s2 Z H2 x y v u Q I2 rx ry q) hm
def Ka(t:TE):TT:=λZ H Q=>t Z H λx H'=>∃k,x=.bl k/\Q k H'
def zM{op:CmpOp}{r:R2}(ho:OA X (compareOp op) r)(ha:PE X a ta)(hb:PE X b tb)(hm:behindInMarks op b=false):PT X (.Compare a [op] [b] pos) (Ka (Wj r ta tb)):=by
 intro a_ s Z H Q I h
 refine wpAny_isTrue_Compare1 (u_ (ha a_ s Z H _ I h) λv s1 ⟨x,H1,I1,r1,q1⟩=>u_ (hb a_ s1 Z H1 _ I1 q1) λu s2 ⟨y,H2,I2,r2,q2⟩ =>
  u_ (ho a_ s2 Z H2 x y v u _ I2 r1 r2 q2) λc s3 ⟨z,H3,I3,r3,k,e,q3⟩=>?_) hm
 subst e
 cases r3
 exact M9 ⟨H3,I3,q3⟩
def JS(K:PySem.W.Frag)(x:V)(H:Hp)(k:Bool):Prop :=
 match x with
 | .OU=>k=false
 | .bl b=>k=b
 | .int i=>k=(i != 0)
 | .str y=>y.length<=sizeLine/\k=((y.length:Int) != 0)
 | .ZQ y=>y.size<=sizeLine/\k=((y.size:Int) != 0)
 | .ref p=>(∃xs,Ot K H p xs/\k = !xs.isEmpty)\/(∃xs,N_ K H p xs/\k = !xs.isEmpty)\/∃kvs,H p=some (.dK kvs)/\k = !kvs.isEmpty
 | _=>False
def yM{κ:Type}{kvs:List (κ×V)}{vs:List (κ×Value)}(r:KV kvs vs):(!vs.isEmpty) = !kvs.isEmpty:=by
 cases r<;>rfl
def qM{xs:List V}{k_:List Value}(r:Vals xs k_):(!k_.toArray.isEmpty) = !xs.isEmpty:=by
 cases r<;>simp
def jK:(sizeLine:Nat)<2^63:=by rw[NL];decide
theorem Ct:MO X (λx H Q=>∃k,JS X.K x H k/\Q k H):=by
 intro a_ s Z H x v Q I rx h;obtain⟨k,e,q⟩:=h;have hl:=jK;have hs:sizeLine=16777216:=NL
 cases x with
 | OU =>
  cases rx
  have e':k=false:=e;subst e';exact truthy_none ⟨H,I,q⟩
 | bl b =>
  cases rx
  have e':k=b:=e;subst e';exact M9 ⟨H,I,q⟩
 | int i =>
  obtain⟨t,rfl⟩:=rx;have e':k=(i != 0):=e;subst e';exact PySem.P.truthy_int ⟨H,I,q⟩
 | str y =>
  obtain⟨t,rfl⟩:=rx;obtain⟨hy,e'⟩:y.length<=sizeLine/\k=((y.length:Int) != 0):=e;subst e';exact PySem.P.truthy_str (by lia) ⟨H,I.tok _,q⟩
 | ZQ y =>
  obtain⟨t,rfl⟩:=rx;obtain⟨hy,e'⟩:y.size<=sizeLine/\k=((y.size:Int) != 0):=e;subst e';exact PySem.W.truthy_bytes (by lia) ⟨H,I.tok _,q⟩
 | ref p =>
  cases rx
  have e':(∃xs,Ot X.K H p xs/\k = !xs.isEmpty)\/(∃xs,N_ X.K H p xs/\k = !xs.isEmpty)\/∃kvs,H p=some (.dK kvs)/\k = !kvs.isEmpty:=e;rcases e' with ⟨xs,hx,e'⟩|⟨xs,hx,e'⟩|⟨kvs,hx,e'⟩
  ·subst e';obtain⟨k_,r,pl,hz⟩:=I.list hx;have hlen:=r.length;exact wpAny_truthy_list pl.isList (by simp only[ax];lia) ⟨H,I.tok _,by rw[qM r];exact q⟩
  ·subst e';obtain⟨k_,r,pl,hz⟩:=I.tuple hx;have hlen:=r.length;exact truthy_tuple pl (by simp only[ax];lia) ⟨H,I.tok _,by rw[qM r];exact q⟩
  ·subst e';obtain⟨hz,hS,vs,r,m⟩:kvs.length<=sizeLine/\(p==sysModules)=false/\∃vs,KV kvs vs/\s.heap.DictOf (bL X.prog X.w) p vs:=I.n_ p _ hx;have hlen:kvs.length=vs.length:=Paired.length r;exact wpAny_truthy_dict hS m (by lia) ⟨H,I.tok _,by rw[yM r];exact q⟩
 | _=>exact(show False from e).elim
def v3(ha:PE X a ta)(he:∀whole,isTrue a X.env whole=(do let v <-whole;standAt a.pos;holding [v] (truthy v))) :
  PT X a (λZ H Q=>ta Z H λx H'=>∃k,JS X.K x H' k/\Q k H'):=by
 intro a_ s Z H Q I h;exact isTrue_plain (u_ (ha a_ s Z H _ I h) λv s1 ⟨x,H1,I1,r1,q1⟩=>Ct a_ s1 Z H1 x v Q I1 r1 q1) (he _)
def yr:OA X (binaryOp .Add) (λx y H Q=>∃i j,x=.str i/\y=.str j/\i.length+j.length<=sizeLine/\Q (.str (i++j)) H):=by
 intro a_ s Z H x y v u Q I rx ry h;obtain⟨i,j,rfl,rfl,hz,q⟩:=h;obtain⟨t,rfl⟩:=rx;obtain⟨t',rfl⟩:=ry;exact add_str (λt' tk=>⟨.str (i++j),H,I.tok _,⟨_,rfl⟩,q⟩) hz
def vals1{x:V}(r:Vals [x] us):∃u,us=[u]/\RelV x u:=by
 cases r with
 | cons r1 r2=>cases r2;exact⟨_,rfl,r1⟩
def vals2{x y:V}(r:Vals [x,y] us):∃u w',us=[u,w']/\RelV x u/\RelV y w':=by
 cases r with
 | cons r1 r2 =>
  cases r2 with
  | cons r3 r4=>cases r4;exact⟨_,_,rfl,r1,r3⟩
def BZ(hc:X.calm=true):p_ X (.builtin "max") (λxs H Q=>∃i j,xs=[.int i,.int j]/\Q (.int (if j>i then j else i)) H):=by
 intro a_ s Z H xs us Q I r h;obtain⟨i,j,rfl,q⟩:=h;obtain⟨u,w',rfl,⟨t,rfl⟩,⟨t',rfl⟩⟩:=vals2 r;refine max_two_ints (I.ok.hd hc) λh' tk k=>⟨_,H,I.kept k,?_,q⟩
 by_cases hj:j>i
 ·rw[al hj,al hj];exact⟨_,rfl⟩
 ·rw[ar hj,ar hj];exact⟨_,rfl⟩
def BW(hc:X.calm=true):p_ X (.builtin "min") (λxs H Q=>∃i j,xs=[.int i,.int j]/\Q (.int (if j<i then j else i)) H):=by
 intro a_ s Z H xs us Q I r h;obtain⟨i,j,rfl,q⟩:=h;obtain⟨u,w',rfl,⟨t,rfl⟩,⟨t',rfl⟩⟩:=vals2 r;refine min_two_ints (I.ok.hd hc) λh' tk k=>⟨_,H,I.kept k,?_,q⟩
 by_cases hj:j<i
 ·rw[al hj,al hj];exact⟨_,rfl⟩
 ·rw[ar hj,ar hj];exact⟨_,rfl⟩
def eS:p_ X (.type "int") (λxs H Q=>(∃i,xs=[.int i]/\Q (.int i) H)\/∃k,xs=[.bl k]/\Q (.int (if k then 1 else 0)) H):=by
 intro a_ s Z H xs us Q I r h;rcases h with ⟨i,rfl,q⟩|⟨k,rfl,q⟩
 ·obtain⟨u,rfl,t,rfl⟩:=vals1 r;exact call_int_int ⟨.int i,H,I,⟨_,rfl⟩,q⟩
 ·obtain⟨u,rfl,r1⟩:=vals1 r
  cases r1
  exact call_int_bool ⟨.int (if k then 1 else 0),H,I.tok _,⟨_,rfl⟩,q⟩
end
def Bt{dx:Addr}{mA:Pn}(n:h.Ns1 dx mA):∃od,h.get? dx=some od/\∀name,PySem.W.lookIn name od=some (mA name):=by
 obtain⟨o,es,ep,ho,hd,hk,_,hm⟩:=n;refine⟨o,ho,λname=>?_⟩;have e:=hm name;unfold nsFind findBy at e;rw[<-Array.find?_toList]at e;unfold PySem.W.lookIn;rw[hd];dsimp only;split
 ·rename_i y q;rw[q]at e;exact congrArg some e
 ·rename_i q;rw[q]at e;have a:es.toList.any (·.refKey)=false:=by
   rw[List.any_eq_false];intro y hy;obtain⟨z,t,zaB⟩:=hk y (Array.mem_toList_iff.mp hy);simp[DictEntry.refKey,zaB]
  have a':¬ es.toList.any (·.refKey)=true:=by rw[a];exact pI
  rw[ar a'];exact congrArg some e
def Qx.some_of{v:V}{o:Option Value}(r:Qx (some v) o):∃u,o=some u/\RelV v u:=by
 cases o with
 | none=>exact(show False from r).elim
 | some u=>exact⟨u,rfl,r⟩
def rM(K:PySem.W.Frag)(C:Addr)(f:Str):Prop:=PySem.W.findIn K (.ref C) f=some none
structure I_(k:Nat)(A:Around):Prop where
 hd:A.handled=none
 dp:A.depth+3*k+5<recursionLimit
 un:A.units+16*k+1200<cLine
 gd:A.guards=some []
theorem I_.mono{j k:Nat}(r:I_ k A)(h:j<=k):I_ j A:=⟨r.hd,by have:=r.dp;lia,by have:=r.un;lia,r.gd⟩
theorem I_.deeper{k:Nat}(r:I_ (k+1) A)(env:Env):I_ k (A.deeper env) :=
 ⟨r.hd,by have:=r.dp;show A.depth+1+3*k+5<_;lia,by have:=r.un;show A.units+3+16*k+1200<_;lia,r.gd⟩
def yB{C:Addr}{kw:List (Str×Value)}:(A.under (.builtin "type.__call__" ⟨.ref C::us,kw⟩)).depth=A.depth+1:=by
 first|rfl|simp[Around.under,Code.weight,Code.isCreation,Code.isGuard,Code.isCaller,Code.frames,Code.isFrame,guardIds]
def yA{C:Addr}{kw:List (Str×Value)}:(A.under (.builtin "type.__call__" ⟨.ref C::us,kw⟩)).units=A.units+1:=by
 first|rfl|simp[Around.under,Code.cUnits,Code.frames,Code.isFrame]
theorem I_.make{k:Nat}(r:I_ (k+1) A)(C:Addr)(us:List Value)(kw:List (Str×Value)):I_ k (A.under (.builtin "type.__call__" ⟨.ref C::us,kw⟩)) :=
 ⟨r.hd,by have:=r.dp;rw[yB];lia,by have:=r.un;rw[yA];lia,by first|exact r.gd|simpa[Around.under,Code.isGuard,guardIds]using r.gd⟩
theorem I_.depth{k:Nat}(r:I_ k A):A.depth<recursionLimit:=by have:=r.dp;lia
def E2:TA:=λ_ H Q=>Q [] H
def CA(ta:TE)(tr:TA):TA:=λZ H Q=>ta Z H λx H1=>tr Z H1 λxs H2=>Q (x::xs) H2
section
variable {X:Cx} {te:TE} {t:TA}
def iQ:PA X [] E2:=λ_ _ _ _ H Q I h=>Calls.spliced_nil ⟨[],H,I,.nil,h⟩
def dR(ha:PE X e te)(hr:PA X es t)(hs:starEach (e::es) X.env=(false,eval e X.env)::starEach es X.env:=by rfl):PA X (e::es) (CA te t):=by
 intro pos a_ s Z H Q I h;rw[hs];show wpAny _ _ (spliced ((false,eval e X.env)::backTo pos (starEach es X.env))) _ _ s;refine Calls.spliced_cons (u_ (ha a_ s Z H _ I h) λu s1 ⟨x,H1,I1,r1,q1⟩=>?_);exact u_ (hr pos a_ s1 Z H1 _ I1 q1) λus s2 ⟨xs,H2,I2,r2,q2⟩=>⟨x::xs,H2,I2,.cons r1 r2,q2⟩
def LW(t:TA):TE:=λZ H Q=>t Z H λxs H1=>xs.length<=sizeLine/\∀p,H1 p=none->Q (.ref p) (upd H1 p (.tup xs))
def Ke(t:TA):TE:=λZ H Q=>t Z H λxs H1=>xs.length<=sizeLine/\∀p,H1 p=none->Q (.ref p) (upd H1 p (.lst xs))
theorem yq{x1}(h:PA X es t):PE X (.Tuple es x1 pos) (LW t):=by
 intro a_ s Z H Q I hq;refine wpAny_Tuple_spliced (u_ (h pos a_ s Z H _ I hq) λus s1 ⟨xs,H1,I1,r,z,q⟩=>⟨by rw[<-r.length];exact z,?_⟩);have hf:H1 s1.heap.objs.size=none:=I1.n_.fresh (ai _);refine⟨.ref s1.heap.objs.size,upd H1 s1.heap.objs.size (.tup xs),I1.laid (t':=s1.toks) (λb u e=>Od _ e) (ai _) ?_,rfl,q _ hf⟩;exact⟨z,us,r,⟨_,OX _ rfl,rfl,_,rfl⟩,⟨_,OX _ rfl,rfl⟩⟩
theorem Di(h:PA X es t):PE X (.List es pos) (Ke t):=by
 intro a_ s Z H Q I hq;refine wpAny_List_spliced (u_ (h pos a_ s Z H _ I hq) λus s1 ⟨xs,H1,I1,r,z,q⟩=>⟨by rw[<-r.length];exact z,?_⟩);have hf:H1 s1.heap.objs.size=none:=I1.n_.fresh (ai _);refine⟨.ref s1.heap.objs.size,upd H1 s1.heap.objs.size (.lst xs),I1.laid (t':=s1.toks) (λb u e=>Od _ e) (ai _) ?_,rfl,q _ hf⟩;exact⟨z,us,0,r,OX _ rfl⟩
end
abbrev Sp:=List V->Hp->VK->XK->Prop
abbrev WR:=List Env->Hp->Shared->XK->Value->Shared->Prop
structure Tf(P:Program)(w:World)(K:PySem.W.Frag)(mg:Pn)(base:Heap)(A:Around)(outer:List Env)(s:Shared)(H:Hp):Prop where
 frames:A.frames=some outer
 mod:Mod K mg base
 bs:∀b o,base.get? b=some o->s.heap.get? b=some o/\H b=none
 U8:base.objs.size<=s.heap.objs.size
 Qa:s.heap.FunFrames base outer
 VZ:∀b∈Q8 outer,H b=none
 n_:O5 P w H s.heap
 bare:AllBare s.gens
def CE(outer:List Env)(P:Program)(w:World)(H:Hp)(s:Shared)(Q:VK)(u:Value)(s':Shared):Prop :=
 ∃v H',s'.os=s.os/\AllBare s'.gens/\Un (Q8 outer) [] H H' s.heap s'.heap/\O5 P w H' s'.heap/\RelV v u/\Q v H'
def CR(CX:WR)(outer:List Env)(P:Program)(w:World)(H:Hp)(s:Shared)(Q:VK)(E:XK)(r:Result)(s':Shared):Prop :=
 match r with
 | .ok (.ret u)=>CE outer P w H s Q u s'
 | .ok _=>False
 | .error e=>CX outer H s E e s'
structure Oz(P:Program)(w:World)(K:PySem.W.Frag)(mg:Pn)(base:Heap)(CX:WR)(k:Nat)(f:Addr)(fd:FuncData)(ps:List Str)(sp:Sp):Prop where
 len:∀vs H Q E,sp vs H Q E->vs.length=ps.length
 run:∀(A:Around) (outer:List Env) (s:Shared) (H:Hp) (args:Args) (us:List Value) (vs:List V) (Q:VK) (E:XK),I_ k A->Tf P w K mg base A outer s H->BindsTo s fd args (ps.zip us)->Vals vs us->sp vs H Q E ->
  codeAny (model P w) A (.call (.ref f) args) (CR CX outer P w H s Q E) s
def Tf.make{K:PySem.W.Frag}{outer:List Env}{H:Hp}(e:Tf P w K mg base A outer s H)(C:Addr)(us:List Value)(kw:List (Str×Value)) :
  Tf P w K mg base (A.under (.builtin "type.__call__" ⟨.ref C::us,kw⟩)) outer s H:=⟨by first|exact e.frames|(simpa[Around.under,Code.envs,Code.isFrame,pushEnvs]using e.frames),e.mod,e.bs,e.U8,e.Qa,e.VZ,e.n_,e.bare⟩
section
variable {X:Cx} {Z:St} {H:Hp} {s':Shared}
def Inv.XJ(I:Inv X a_ Z H s):Tf X.prog X.w X.K X.mg X.base X.A X.stack s H :=
 ⟨I.ok.frames,I.ok.mod,I.bs,di I.ok.U8 I.sz,I.stack,I.QR,I.n_,I.bare⟩
theorem Inv.after{Q:VK}(I:Inv X a_ Z H s)(h:CE X.stack X.prog X.w H s Q u s'):EP X a_ Z Q u s':=by
 obtain⟨v,H',os,bare,un,n_,r,q⟩:=h;obtain⟨hh,g,d,t,os'⟩:=s';obtain rfl:os'=s.os:=os;exact⟨v,H',I.call (h':=hh) (g':=g) (d':=d) (t':=t) (ch:=[]) un n_ bare (λb z=>absurd z (by simp)),r,q⟩
end
def Binds(K:PySem.W.Frag)(fd:FuncData)(ps:List Str)(ds:List Value):Prop :=
 ∀(s:Shared) (us:List Value),K.In s.heap->(us++ds).length=ps.length->BindsTo s fd ⟨us,[]⟩ (ps.zip (us++ds))
def Binds.all{K:PySem.W.Frag}{fd:FuncData}{ps:List Str}(h:∀us:List Value,us.length=ps.length->bindArgs fd ⟨us,[]⟩=pure (ps.zip us)):Binds K fd ps []:=λs us _ hl=>by
 rw[li]at hl ⊢;exact .of_eq (h us hl)
structure l_(N P:List Str)(sc:Scope):Prop where
 kind:sc.kind=.function
 co:sc.isCoroutine=false
 gen:sc.isGenerator=false
 nd:N.Nodup
 pre:N.take P.length=P
 par:∀x∈P,sc.names.lookup x=some .local\/sc.names.lookup x=some .cell
 Xd:∀y∈sc.names,y.2≠.free
theorem Pl{N P:List Str}{c:Scope}(a:c.kind=.function)(b:c.isCoroutine=false)(d:c.isGenerator=false)(e:N.take P.length=P)(h:decide (N.Nodup/\(∀x∈P,c.names.lookup x=some .local\/c.names.lookup x=some .cell)/\∀y∈c.names,y.2≠.free)=true):l_ N P c:=have h:=of_decide_eq_true h;⟨a,b,d,h.1,e,h.2.1,h.2.2⟩
def tZ{kindOf:Str->Option NameKind}{x:Str}:∀{binds:List (Str×Value)} {m:Pn},(∀v,(x,v)∉binds)->bindL kindOf binds m x=m x
 | [],_,_=>rfl
 | (n,v)::r,m,h=>by
  unfold bindL;rw[tZ λw hw=>h w (QC _ hw)];split
  ·have:x≠n:=by rintro rfl;exact h v du
   simp[this]
  ·rfl
def t6{kindOf:Str->Option NameKind}{x:Str}:∀{binds:List (Str×Value)} {m:Pn},(∀v,(x,v)∉binds)->bindC kindOf binds m x=m x
 | [],_,_=>rfl
 | (n,v)::r,m,h=>by
  unfold bindC;rw[t6 λw hw=>h w (QC _ hw)];split
  ·rfl
  ·have:x≠n:=by rintro rfl;exact h v du
   simp[this]
def t4{kindOf:Str->Option NameKind}{x:Str}{v:Value}:∀{P:List Str} {vs:List Value} {i:Nat} {m:Pn},P.Nodup->P[i]? = some x->vs[i]? = some v->kindOf x=some .local ->
  bindL kindOf (P.zip vs) m x=some v
 | [],_,_,_,_,h,_,_=>by simp at h
 | _::_,[],_,_,_,_,h,_=>by simp at h
 | p::P,w::vs,0,m,nd,h1,h2,hk=>by
  simp at h1 h2;subst h1;subst h2;show bindL kindOf ((p,w)::P.zip vs) m p=_;unfold bindL;rw[tZ λv hv=>(List.nodup_cons.mp nd).1 (Nw hv).1,al hk];simp
 | p::P,w::vs,i+1,m,nd,h1,h2,hk=>by
  show bindL kindOf ((p,w)::P.zip vs) m x=_;unfold bindL;exact t4 (i:=i) (List.nodup_cons.mp nd).2 (by simpa using h1) (by simpa using h2) hk
def t7{kindOf:Str->Option NameKind}{x:Str}{v:Value}:∀{P:List Str} {vs:List Value} {i:Nat} {m:Pn},P.Nodup->P[i]? = some x->vs[i]? = some v->kindOf x≠some .local ->
  bindC kindOf (P.zip vs) m x=some v
 | [],_,_,_,_,h,_,_=>by simp at h
 | _::_,[],_,_,_,_,h,_=>by simp at h
 | p::P,w::vs,0,m,nd,h1,h2,hk=>by
  simp at h1 h2;subst h1;subst h2;show bindC kindOf ((p,w)::P.zip vs) m p=_;unfold bindC;rw[t6 λv hv=>(List.nodup_cons.mp nd).1 (Nw hv).1,ar hk];simp
 | p::P,w::vs,i+1,m,nd,h1,h2,hk=>by
  show bindC kindOf ((p,w)::P.zip vs) m x=_;unfold bindC;exact t7 (i:=i) (List.nodup_cons.mp nd).2 (by simpa using h1) (by simpa using h2) hk
def start(N:List Str)(vs:List V):St:=vs.map some++List.replicate (N.length - vs.length) none
def mG(CX:WR)(P:Program)(w:World)(K:PySem.W.Frag)(mg:Pn)(base:Heap)(N:List Str)(qual:Str)(scope:Scope)(f:Addr)(cd:Value)(A:Around)(outer:List Env)(s:Shared)(H:Hp)(E:XK):Cx where
 prog:=P
 w:=w
 K:=K
 mg:=mg
 base:=base
 A:=A.deeper (envOfC qual scope s.heap.objs.size f cd)
 N:=N
 s₀:=s
 H₀:=H
 env:=envOfC qual scope s.heap.objs.size f cd
 outer:=outer
 stack:=envOfC qual scope s.heap.objs.size f cd::outer
 ex:=[]
 calm:=true
 fn:=λ_=>true
 pn:=[]
 xe:=λe s'=>wpAny (model P w) (A.deeper (envOfC qual scope s.heap.objs.size f cd)) (leaving (envOfC qual scope s.heap.objs.size f cd) e) (λ_ YT=>CX outer H s E e YT) (λe' YT=>CX outer H s E e' YT) s'
def qW{sc:Scope}{n:Nat}(h:sc.names.lookup x=some .cell):∃c,(cellsFrom n sc.names []).lookup x=some c:=by
 have q:=PySem.W.cellsFrom_some sc.names n [] (.inl h);exact Option.isSome_iff_exists.mp q
theorem BB{CX:WR}{K:PySem.W.Frag}{N ps:List Str}{qual:Str}{scope:Scope}{f:Addr}{cd:Value}{outer:List Env}{s1:Shared}{H:Hp}{E:XK}{vs:List V}
  (S:l_ N ps scope) (hd:A.handled=none) (e0:Tf P w K mg base A outer s H) (hl:vs.length=ps.length) (r:Vals vs us)
  (x:InCallC s s.heap.objs.size (bindL (envOfC qual scope s.heap.objs.size f cd).kindOf (ps.zip us) λ_=>none) (cellsFrom (s.heap.objs.size+1) scope.names []) (bindC (envOfC qual scope s.heap.objs.size f cd).kindOf (ps.zip us) λ_=>none) s1) :
  Inv (mG CX P w K mg base N qual scope f cd A outer s H E) [] (start N vs) H s1:=by
 have OY:ps.length<=N.length:=by have:=congrArg List.length S.pre;rw[ss]at this;lia
 obtain⟨h1,tk,rfl,hk⟩:=x.done;have Y4:∀b:Addr,b∉(mG CX P w K mg base N qual scope f cd A outer s H E).ex:=λb z=>absurd (show b∈([]:List Addr)from z) (by simp)
 refine⟨⟨e0.mod,S.kind,rfl,rfl,ai _,λy z c h1 h2=>?_,λy hy=>?_,λy c _ h=>?_,λ_=>hd,Around.frames_deeper e0.frames,.inr ⟨rfl,rfl⟩,λb z=>absurd z (Y4 b),e0.bs,e0.U8,λb _ _=>Y4 b,λb z=>absurd z (Y4 b),e0.Qa,e0.VZ⟩,
  rfl,e0.bare,Un.kept hk,⟨_,x.toInCall.ns,λi y v h1 h2 h3=>?_⟩,λy c h=>⟨_,x.cell y c h⟩,e0.n_.fresh (ai _),λy c h=>?_,λp hp=>absurd (show p∈([]:K_)from hp) (by simp),e0.n_.kept hk,?_⟩
 ·exact name_of_addr x.apart (su h1) (su h2)
 ·have hy:scope.names.lookup y=some .cell\/scope.names.lookup y=some .free:=hy;rcases hy with hy|hy
  ·exact qW hy
  ·exact absurd rfl (S.Xd _ (su hy))
 ·exact Nf (x.above y c (su h))
 ·have hi:i<vs.length:=by
   unfold start at h2;by_cases hi:i<vs.length
   ·exact hi
   ·rw[NF (by simpa using hi)]at h2;rw[Cr]at h2;split at h2<;>cases h2
  have ha:vs[i]? = some v:=by
   unfold start at h2;rw[io (by simpa using hi),fu]at h2
   cases e:vs[i]? with
   | none=>rw[e]at h2;cases h2
   | some a=>rw[e]at h2;cases h2;rfl
  obtain⟨u,hu,rv⟩:=r.get ha;have hp:ps[i]? = some y:=by
   rw[<-S.pre,ir (by lia)];exact h1
  have ndP:ps.Nodup:=by rw[<-S.pre];exact S.nd.sublist (List.take_sublist _ _)
  refine⟨u,rv,?_⟩;rcases S.par y (wE hp)with k|k
  ·exact .inl ⟨k,t4 ndP hp hu k⟩
  ·obtain⟨c,e⟩:=qW (n:=s.heap.objs.size+1) k;refine .inr ⟨.inl k,c,e,?_⟩;have q:=x.cell y c e;rw[t7 ndP hp hu (by show scope.names.lookup y≠_;rw[k];decide)]at q;exact q
 ·exact e0.n_.fresh (Nf (x.above y c (su h)))
 ·unfold start;show _=N.length;rw[Qh,L_,Oc];lia
def Hr{CX:WR}{K:PySem.W.Frag}{k:Nat}{f:Addr}{name qual:Str}{params:Arguments}{scope:Scope}{dV kV doc pm r_ ct oc:Value}{an od:Option Addr}
  {Rq:Array (Option Value)} {N ps:List Str} {sp:Sp} (lk:K.lookup f=some ⟨oc,od,.func (PySem.W.fnOf name qual params body scope dV kV doc pm an r_ ct),Rq⟩) (O2:PySem.W.codeIn K r_ qual=true) (S:l_ N ps scope)
  (len:∀vs H Q E,sp vs H Q E->vs.length=ps.length)
  (Si:∀(A:Around) (outer:List Env) (s:Shared) (H:Hp) (vs:List V) (Q:VK) (E:XK),I_ k (A.deeper (envOfC qual scope s.heap.objs.size f r_))->sp vs H Q E ->
   ∃t,SF (mG CX P w K mg base N qual scope f r_ A outer s H E) body t/\t { nx:=λ_ H'=>Q .OU H',rt:=Q } (start N vs) H) :
  Oz P w K mg base CX (k+1) f (PySem.W.fnOf name qual params body scope dV kV doc pm an r_ ct) ps sp:=by
 refine⟨len,λA outer s H args us vs Q E hr e0 hb r RG=>?_⟩;have hl:=len _ _ _ _ RG;have KX:K.In s.heap:=e0.mod.Zc.keeps λb o e=>(e0.bs b o e).1
 have lim:s.heap.NoLimit:=e0.mod.nolimit.keeps λb o e=>(e0.bs b o e).1
 have Zp:∀y∈ps.zip us,scope.names.lookup y.1=some .local\/(scope.names.lookup y.1=some .cell/\((cellsFrom (s.heap.objs.size+1) scope.names []).lookup y.1).isSome=true):=λ⟨n,v⟩ hy=>by
  rcases S.par n (Nw hy).1 with q|q
  ·exact .inl q
  ·exact .inr ⟨q,PySem.W.cellsFrom_some _ _ _ (.inl q)⟩
 refine codeAny_call_function hr.depth (KX _ _ lk) rfl S.co S.gen rfl (PySem.W.codeRec_of KX O2) (hb _ _ _ _ ?_);refine wpAny_newFunctionEnv_cells S.kind Zp λenv he s1 x=>?_
 subst he;refine⟨lim.keeps x.toInCall.keep,codeAny_func ?_⟩;obtain⟨t,ht,hq⟩:=Si A outer s H vs Q E (hr.deeper _) RG;have I:Inv (mG CX P w K mg base N qual scope f r_ A outer s H E) [] (start N vs) H s1:=BB S hr.hd e0 hl r x;refine se (ht [] s1 (start N vs) H _ I hq) (λfl s' hs=>?_) λe s' hs=>hs
 have fin:∀{σ':St} {H':Hp} {v:V} {u:Value},Inv (mG CX P w K mg base N qual scope f r_ A outer s H E) [] σ' H' s'->RelV v u->Q v H'->CE outer P w H s Q u s' :=
  λ{σ' H' v u} J rv q=>⟨v,H',J.os,J.bare,J.base,J.n_,rv,q⟩
 cases fl with
 | ret u =>
  obtain⟨v,σ',H',J,rv,q⟩:=hs;exact fin J rv q
 | next =>
  obtain⟨σ',H',J,q⟩:=hs;exact fin (v:=V.OU) (u:=Value.none) J rfl q
 | brk =>
  obtain⟨_,_,_,q⟩:=hs;exact False.elim q
 | cont =>
  obtain⟨_,_,_,q⟩:=hs;exact False.elim q
section
variable {X:Cx} {t:TA} {id T:String} {r:List V->Hp->VK->Prop}
def tCB(r:List V->Hp->VK->Prop)(t:TA):TE:=λZ H Q=>t Z H λvs H1=>r vs H1 Q
theorem jD(hc:p_ X (.builtin id) r)(hg:Gl X x)(hm:X.mg x=none)(hv:bootBuiltins x=some (.builtin id))(ha:PA X (e::es) t)(hn:x ≠ "__name__":=by decide)(P8:(x==("__debug__" : Str))=false:=by decide)
  (he:starEach (e::es) X.env=(false,eval e X.env)::starEach es X.env:=by rfl) (OY:(backTo pos (starEach es X.env)).any (·.1)=false:=by rfl):PE X (.Call (.Name x p) (e::es) [] pos) (tCB r t):=by
 intro a_ s Z H Q I h;refine ug (i3 I hg hm hv ?_ hn P8);exact PyProof.Rows.callWith_builtin1 (u_ (ha pos a_ s Z H _ I h) λus s1 ⟨vs,H1,I1,r1,q1⟩=>hc a_ s1 Z H1 vs us Q I1 r1 q1) he OY
theorem mW(hc:p_ X (.type T) r)(hg:Gl X x)(hm:X.mg x=none)(hv:bootBuiltins x=some (.type T))(ha:PA X (e::es) t)(hn:x ≠ "__name__":=by decide)(P8:(x==("__debug__" : Str))=false:=by decide)
  (he:starEach (e::es) X.env=(false,eval e X.env)::starEach es X.env:=by rfl) (OY:(backTo pos (starEach es X.env)).any (·.1)=false:=by rfl):PE X (.Call (.Name x p) (e::es) [] pos) (tCB r t):=by
 intro a_ s Z H Q I h;refine ug (i3 I hg hm hv ?_ hn P8);exact re (u_ (ha pos a_ s Z H _ I h) λus s1 ⟨vs,H1,I1,r1,q1⟩=>hc a_ s1 Z H1 vs us Q I1 r1 q1) he OY
end
end L2
namespace HT
open PySem PyProof.Rows
variable {Q:Of}
def lexLt:List Int->List Int->Bool
 | [],[]=>false
 | [],_::_=>true
 | _::_,[]=>false
 | x::xs,y::ys=>if x=y then lexLt xs ys else decide (x<y)
def yC(x y:Int)(xs ys:List Int):lexLt (x::xs) (y::ys)=if x=y then lexLt xs ys else decide (x<y):=rfl
def rW:lexLt [] []=false:=rfl
def qD(y:Int)(ys:List Int):lexLt [] (y::ys)=true:=rfl
def qE(x:Int)(xs:List Int):lexLt (x::xs) []=false:=rfl
def Ee(A:Around)(s:Shared)(a:Int)(t:Tok)(c:Int)(u:Tok):∃e,SeqAt.EqAt A s (.int a t) (.int c u) e/\(e=true↔a=c) :=
 ⟨(a==c),SeqAt.EqAt.int_int a t c u,by simp⟩
def C1(A:Around)(s:Shared)(a:Int)(t:Tok)(c:Int)(u:Tok)(prog:Program)(w:World)(E:Of)(Q:Of)(h:Q (.bool (decide (a<c))) s) :
  wpAny (model prog w) A (richCompare .Lt (.int a t) (.int c u)) Q E s :=
 (PyProof.Rows.lt_int h:wpAny (model prog w) A (compareOp .Lt (.int a t) (.int c u)) Q E s)
section
open PySem.SeqAt
open PySem.AutoSeq1 (wpAny_loadPart')
open PySem.MeetsSeq PySem.MeetsSeq2 PySem.MeetsSeq3
theorem rO(l b:Addr)(items OP:Array Value)(n n2:Nat)(dd U7:Option Addr)(sl UU:Array (Option Value))(ns ms:List Int)(hi:IntsAre items.toList ns)(hj:IntsAre OP.toList ms) :
  Meets (Builtin.«tuple.__lt__» ⟨[.ref l,.ref b],[]⟩)
   (λ_ R s=>s.heap.get? l=some { cls:=.type "tuple",dict:=dd,data:=.seq items n,slots:=sl }/\s.heap.get? b=some { cls:=.type "tuple",dict:=U7,data:=.seq OP n2,slots:=UU } /\
    R (.ok (.ret (.bool (lexLt ns ms)))) s) :=
 .of_wp λprog w A R s h=>by
  obtain⟨hp,g,d,tk,os⟩:=s;obtain⟨hl,hb,h⟩:=h;have f2:=AutoSeq1.sub_tuple_tuple;have z1:items.size=ns.length:=by rw[<-hi.length];simp
  have z2:OP.size=ms.length:=by rw[<-hj.length];simp
  wp_walk using wpAny_loadPart' hl,wpAny_loadPart' hb,wpAny_forIn_list _ (λrest b s'=>b.1=none/\s'=⟨hp,g,d,tk,os⟩/\∃(vs ws:List Value) (Xc Uq:List Int),rest=vs.zip ws /\
   IntsAre vs Xc/\IntsAre ws Uq/\Xc.length+OP.size=Uq.length+items.size/\R (.ok (.ret (.bool (lexLt Xc Uq)))) ⟨hp,g,d,tk,os⟩) _
  case turn =>
   rintro⟨y,x⟩ rest b s' ⟨hb',rfl,vs,ws,Xc,Uq,hz,hvi,hwi,hlen,hR⟩
   cases hvi with
   | nil=>rw[List.zip_nil_left]at hz;cases hz
   | cons a t zar =>
    cases hwi with
    | nil=>rw[List.zip_nil_right]at hz;cases hz
    | cons c u zaq =>
     rw[List.zip_cons_cons]at hz;injection hz with hyx Zj;injection hyx with hy hx;subst hy hx;rw[yC]at hR;simp only[gs]at hlen;obtain⟨e,he,Zq⟩:=Ee A.in1 ⟨hp,g,d,tk,os⟩ a t c u;refine i_ (he prog w _ _ ?_)
     cases e with
     | true =>
      rw[al (Zq.mp rfl)]at hR
      wp_walk
      exact⟨rfl,rfl,_,_,_,_,Zj,zar,zaq,by lia,hR⟩
     | false =>
      rw[ar (λq=>absurd (Zq.mpr q) pI)]at hR;have hri:=C1 A.in1 ⟨hp,g,d,tk,os⟩ a t c u prog w
      wp_walk using hri
      exact⟨_,rfl,by simpa using hR⟩
  case fin =>
   rintro⟨b1,b2⟩ s' ⟨hb',rfl,vs,ws,Xc,Uq,hz,hvi,hwi,hlen,hR⟩;simp only at hb';subst hb';have hv:lexLt Xc Uq=decide (items.size<OP.size):=by
    cases hvi with
    | nil =>
     cases hwi with
     | nil =>
      simp only[At]at hlen;rw[rW];exact(bu (by lia)).symm
     | cons c u hw =>
      simp only[At,gs]at hlen;rw[qD];exact(cr (by lia)).symm
    | cons a t hv =>
     cases hwi with
     | nil =>
      simp only[At,gs]at hlen;rw[qE];exact(bu (by lia)).symm
     | cons c u hw =>
      rw[List.zip_cons_cons]at hz
      cases hz
   rw[hv]at hR
   wp_walk
   exact⟨_,rfl,by simpa[Builtin.Tuple.tupleCompareSizes]using hR⟩
  case h =>
   exact⟨rfl,rfl,items.toList,OP.toList,ns,ms,rfl,hi,hj,by lia,h⟩
end
section
variable {prog:Program} {w:World} {A:Around} {E:Of} {s:Shared}
def SS{l b:Addr}{items OP:Array Value}{ns ms:List Int}(hl:IsTup s.heap l items)(hb:IsTup s.heap b OP)(hi:IntsAre items.toList ns)(hj:IntsAre OP.toList ms)
  (hu:A.units<cLine) (h:Q (.bool (lexLt ns ms)) s):wpAny (model prog w) A (compareOp .Lt (.ref l) (.ref b)) Q E s:=by
 obtain⟨⟨cls,dd,data,sl⟩,ho,hc,n,hd⟩:=id hl;obtain⟨⟨XT,U7,data2,UU⟩,RS,UN,n2,hd2⟩:=id hb;simp only at hc hd UN hd2;subst hc hd UN hd2;exact richCompare_meets_room (op:=.Lt) ⟨_,ho,rfl⟩ ⟨_,RS,rfl⟩ PySem.F.slot_tuple_lt PySem.F.entry_tuple_lt (PySem.F.args_tuple_lt_2 _ _) (rO l b items OP n n2 dd U7 sl UU ns ms hi hj)
  ⟨ho,RS,show Value.bool (lexLt ns ms)≠Value.notImplemented/\Q (.bool (lexLt ns ms)) s from⟨(λx=>nomatch x),h⟩⟩ hu
theorem V6{t b:Addr}{vs ws:List Value}(ht:IsTup s.heap t vs.toArray)(hb:IsTup s.heap b ws.toArray)(hv:vs≠[])
  (h1:ws=[]->Q (.ref t) s) (h2:ws≠[]->Q (.ref s.heap.objs.size) { s with heap:=s.heap.push { cls:=.type "tuple",data:=.seq (vs++ws).toArray } })
  (hsz:vs.length+ws.length<=sizeLine):wpAny (model prog w) A (binaryOp .Add (.ref t) (.ref b)) Q E s:=by
 obtain⟨⟨cls,dd,data,sl⟩,ho,hc,n,hd⟩:=id ht;obtain⟨⟨XT,U7,data2,UU⟩,RS,UN,n2,hd2⟩:=id hb;simp only at hc hd UN hd2;subst hc hd UN hd2;have e:vs.toArray++ws.toArray=(vs++ws).toArray:=by simp
 by_cases hw:ws=[]
 ·exact concat_meets ⟨_,ho,rfl⟩ ⟨_,RS,rfl⟩ noFill_tuple_add seq_tuple_add N0 NR (NQ _ _)
   (tuple_addW1 t b vs.toArray ws.toArray n n2 dd U7 sl UU (by simpa using hv) (by simp[hw])) ⟨ho,RS,h1 hw⟩
 ·refine concat_meets ⟨_,ho,rfl⟩ ⟨_,RS,rfl⟩ noFill_tuple_add seq_tuple_add N0 NR (NQ _ _)
   (tuple_addW2 t b vs.toArray ws.toArray n n2 dd U7 sl UU (by simpa using hv) (by simpa using hw) (by rw[ax,ax];exact hsz)) ⟨ho,RS,?_⟩
  rw[e];exact h2 hw
def J_(n d:Nat):Option Int->Nat
 | none=>d
 | some v=>if v<0 then(v+(n:Int)).toNat else min v.toNat n
def R5(n d:Nat):J_ n d none=d:=rfl
theorem Tj(n d k:Nat):J_ n d (some (k:Int))=min k n:=by
 show(if(k:Int)<0 then((k:Int)+(n:Int)).toNat else min (k:Int).toNat n)=min k n;rw[ar (by lia),sE]
theorem HQ(n d:Nat)(hd:d<=n)(o:Option Int):J_ n d o<=n:=by
 cases o with
 | none=>exact hd
 | some v =>
  show(if v<0 then(v+(n:Int)).toNat else min v.toNat n)<=n;by_cases hv:v<0
  ·rw[al hv];lia
  ·rw[ar hv];exact Nn _ _
theorem AH(v:Int)(n d:Nat):(if v<0 then max (v+(n:Int)) 0 else min v (n:Int))=((J_ n d (some v):Nat):Int):=by
 show(if v<0 then max (v+(n:Int)) 0 else min v (n:Int))=(((if v<0 then(v+(n:Int)).toNat else min v.toNat n):Nat):Int);by_cases hv:v<0
 ·simp only[al hv];lia
 ·simp only[ar hv];lia
theorem zn(lo hi:Option Int)(n:Nat):Builtin.Slice.sliceAdjust lo hi 1 (n:Int)=(((J_ n 0 lo:Nat):Int),((J_ n n hi:Nat):Int)):=by
 have h1:¬ ((1:Int)<0):=by lia
 unfold Builtin.Slice.sliceAdjust;simp only[h1,Ma];refine Prod.ext ?_ ?_
 ·cases lo with
  | none=>rfl
  | some v=>exact AH v n 0
 ·cases hi with
  | none=>rfl
  | some v=>exact AH v n n
theorem yo(i j:Nat):Builtin.Slice.slicePlaces (i:Int) (j:Int) 1=j - i:=by
 unfold Builtin.Slice.slicePlaces;have h1:(1:Int)>0:=by lia
 simp only[h1,oP,Int.ediv_one];split<;>lia
def pY{v:Value}{o:Option Int}{Q:Option Int->Shared->Prop}(p:IsPart v o)(h:Q o s):wpAny (model prog w) A (Builtin.Slice.slicePartIndex v) Q E s:=by
 cases p with
 | none=>exact slicePart_none h
 | int i t=>exact slicePart_int h
def ij{sl:Addr}{vl vu:Value}{lo hi:Option Int}{n:Nat}{Q:Int×Int×Nat->Shared->Prop}(hs:s.heap.IsSliceOf sl vl vu .none)(pl:IsPart vl lo)(pu:IsPart vu hi)
  (h:Q (((J_ n 0 lo:Nat):Int),1,J_ n n hi - J_ n 0 lo) s):wpAny (model prog w) A (Builtin.Slice.sliceApplied (.ref sl) (pure (n:Int))) Q E s:=by
 obtain⟨os,Xr,Yg,RT⟩:=id hs;unfold Builtin.Slice.sliceApplied Builtin.Slice.sliceFields;refine i_ (i_ (ig Xr RT (x:=vl) rfl (i_ (ig Xr RT (x:=vu) rfl (i_ (ig Xr RT (x:=.none) rfl (s_ ?_)))))));refine i_ (slicePart_none ?_);show wpAny _ _ (if((1:Int)==0)=true then _ else _) _ _ s;rw[ar (by decide)];refine i_ (pY pl (i_ (pY pu (i_ (s_ ?_)))));show wpAny _ _ (match Builtin.Slice.sliceAdjust lo hi 1 (n:Int)with|(lo,hi)=>pure (lo,(1:Int),Builtin.Slice.slicePlaces lo hi 1)) _ _ s;rw[zn lo hi n];show wpAny _ _ (pure (((J_ n 0 lo:Nat):Int),(1:Int),Builtin.Slice.slicePlaces ((J_ n 0 lo:Nat):Int) ((J_ n n hi:Nat):Int) 1)) _ _ s;rw[yo];exact s_ h
theorem Dc(xs:Array Value)(i k:Nat):((List.range k).filterMap λ(m:Nat)=>xs[((i:Int)+(m:Int)*1).toNat]?).toArray=((xs.toList.drop i).take k).toArray:=by
 have e:(λ(m:Nat)=>xs[((i:Int)+(m:Int)*1).toNat]?)=λm=>xs[i+m]?:=by
  funext m;have:((i:Int)+(m:Int)*1).toNat=i+m:=by lia
  rw[this]
 rw[e];have:=pick_run xs i k;rw[List.filterMap_map]at this;have e2:((λx=>xs[x]?)∘λx=>i+x)=λm=>xs[i+m]?:=rfl
 rw[e2]at this;rw[this]
theorem P9{t sl:Addr}{items:Array Value}{vl vu:Value}{lo hi:Option Int}(ht:IsTup s.heap t items)(hs:s.heap.IsSliceOf sl vl vu .none)(pl:IsPart vl lo)(pu:IsPart vu hi)
  (hw:¬ (J_ items.size 0 lo=0/\J_ items.size items.size hi=items.size))
  (h:Q (.ref s.heap.objs.size) { s with heap:=s.heap.push { cls:=.type "tuple",data:=.seq ((items.toList.drop (J_ items.size 0 lo)).take (J_ items.size items.size hi - J_ items.size 0 lo)).toArray } })
  (hsz:items.size<=sizeLine):wpAny (model prog w) A (getItem (.ref t) (.ref sl)) Q E s:=by
 have Tr:sizeOk (.seq ((items.toList.drop (J_ items.size 0 lo)).take (J_ items.size items.size hi - J_ items.size 0 lo)).toArray):=by
  show((items.toList.drop (J_ items.size 0 lo)).take (J_ items.size items.size hi - J_ items.size 0 lo)).toArray.size<=sizeLine;rw[ax,ss,ul,Cn];lia
 have hj:J_ items.size items.size hi<=items.size:=HQ _ _ (ai _) hi;obtain⟨os,Xr,Yg,RT⟩:=id hs;have hTs:s.TypeIs (.ref sl) "slice":=⟨os,Xr,Yg⟩;unfold getItem
 try with_reducible refine um ?_
 first|refine i_ (s_ ?_)|skip
 refine i_ (wpAny_sequenceKey ht.typeIs (by decide) ?_)
 refine i_ (je (name:=Str.ofString "__getitem__") ht.typeIs Ch
  (ou Ch ht.typeIs entry_tuple_getitem ?_ (args_tuple_getitem _ _)))
 show wpAny _ _ (Builtin.Tuple.tupleItemsOf (.ref t) >>= _) _ _ s;refine i_ (tupleItemsOf_ ht ?_);refine i_ (NU hTs ?_);rw[al (by decide)];refine i_ (ij hs pl pu ?_);have hno:¬ ((((J_ items.size 0 lo:Nat):Int)==0&&(1:Int)==1&&(J_ items.size items.size hi - J_ items.size 0 lo)==items.size)=true):=by
  intro q;rw[am,am]at q;have q1:((J_ items.size 0 lo:Nat):Int)=0:=eq_of_beq q.1.1;have q2:J_ items.size items.size hi - J_ items.size 0 lo=items.size:=eq_of_beq q.2;exact hw ⟨by lia,by lia⟩
 show wpAny _ _ (if(((J_ items.size 0 lo:Nat):Int)==0&&(1:Int)==1&&(J_ items.size items.size hi - J_ items.size 0 lo)==items.size)=true then _ else _) _ _ s;rw[ar hno,Dc]
 first
  | exact i_ (m:=Builtin.Tuple.tupleExact _) (im (s_ ⟨_,rfl,s_ h⟩) Tr)
  | exact i_ (m:=Builtin.Tuple.tupleExact _) (im (i_ (s_ (s_ ⟨_,rfl,s_ h⟩))) Tr)
  | exact i_ (i_ (m:=Builtin.Tuple.tupleExact _) (im (s_ (s_ ⟨_,rfl,s_ h⟩)) Tr))
  | exact i_ (i_ (m:=Builtin.Tuple.tupleExact _) (im (s_ ⟨_,rfl,s_ h⟩) Tr))
end
end HT
namespace L2
open PySem PySem.Spec PyProof.Rows
variable {xs:List V}{X:Cx}{n:Nat}{a_:K_}{Z:St}{H:Hp}{s:Shared}{us k_:List Value}{α:Type}
abbrev TO:=St->Hp->(Option Int->Hp->Prop)->Prop
def PO(X:Cx)(e:Option Expr)(t:TO):Prop :=
 ∀(a_:K_) (s:Shared) (Z:St) (H:Hp) (Q:Option Int->Hp->Prop),Inv X a_ Z H s->t Z H Q ->
  wpAny (model X.prog X.w) X.A (evalPart e X.env) (λu s'=>∃o H',Inv X a_ Z H' s'/\IsPart u o/\Q o H') X.xe s
def E0:TO:=λ_ H Q=>Q none H
def Kc(t:TE):TO:=λZ H Q=>t Z H λx H1=>∃i,x=.int i/\Q (some i) H1
def intsAre_of{ns:List Int}:∀{us:List Value},Vals (ns.map V.int) us->IntsAre us ns:=by
 induction ns with
 | nil=>intro us r;rw[N3]at r;cases r;exact .nil
 | cons n ns ih =>
  intro us r;rw[aw]at r
  cases r with
  | cons r1 r2 =>
   obtain⟨t,e⟩:=r1;subst e;exact .cons n t (ih r2)
section
variable {e:Expr} {te:TE} {lo hi:Option Expr} {tl th:TO} {pos p2:Pos}
def zQ:PO X none E0:=by
 intro a_ s Z H Q I h;rw[evalPart_none];exact s_ ⟨none,H,I,.none,h⟩
def zP(h:PE X e te):PO X (some e) (Kc te):=by
 intro a_ s Z H Q I hw;rw[evalPart_some];refine u_ (h a_ s Z H _ I hw) λu s1 ⟨x,H1,I1,r1,q1⟩=>?_
 obtain⟨i,rfl,q⟩:=q1;obtain⟨t,rfl⟩:=r1;exact⟨some i,H1,I1,.int i t,q⟩
def WN(X:Cx)(r:V->Option Int->Option Int->Hp->VK->Prop):Prop :=
 ∀(a_:K_) (s:Shared) (Z:St) (H:Hp) (x:V) (v vl vu:Value) (lo hi:Option Int) (sl:Addr) (Q:VK),Inv X a_ Z H s->RelV x v->s.heap.IsSliceOf sl vl vu .none->IsPart vl lo->IsPart vu hi->r x lo hi H Q ->
  ∃T id,typeLookup (.type T) "__getitem__" = pure (some (.builtin id))/\s.TypeIs v T/\wpAny (model X.prog X.w) X.A (getItem v (.ref sl)) (EP X a_ Z Q) X.xe s
def WN.or{r r':V->Option Int->Option Int->Hp->VK->Prop}(h:WN X r)(h':WN X r'):WN X (λx lo hi H Q=>r x lo hi H Q\/r' x lo hi H Q):=by
 intro a_ s Z H x v vl vu lo hi sl Q I rx hs pl pu q;rcases q with q|q
 ·exact h a_ s Z H x v vl vu lo hi sl Q I rx hs pl pu q
 ·exact h' a_ s Z H x v vl vu lo hi sl Q I rx hs pl pu q
def tSl(r:V->Option Int->Option Int->Hp->VK->Prop)(te:TE)(tl th:TO):TE:=λZ H Q=>te Z H λx H1=>tl Z H1 λl H2=>th Z H2 λu H3=>r x l u H3 Q
def v4{r:V->Option Int->Option Int->Hp->VK->Prop}(hr:WN X r)(he:PE X e te)(hl:PO X lo tl)(hu:PO X hi th):PE X (.Subscript e (.Slice lo hi none p2) pos) (tSl r te tl th):=by
 intro a_ s Z H Q I h;refine Subscript_ (u_ (he a_ s Z H _ I h) λv s1 ⟨x,H1,I1,r1,q1⟩=>?_);refine wpAny_Slice (u_ (hl a_ s1 Z H1 _ I1 q1) λvl s2 ⟨l,H2,I2,pl,q2⟩=>u_ (hu a_ s2 Z H2 _ I2 q2) λvu s3 ⟨u,H3,I3,pu,q3⟩=>?_);rw[evalPart_none];refine s_ ?_;have I4:Inv X a_ Z H3 { s3 with heap:=s3.heap.push { cls:=.type "slice",data:=.fields #[vl,vu,.none] } }:=I3.kept (t':=s3.toks) λb ob q=>Od _ q
 obtain⟨T,id,hT,ht,hg⟩:=hr a_ { s3 with heap:=s3.heap.push { cls:=.type "slice",data:=.fields #[vl,vu,.none] } } Z H3 x v vl vu l u s3.heap.objs.size Q I4 r1 (Heap.IsSliceOf.new ..) pl pu q3;show wpAny (model X.prog X.w) X.A (subscriptTail e (.Slice lo hi none p2) v (.ref s3.heap.objs.size)) (EP X a_ Z Q) X.xe { s3 with heap:=s3.heap.push { cls:=.type "slice",data:=.fields #[vl,vu,.none] } };exact tail_any (ops:=[.ref s3.heap.objs.size,v]) ht hT hg (by with_unfolding_all rfl)
def xD(xs:List V)(lo hi:Option Int):List V:=(xs.drop (HT.J_ xs.length 0 lo)).take (HT.J_ xs.length xs.length hi - HT.J_ xs.length 0 lo)
theorem oi(xs:List V)(lo hi:Option Int):(xD xs lo hi).length<=xs.length:=by
 unfold xD;rw[ss,ul];lia
def Mh(K:PySem.W.Frag):V->Option Int->Option Int->Hp->VK->Prop:=λx lo hi H Q=>∃a xs,x=.ref a/\N_ K H a xs /\
 ¬ (HT.J_ xs.length 0 lo=0/\HT.J_ xs.length xs.length hi=xs.length)/\∀p,H p=none->Q (.ref p) (upd H p (.tup (xD xs lo hi)))
def W2:WN X (Mh X.K):=by
 intro a_ s Z H x v vl vu lo hi sl Q I rx hs pl pu h;obtain⟨a,xs,rfl,hx,hw,q⟩:=h
 cases rx
 obtain⟨k_,r,ht,hz⟩:=I.tuple hx;have hlen:k_.toArray.size=xs.length:=by rw[ax];exact r.length.symm
 refine⟨"tuple",_,PyProof.Rows.slot_tuple_getitem.lookup,ht.typeIs,?_⟩;refine HT.P9 ht hs pl pu (by rw[hlen];exact hw) ?_ (by rw[hlen];exact hz);rw[hlen];refine⟨.ref s.heap.objs.size,_,I.laid (t':=s.toks) (o:=.tup (xD xs lo hi)) (λb ob q=>Od _ q) (ai _) ?_,rfl,q _ (I.n_.fresh (ai _))⟩;exact⟨di (oi xs lo hi) hz,_,(r.drop (HT.J_ xs.length 0 lo)).take (HT.J_ xs.length xs.length hi - HT.J_ xs.length 0 lo),IsTup.new _ _,T8.new _ _⟩
def KA(K:PySem.W.Frag):R2:=λx y H Q=>∃a b ns ms,x=.ref a/\y=.ref b/\N_ K H a (ns.map V.int)/\N_ K H b (ms.map V.int)/\Q (.bl (HT.lexLt ns ms)) H
def IA(hu:X.A.units<cLine):OA X (compareOp .Lt) (KA X.K):=by
 intro a_ s Z H x y v u Q I rx ry h;obtain⟨a,b,ns,ms,rfl,rfl,ha,hb,q⟩:=h
 cases rx
 cases ry
 obtain⟨k_,r1,p1,_⟩:=I.tuple ha;obtain⟨P5,r2,p2,_⟩:=I.tuple hb;have i1:IntsAre k_.toArray.toList ns:=intsAre_of r1;have i2:IntsAre P5.toArray.toList ms:=intsAre_of r2;exact HT.SS p1 p2 i1 i2 hu ⟨.bl (HT.lexLt ns ms),H,I,rfl,q⟩
def KO(K:PySem.W.Frag):R2:=λx y H Q=>∃a b xs ys,x=.ref a/\y=.ref b/\N_ K H a xs/\N_ K H b ys/\xs≠[]/\xs.length+ys.length<=sizeLine /\
 (ys=[]->Q (.ref a) H)/\(ys≠[]->∀p,H p=none->Q (.ref p) (upd H p (.tup (xs++ys))))
def Vals.QU(r:Vals xs us):us=[]↔xs=[]:=by
 cases r with
 | nil=>simp
 | cons _ _=>simp
def FE:OA X (binaryOp .Add) (KO X.K):=by
 intro a_ s Z H x y v u Q I rx ry h;obtain⟨a,b,xs,ys,rfl,rfl,ha,hb,hx,hz,q1,q2⟩:=h
 cases rx
 cases ry
 obtain⟨k_,r1,p1,_⟩:=I.tuple ha;obtain⟨P5,r2,p2,_⟩:=I.tuple hb;refine HT.V6 p1 p2 (λz=>hx (r1.QU.mp z)) (λz=>⟨.ref a,H,I,rfl,q1 (r2.QU.mp z)⟩) (λz=>?_) (by rw[<-r1.length,<-r2.length];exact hz);refine⟨.ref s.heap.objs.size,_,I.laid (t':=s.toks) (o:=.tup (xs++ys)) (λb ob q=>Od _ q) (ai _) ?_,rfl,q2 (λw=>z (r2.QU.mpr w)) _ (I.n_.fresh (ai _))⟩;exact⟨by rw[Qh];exact hz,_,r1.append r2,IsTup.new _ _,T8.new _ _⟩
end
def Tq(n:Nat)(i:Int):Option Nat:=if 0<=i then(if i<n then some i.toNat else none)else if -(n:Int)<=i then some (i+n).toNat else none
def Sr{α:Type}(xs:List α)(i:Int):Option α:=(Tq xs.length i).bind λj=>xs[j]?
theorem Ai{i:Int}{j:Nat}(h:Tq n i=some j):seqIndex? i n=some j/\j<n /\ -(n:Int)<=i/\i<n:=by
 unfold Tq at h;by_cases h0:0<=i
 ·rw[al h0]at h;by_cases h1:i<n
  ·rw[al h1]at h;have e:i.toNat=j:=Option.some.inj h;exact⟨by rw[seqIndex_of h0 h1,e],by lia,by lia,h1⟩
  ·rw[ar h1]at h;cases h
 ·rw[ar h0]at h;by_cases h1 : -(n:Int)<=i
  ·rw[al h1]at h;have e:(i+n).toNat=j:=Option.some.inj h;exact⟨by rw[seqIndex_neg (by lia) h1,e],by lia,h1,by lia⟩
  ·rw[ar h1]at h;cases h
def pE{xs:List α}{i:Int}{v:α}(h:Sr xs i=some v):∃j,seqIndex? i xs.length=some j/\xs[j]? = some v/\j<xs.length /\ -(xs.length:Int)<=i/\i<xs.length:=by
 unfold Sr at h
 cases e:Tq xs.length i with
 | none=>rw[e]at h;cases h
 | some j =>
  rw[e]at h;obtain⟨h1,h2,h3,h4⟩:=Ai e;exact⟨j,h1,h,h2,h3,h4⟩
def vx(b:Expr):Prop:=∀o i,subscripted b false o i=operate [o,i] (getItem o i)
def TJ(X:Cx)(r:R2):Prop :=
 ∀(value slice:Expr) (a_:K_) (s:Shared) (Z:St) (H:Hp) (x y:V) (v u:Value) (Q:VK),Inv X a_ Z H s->RelV x v->RelV y u->r x y H Q ->
  subscripted slice false v u=operate [v,u] (getItem v u)->wpAny (model X.prog X.w) X.A (subscriptTail value slice v u) (EP X a_ Z Q) X.xe s
def MtR(X:Cx)(id:String)(r:V->List V->Hp->VK->Prop):Prop :=
 ∀(a_:K_) (s:Shared) (Z:St) (H:Hp) (x:V) (xs:List V) (v:Value) (us:List Value) (Q:VK),Inv X a_ Z H s->RelV x v->Vals xs us->r x xs H Q ->
  wpAny (model X.prog X.w) X.A (call (.builtin id) (v::us)) (EP X a_ Z Q) X.xe s
section
variable {a b:Expr} {ta tb:TE} {pos:Pos}
def TJ.or{r r':R2}(h:TJ X r)(h':TJ X r'):TJ X (λx y H Q=>r x y H Q\/r' x y H Q):=by
 intro value slice a_ s Z H x y v u Q I rx ry q hs;rcases q with q|q
 ·exact h value slice a_ s Z H x y v u Q I rx ry q hs
 ·exact h' value slice a_ s Z H x y v u Q I rx ry q hs
def zT{r:R2}(hr:TJ X r)(ha:PE X a ta)(hb:PE X b tb)(hs:vx b):PE X (.Subscript a b pos) (Wj r ta tb):=by
 intro a_ s Z H Q I h;exact Subscript_ (Jy ha hb I h λv u s2 x y H2 I2 rx ry q=>hr a b a_ s2 Z H2 x y v u Q I2 rx ry q (hs _ _))
def KI(K:PySem.W.Frag):R2:=λx y H Q=>∃p xs i v,x=.ref p/\y=.int i/\Ot K H p xs/\Sr xs i=some v/\Q v H
def HY(K:PySem.W.Frag):R2:=λx y H Q=>∃p xs i v,x=.ref p/\y=.int i/\N_ K H p xs/\Sr xs i=some v/\Q v H
def KG:R2:=λx y H Q=>∃z i c,x=.str z/\y=.int i/\z.length<=sizeLine/\Sr z.cps.toList i=some c/\Q (.str ⟨#[c]⟩) H
theorem VD:TJ X (KI X.K):=by
 intro value slice a_ s Z H x y v u Q I rx ry h hs;obtain⟨p,xs,i,z,rfl,rfl,hq,he,q⟩:=h
 cases rx
 obtain⟨t,rfl⟩:=ry;obtain⟨k_,r,pl,hz⟩:=I.list hq;obtain⟨j,h1,h2,h3,h4,h5⟩:=pE he;obtain⟨w,ew,QJ⟩:=r.get h2;have hl:=r.length;have hn:=jK;have fin:EP X a_ Z Q w s:=⟨z,H,I,QJ,q⟩;by_cases h0:0<=i
 ·have hj:i.toNat=j:=by
   rw[seqIndex_of h0 h5]at h1;exact Option.some.inj h1
  exact item_listR pl.isList h0 (by lia) (by rw[hj];simpa using ew) fin hs
 ·have hj:(i+(k_.toArray.size:Int)).toNat=j:=by
   rw[seqIndex_neg (by lia) h4]at h1;rw[ax,<-hl];exact Option.some.inj h1
  exact subscriptTail_builtinR (x:=w) pl.isList.typeIs slot_list_getitem.lookup
   (wpAny_getItem_list_neg (Q:=λr s'=>r=w/\EP X a_ Z Q r s') pl.isList (by lia) (by rw[ax]<;>lia) (by lia) (by rw[hj];simpa using ew) ⟨rfl,fin⟩) hs
theorem UA:TJ X (HY X.K):=by
 intro value slice a_ s Z H x y v u Q I rx ry h hs;obtain⟨p,xs,i,z,rfl,rfl,hq,he,q⟩:=h
 cases rx
 obtain⟨t,rfl⟩:=ry;obtain⟨k_,r,pl,hz⟩:=I.tuple hq;obtain⟨j,h1,h2,h3,h4,h5⟩:=pE he;obtain⟨w,ew,QJ⟩:=r.get h2;have hl:=r.length;have hn:=jK;have fin:EP X a_ Z Q w s:=⟨z,H,I,QJ,q⟩;exact subscriptTail_builtinR (x:=w) pl.typeIs slot_tuple_getitem.lookup
  (getItem_tuple (j:=j) (Q:=λr s'=>r=w/\EP X a_ Z Q r s') pl (by lia) (by lia) (by rw[ax,<-hl];exact h1) (by simpa using ew) ⟨rfl,fin⟩) hs
theorem IX:TJ X KG:=by
 intro value slice a_ s Z H x y v u Q I rx ry h hs;obtain⟨z,i,c,rfl,rfl,hz,he,q⟩:=h;obtain⟨t,rfl⟩:=rx;obtain⟨t',rfl⟩:=ry;obtain⟨j,h1,h2,h3,h4,h5⟩:=pE he;have hl:z.cps.toList.length=z.length:=by simp[Str.length]
 rw[hl]at h1 h4 h5;have hn:=jK
 exact tail_any (typeIs_str s z t) slot_str_getitem.lookup (getItem_str (c:=c) (by
  have e1:decide (i < -(2^63:Int))=false:=bu (by lia);have e2:decide (i>=2^63)=false:=bu (by lia)
  rw[e1,e2,Bool.or_false]) (by rw[h1];simpa using h2) ⟨.str ⟨#[c]⟩,H,I.tok _,⟨_,rfl⟩,q⟩) hs
def rIx(K:PySem.W.Frag):R2:=λx y H Q=>KI K x y H Q\/HY K x y H Q\/KG x y H Q
def IY:TJ X (rIx X.K):=VD.or (UA.or IX)
def yz(k_:List Value)(n j:Nat)(u:Value):Obj.mapSeq (·.setIfInBounds j u) { cls:=.type "list",data:=.seq k_.toArray n }={ cls:=.type "list",data:=.seq (k_.set j u).toArray n }:=by
 simp[Obj.mapSeq]
def Inv.lst{p:Addr}(I:Inv X a_ Z H s)(h:H p=some (.lst xs)) :
  ∃(k_:List Value) (n:Nat),Vals xs k_/\s.heap.get? p=some { cls:=.type "list",data:=.seq k_.toArray n }/\xs.length<=sizeLine:=by
 obtain⟨z,k_,n,r,e⟩:=I.n_ p _ h;exact⟨k_,n,r,e,z⟩
theorem Inv.Xg{p:Addr}{ys:List V}{its':List Value}{n':Nat}{f:Obj->Obj}(I:Inv X a_ Z H s)(h:H p=some (.lst xs))
  (ho:s.heap.get? p=some { cls:=.type "list",data:=.seq k_.toArray n }) (hf:f { cls:=.type "list",data:=.seq k_.toArray n }={ cls:=.type "list",data:=.seq its'.toArray n' }) (r:Vals ys its') (hz:ys.length<=sizeLine) (t:Nat) :
  Inv X a_ Z (upd H p (.lst ys)) { s with heap:=s.heap.update p f,toks:=t }:=by
 have e:(s.heap.update p f).get? p=some { cls:=.type "list",data:=.seq its'.toArray n' }:=by
  rw[wa f ho (by rw[hf]<;>rfl),hf]
 refine I.write (x:=p) (e:=p) (by rw[h];trivial) (.inl rfl) (λb u hb q=>(xt _ _ (Ne.symm hb)).trans q) ⟨_,e⟩ ?_;exact⟨hz,its',n',r,e⟩
def Kz:V->V->V->Hp->(Hp->Prop)->Prop:=λo i v H Q=>∃p xs k j,o=.ref p/\i=.int k/\H p=some (.lst xs)/\Tq xs.length k=some j/\Q (upd H p (.lst (xs.set j v)))
theorem set_list:JT X Kz:=by
 intro a_ s Z H o i v ov iv u Q I ro ri rv h;obtain⟨p,xs,k,j,rfl,rfl,hp,hj,q⟩:=h
 cases ro
 obtain⟨t,rfl⟩:=ri;obtain⟨k_,n,r,ho,hz⟩:=I.lst hp;obtain⟨h1,h2,h3,h4⟩:=Ai hj;have hl:=r.length;have hn:=jK;have I':Inv X a_ Z (upd H p (.lst (xs.set j v))) { s with heap:=s.heap.update p (Obj.mapSeq (·.setIfInBounds j u)) } :=
  I.Xg hp ho (yz k_ n j u) (r.set rv j) (by rw[N7];exact hz) s.toks
 by_cases h0:0<=k
 ·have hk:k.toNat=j:=by
   rw[seqIndex_of h0 h4]at h1;exact Option.some.inj h1
  exact PySem.W.ki_setAt ho h0 (by lia) (by rw[ax,<-hl];exact h4) (by rw[hk];exact⟨_,I',q⟩)
 ·have hk:(k+(k_.toArray.size:Int)).toNat=j:=by
   rw[seqIndex_neg (by lia) h3]at h1;rw[ax,<-hl];exact Option.some.inj h1
  exact PySem.W.ki_setBack ho (by lia) (by rw[ax,<-hl];exact h3) (by lia) (by rw[hk];exact⟨_,I',q⟩)
theorem uj(lo hi:Option Int)(n:Nat):(sliceBounds lo hi none n).1=((HT.J_ n 0 lo:Nat):Int)/\(sliceBounds lo hi none n).2.1=((HT.J_ n n hi:Nat):Int)/\(sliceBounds lo hi none n).2.2=1:=by
 refine⟨?_,?_,rfl⟩
 ·cases lo with
  | none=>simp[sliceBounds,HT.J_]
  | some i =>
   simp only[sliceBounds,HT.J_,Option.getD_none,show(1:Int)>0 by decide,oP];by_cases h:i<0
   ·simp only[h,oP]<;>lia
   ·simp only[h,Ma]<;>lia
 ·cases hi with
  | none=>simp[sliceBounds,HT.J_]
  | some i =>
   simp only[sliceBounds,HT.J_,Option.getD_none,show(1:Int)>0 by decide,oP];by_cases h:i<0
   ·simp only[h,oP]<;>lia
   ·simp only[h,Ma]<;>lia
def rP(k_:List Value)(lo hi:Option Int):slicePick k_.toArray lo hi none=((k_.drop (HT.J_ k_.length 0 lo)).take (HT.J_ k_.length k_.length hi - HT.J_ k_.length 0 lo)).toArray:=by
 obtain⟨h1,h2,h3⟩:=uj lo hi k_.toArray.size;unfold slicePick;rw[h1,h2,h3];simp only[sliceRange_one,pick_run,ax]<;>rfl
def Mi(K:PySem.W.Frag):V->Option Int->Option Int->Hp->VK->Prop:=λx lo hi H Q=>∃a xs,x=.ref a/\Ot K H a xs/\∀p,H p=none->Q (.ref p) (upd H p (.lst (xD xs lo hi)))
theorem zF:WN X (Mi X.K):=by
 intro a_ s Z H x v vl vu lo hi sl Q I rx hs pl pu h;obtain⟨a,xs,rfl,hx,q⟩:=h
 cases rx
 obtain⟨k_,r,ht,hz⟩:=I.list hx;have hlen:=r.length;refine⟨"list",_,slot_list_getitem.lookup,ht.isList.typeIs,?_⟩;refine wpAny_getItem_list_slice ht.isList hs pl pu .none (by simp) ?_ (by rw[ax]<;>lia);rw[rP,<-hlen];refine⟨.ref s.heap.objs.size,_,I.laid (t':=s.toks) (o:=.lst (xD xs lo hi)) (λb ob q=>Od _ q) (ai _) ?_,rfl,q _ (I.n_.fresh (ai _))⟩;exact⟨di (oi xs lo hi) hz,_,0,(r.drop (HT.J_ xs.length 0 lo)).take (HT.J_ xs.length xs.length hi - HT.J_ xs.length 0 lo),OX _ rfl⟩
theorem u7:p_ X (.builtin "len") (λxs H Q=>∃p ys,xs=[.ref p]/\(Ot X.K H p ys\/N_ X.K H p ys)/\Q (.int ys.length) H):=by
 intro a_ s Z H xs us Q I r h;obtain⟨p,ys,rfl,hq,q⟩:=h;obtain⟨u,rfl,rx⟩:=vals1 r
 cases rx
 have hn:=jK;rcases hq with hq|hq
 ·obtain⟨k_,r',pl,hz⟩:=I.list hq;have hlen:=r'.length;exact Calls.call_len_list pl.isList (by simp only[ax]<;>lia) ⟨.int ys.length,H,I.tok _,⟨s.toks+1,by rw[ax,hlen]⟩,q⟩
 ·obtain⟨k_,r',pl,hz⟩:=I.tuple hq;have hlen:=r'.length;exact len_tuple pl (by simp only[ax]<;>lia) ⟨.int ys.length,H,I.tok _,⟨s.toks+1,by rw[ax,hlen]⟩,q⟩
theorem u6:p_ X (.builtin "len") (λxs H Q=>∃z,xs=[.str z]/\z.length<=sizeLine/\Q (.int z.length) H):=by
 intro a_ s Z H xs us Q I r h;obtain⟨z,rfl,hz,q⟩:=h;obtain⟨u,rfl,t,rfl⟩:=vals1 r;have hn:=jK;exact len_str (by lia) ⟨.int z.length,H,I.tok _,⟨_,rfl⟩,q⟩
def p_.or{f:Value}{r r':List V->Hp->VK->Prop}(h:p_ X f r)(h':p_ X f r'):p_ X f (λxs H Q=>r xs H Q\/r' xs H Q):=by
 intro a_ s Z H xs us Q I rs q;rcases q with q|q
 ·exact h a_ s Z H xs us Q I rs q
 ·exact h' a_ s Z H xs us Q I rs q
theorem i6:p_ X (.type "list") (λxs H Q=>∃p ys,xs=[.ref p]/\(Ot X.K H p ys\/N_ X.K H p ys)/\∀l,H l=none->Q (.ref l) (upd H l (.lst ys))):=by
 intro a_ s Z H xs us Q I r h;obtain⟨p,ys,rfl,hq,q⟩:=h;obtain⟨u,rfl,rx⟩:=vals1 r
 cases rx
 have fin:∀(k_:List Value),Vals ys k_->ys.length<=sizeLine->∀(h':Heap) (c':Nat),(∀b o',s.heap.get? b=some o'->h'.get? b=some o') ->
   h'.get? s.heap.objs.size=some { cls:=.type "list",dict:=none,data:=.seq k_.toArray c',slots:=#[] }->EP X a_ Z Q (.ref s.heap.objs.size) { s with heap:=h' }:=λk_ r' hz h' c' kp e =>
  ⟨.ref s.heap.objs.size,_,I.laid (t':=s.toks) kp (ai _) (show v_ X.prog X.w _ h' _ (.lst ys)from⟨hz,k_,c',r',e⟩),rfl,q _ (I.n_.fresh (ai _))⟩
 rcases hq with hq|hq
 ·obtain⟨k_,r',pl,hz⟩:=I.list hq;have hlen:=r'.length;obtain⟨o,ho,hc,n,hd⟩:=pl.isList;exact call_list_seq p (.inl rfl) ho hc hd (λh' c' kp e=>fin k_ r' hz h' c' kp e) (by simp only[ax]<;>lia)
 ·obtain⟨k_,r',pl,hz⟩:=I.tuple hq;have hlen:=r'.length;obtain⟨o,ho,hc,n,hd⟩:=pl;exact call_list_seq p (.inr rfl) ho hc hd (λh' c' kp e=>fin k_ r' hz h' c' kp e) (by simp only[ax]<;>lia)
theorem aY:p_ X (.type "tuple") (λxs H Q=>∃p ys,xs=[.ref p]/\((Ot X.K H p ys/\∀l,H l=none->Q (.ref l) (upd H l (.tup ys)))\/(N_ X.K H p ys/\Q (.ref p) H))):=by
 intro a_ s Z H xs us Q I r h;obtain⟨p,ys,rfl,h⟩:=h;obtain⟨u,rfl,rx⟩:=vals1 r
 cases rx
 rcases h with ⟨hq,q⟩|⟨hq,q⟩
 ·obtain⟨k_,r',pl,hz⟩:=I.list hq;have hlen:=r'.length;refine call_tuple_list pl.isList (λh' kp=>?_) (by simp only[ax]<;>lia);have I1:Inv X a_ Z H { s with heap:=h' }:=I.kept (t':=s.toks) kp;have I2:Inv X a_ Z (upd H h'.objs.size (.tup ys)) { s with heap:=h'.push { cls:=.type "tuple",data:=.seq k_.toArray } } :=
   I1.laid (t':=s.toks) (λb o e=>Od _ e) (ai _) (show v_ X.prog X.w _ _ _ (.tup ys)from⟨hz,k_,r',IsTup.new _ _,T8.new _ _⟩)
  exact⟨.ref h'.objs.size,_,I2,rfl,q _ (I1.n_.fresh (ai _))⟩
 ·obtain⟨k_,r',pl,hz⟩:=I.tuple hq;exact call_tuple_same pl ⟨.ref p,H,I,rfl,q⟩
def tyV(K:PySem.W.Frag)(T:String)(x:V)(H:Hp):Prop:=match x with
 | .str _=>T = "str"
 | .int _=>T = "int"
 | .ref p=>(T = "list" /\ ∃xs,Ot K H p xs)\/(T = "tuple" /\ ∃o,K.lookup p=some o/\o.cls=.type "tuple" /\ o.dict=none) \/
   (T = "dict" /\ ((∃kvs,H p=some (.dK kvs))\/∃kvs,H p=some (.dT kvs)))\/(T = "set" /\ ∃S n,H p=some (.set S n))
 | _=>False
def Cp{T:String}{x:V}{v:Value}(I:Inv X a_ Z H s)(r:RelV x v)(ty:tyV X.K T x H) :
  s.TypeIs v T/\∀a,v=.ref a->∃ob,s.heap.get? a=some ob/\ob.dict=none:=by
 cases x with
 | str z =>
  obtain⟨t,rfl⟩:=r
  cases (show T = "str" from ty)
  exact⟨typeIs_str s z t,λ_ e=>nomatch e⟩
 | int i =>
  obtain⟨t,rfl⟩:=r
  cases (show T = "int" from ty)
  exact⟨typeIs_int s i t,λ_ e=>nomatch e⟩
 | ref p =>
  cases r
  rcases ty with ⟨rfl,xs,hq⟩|⟨rfl,o,hk,hc,hd⟩|⟨rfl,hk⟩|⟨rfl,S,n,hk⟩
  ·obtain⟨k_,_,pl,_⟩:=I.list hq;refine⟨pl.isList.typeIs,λa e=>?_⟩
   cases e
   obtain⟨o,n,e,c,hd,_⟩:=pl;exact⟨o,e,hd⟩
  ·refine⟨⟨o,I.Sa p o hk,hc⟩,λa e=>?_⟩
   cases e
   exact⟨o,I.Sa _ o hk,hd⟩
  ·have z:∃o,s.heap.get? p=some o/\o.ExactDict:=by
    rcases hk with ⟨kvs,hk⟩|⟨kvs,hk⟩
    ·obtain⟨_,_,_,_,o,_,_,e,ex,_⟩:=I.n_ p _ hk;exact⟨o,e,ex⟩
    ·obtain⟨_,_,_,_,o,_,_,e,ex,_⟩:=I.n_ p _ hk;exact⟨o,e,ex⟩
   obtain⟨o,e,ex⟩:=z;refine⟨⟨o,e,ex.1⟩,λa e2=>?_⟩
   cases e2
   exact⟨o,e,ex.2.1⟩
  ·obtain⟨o,_,_,_,e,ex,_⟩:=I.n_ p _ hk;refine⟨⟨o,e,ex.1⟩,λa e2=>?_⟩
   cases e2
   exact⟨o,e,ex.2.1⟩
 | _=>exact False.elim ty
def L6(K:PySem.W.Frag)(T:String)(r:V->List V->Hp->VK->Prop)(to:TE):TE:=λZ H Q=>to Z H λx H1=>tyV K T x H1/\r x [] H1 Q
def tBM(K:PySem.W.Frag)(T:String)(r:V->List V->Hp->VK->Prop)(to:TE)(t:TA):TE:=λZ H Q=>to Z H λx H1=>tyV K T x H1/\t Z H1 λxs H2=>r x xs H2 Q
variable {o e:Expr} {es:List Expr} {to:TE} {t:TA} {name:Str} {apos A_:Pos} {T id:String} {r:V->List V->Hp->VK->Prop}
theorem Im(pa:PlainAttrs T)(slot:Slot T name id)(hty:typeOf (.builtin id)=pure (.type "method_descriptor"))(hm:MtR X id r)(ho:PE X o to)
  (O9:attributeBase o name X.env (eval o X.env)=eval o X.env:=by rfl) (O8:(apos.endLine==A_.line)=true:=by rfl):PE X (.Call (.Attribute o name apos) [] [] A_) (L6 X.K T r to):=by
 intro a_ s Z H Q I h;refine wpAny_Call_method0_late O9 O8 (u_ (ho a_ s Z H _ I h) λv s1 ⟨x,H1,I1,r1,ty,q1⟩=>?_);obtain⟨h1,h2⟩:=Cp I1 r1 ty;exact⟨T,id,pa,slot,hty,h1,h2,Nh rfl (PySem.evalArgs_none (hm a_ s1 Z H1 x [] v [] Q I1 r1 .nil q1))⟩
theorem Dl(pa:PlainAttrs T)(slot:Slot T name id)(hty:typeOf (.builtin id)=pure (.type "method_descriptor"))(hm:MtR X id r)(ho:PE X o to)(ha:PA X (e::es) t)
  (O9:attributeBase o name X.env (eval o X.env)=eval o X.env:=by rfl)
  (UL:((backTo A_ (starEach (e::es) X.env)).all (λx=>!x.1)&&(backToKw A_ (keywordEach [] X.env)).all (λx=>x.1.isSome)
   && decide ((e::es).length+([]:List Keyword).length+(if([]:List Keyword).isEmpty then 0 else 1)<30))=true:=by rfl)
  (O8:(apos.endLine==A_.line)=true:=by rfl) (hs:starEach (e::es) X.env=(false,eval e X.env)::starEach es X.env:=by rfl) (Q5:(backTo A_ (starEach es X.env)).any (·.1)=false:=by rfl) :
  PE X (.Call (.Attribute o name apos) (e::es) [] A_) (tBM X.K T r to t):=by
 intro a_ s Z H Q I h;refine wpAny_Call_method_late O9 UL O8 rfl (u_ (ho a_ s Z H _ I h) λv s1 ⟨x,H1,I1,r1,ty,q1⟩=>?_);obtain⟨h1,h2⟩:=Cp I1 r1 ty;refine⟨T,id,pa,slot,hty,h1,h2,?_⟩;have hA:=ha A_ a_ s1 Z H1 _ I1 q1;rw[hs]at hA ⊢;refine Nh (by show(false||(backTo A_ (starEach es X.env)).any (·.1))=false;rw[Q5]<;>rfl) (Calls.evalArgs_plain ?_);exact u_ hA λus s2 ⟨vs,H2,I2,r2,q2⟩=>hm a_ s2 Z H2 x vs v us Q I2 r1 r2 q2
end
def MtM(X:Cx)(id:String)(r:V->List V->Hp->VK->Prop):Prop :=
 ∀(a_:K_) (s:Shared) (Z:St) (H:Hp) (x:V) (xs:List V) (v:Value) (us:List Value) (Q:VK),Inv X a_ Z H s->RelV x v->Vals xs us->r x xs H Q ->
  wpAny (model X.prog X.w) X.A (call (.builtin id) (v::us)) (EP X a_ Z Q) X.xe s
def Vals.one:∀{x:V} {us:List Value},Vals [x] us->∃u,us=[u]/\RelV x u:=by
 intro x us h
 cases h with
 | cons r t=>cases t;exact⟨_,rfl,r⟩
def Vals.zero:∀{us:List Value},Vals [] us->us=[]
 | _,.nil=>rfl
def Vals.dropLast(h:Vals xs us):Vals xs.dropLast us.dropLast:=by
 induction h with
 | nil=>exact .nil
 | cons r t ih =>
  cases t with
  | nil=>exact .nil
  | cons q t'=>exact .cons r ih
def Vals.rep(h:Vals xs us):∀k:Nat,Vals (List.replicate k xs).flatten (List.replicate k us).flatten
 | 0=>.nil
 | k+1=>by
  rw[sw,sw,Ba,Ba];exact Vals.append h (Vals.rep h k)
theorem yU(l:List α):l.eraseIdx (l.length - 1)=l.dropLast:=by
 induction l with
 | nil=>rfl
 | cons a r ih =>
  cases r with
  | nil=>rfl
  | cons b r =>
   have e:(a::b::r).length - 1=((b::r).length - 1)+1:=by
    have h1:(a::b::r).length=r.length+2:=rfl;have h2:(b::r).length=r.length+1:=rfl;lia
   rw[e,List.eraseIdx_cons_succ,ih]
   all_goals rfl
def foldl_rep(k_:List Value):∀(k:Nat) (acc:List Value),
  List.foldl (λx1 x2=>x1++x2) acc.toArray (List.replicate k k_.toArray)=(acc++(List.replicate k k_).flatten).toArray
 | 0,acc=>by simp
 | k+1,acc=>by
  have e:acc.toArray++k_.toArray=(acc++k_).toArray:=by simp
  have e2:(acc++k_)++(List.replicate k k_).flatten=acc++(List.replicate (k+1) k_).flatten:=by
   rw[sw,Ba,List.append_assoc]
  rw[<-e2,<-foldl_rep k_ k (acc++k_),<-e,sw,lf]
section
variable {l b:Addr} {ys zs:List V}
theorem Inv.Xh{its':List Value}{f:Array Value->Array Value}{t':Nat}(I:Inv X a_ Z H s)(hH:H l=some (.lst xs))
  (e:s.heap.get? l=some { cls:=.type "list",data:=.seq k_.toArray n }) (hf:f k_.toArray=its'.toArray) (hv:Vals ys its') (hz:ys.length<=sizeLine) :
  Inv X a_ Z (upd H l (.lst ys)) { s with heap:=s.heap.update l (Obj.mapSeq f),toks:=t' }:=by
 have q:=PySem.IsL.update e f;rw[hf]at q;refine I.write (x:=l) (e:=l) (by rw[hH];exact trivial) (.inl rfl) (λb' u hb hu=>(xt s.heap (Obj.mapSeq f) (Ne.symm hb)).trans hu) ⟨_,q⟩ ?_;exact⟨hz,its',_,hv,q⟩
def Inv.zag{t':Nat}(I:Inv X a_ Z H s)(hv:Vals ys k_)(hz:ys.length<=sizeLine) :
  Inv X a_ Z (upd H s.heap.objs.size (.lst ys)) { s with heap:=s.heap.push { cls:=.type "list",data:=.seq k_.toArray },toks:=t' } :=
 I.laid (λ_ _ q=>Od _ q) (ai _) ⟨hz,k_,0,hv,OX _ rfl⟩
def Inv.fresh(I:Inv X a_ Z H s):H s.heap.objs.size=none:=I.n_.fresh (ai _)
def Inv.Ut(I:Inv X a_ Z H s)(hH:H l=some (.lst xs)):xs.length<=sizeLine/\∃(k_:List Value) (n:Nat),Vals xs k_/\xs.length=k_.length/\s.heap.get? l=some { cls:=.type "list",data:=.seq k_.toArray n }:=by
 obtain⟨z,k_,n,r,e⟩:=I.n_ l _ hH;exact⟨z,k_,n,r,r.length,e⟩
theorem wC(h:n<=sizeLine):Builtin.List.listTooLong n=false:=by
 unfold Builtin.List.listTooLong;exact bu (by lia)
end
section
def zI:V->List V->Hp->VK->Prop:=λx vs H Q=>∃l xs y,x=.ref l/\vs=[y]/\H l=some (.lst xs)/\xs.length<sizeLine/\Q .OU (upd H l (.lst (xs++[y])))
theorem tB:MtM X "list.append" zI:=by
 intro a_ s Z H x vs v us Q I rx rv h;obtain⟨l,xs,y,rfl,rfl,hH,hz,q⟩:=h
 cases rx
 obtain⟨u,rfl,ru⟩:=rv.one;obtain⟨z,k_,n,r,hl,e⟩:=I.Ut hH;refine NZ F.slot_list_append ⟨_,e,rfl⟩ F.entry_list_append (F.args_list_append_2 _ _) (PySem.list_append l k_.toArray n u (by rw[ax];lia)) ⟨e,?_⟩;refine⟨.OU,_,I.Xh (its':=k_++[u]) hH e (by simp) (r.append (.cons ru .nil)) ?_,rfl,q⟩;rw[Qh,Ix];lia
def Ff:V->List V->Hp->VK->Prop:=λx vs H Q=>∃l b xs zs,x=.ref l/\vs=[.ref b]/\H l=some (.lst xs)/\H b=some (.lst zs)/\xs.length+zs.length<=sizeLine/\Q .OU (upd H l (.lst (xs++zs)))
theorem Bs:MtM X "list.extend" Ff:=by
 intro a_ s Z H x vs v us Q I rx rv h;obtain⟨l,b,xs,zs,rfl,rfl,hH,hB,hz,q⟩:=h
 cases rx
 obtain⟨u,rfl,ru⟩:=rv.one
 cases ru
 obtain⟨z,k_,n,r,hl,e⟩:=I.Ut hH;obtain⟨z2,P5,n2,r2,hl2,e2⟩:=I.Ut hB;have hsz:k_.toArray.size+P5.toArray.size<=sizeLine:=by rw[ax,ax];lia
 have UH:¬ (!k_.toArray.isEmpty&&Builtin.List.listTooLong (k_.toArray.size+P5.toArray.size))=true:=by
  rw[wC hsz,Bool.and_false];exact pI
 refine NZ F.slot_list_extend ⟨_,e,rfl⟩ F.entry_list_extend (F.args_list_extend_2 _ _)
  (AutoSeq1.list_extend_list_list_0 l k_.toArray n b P5.toArray n2 UH (by rw[ax];lia) (by lia)) ⟨e,e2,?_⟩
 refine⟨.OU,_,I.Xh (its':=k_++P5) hH e (by simp) (r.append r2) ?_,rfl,q⟩;rw[Qh];lia
def Ml:V->List V->Hp->VK->Prop:=λx vs H Q=>∃l xs y,x=.ref l/\vs=[]/\H l=some (.lst xs)/\xs[xs.length - 1]? = some y/\Q y (upd H l (.lst xs.dropLast))
theorem IM:MtM X "list.pop" Ml:=by
 intro a_ s Z H x vs v us Q I rx rv h;obtain⟨l,xs,y,rfl,rfl,hH,hy,q⟩:=h
 cases rx
 have hus:=rv.zero;subst hus;obtain⟨z,k_,n,r,hl,e⟩:=I.Ut hH;obtain⟨u,hu,ru⟩:=r.get hy;have VG:k_.toArray[k_.toArray.size - 1]? = some u:=by
  show k_.toArray[k_.length - 1]? = some u;rw[<-Array.getElem?_toList,<-hl];exact hu
 refine NZ F.slot_list_pop ⟨_,e,rfl⟩ F.entry_list_pop (F.args_list_pop_1 _) (MeetsSeq.list_pop_last l k_.toArray n u VG (by rw[ax];lia)) ⟨e,?_⟩;refine⟨y,_,I.Xh (its':=k_.dropLast) hH e ?_ r.dropLast ?_,ru,q⟩
 ·show k_.toArray.eraseIdxIfInBounds (k_.toArray.size - 1)=k_.dropLast.toArray;rw[ax,List.eraseIdxIfInBounds_toArray,yU]
 ·rw[List.length_dropLast];lia
def Mk:R2:=λx y H Q=>∃l k xs,x=.ref l/\y=.int k/\H l=some (.lst xs) /\ -(2^63)<=k/\k<2^63/\xs.length*k.toNat<=sizeLine /\
 ∀p,H p=none->Q (.ref p) (upd H p (.lst (List.replicate k.toNat xs).flatten))
def len_rep(xs:List α)(k:Nat):(List.replicate k xs).flatten.length=k*xs.length:=by
 induction k with
 | zero=>simp
 | succ k ih=>rw[sw,Ba,Qh,ih,NB,Nat.add_comm]
theorem Iy:OA X (binaryOp .Mult) Mk:=by
 intro a_ s Z H x y v u Q I rx ry h;obtain⟨l,k,xs,rfl,rfl,hH,h1,h2,hz,q⟩:=h
 cases rx
 obtain⟨t,rfl⟩:=ry;obtain⟨z,k_,n,r,hl,e⟩:=I.Ut hH;have hlen:k_.toArray.size*k.toNat<=sizeLine:=by rw[ax,<-hl];exact hz
 have zaF:¬ k_.toArray.size*k.toNat>(2^63 - 1) / 8:=by
  have:(sizeLine:Nat)<=(2^63 - 1) / 8:=by decide
  lia
 have Sg:¬ (!Builtin.List.listFitsIndex k)=true:=by
  rw[fitsIndex_both h1 h2];exact pI
 have UH:¬ Builtin.List.listTooLong (k_.toArray.size*k.toNat)=true:=by
  rw[wC hlen];exact pI
 have zaz:List.foldl (λx1 x2=>x1++x2) #[] (List.replicate (if k_.toArray.isEmpty=true then 0 else k.toNat) k_.toArray)=(List.replicate k.toNat k_).flatten.toArray:=by
  have f0:∀m:Nat,List.foldl (λx1 x2=>x1++x2) #[] (List.replicate m k_.toArray)=(List.replicate m k_).flatten.toArray:=λm=>by
   have:=foldl_rep k_ m [];rw[List.nil_append]at this;exact this
  rw[f0]
  cases k_ with
  | nil=>simp
  | cons a r'=>rw[ar (by simp)]
 refine wpAny_binaryOp_repeat_ref (T := "list") (U := "int") (by decide) ⟨_,e,rfl⟩ (λs'=>typeIs_int s' k t) noFill_list_mul F.fills_int_mul F.slot_int_rmul repeat_list F.slot_int_index.lookup
  (NZ F.slot_int_rmul (typeIs_int s k t) F.entry_int_rmul (F.args_int_rmul_2 _ _) (int___rmul___int_list k t l k_.toArray n)
   ⟨e,rfl,⟨_,e,rfl⟩,NZ F.slot_list_mul ⟨_,e,rfl⟩ F.entry_list_mul (F.args_list_mul_2 _ _) (AutoListH.list___mul___list_int_3 l k_.toArray n k t Sg zaF UH) ⟨e,?_⟩⟩)
 rw[zaz];exact⟨.ref _,_,I.zag (t':=s.toks) (r.rep k.toNat) (by rw[len_rep,Nat.mul_comm];exact hz),rfl,q _ I.fresh⟩
end
end L2
namespace Att
open PySem PySem.W PySem.Calls PyProof.Rows
def oJ{P:Params}{h:Heap}:∀(ns:List Int) (vs:List Value),WellAll P h vs (ns.map WData.int)->IntsAre vs ns:=by
 intro ns
 induction ns with
 | nil =>
  intro vs w;rw[N3]at w
  cases w
  exact .nil
 | cons n ns ih =>
  intro vs w;rw[aw]at w
  cases w with
  | cons a b =>
   cases a
   exact .cons _ _ (ih _ b)
def Be{l:OpenLaw}{n:Nat}(hn:l.most=some n){P:Params}{h:Heap}{args:List WData}{vals:List Value}
  (VH:l.row.toRowW.claim.pre args=true) (hwl:WellAll P h vals args) :
  ∃a vs ns,vals=[Value.ref a]/\args=[WData.list (ns.map WData.int)]/\h.get? a=some { cls:=.type "list",data:=.seq vs.toArray }/\IntsAre vs ns/\ns.length<=n:=by
 have hsh:WShape.hasAll [] args [.list .int]=true:=(pre_splitW VH).1;have hc:l.pre.holds [] { args:=args }=true:=(pre_splitW VH).2;obtain⟨d,r,rfl,h1,h2⟩:=hasAllW_cons hsh;obtain rfl:=hasAllW_nil h2;obtain⟨xs,rfl,h3⟩:=hasW_list h1;obtain⟨ns,rfl⟩:=items_int h3;have hlen:ns.length<=n:=by
  unfold OpenLaw.pre at hc;have h4:(WTm.not (.lt (.lit (.int (n:Int))) (.len (.arg 0)))).holds [] { args:=[.list (ns.map .int)] }=true:=by
   have h4:=(holds_andW hc).1;rw[hn]at h4;exact h4
  have h5:=condW_of h4 (w_not (w_lt w_lit (w_len_list (w_arg rfl))));rw[L_]at h5;refine Nat.le_of_not_lt λq=>?_
  have q':(n:Int)<((ns.length:Nat):Int):=by lia
  first
   | (rw[cr q']at h5;exact absurd h5 (by decide))
   | (simp at h5;lia)
 cases hwl with
 | cons w1 w2 =>
  cases w2
  cases w1 with
  | list ho zaG=>exact⟨_,_,ns,rfl,rfl,ho,oJ ns _ zaG,hlen⟩
def Bj(l:OpenLaw)(args:List WData):l.row.toRowW.claim.post args (.bool true) args=true :=
 postW_of (r:=l.row.toRowW) (X:=(true==true))
  (show WShape.has [] (.bool true) .bool=true by first|rfl|decide|simp[WShape.has,WShape.arms,WShape.armsAll])
  (show(WTm.eq .res (.lit (.bool true))).value [] { args:=args,res:=some (.bool true),after:=args }=some (.bool (true==true))from w_eq_bool (w_res rfl) w_lit) rfl
def So{l:OpenLaw}{n:Nat}{q:Program}{loose:List Str}{XP:(Str->Option Value)->Heap->Prop}{YP:World->Heap->Prop}{d:DefRec}
  (hn:l.most=some n) (Zx:d.params.defaults=[])
  (call:∀(w:World) (s₀ s₁:Shared) (mg mb:Pn) (fa:Addr) (o:Obj) (pm cd doc:Value) (a:Addr) (vs:List Value) (ns:List Int),
   Ground q loose [] XP w s₀ mg mb s₁.heap->YP w s₁.heap ->
   s₁.heap.get? fa=some o->o.data=.func (docDef d.name d.params d.body d.scope pm cd doc)->s₁.heap.CodeRec cd d.name->mg d.name=some (.ref fa) ->
   s₁.heap.get? a=some { cls:=.type "list",data:=.seq vs.toArray }->IntsAre vs ns->ns.length<=n->s₁.gens = #[] ->
   codeAny (model l.prog w) callerA (.call (.ref fa) ⟨[.ref a],[]⟩) (λr s'=>r=.ok (.ret (.bool true))/\OldK s₁.heap s'.heap/\s'.os=s₁.os/\AllBare s'.gens) s₁) :
  WalkO q loose XP YP l.row.toRowW d [] (λf vs=>PySem.call f vs):=by
 intro w s₀ s₁ mg mb G Y fa o pm cd doc dV kV ho hd O2 hD H_ hg args vals as VH zaN hrd hwl Wr;obtain rfl:dV=.none:=Dflts.none hD Zx;obtain rfl:kV=.none:=Dflts.noKw hD;obtain⟨a,vs,ns,rfl,rfl,Xt,hints,hlen⟩:=Be hn VH hwl;refine enter_call (NX (call w s₀ s₁ mg mb fa o pm cd doc a vs ns G Y ho (fd_plain hd) O2 H_ Xt hints hlen hg) λr s' hq=>?_);obtain⟨rfl,h2,h3,h4⟩:=hq;exact⟨.inl ⟨.bool true,.bool true,[],rfl,λ_=>rfl,.bool true,Bj l _,λ_=>⟨List.Pairwise.nil,λ_ hm=>(nomatch hm)⟩⟩,h2,h3,h4⟩
end Att
namespace L2
open PySem PySem.Spec PyProof.Rows
variable {H H':Hp}{X:Cx}{w:World}{a:Addr}{P:Program}{pos:Pos}{u:Value}{s:Shared}{y:V}{kvs:List (List Key×V)}{scope:Scope}{a_:K_}{Z:St}{A:Around}{E Q:Of}{o:Option V}{x qual:Str}{elt iter tg:Expr}{ifs:List Expr}{xs:List (List Key×Addr×Value)}{env:Env}{N':List Str}{g:TG}{tc:TT}{te:TE}
def mN:∀{vs:List Value} {ns:List Int},IntsAre vs ns->Vals (ns.map V.int) vs
 | _,_,.nil=>.nil
 | _,_,.cons n t h=>.cons ⟨t,rfl⟩ (mN h)
def JU(H:Hp):Prop:=∀b,H b=none\/∃o xs,H b=some (.OQ o (.lst xs))
theorem DL{K:PySem.W.Frag}{mg mb:Pn}{CX:WR}{k:Nat}{fa:Addr}{fd:FuncData}{sp:Sp}{s₁:Shared}{vs:List Value}{ns:List Int}
  (KX:K.In s₁.heap) (Sz:s₁.heap.Ns mainGlobals mg) (hb:s₁.heap.Ns builtinsNs mb) (hbb:∀x:Str,x ≠ "__name__" -> mb x=bootBuiltins x) (VL:s₁.heap.NoLimit) (hg:s₁.gens = #[])
  (ha:s₁.heap.get? a=some { cls:=.type "list",data:=.seq vs.toArray }) (hi:IntsAre vs ns) (hl:ns.length<=sizeLine) (hr:I_ k callerA)
  (F:∀base:Heap,K.In base->base.Ns mainGlobals mg->Oz P w K mg base CX k fa fd [x] sp) (Zz:∀(s:Shared) (u:Value),BindsTo s fd ⟨[u],[]⟩ [(x,u)])
  (RG:∀H:Hp,JU H->Ot K H a (ns.map V.int)->sp [.ref a] H (λv _=>v=.bl true) λ_ _ _=>False)
  (hCX:∀H e s',CX [] H s₁ (λ_ _ _=>False) e s'->False) :
  codeAny (model P w) callerA (.call (.ref fa) ⟨[.ref a],[]⟩) (λr s'=>r=.ok (.ret (.bool true))/\OldK s₁.heap s'.heap/\s'.os=s₁.os/\AllBare s'.gens) s₁:=by
 have rv:=mN hi;have zai:=hi.length;have core:∀H:Hp,JU H->Ot K H a (ns.map V.int)->O5 P w H s₁.heap->(∀b,H b≠none->b=a)->(H a≠none->K.lookup a=none) ->
   codeAny (model P w) callerA (.call (.ref fa) ⟨[.ref a],[]⟩) (λr s'=>r=.ok (.ret (.bool true))/\OldK s₁.heap s'.heap/\s'.os=s₁.os/\AllBare s'.gens) s₁:=by
  intro H hO hS n_ hA hK;have TB:∀{b:Addr} {o:Obj},s₁.heap.get? b=some o->H b=none->(uV s₁.heap H).get? b=some o:=λe n=>D1 e n
  have Y4:∀{b:Addr} {o:Obj} {es:Array DictEntry} {ep:Nat},s₁.heap.get? b=some o->o.data=.dict es ep->H b=none:=λ{b o es ep} e d=>by
   cases q:H b with
   | none=>rfl
   | some u =>
    have e':b=a:=hA b (by rw[q];simp);subst e';rw[ha]at e;cases e;have d':Data.seq vs.toArray _=Data.dict es ep:=d
    cases d'
  have nsK:∀{b:Addr} {m:Pn},s₁.heap.Ns b m->(uV s₁.heap H).Ns b m:=λ{b m} ⟨o,es,ep,e,d,r⟩=>⟨o,es,ep,TB e (Y4 e d),d,r⟩
  have hKb:K.In (uV s₁.heap H):=λb o e=>TB (KX b o e) (by
   cases q:H b with
   | none=>rfl
   | some u =>
    have e':b=a:=hA b (by rw[q];simp);subst e'
    rw[hK (by rw[q];simp)]at e;cases e)
  have hM:Mod K mg (uV s₁.heap H):=⟨hKb,nsK Sz,⟨mb,nsK hb,hbb⟩,let ⟨mc,h1,h2⟩:=VL;⟨mc,nsK h1,h2⟩⟩;have e0:Tf P w K mg (uV s₁.heap H) callerA [] s₁ H:=⟨rfl,hM,λb o e=>FK e,Nat.le_of_eq (BD _ _),trivial,λb hb=>absurd (show b∈([]:List Addr)from hb) (by simp),n_,.of_eq hg⟩;refine NX ((F _ hKb (nsK Sz)).run callerA [] s₁ H ⟨[.ref a],[]⟩ [.ref a] [.ref a] _ _ hr e0 (Zz s₁ (.ref a)) (.cons rfl .nil) (RG H hO hS)) λr s' h=>?_
  cases r with
  | error e=>exact(hCX H e s' h).elim
  | ok fl =>
   cases fl with
   | next=>exact False.elim h
   | brk=>exact False.elim h
   | cont=>exact False.elim h
   | ret u =>
    obtain⟨v,H',os,bare,un,zaw,r',q⟩:=h;have q':v=.bl true:=q;subst q';obtain rfl:u=Value.bool true:=r';refine⟨rfl,OldK.of_keep λb o e=>?_,os,bare⟩
    cases q:H b with
    | none=>exact un.keep b o e q (by intro z;exact absurd (show b∈([]:List Addr)from z) (by simp)) (by simp)
    | some u =>
     rcases hO b with z|⟨ob,xs,z⟩
     ·rw[q]at z;cases z
     ·have z2:=un.Qb b ob _ z;obtain⟨e1,_⟩:=n_ b _ z;obtain⟨e2,_⟩:=zaw b _ z2;rw[e]at e1;cases e1;exact e2
 cases hk:K.lookup a with
 | some o =>
  have e:=KX a o hk;rw[ha]at e
  cases e
  refine core (λ_=>none) (λ_=>.inl rfl) (.inr ⟨_,vs.toArray,_,hk,rfl,rfl,rfl,by rw[ax,zai];exact hl,by simpa using rv⟩) (λb u z=>by have z':(none:Option HO)=some u:=z;cases z') (λb z=>absurd rfl z) λz=>absurd rfl z
 | none =>
  refine core (λb=>if b=a then some (.OQ { cls:=.type "list",data:=.seq vs.toArray } (.lst (ns.map V.int)))else none) (λb=>?_) (.inl (.inr ⟨{ cls:=.type "list",data:=.seq vs.toArray },al rfl⟩)) (λb u z=>?_) (λb z=>?_) λ_=>hk
  ·by_cases hb:b=a
   ·exact .inr ⟨_,_,al hb⟩
   ·exact .inl (ar hb)
  ·by_cases hb:b=a
   ·have z':=(al hb).symm.trans z
    cases z'
    subst hb;exact⟨ha,by rw[L_];exact hl,vs,_,rv,ha⟩
   ·have z':=(ar hb).symm.trans z
    cases z'
  ·by_cases hb:b=a
   ·exact hb
   ·exact absurd (ar hb) z
def Va{l:PySem.W.OpenLaw}{n k:Nat}{q:Program}{loose:List Str}{XP:(Str->Option Value)->Heap->Prop}{YP:World->Heap->Prop}{d:DefRec}{K:Params->PySem.W.Frag}{CX:World->WR}{sp:World->Sp}
  (hn:l.most=some n) (Zn:n<=sizeLine) (Zx:d.params.defaults=[]) (hr:I_ k callerA)
  (hY:∀(w:World) (h:Heap),YP w h->(K w.params).In h)
  (F:∀(w:World) (mg:Pn) (fa:Addr) (h:Heap),(K w.params).In h->h.Ns mainGlobals mg->mg d.name=some (.ref fa) ->
   ∃fd:FuncData,(∀(s:Shared) (u:Value),BindsTo s fd ⟨[u],[]⟩ [(x,u)]) /\
    ∀base:Heap,(K w.params).In base->base.Ns mainGlobals mg->Oz l.prog w (K w.params) mg base (CX w) k fa fd [x] (sp w))
  (RG:∀(w:World) (H:Hp) (a:Addr) (ns:List Int),ns.length<=n->JU H->Ot (K w.params) H a (ns.map V.int)->sp w [.ref a] H (λv _=>v=.bl true) λ_ _ _=>False)
  (hCX:∀(w:World) (H:Hp) (s:Shared) (e:Value) (s':Shared),CX w [] H s (λ_ _ _=>False) e s'->False) :
  PySem.W.WalkO q loose XP YP l.row.toRowW d [] (λf vs=>PySem.call f vs):=by
 refine Att.So hn Zx λw s₀ s₁ mg mb fa o pm cd doc a vs ns G Y ho hd O2 H_ Xt hints hlen hg=>?_
 have KX:=hY w _ Y;obtain⟨fd,hb,hF⟩:=F w mg fa _ KX G.T.g H_;exact DL KX G.T.g G.T.b G.T.builtins G.T.nolimit hg Xt hints (di hlen Zn) hr hF hb (λH hO hS=>RG w H a ns hlen hO hS) λH e s'=>hCX w H s₁ e s'
def cQ(s:Stmt):Arguments:=match s with
 | .FunctionDef _ a _ _ _ _ _ _ _ _=>a
 | _=>{ posonlyargs:=[],args:=[],vararg:=none,kwonlyargs:=[],kw_defaults:=[],kwarg:=none,defaults:=[] }
def bO(s:Stmt):List Stmt:=match s with
 | .FunctionDef _ _ b _ _ _ _ _ _ _=>b
 | _=>[]
def aB(s:Stmt):Scope:=match s with
 | .FunctionDef _ _ _ _ _ _ sc _ _ _=>sc
 | _=>{ kind:=.function,names:=[],isGenerator:=false,isCoroutine:=false }
structure Oy(K:PySem.W.Frag)(x qual:Str)(st:Stmt)(f:Addr)(fd:FuncData):Prop where
 ex:∃(oc:Value) (od:Option Addr) (kV doc pm:Value) (an:Option Addr) (r_ ct:Value) (Rq:Array (Option Value)),
  fd=PySem.W.fnOf x qual (cQ st) (bO st) (aB st) .none kV doc pm an r_ ct/\K.lookup f=some ⟨oc,od,.func fd,Rq⟩/\PySem.W.codeIn K r_ qual=true
 kp:PySem.W.keepIn K (.ref f)=true
section
variable {K:PySem.W.Frag} {mg:Pn} {base:Heap}
def Oy.binds{st:Stmt}{f:Addr}{fd:FuncData}{ps:List Str}(F:Oy K x qual st f fd)
  (h:∀(kV doc pm:Value) (an:Option Addr) (r_ ct:Value) (us:List Value),us.length=ps.length->bindArgs (PySem.W.fnOf x qual (cQ st) (bO st) (aB st) .none kV doc pm an r_ ct) ⟨us,[]⟩=pure (ps.zip us)):Binds K fd ps []:=by
 obtain⟨oc,od,kV,doc,pm,an,r_,ct,Rq,rfl,lk,O2⟩:=F.ex;exact .all (h kV doc pm an r_ ct)
def D4{st:Stmt}{f:Addr}{oc:Value}{od an:Option Addr}{Rq:Array (Option Value)}{kV doc pm r_ ct:Value}(l:K.lookup f=some ⟨oc,od,.func (PySem.W.fnOf x qual (cQ st) (bO st) (aB st) .none kV doc pm an r_ ct),Rq⟩)
  (c:PySem.W.codeIn K r_ qual=true) (k:PySem.W.keepIn K (.ref f)=true):Oy K x qual st f (PySem.W.fnOf x qual (cQ st) (bO st) (aB st) .none kV doc pm an r_ ct):=⟨⟨oc,od,kV,doc,pm,an,r_,ct,Rq,rfl,l,c⟩,k⟩
end
def uT{A B:Prop}(h:B):if false=true then A else B:=by
 rw[ar pI];exact h
def rX{A B:Prop}(h:A):if true=true then A else B:=by
 rw[al rfl];exact h
def f_(H H':Hp):Prop:=∀b o,H b=some o->H' b=some o
def f_.refl(H:Hp):f_ H H:=λ_ _ h=>h
def f_.trans{H1 H2:Hp}(a:f_ H H1)(b:f_ H1 H2):f_ H H2:=λc o h=>b c o (a c o h)
def f_.free(e:f_ H H'){l:Addr}(h:H' l=Option.none):H l=Option.none:=by
 cases q:H l with
 | none=>rfl
 | some o =>
  rw[e l o q]at h
  cases h
def f_.seq{K:PySem.W.Frag}{xs:List V}(e:f_ H H')(h:Ot K H a xs):Ot K H' a xs:=by
 rcases h with (h|⟨o,h⟩)|h
 ·exact .inl (.inl (e _ _ h))
 ·exact .inl (.inr ⟨o,e _ _ h⟩)
 ·exact .inr h
def fnB:Option NameKind->Bool
 | some .cell=>true
 | _=>false
def Jh{o:Option NameKind}(h:fnB o=true):o=some .cell:=by
 unfold fnB at h;split at h
 ·rfl
 ·cases h
def bv(X:Cx)(N':List Str)(scope:Scope)(cl:List (Str×Addr))(s₂:Shared)(H₂:Hp)(fp:List Addr)(C:Addr):Cx :=
 { X with N:=N',s₀:=s₂,H₀:=H₂,env:=compEnvC scope cl C X.env,outer:=X.stack,ex:=fp,fn:=λy=>fnB (scope.names.lookup y),pn:=[],xe:=λ_ _=>False }
def lobj(ys:List Value)(k:Nat):Obj:={ cls:=.type "list",data:=.seq ys.toArray k }
section
variable {prog:Program} {R:Result->Shared->Prop}
def jO{target:Expr}{it acc:Value}(I:Nat->Shared->Prop)
  (turn:∀n s,I n s->wpAny (model prog w) A (pyNext it) (λr s₁=>match r with
   | none=>R (.ok .next) s₁
   | some v=>wpAny (model prog w) A (letOwnedTupleGo target it v) (λ_ s₁'=>wpAny (model prog w) A (assign target env v) (λ_ s₂ =>
     wpAny (model prog w) A (forIn ifs true λc r=>if r=true then do let ok <-isTrue c env (eval c env);pure (ForInStep.yield ok)else pure (ForInStep.yield r)) (λok s₃ =>
      if ok=true then wpAny (model prog w) A (eval elt env) (λx s₄ =>
       wpAny (model prog w) A (call (.builtin "list.append") [acc,x]) (λ_ s₅=>∃m,m<n/\I m s₅) (λ_ _=>False) s₄) (λ_ _=>False) s₃
      else ∃m,m<n/\I m s₃) (λ_ _=>False) s₂) (λ_ _=>False) s₁') (λ_ _=>False) s₁) (λ_ _=>False) s)
  (n:Nat) (h:I n s) :
  codeAny (model prog w) A (.compLoop (.ListComp elt [⟨target,iter,ifs,0⟩] scope pos) 0 it acc env) R s:=by
 refine codeAny_loop rfl I (λn s hI=>?_) n h;show wpAny _ A ((compTurn (.ListComp elt [⟨target,iter,ifs,0⟩] scope pos) 0 it acc env).onRaise (λx=>do noteFrame x env;theTreesLotGoes x)) _ _ s;refine wpAny_noted ?_;rw[compTurn_list];refine i_ (Np (i_ (se (turn n s hI) (λr s₁ h₁=>?_) λ_ _ h'=>h'.elim)))
 cases r with
 | none=>exact s_ h₁
 | some v =>
  refine i_ (se h₁ (λ_ s₁' h₁'=>?_) λ_ _ h'=>h'.elim);refine i_ (se h₁' (λ_ s₂ h₂=>i_ (se h₂ (λok s₃ h₃=>?_) λ_ _ h'=>h'.elim)) λ_ _ h'=>h'.elim)
  cases ok with
  | false=>exact s_ ⟨rfl,h₃⟩
  | true =>
   exact i_ (i_ (se h₃ (λx s₄ h₄=>i_ (se h₄ (λ_ s₅ h₅=>s_ (s_ ⟨rfl,h₅⟩)) λ_ _ h'=>h'.elim)) λ_ _ h'=>h'.elim))
end
def ZY(X:Cx)(ifs:List Expr)(t:TT):Prop :=
 ∀(a_:K_) (s:Shared) (Z:St) (H:Hp) (Q:Bool->Hp->Prop),Inv X a_ Z H s->t Z H Q ->
  wpAny (model X.prog X.w) X.A (forIn ifs true λc r=>if r=true then do let ok <-isTrue c X.env (eval c X.env);pure (ForInStep.yield ok)else pure (ForInStep.yield r)) (TP X a_ Z Q) X.xe s
def Fl:ZY X [] (λ_ H Q=>Q true H):=λ_ _ _ H _ I h=>wpAny_tests_nil ⟨H,I,h⟩
def zL{c:Expr}{t:TT}(h:PT X c t):ZY X [c] t:=λa_ s Z H Q I q=>wpAny_tests_one (h a_ s Z H Q I q)
def gj{env:Env}:∀{names:List (Str×NameKind)} {x:Str},
  (names.map λ(n,k)=>if(k==NameKind.free&&env.scope.kind==.function&&env.kindOf n==some .cell)then(n,NameKind.cell)else(n,k)).lookup x
   = (names.lookup x).map λk=>if(k==NameKind.free&&env.scope.kind==.function&&env.kindOf x==some .cell)then NameKind.cell else k
 | [],_=>rfl
 | (n,k)::r,x=>by
  have ih:=@gj env r x;show List.lookup x ((if(k==NameKind.free&&env.scope.kind==.function&&env.kindOf n==some .cell)=true then(n,NameKind.cell)else(n,k))::_)=_
  cases hx:x==n with
  | true =>
   have e:x=n:=by simpa using hx
   subst e;by_cases hc:(k==NameKind.free&&env.scope.kind==.function&&env.kindOf x==some .cell)=true
   ·rw[al hc];simp only[sk,hx,Nv,al hc]
   ·rw[ar hc];simp only[sk,hx,Nv,ar hc]
  | false =>
   by_cases hc:(k==NameKind.free&&env.scope.kind==.function&&env.kindOf n==some .cell)=true
   ·rw[al hc];simp only[sk,hx];exact ih
   ·rw[ar hc];simp only[sk,hx];exact ih
def lp{env:Env}:∀(names:List (Str×NameKind)) (acc:List (Str×Addr)),(∀x∈names,x.2=.free->∃c,env.cells.lookup x.1=some c) ->
  (∀x c,acc.lookup x=some c->env.cells.lookup x=some c) ->
  ∃cl,(forIn names acc λ(x:Str×NameKind) (cs:List (Str×Addr))=>(if(x.2==NameKind.free)=true then(do let c <-cellOf env x.1;pure (ForInStep.yield ((x.1,c)::cs)))else pure (ForInStep.yield cs):Sem (ForInStep (List (Str×Addr)))))=pure cl /\
   (∀x c,cl.lookup x=some c->env.cells.lookup x=some c)/\(∀x,(acc.lookup x).isSome->(cl.lookup x).isSome)/\∀x∈names,x.2=.free->(cl.lookup x.1).isSome
 | [],acc,_,ha=>⟨acc,rfl,ha,λ_ h=>h,λ_ h=>nomatch h⟩
 | (n,k)::r,acc,hn,ha=>by
  cases hk:(k==NameKind.free)with
  | true =>
   obtain⟨c,hc⟩:=hn (n,k) du (by simpa using hk);have ha':∀x d,((n,c)::acc).lookup x=some d->env.cells.lookup x=some d:=λx d e=>by
    rw[sk]at e
    cases q:x==n with
    | true =>
     rw[q]at e;have:x=n:=by simpa using q
     subst this;exact hc.trans e
    | false=>rw[q]at e;exact ha x d e
   obtain⟨cl,e,h1,h2,h3⟩:=lp r ((n,c)::acc) (λx hx=>hn x (QC _ hx)) ha';have grow:∀x,(acc.lookup x).isSome->(((n,c)::acc).lookup x).isSome:=λx hx=>by
    rw[sk]
    cases q:x==n with
    | true=>rfl
    | false=>exact hx
   refine⟨cl,?_,h1,λx hx=>h2 x (grow x hx),λx hx hf=>?_⟩
   ·rw[Nx];have q:cellOf env n=pure c:=by
     unfold cellOf;rw[hc]
    simp only[hk,oP,q];exact e
   ·rcases List.mem_cons.mp hx with rfl|hx
    ·exact h2 _ (by simp[sk])
    ·exact h3 x hx hf
  | false =>
   obtain⟨cl,e,h1,h2,h3⟩:=lp r acc (λx hx=>hn x (QC _ hx)) ha;refine⟨cl,?_,h1,h2,λx hx hf=>?_⟩
   ·rw[Nx];simp only[hk,M6,Ma];exact e
   ·rcases List.mem_cons.mp hx with rfl|hx
    ·exfalso;have:k=.free:=hf;subst this;simp at hk
    ·exact h3 x hx hf
def qV(h:∀x∈scope.names,x.2=.free->∃c,env.cells.lookup x.1=some c) :
  ∃cl,closureFor scope env=pure cl/\(∀x c,cl.lookup x=some c->env.cells.lookup x=some c)/\∀x∈scope.names,x.2=.free->(cl.lookup x.1).isSome:=by
 obtain⟨cl,e,h1,_,h3⟩:=lp (env:=env) scope.names [] h (λx c e=>by simp at e);refine⟨cl,?_,h1,h3⟩;unfold closureFor;have q:(forIn scope.names [] λ(x:Str×NameKind) (cs:List (Str×Addr))=>(match x with|(name,kind)=>if(kind==NameKind.free)=true then(do let c <-cellOf env name;pure (ForInStep.yield ((name,c)::cs)))else pure (ForInStep.yield cs):Sem (ForInStep (List (Str×Addr)))))=pure cl:=e
 first
  | (simp only[];rw[q];rfl)
  | (show(do let cs <-_;pure cs)=_;rw[q];rfl)
  | (rw[show(forIn scope.names [] _)=pure cl from q];rfl)
def ka:∀(names:List (Str×NameKind)) (n:Nat) (acc:List (Str×Addr)),cellsFrom n names acc=cellsFrom n names []++acc
 | [],_,_=>rfl
 | (x,k)::r,n,acc=>by
  unfold cellsFrom;split
  ·rw[ka r (n+1) ((x,n)::acc),ka r (n+1) [(x,n)],List.append_assoc];rfl
  ·exact ka r n acc
def nF:∀{names:List (Str×NameKind)} {n:Nat} {acc:List (Str×Addr)} {x:Str} {c:Addr},(x,c)∈cellsFrom n names acc->(x,NameKind.cell)∈names\/(x,c)∈acc
 | [],_,_,_,_,h=>.inr h
 | (y,k)::r,n,acc,x,c,h=>by
  unfold cellsFrom at h;split at h
  ·rename_i hk;have hk':k=.cell:=by simpa using hk
   rcases nF h with z|z
   ·exact .inl (QC _ z)
   ·rcases List.mem_cons.mp z with e|z
    ·cases e;subst hk';exact .inl du
    ·exact .inr z
  ·rcases nF h with z|z
   ·exact .inl (QC _ z)
   ·exact .inr z
theorem iZ{α:Type}:∀{l r:List (Str×α)} {x:Str},(l++r).lookup x=match l.lookup x with|some c=>some c|none=>r.lookup x
 | [],_,_=>rfl
 | (n,c)::l,r,x=>by
  rw[List.cons_append,sk,sk]
  cases x==n with
  | true=>rfl
  | false=>exact iZ
structure Pf(X:Cx)(N':List Str)(k:Nat)(scope:Scope):Prop where
 kind:scope.kind=.function
 len:N'.length=X.N.length+k
 cells:∀y∈scope.names,y.2=.cell->scope.names.lookup y.1=some .cell
 names:∀y∈scope.names,y.2=.local->scope.names.lookup y.1=some .local
 outer:∀(i:Nat) x,i<X.N.length->N'[i]? = some x->(scope.names.lookup x).isSome->(scope.names.lookup x=some .free\/scope.names.lookup x=some .local\/scope.names.lookup x=some .cell)->X.N[i]? = some x/\scope.names.lookup x=some .free
 free:∀y∈scope.names,y.2=.free->X.env.kindOf y.1=some .cell\/X.env.kindOf y.1=some .free
def zD(wi:TI)(k:Nat)(g:TG)(tc:TT)(te:TE):TE:=λZ H Q=>wi Z H λJ H1=>∃W:Nat->Nat->List V->St->Hp->Prop,(∃m,W 0 m [] (Z++List.replicate k none) H1) /\
 ∀i m vs σ' H',W i m vs σ' H'->vs.length<=sizeLine /\
  ((J.stop i H'/\∀p,H' p=none->Q (.ref p) (upd H' p (.lst vs))) \/
   (J.go i H'/\∀x H2,J.Sw i H' x H2->g x σ' H2 λσ3 H3=>tc σ3 H3 λb H4=>if b=true then te σ3 H4 λy H5=>∃m',m'<m/\W (i+1) m' (vs++[y]) σ3 H5 else ∃m',m'<m/\W (i+1) m' vs σ3 H4))
section
variable {H2:Hp} {s2:Shared}
def O5.YJ{h:Heap}{D:Addr}{vs:List V}{ys:List Value}{k:Nat}(x:O5 P w H h)(hn:H D=none)(hl:vs.length<=sizeLine)(r:Vals vs ys)(e:h.get? D=some (lobj ys k)) :
  O5 P w (upd H D (.lst vs)) h:=λb u q=>by
 by_cases hb:b=D
 ·subst hb;rw[aJ]at q
  cases q
  exact⟨hl,ys,k,r,e⟩
 ·rw[aD hb]at q;exact(x b u q).QY (λ_ _ _ z=>z) (λc z=>by rw[aD (aR z hn)];exact z) λc xs z=>by rw[aD (aR z hn)];exact z
theorem BJ{globals:Addr}{cl:List (Str×Addr)}{M:Model}{Q:Env->Shared->Prop}
  (h:Q (newEnv scope s.heap.objs.size globals (cellsFrom (s.heap.objs.size+1) scope.names cl) qual none .none (some env) builtinsNs) { s with heap:=pushCells (s.heap.push { cls:=.type "dict",data:=.dict #[] }) scope.names }) :
  wpAny M A (newFunctionEnv scope globals cl [] qual none .none (some env)) Q E s:=by
 simp only[newFunctionEnv,Option.isSome_some,oP];refine i_ (wpAny_alloc ?_);refine i_ (wpAny_layCells _ (λname kind cells=>by cases hkc:kind==NameKind.cell<;>simp[hkc]) _ _ _ _ ?_);rw[show({ s with heap:=s.heap.push { cls:=.type "dict",data:=.dict #[] } }:Shared).heap.objs.size=s.heap.objs.size+1 from qu ..];refine i_ ?_;rw[List.forIn_nil];exact s_ (s_ h)
theorem tS{k:Nat}{cl:List (Str×Addr)}{J:It}{fp:List Addr}{it:Addr}{tn:Nat->Heap->Prop}
  {RR:Value->Addr->Result->Shared->Prop} {Q:VK}
  (hc:X.calm=true) (S:Pf X N' k scope) (Tu:∀x c,cl.lookup x=some c->X.env.cells.lookup x=some c) (hcf:∀x∈scope.names,x.2=.free->(cl.lookup x.1).isSome)
  (I:Inv X a_ Z H2 s2) (T:Turn X.prog X.w X.K tg J fp it tn) (st:tn 0 s2.heap) (ff:∀b∈fp,lA X a_ H2 b)
  (hg:∀cl C,PG (bv X N' scope cl s2 H2 fp C) tg g) (ht:∀cl C,ZY (bv X N' scope cl s2 H2 fp C) ifs tc) (he:∀cl C,PE (bv X N' scope cl s2 H2 fp C) elt te)
  (rd:∃W:Nat->Nat->List V->St->Hp->Prop,(∃m,W 0 m [] (Z++List.replicate k none) H2) /\
   ∀i m vs σ' H',W i m vs σ' H'->vs.length<=sizeLine /\
    ((J.stop i H'/\∀p,H' p=none->Q (.ref p) (upd H' p (.lst vs))) \/
     (J.go i H'/\∀x H2,J.Sw i H' x H2->g x σ' H2 λσ3 H3=>tc σ3 H3 λb H4=>if b=true then te σ3 H4 λy H5=>∃m',m'<m/\W (i+1) m' (vs++[y]) σ3 H5 else ∃m',m'<m/\W (i+1) m' vs σ3 H4)))
  (hRR:∀D C s' H',Inv X a_ Z H' s'->(∃m,s'.heap.Ns C m)->lA X a_ H' C->Q (.ref D) H'->RR (.ref D) C (.ok .next) s') :
  wpAny (model X.prog X.w) X.A (newList []) (λacc s₃=>wpAny (model X.prog X.w) X.A (newFunctionEnv scope X.env.globals cl [] X.env.qual none .none (some X.env)) (λZO s₄ =>
   codeAny (model X.prog X.w) X.A (.compStart (.ListComp elt [⟨tg,iter,ifs,0⟩] scope pos) 0 (.ref it) acc { ZO with scope:=relabel scope X.env }) (RR acc ZO.locals) s₄) E s₃) E s2:=by
 obtain⟨W,⟨m0,w0⟩,turn⟩:=rd;refine im (BJ ?_);dsimp only;generalize hH2:s2.heap.push { cls:=.type "list",dict:=none,data:=.seq ([]:List Value).toArray }=G2;have hCs:G2.objs.size=s2.heap.objs.size+1:=by rw[<-hH2,qu]
 have hDC:s2.heap.objs.size≠G2.objs.size:=by rw[hCs];exact gu (No _)
 have T3:s2.heap.objs.size<=G2.objs.size:=by rw[hCs];exact MZ _
 have Xs:=cellsFrom_ok scope.names (G2.push { cls:=.type "dict",data:=.dict #[] }) (G2.objs.size+1) [] ⟨λ_ _ hm=>(nomatch hm),List.Pairwise.nil⟩ (by rw[qu];exact ai _);rw[qu]at Xs;have zay:(pushCells (G2.push { cls:=.type "dict",data:=.dict #[] }) scope.names).Ns G2.objs.size (λ_=>none):=(Heap.Ns.new G2 (.type "dict")).keeps (pushCells_keeps _ _);have old:∀b o,s2.heap.get? b=some o->(pushCells (G2.push { cls:=.type "dict",data:=.dict #[] }) scope.names).get? b=some o:=λb o e=>pushCells_keeps _ _ b o (Od _ (hH2▸Od _ e))
 have zaH:(pushCells (G2.push { cls:=.type "dict",data:=.dict #[] }) scope.names).get? s2.heap.objs.size=some (lobj [] 0):=pushCells_keeps _ _ _ _ (Od _ (hH2▸OX _ rfl));rw[ka scope.names (G2.objs.size+1) cl];generalize pushCells (G2.push { cls:=.type "dict",data:=.dict #[] }) scope.names=h₁ at *;have own:∀x c,(x,c)∈cellsFrom (G2.objs.size+1) scope.names []->(x,NameKind.cell)∈scope.names:=λx c h=>(nF h).elim id λz=>nomatch z
 have Uo:∀x,scope.names.lookup x=some .cell->∃c,(cellsFrom (G2.objs.size+1) scope.names []).lookup x=some c:=λx h=>qW h
 generalize cellsFrom (G2.objs.size+1) scope.names []=oc at *;generalize T2:s2.heap.objs.size=D at *;generalize hCe:G2.objs.size=C at *;have fpD:lA X a_ H2 D:=I.Pm (by rw[T2];exact ai _) (I.n_.fresh (by rw[T2];exact ai _));have fpC:∀H',H' C=none->lA X a_ H' C:=λH' hn=>I.Pm (by rw[T2];exact T3) hn
 have TY:∀b∈fp,b<D:=λb hb=>by
  obtain⟨o,e,_⟩:=T.obj _ _ st b hb;rw[<-T2];exact ay e
 have Vu:∀b,D<=b->b∉Q8 X.stack:=λb hb hm=>by
  rcases List.mem_cons.mp (I.QX b hm)with e|hm
  ·have:=I.lt;rw[T2]at this;rw[e]at hb;exact absurd (bo this hb) (nu _)
  ·exact I.Y3 (by rw[T2];exact hb) hm
 let X':=bv X N' scope (oc++cl) s2 H2 fp C
 have Tc:∀x c,cl.lookup x=some c->c<D:=λx c e=>by
  obtain⟨v,z⟩:=I.cell x c (Tu x c e);rw[<-T2];exact z.lt
 have hCD:D<=C:=T3;have QF:∀x c,(oc++cl).lookup x=some c->((x,c)∈oc/\D<c/\h₁.IsCell c none)\/(oc.lookup x=none/\cl.lookup x=some c):=λx c e=>by
  rw[iZ]at e
  cases q:oc.lookup x with
  | some c' =>
   rw[q]at e;cases e;have hm:=su q;obtain⟨z1,z2⟩:=Xs.empty x _ hm;exact .inl ⟨hm,wn hCD z2,z1⟩
  | none=>rw[q]at e;exact .inr ⟨rfl,e⟩
 have ok':X'.Ok:=by
  refine⟨I.ok.mod,S.kind,I.ok.glob,I.ok.blt,?_,λx y c e1 e2=>?_,λx hx=>?_,λx c hf e=>?_,I.ok.hd,I.ok.frames,.inl rfl,λb hb=>⟨?_,λx c e z=>?_⟩,I.bs,?_,λb o e hb=>?_,λb hb hm=>?_,I.stack,I.QR⟩
  ·show s2.heap.objs.size<=C;rw[T2];exact T3
  ·rcases QF x c e1 with ⟨m1,l1,_⟩|⟨_,e1⟩<;>rcases QF y c e2 with ⟨m2,l2,_⟩|⟨_,e2⟩
   ·exact name_of_addr Xs.apart m1 m2
   ·exact absurd (N1 l1 (Tc _ _ e2)) (nu _)
   ·exact absurd (N1 l2 (Tc _ _ e1)) (nu _)
   ·exact I.ok.inj x y c (Tu _ _ e1) (Tu _ _ e2)
  ·have Rr:(relabel scope X.env).names.lookup x=some .cell\/(relabel scope X.env).names.lookup x=some .free:=hx;have e:=gj (env:=X.env) (names:=scope.names) (x:=x);have e':(relabel scope X.env).names.lookup x=(scope.names.lookup x).map λk=>if(k==NameKind.free&&X.env.scope.kind==.function&&X.env.kindOf x==some .cell)then NameKind.cell else k:=e
   rw[e']at Rr
   cases q:scope.names.lookup x with
   | none=>rw[q]at Rr;rcases Rr with z|z<;>cases z
   | some kd =>
    have VJ:=su q;rw[q]at Rr;have Xv:kd=.free\/kd=.cell:=by
     by_cases hz:kd=.free
     ·exact .inl hz
     ·have hb:(kd==NameKind.free)=false:=by simpa using hz
      simp only[hb,NH,M6,Ma,Nv]at Rr;rcases Rr with z|z
      ·exact .inr (Option.some.inj z)
      ·exact absurd (Option.some.inj z) hz
    show ∃c,(oc++cl).lookup x=some c;rw[iZ]
    cases qo:oc.lookup x with
    | some c=>exact⟨c,rfl⟩
    | none =>
     rcases Xv with Xv|Xv
     ·exact Option.isSome_iff_exists.mp (hcf _ VJ Xv)
     ·subst Xv;obtain⟨c,e⟩:=Uo x q;rw[qo]at e;cases e
  ·have hq:scope.names.lookup x=some .cell:=Jh hf;obtain⟨c',ec⟩:=Uo x hq;rcases QF x c e with ⟨_,l,_⟩|⟨z,_⟩
   ·show s2.heap.objs.size<=c;rw[T2];exact Nf l
   ·rw[z]at ec;cases ec
  ·exact gu (bo (TY b hb) T3)
  ·rcases QF x c e with ⟨_,l,_⟩|⟨_,e⟩
   ·exact pr (N1 (TY b hb) l) z
   ·exact(ff b hb).2.2.2.2.1 x c (Tu x c e) z
  ·exact di I.ok.U8 I.sz
  ·obtain⟨_,_,_,hx,_⟩:=ff b hb;rcases hx with hx|hx
   ·exact I.ok.SO b o e hx
   ·exact absurd (bo (ay (I.ok.bs b o e).1) hx) (nu _)
  ·obtain⟨_,hl,hfs,_⟩:=ff b hb;rcases List.mem_cons.mp (I.QX b hm)with e|hm
   ·exact hl e
   ·exact hfs hm
 have zah:(Z++List.replicate k none).length=N'.length:=by rw[Qh,Oc,I.len,S.len]
 have I0:Inv X' [(D,lobj [] 0)] (Z++List.replicate k none) H2 { s2 with heap:=h₁ }:=by
  refine⟨ok',rfl,I.bare,Un.kept old,⟨_,zay,λi x v e1 e2 e3=>?_⟩,λx c e=>?_,I.n_.fresh (by rw[T2];exact T3),λx c e=>?_,λp hp=>?_,I.n_.kept old,zah⟩
  ·have hi:i<Z.length:=by
    by_cases hi:i<Z.length
    ·exact hi
    ·rw[NF (Nat.not_lt.mp hi),Cr]at e2;split at e2<;>cases e2
   rw[io hi]at e2;have e':(relabel scope X.env).names.lookup x=(scope.names.lookup x).map λk=>if(k==NameKind.free&&X.env.scope.kind==.function&&X.env.kindOf x==some .cell)then NameKind.cell else k:=gj (env:=X.env) (names:=scope.names) (x:=x)
   have Zi:∃kd,scope.names.lookup x=some kd/\(kd=.free\/kd=.local\/kd=.cell):=by
    have Yr:(relabel scope X.env).names.lookup x=some .local\/(relabel scope X.env).names.lookup x=some .cell\/(relabel scope X.env).names.lookup x=some .free:=e3;rw[e']at Yr
    cases q:scope.names.lookup x with
    | none=>rw[q]at Yr;rcases Yr with z|z|z<;>cases z
    | some kd =>
     refine⟨kd,rfl,?_⟩;rw[q]at Yr;by_cases hz:kd=.free
     ·exact .inl hz
     ·have hb:(kd==NameKind.free)=false:=by simpa using hz
      simp only[hb,NH,M6,Ma,Nv,Option.some.injEq]at Yr;rcases Yr with z|z|z
      ·exact .inr (.inl z)
      ·exact .inr (.inr z)
      ·exact .inl z
   obtain⟨kd,hk1,hk2⟩:=Zi;obtain⟨hN,Ru⟩:=S.outer i x (by rw[<-I.len];exact hi) e1 (by rw[hk1];rfl) (by rcases hk2 with z|z|z<;>subst z<;>simp[hk1]);have VJ:=su Ru;have hko:=S.free _ VJ rfl;have hkx:X.env.kindOf x=some .cell\/X.env.kindOf x=some .free:=hko;obtain⟨m,hn,hl⟩:=I.loc;obtain⟨u,r,lk⟩:=hl i x v hN e2 (by rcases hkx with z|z;exact .inr (.inl z);exact .inr (.inr z));refine⟨u,r,.inr ⟨?_,?_⟩⟩
   ·show(relabel scope X.env).names.lookup x=some .cell\/(relabel scope X.env).names.lookup x=some .free;rw[e',Ru,Nv];split
    ·exact .inl rfl
    ·exact .inr rfl
   ·rcases lk with ⟨kl,_⟩|⟨_,c,ec,Rv⟩
    ·rcases hkx with z|z<;>(rw[z]at kl;cases kl)
    ·obtain⟨c',ec'⟩:=Option.isSome_iff_exists.mp (hcf _ VJ rfl);have q:=Tu _ _ ec';rw[ec]at q
     cases q
     have hno:oc.lookup x=none:=by
      cases qo:oc.lookup x with
      | none=>rfl
      | some c2 =>
       have:=S.cells _ (own _ _ (su qo)) rfl;rw[Ru]at this;cases this
     exact⟨c,by show(oc++cl).lookup x=some c;rw[iZ,hno];exact ec',Rv.keeps old⟩
  ·rcases QF x c e with ⟨_,_,z⟩|⟨_,e⟩
   ·exact⟨_,z⟩
   ·obtain⟨v,z⟩:=I.cell x c (Tu x c e);exact⟨v,z.keeps old⟩
  ·rcases QF x c e with ⟨_,l,_⟩|⟨_,e⟩
   ·exact I.n_.fresh (by rw[T2];exact Nf l)
   ·exact I.OL x c (Tu x c e)
  ·have VI:p∈([]:K_)++[(D,lobj [] 0)]:=hp;have ep:p=(D,lobj [] 0):=by simpa using VI
   subst ep;exact⟨zaH,fpD.1,hDC,Vu D (ai _),λv z=>nomatch z⟩
 have SJ:∀{H':Hp} {o:Obj},(∀b∈fp,H' b=none)->∀b∈fp,lA X' [(D,o)] H' b:=λ{H' o} hn b hb=>by
  refine⟨hn b hb,gu (bo (TY b hb) T3),ok'.S_ b hb,.inl hb,λx c e z=>?_,λp hp=>?_⟩
  ·rcases QF x c e with ⟨_,l,_⟩|⟨_,e⟩
   ·exact pr (N1 (TY b hb) l) z
   ·exact(ff b hb).2.2.2.2.1 x c (Tu x c e) z
  have VI:p∈([]:K_)++[(D,o)]:=hp;have ep:p=(D,o):=by simpa using VI
  subst ep;exact pr (TY b hb)
 have loop:∀s₃:Shared,s₃={ s2 with heap:=h₁ } ->
   codeAny (model X.prog X.w) X.A (.compLoop (.ListComp elt [⟨tg,iter,ifs,0⟩] scope pos) 0 (.ref it) (.ref D) (compEnvC scope (oc++cl) C X.env)) (RR (.ref D) C) s₃:=by
  rintro s₃ rfl;refine jO (λn s'=>∃i vs ys kk σ' H',Inv X' [(D,lobj ys kk)] σ' H' s'/\tn i s'.heap/\(∀b∈fp,H' b=none)/\Vals vs ys/\W i n vs σ' H') ?_ m0
   ⟨0,[],[],0,_,H2,I0,T.keep _ _ _ st λb _ o e=>old b o e,λb hb=>(ff b hb).1,.nil,w0⟩
  rintro n s3 ⟨i,vs,ys,kk,σ3,H3,I3,YL,ZI,rv,w3⟩;obtain⟨hvl,Zy⟩:=turn i n vs σ3 H3 w3;have YZ:∀{o:Obj} {σ' H' s'},Inv X' [(D,o)] σ' H' s'->s'.heap.get? D=some o/\H' D=none:=λJ=>⟨(J.pin _ (gh _ du)).1,(J.pin _ (gh _ du)).2.1⟩
  rcases Zy with ⟨stop,qn⟩|⟨go,step⟩
  ·refine u_ (T.done X' rfl rfl rfl hc i _ s3 σ3 H3 (λ_ _=>False) I3 (SJ ZI) YL stop) λr s4 ⟨hr,I4⟩=>?_
   subst hr;obtain⟨gD,nD⟩:=YZ I4;obtain⟨m',U1,_⟩:=I4.loc;have hC4:H3 C=none:=I4.free;have u0:Un (Q8 X.stack) fp H2 H3 s2.heap s4.heap:=I4.base;have neD:∀b o,s2.heap.get? b=some o->b≠D:=λb o e=>by rw[<-T2];exact gu (ay e)
   have u1:Un (Q8 X.stack) fp H2 (upd H3 D (.lst vs)) s2.heap s4.heap :=
    ⟨u0.keep,u0.slot,λb o e n hx=>by rw[aD (neD b o e)];exact u0.free b o e n hx,u0.there,
     λb xs e=>by have q:=u0.Qm b xs e;rw[aD (aR q nD)];exact q,
     λb o u e=>by have q:=u0.Qb b o u e;rw[aD (aR q nD)];exact q,
     λb ps e=>by obtain⟨more,q⟩:=u0.Qn b ps e;exact⟨more,by rw[aD (aR q nD)];exact q⟩⟩
   have I5:Inv X a_ Z (upd H3 D (.lst vs)) s4:=I.WL I4.os u1 (I4.n_.YJ nD hvl rv gD) I4.bare λb hb=>⟨(ff b hb).2.2.2.1,(ff b hb).2.1,(ff b hb).2.2.2.2.1,(ff b hb).2.2.2.2.2⟩
   exact hRR D C s4 _ I5 ⟨m',U1⟩ (fpC _ (by rw[aD (Ne.symm hDC)];exact hC4)) (qn D nD)
  ·refine u_ (T.item X' rfl rfl rfl hc i _ s3 σ3 H3 (λ_ _=>False) I3 (SJ ZI) YL go) λr s4 ⟨u,hr,h4⟩=>?_
   subst hr;refine u_ h4 λ_ s5 ⟨x,H5,I5,r5,y5,W0,fr5⟩=>?_
   have I5':=I5.pinned (SJ fr5) (T.obj _ _ W0);refine u_ (hg _ C _ s5 σ3 H5 x u _ I5' r5 (step x H5 y5)) λ_ s6 ⟨σ6,H6,I6,q6⟩=>?_
   refine u_ (ht _ C _ s6 σ6 H6 _ I6 q6) λok s7 ⟨H7,I7,q7⟩=>?_
   have Wi:∀{σ' H' s'},Inv X' ([(D,lobj ys kk)]++qm fp s5.heap) σ' H' s'->Inv X' [(D,lobj ys kk)] σ' H' s'/\tn (i+1) s'.heap/\∀b∈fp,H' b=none:=λ{σ' H' s'} J =>
    ⟨J.PR,T.keep _ _ _ W0 λb hb o e=>(J.pin (b,o) (gh _ (gh _ (iY hb e)))).1,λb hb=>by
     obtain⟨o,e,d⟩:=T.obj _ _ W0 b hb
     exact(J.pin (b,o) (gh _ (gh _ (iY hb e)))).2.1⟩
   cases ok with
   | false =>
    rw[ar pI];rw[ar pI]at q7;obtain⟨m',U1,w7⟩:=q7;obtain⟨J1,J2,J3⟩:=Wi I7;exact⟨m',U1,i+1,vs,ys,kk,σ6,H7,J1,J2,J3,rv,w7⟩
   | true =>
    rw[al rfl];rw[al rfl]at q7;refine u_ (he _ C _ s7 σ6 H7 _ I7 q7) λuy s8 ⟨y,H8,I8,r8,m',U1,w8⟩=>?_
    obtain⟨J1,J2,J3⟩:=Wi I8;obtain⟨gD,nD⟩:=YZ J1;refine append_at (hsz:=by show ys.toArray.size<=sizeLine;rw[ax,<-rv.length];exact hvl) gD λh9 hs9 hD9=>?_
    have J1':Inv X' [] σ6 H8 s8:=J1.QS λp hp=>nomatch hp
    have J9:Inv X' [] σ6 H8 { s8 with heap:=h9 }:=J1'.turned (t':=s8.toks) (it:=D) (λb o hb e=>hs9.extBut b o hb e) nD hDC (.inr (by show s2.heap.objs.size<=D;rw[T2];exact ai _)) (λx c e=>(QF x c e).elim (λz=>pr z.2.1) λz=>gu (Tc x c z.2)) λp hp=>nomatch hp
    have eo:({ cls:=.type "list",data:=.seq (ys.toArray.push uy) (kk+1) }:Obj)=lobj (ys++[uy]) (kk+1):=by
     unfold lobj;rw[List.push_toArray]
    refine⟨m',U1,i+1,vs++[y],ys++[uy],kk+1,σ6,H8,J9.QS λp hp=>?_,T.keep _ _ _ J2 λb hb o e=>hs9.extBut b o (gu (TY b hb)) e,J3,rv.append (.cons r8 .nil),w8⟩;have ep:p=(D,lobj (ys++[uy]) (kk+1)):=by simpa using hp
    subst ep;exact⟨by show h9.get? D=_;rw[hD9,eo],nD,hDC,Vu D (ai _),λv z=>nomatch z⟩
 exact codeAny_compStart_list (loop _ rfl) (T.self _ 0 _ _ _ (T.keep _ _ _ st λb _ o e=>old b o e) (loop _ rfl))
end
section
theorem zU{k:Nat}{wi:TI}
  (hc:X.calm=true) (S:Pf X N' k scope) (SX:∀x∈scope.names,x.2=.free->∃c,X.env.cells.lookup x.1=some c) (hi:PI X tg iter wi)
  (hg:∀cl s H fp C,PG (bv X N' scope cl s H fp C) tg g) (ht:∀cl s H fp C,ZY (bv X N' scope cl s H fp C) ifs tc) (he:∀cl s H fp C,PE (bv X N' scope cl s H fp C) elt te)
  (hs:∀x,foldedSetIterable iter X.env x=pure x:=by intro _;rfl) :
  PE X (.ListComp elt [⟨tg,iter,ifs,0⟩] scope pos) (zD wi k g tc te):=by
 intro a_ s Z H Q I h;obtain⟨cl,UM,h1,h2⟩:=qV (env:=X.env) (scope:=scope) SX;rw[eval_ListComp];refine wpAny_comprehension_free (use:=none) rfl hs UM S.kind S.names (u_ (hi a_ s Z H _ I h) λxv s1 h1'=>u_ h1' λitv s2 XB=>?_);obtain⟨it,fp,tn,J,H2,e,I2,T,YM,f2,rd⟩:=XB;subst e;refine tS hc S h1 h2 I2 T YM f2 (λcl C=>hg cl _ _ _ C) (λcl C=>ht cl _ _ _ C) (λcl C=>he cl _ _ _ C) rd λD C s' H' I' ⟨m,hm⟩ fC q=>?_
 refine⟨m,hm,λh' RQ=>⟨.ref D,H',?_,rfl,q⟩⟩;exact I'.turned (t':=s'.toks) (it:=C) (λb o hb e=>RQ.extBut b o hb e) fC.1 fC.2.1 fC.2.2.2.1 fC.2.2.2.2.1 fC.2.2.2.2.2
theorem ql{pos' R4:Pos}{k i:Nat}{y:Str}{wi:TI}
  (hN:X.N.Nodup) (hy:X.N[i]? = some y) (Zo:Loc X.env.scope y) (UK:X.fn y=true\/X.env.scope.names.lookup y=some .local)
  (hc:X.calm=true) (S:Pf X N' k scope) (SX:∀x∈scope.names,x.2=.free->∃c,X.env.cells.lookup x.1=some c) (hi:PI X tg iter wi)
  (hg:∀cl s H fp C,PG (bv X N' scope cl s H fp C) tg g) (ht:∀cl s H fp C,ZY (bv X N' scope cl s H fp C) ifs tc) (he:∀cl s H fp C,PE (bv X N' scope cl s H fp C) elt te)
  (UC:swapsWith (.ListComp elt [⟨tg,iter,ifs,0⟩] scope pos) (some (.Name y pos')) R4.line X.env=pure true)
  (hs:∀x,foldedSetIterable iter X.env x=pure x:=by intro _;rfl) :
  PS X (.Assign [.Name y pos'] (.ListComp elt [⟨tg,iter,ifs,0⟩] scope pos) R4) (E3 (zD wi k g tc te) (gn i)):=by
 intro a_ s Z H D₀ I h;obtain⟨cl,UM,h1,h2⟩:=qV (env:=X.env) (scope:=scope) SX;rw[exec_Assign_Name_used _ _ _ _ UC];refine i_ (Np (i_ ?_));show wpAny _ X.A (do let _ <-comprehension (.ListComp elt [⟨tg,iter,ifs,0⟩] scope pos) scope X.env _ (newList []) false (eval iter X.env) (some (assign (.Name y pos') X.env))) _ _ s
 refine i_ (se (wpAny_comprehension_free (use:=some (assign (.Name y pos') X.env)) (Q:=λ_ s'=>SP X a_ D₀ .next s') rfl hs UM S.kind S.names
  (u_ (hi a_ s Z H _ I h) λxv s1 h1'=>u_ h1' λitv s2 XB=>?_)) (λ_ s' hq=>s_ (s_ hq)) λ_ _ e=>e)
 obtain⟨it,fp,tn,J,H2,e,I2,T,YM,f2,rd⟩:=XB;subst e;refine tS (Q:=λx H1=>gn i x Z H1 D₀.nx) hc S h1 h2 I2 T YM f2 (λcl C=>hg cl _ _ _ C) (λcl C=>ht cl _ _ _ C) (λcl C=>he cl _ _ _ C) rd λD C s' H' I' ⟨m,hm⟩ fC q=>?_
 show wpAny _ X.A (assign (.Name y pos') X.env (.ref D)) _ _ _;refine wpAny_assign_Name (sI I' hN hy Zo (show RelV (.ref D) (.ref D)from rfl) (λYT I'' ⟨a,hsb,ha⟩=>?_) UK);have hCa:C≠a:=by
  rcases ha with rfl|ha
  ·exact fC.2.1
  ·exact λz=>fC.2.2.2.2.1 y a ha z.symm
 refine⟨m,hm.sameBut hsb hCa,λh' RQ=>⟨_,H',?_,q⟩⟩;exact I''.turned (t':=YT.toks) (it:=C) (λb o hb e=>RQ.extBut b o hb e) fC.1 fC.2.1 fC.2.2.2.1 fC.2.2.2.2.1 fC.2.2.2.2.2
end
section
variable {κ:Type} [DecidableEq κ]
def kh(kvs:List (κ×V))(k:κ):Option V:=(kvs.find? λkv=>decide (kv.1=k)).map (·.2)
def putK(kvs:List (κ×V))(k:κ)(v:V):List (κ×V) :=
 if(kvs.any λkv=>decide (kv.1=k))=true then kvs.map (λkv=>if kv.1=k then(kv.1,v)else kv)else kvs++[(k,v)]
def pN{p:κ×V}{r:List (κ×V)}{k:κ}(e:p.1=k):kh (p::r) k=some p.2:=by simp[kh,ni,e]
def pO{p:κ×V}{r:List (κ×V)}{k:κ}(e:¬ p.1=k):kh (p::r) k=kh r k:=by simp[kh,ni,e]
def vF(k:κ):∀kvs:List (κ×V),(kvs.any λkv=>decide (kv.1=k))=(kh kvs k).isSome
 | []=>rfl
 | p::r=>by
  rw[wo];by_cases e:p.1=k
  ·simp only[pN e,cr e,Bool.true_or,Option.isSome_some]
  ·rw[pO e,bu e,Bool.false_or];exact vF k r
theorem fj(kvs:List (κ×V))(k:κ)(v:V):(putK kvs k v).length<=kvs.length+1:=by
 unfold putK;split
 ·rw[L_];lia
 ·rw[Qh,gs,At];lia
def Qx.OW{u:Option Value}(r:Qx o u):o.isSome=u.isSome:=by
 cases o with
 | none=>cases u with
  | none=>rfl
  | some _=>exact(show False from r).elim
 | some _=>cases u with
  | none=>exact(show False from r).elim
  | some _=>rfl
def Qx.getD{u:Option Value}{d:V}{d':Value}(r:Qx o u)(rd:RelV d d'):RelV (o.getD d) (u.getD d'):=by
 cases o with
 | none=>cases u with
  | none=>exact rd
  | some _=>exact(show False from r).elim
 | some _=>cases u with
  | none=>exact(show False from r).elim
  | some _=>exact r
def KV.val{kvs:List (κ×V)}{vs:List (κ×Value)}(r:KV kvs vs)(k:κ):Qx (kh kvs k) (valueAt vs k):=by
 unfold KV at r
 induction r with
 | nil=>exact True.intro
 | @cons p q ps qs h t ih =>
  obtain⟨h1,h2⟩:=h;by_cases e:p.1=k
  ·have e':q.1=k:=h1.symm.trans e;have b:valueAt (q::qs) k=some q.2:=by simp[valueAt,ni,e']
   rw[pN e,b];exact h2
  ·have e':¬ q.1=k:=λz=>e (h1.trans z)
   have b:valueAt (q::qs) k=valueAt qs k:=by simp[valueAt,ni,e']
   rw[pO e,b];exact ih
def KV.any{kvs:List (κ×V)}{vs:List (κ×Value)}(r:KV kvs vs)(k:κ):(kvs.any λkv=>decide (kv.1=k))=vs.any λkv=>decide (kv.1=k):=by
 unfold KV at r
 induction r with
 | nil=>rfl
 | cons h t ih=>rw[wo,wo,ih,h.1]
def KV.W8{kvs:List (κ×V)}{vs:List (κ×Value)}(r:KV kvs vs)(k:κ)(ry:RelV y u) :
  KV (kvs.map λkv=>if kv.1=k then(kv.1,y)else kv) (vs.map λkv=>if kv.1=k then(kv.1,u)else kv):=by
 unfold KV at r ⊢
 induction r with
 | nil=>exact .nil
 | @cons p q ps qs h t ih =>
  rw[aw,aw];refine .cons ?_ ih;obtain⟨h1,h2⟩:=h;by_cases e:p.1=k
  ·rw[al e,al (h1.symm.trans e)];exact⟨h1,ry⟩
  ·rw[ar e,ar (λz=>e (h1.trans z))];exact⟨h1,h2⟩
def KV.put{kvs:List (κ×V)}{vs:List (κ×Value)}(r:KV kvs vs)(k:κ)(ry:RelV y u):KV (putK kvs k y) (stored vs k u):=by
 unfold putK stored;rw[r.any k];by_cases e:(vs.any λkv=>decide (kv.1=k))=true
 ·rw[al e,al e];exact r.W8 k ry
 ·rw[ar e,ar e];exact Paired.snoc r ⟨rfl,ry⟩
def KV.length{kvs:List (κ×V)}{vs:List (κ×Value)}(r:KV kvs vs):kvs.length=vs.length:=Paired.length r
end
def kz{k:Key}(r:RelV (kV k) u):(bL P w).is k u=true:=by
 cases k with
 | inl i=>obtain⟨t,e⟩:=(show ∃t,u=Value.int i t from r);subst e;exact wG P w i t
 | inr x=>obtain⟨t,e⟩:=(show ∃t,u=Value.str x t from r);subst e;exact wF P w x t
def tN{P:Program}{w:World}:∀{ks:List Key} {us:List Value},Vals (ks.map kV) us->ItemsAre (bL P w) ks us
 | [],_,r=>by rw[N3]at r;cases r;exact .nil
 | k::ks,_,r=>by
  rw[aw]at r
  cases r with
  | cons h t=>exact .cons (kz h) (tN t)
abbrev KT(H:Hp):List (List Key×V)->List (List Key×Addr×Value)->Prop:=Paired λp q=>p.1=q.1/\H q.2.1=some (.tup (p.1.map kV))/\RelV p.2 q.2.2
def KT.val(r:KT H kvs xs)(k:List Key):Qx (kh kvs k) ((atKey xs k).map (·.2)):=by
 induction r with
 | nil=>exact True.intro
 | @cons p q ps qs h t ih =>
  obtain⟨h1,_,h2⟩:=h;by_cases e:p.1=k
  ·have e':q.1=k:=h1.symm.trans e;have b:atKey (q::qs) k=some q.2:=by simp[atKey,ni,e']
   rw[pN e,b];exact h2
  ·have e':¬ q.1=k:=λz=>e (h1.trans z)
   have b:atKey (q::qs) k=atKey qs k:=by simp[atKey,ni,e']
   rw[pO e,b];exact ih
def KT.W8(r:KT H kvs xs)(k:List Key)(ry:RelV y u) :
  KT H (kvs.map λkv=>if kv.1=k then(kv.1,y)else kv) (xs.map (putAt k u)):=by
 induction r with
 | nil=>exact .nil
 | @cons p q ps qs h t ih =>
  rw[aw,aw];refine .cons ?_ ih;obtain⟨h1,h2,h3⟩:=h;unfold putAt;by_cases e:p.1=k
  ·rw[al e,al (h1.symm.trans e)];exact⟨h1,h2,ry⟩
  ·rw[ar e,ar (λz=>e (h1.trans z))];exact⟨h1,h2,h3⟩
def KT.put(r:KT H kvs xs)(k:List Key){b:Addr}(hb:H b=some (.tup (k.map kV)))(ry:RelV y u) :
  KT H (putK kvs k y) (storedH xs k b u):=by
 have e:(kvs.any λkv=>decide (kv.1=k))=(atKey xs k).isSome:=by
  rw[vF,(r.val k).OW,Option.isSome_map]
 unfold putK storedH;rw[e];by_cases q:(atKey xs k).isSome=true
 ·rw[al q,al q];exact r.W8 k ry
 ·rw[ar q,ar q];exact Paired.snoc r ⟨rfl,hb,ry⟩
def KT.keeps(r:KT H kvs xs)(ht:∀b ys,H b=some (.tup ys)->H' b=some (.tup ys)):KT H' kvs xs :=
 Paired.Xf r λ_ _ z=>⟨z.1,ht _ _ z.2.1,z.2.2⟩
section
variable {h:Heap}
def G6{u:HO}(ok:O5 P w H h)(e:Rd H a u):v_ P w H h a u:=e.ok ok
def n9{kvs:List (Key×V)}(ok:O5 P w H h)(e:Rd H a (.dK kvs)):kvs.length<=sizeLine/\(a==sysModules)=false/\∃vs,KV kvs vs/\h.DictOf (bL P w) a vs :=
 show v_ P w H h a (.dK kvs)from G6 ok e
def Ej{kvs:List (Key×V)}(ok:O5 P w H h)(e:H a=some (.dK kvs)):kvs.length<=sizeLine/\(a==sysModules)=false/\∃vs,KV kvs vs/\h.DictOf (bL P w) a vs:=n9 ok (.inl e)
def gk{ks:List Key}(ok:O5 P w H h)(e:H a=some (.tup (ks.map kV))):(tupleKind (bL P w)).is h ks a:=by
 obtain⟨_,k_,r,⟨o,h1,h2,n,h3⟩,_⟩:=(show v_ P w H h a (.tup (ks.map kV))from ok a _ e);exact⟨o,k_.toArray,n,h1,h2,h3,by simpa using tN r⟩
def mE(ok:O5 P w H h)(e:Rd H a (.dT kvs)):kvs.length<=sizeLine/\(a==sysModules)=false /\
  ∃xs,KT H kvs xs/\h.DictOfH (tupleKind (bL P w)) a xs:=by
 obtain⟨z,y,xs,r,o,es,ep,h1,h2,h3,h4,h5⟩:=(show v_ P w H h a (.dT kvs)from G6 ok e);refine⟨z,y,xs,r,o,es,ep,h1,h2,h3,h4,λx hx=>?_,h5⟩;have all:∀{l:List (List Key×V)} {m:List (List Key×Addr×Value)},KT H l m->∀x∈m,(tupleKind (bL P w)).is h x.1 x.2.1:=by
  intro l m q
  induction q with
  | nil=>intro x hx;exact nomatch hx
  | @cons p q ps qs hq t ih =>
   intro x hx;rcases List.mem_cons.mp hx with e|hx
   ·subst e;exact gk ok (by rw[<-hq.1];exact hq.2.1)
   ·exact ih x hx
 exact all r x hx
def Eh(ok:O5 P w H h)(e:H a=some (.dT kvs)):kvs.length<=sizeLine/\(a==sysModules)=false /\
  ∃xs,KT H kvs xs/\h.DictOfH (tupleKind (bL P w)) a xs:=mE ok (.inl e)
end
def Ra(H:Hp)(a:Addr)(y:V)(r:Option V):Prop :=
 (∃kvs k,Rd H a (.dK kvs)/\y=kV k/\r=kh kvs k)\/∃kvs k b,Rd H a (.dT kvs)/\y=.ref b/\H b=some (.tup (k.map kV))/\r=kh kvs k
def PJ(H:Hp)(a:Addr)(y v:V)(H':Hp):Prop :=
 (∃kvs k,H a=some (.dK kvs)/\y=kV k/\kvs.length<sizeLine/\H'=upd H a (.dK (putK kvs k v))) \/
 ∃kvs k b,H a=some (.dT kvs)/\y=.ref b/\H b=some (.tup (k.map kV))/\kvs.length<sizeLine/\H'=upd H a (.dT (putK kvs k v))
def Ra.k{H:Hp}{a:Addr}{kvs:List (Key×V)}{k:Key}(e:H a=some (.dK kvs)):Ra H a (kV k) (kh kvs k):=.inl ⟨kvs,k,.inl e,rfl,rfl⟩
def PJ.k{H:Hp}{a:Addr}{kvs:List (Key×V)}{k:Key}{v:V}(e:H a=some (.dK kvs))(hl:kvs.length<sizeLine):PJ H a (kV k) v (upd H a (.dK (putK kvs k v))):=.inl ⟨kvs,k,e,rfl,hl,rfl⟩
def PJ.t{b:Addr}{k:List Key}{v:V}(e:H a=some (.dT kvs))(eb:H b=some (.tup (k.map kV)))(hl:kvs.length<sizeLine) :
  PJ H a (.ref b) v (upd H a (.dT (putK kvs k v))):=.inr ⟨kvs,k,b,e,rfl,eb,hl,rfl⟩
section
variable {v:V} {r:Value}
def Inv.big(I:Inv X a_ Z H s):sysModules<s.heap.objs.size:=by
 have h:mainGlobals<s.heap.objs.size:=(I.mod.glob.keeps I.bk).lt;exact N1 (by decide) h
def BM(hu:A.units+1<cLine)(I:Inv X a_ Z H s)(g:Ra H a y (some v))(ry:RelV y u)(h:∀w' s',Inv X a_ Z H s'->RelV v w'->Q w' s') :
  wpAny (model X.prog X.w) A (getItem (.ref a) u) Q E s:=by
 rcases g with ⟨kvs,k,e,ey,l⟩|⟨kvs,k,b,e,ey,eb,l⟩
 ·subst ey;obtain⟨z,hd,vs,rel,dd⟩:=n9 I.n_ e;obtain⟨w',hw,QJ⟩:=Qx.some_of (v:=v) (o:=valueAt vs k) (by rw[l];exact rel.val k);exact wpAny_getItem_of (kz ry) dd.mapOf hw (h w' _ (I.tok _) QJ)
 ·subst ey
  cases (show u=Value.ref b from ry)
  obtain⟨z,hd,xs,rel,dd⟩:=mE I.n_ e;obtain⟨w',hw,QJ⟩:=Qx.some_of (v:=v) (o:=(atKey xs k).map (·.2)) (by rw[l];exact rel.val k);obtain⟨p,hp,Zk⟩:=Option.map_eq_some_iff.mp hw;refine wpAny_getItem_heap (we hu) (gk I.n_ eb) dd hp ?_;rw[Zk];exact h w' _ (I.tok _) QJ
def MK(hu:A.units+1<cLine)(I:Inv X a_ Z H s)(g:Ra H a y o)(ry:RelV y u)(h:∀s',Inv X a_ Z H s'->Q (.bool o.isSome) s') :
  wpAny (model X.prog X.w) A (compareOp .In u (.ref a)) Q E s:=by
 rcases g with ⟨kvs,k,e,ey,l⟩|⟨kvs,k,b,e,ey,eb,l⟩
 ·subst ey;obtain⟨z,hd,vs,rel,dd⟩:=n9 I.n_ e;refine wpAny_in_of (kz ry) hd dd.mapOf ?_;rw[<-(rel.val k).OW,<-l];exact h _ (I.tok _)
 ·subst ey
  cases (show u=Value.ref b from ry)
  obtain⟨z,hd,xs,rel,dd⟩:=mE I.n_ e;refine wpAny_in_heap (we hu) (gk I.n_ eb) hd dd ?_;have q:=(rel.val k).OW;rw[Option.isSome_map]at q;rw[<-q,<-l];exact h _ (I.tok _)
def Gp(hu:A.units+1<cLine)(I:Inv X a_ Z H s)(g:Ra H a y o)(ry:RelV y u)(h:∀s',Inv X a_ Z H s'->Q (.bool (!o.isSome)) s') :
  wpAny (model X.prog X.w) A (compareOp .NotIn u (.ref a)) Q E s:=by
 rcases g with ⟨kvs,k,e,ey,l⟩|⟨kvs,k,b,e,ey,eb,l⟩
 ·subst ey;obtain⟨z,hd,vs,rel,dd⟩:=n9 I.n_ e;refine wpAny_notIn_of (kz ry) hd dd.mapOf ?_;rw[<-(rel.val k).OW,<-l];exact h _ (I.tok _)
 ·subst ey
  cases (show u=Value.ref b from ry)
  obtain⟨z,hd,xs,rel,dd⟩:=mE I.n_ e;refine wpAny_notIn_heap (we hu) (gk I.n_ eb) hd dd ?_;have q:=(rel.val k).OW;rw[Option.isSome_map]at q;rw[<-q,<-l];exact h _ (I.tok _)
theorem mF{h':Heap}{t':Nat}{ob:HO}(I:Inv X a_ Z H s)(mu:ZZ (H a))(hs:Heap.SameBut a s.heap h')(he:∃q,h'.get? a=some q)(new:v_ X.prog X.w (upd H a ob) h' a ob) :
  Inv X a_ Z (upd H a ob) { s with heap:=h',toks:=t' } :=
 I.write (x:=a) (e:=a) mu (.inl rfl) (λb q hb z=>(hs.2 b hb).trans z) he new
def Ek{h':Heap}{kvs:List (Key×V)}{vs:List (Key×Value)}(z:kvs.length<=sizeLine)(hd:(a==sysModules)=false)(rel:KV kvs vs)(dd:h'.DictOf (bL P w) a vs) :
  v_ P w H' h' a (.dK kvs):=⟨z,hd,vs,rel,dd⟩
theorem BK{Q:Unit->Shared->Prop}(hu:A.units+1<cLine)(I:Inv X a_ Z H s)(g:PJ H a y v H')(ry:RelV y u)(rv:RelV v r)(h:∀s',Inv X a_ Z H' s'->Q () s') :
  wpAny (model X.prog X.w) A (setItem (.ref a) u r) Q E s:=by
 rcases g with ⟨kvs,k,e,ey,l,eH⟩|⟨kvs,k,b,e,ey,eb,l,eH⟩
 ·subst ey eH;obtain⟨z,hd,vs,rel,dd⟩:=Ej I.n_ e;have hz:vs.length<=sizeLine:=by rw[<-rel.length];exact z
  have hl:(putK kvs k v).length<=sizeLine:=by have:=fj kvs k v;lia
  refine wpAny_setItem_pairs (hsz:=hz) (kz ry) dd λh' Ug hs=>h _ ?_
  have he:∃q,h'.get? a=some q:=let ⟨q,_,_,hq,_⟩:=Ug;⟨q,hq⟩
  exact mF I (by rw[e];exact True.intro) hs he (Ek hl hd (rel.put k rv) Ug)
 ·subst ey eH
  cases (show u=Value.ref b from ry)
  obtain⟨z,hd,xs,rel,dd⟩:=Eh I.n_ e;have hz:xs.length<=sizeLine:=by rw[<-Paired.length rel];exact z
  have hl:(putK kvs k v).length<=sizeLine:=by have:=fj kvs k v;lia
  refine wpAny_setItem_heap (hsz:=hz) (we hu) (gk I.n_ eb) dd λh' Ug hs=>h _ ?_
  obtain⟨q,es,ep,hq,h2,h3,h4,_,h5⟩:=Ug;refine mF I (by rw[e];exact True.intro) hs ⟨q,hq⟩ ⟨hl,hd,_,(rel.put k eb rv).keeps λc ys ec=>?_,q,es,ep,hq,h2,h3,h4,h5⟩;rw[aD (wD ec e (λz=>nomatch z))];exact ec
end
section
variable {kvs:List (Key×V)} {k:Key}
theorem LG(I:Inv X a_ Z H s)(e:Rd H a (.dK kvs))(h:∀t s',Inv X a_ Z H s'->Q (.int kvs.length t) s'):wpAny (model X.prog X.w) A (call (.builtin "len") [.ref a]) Q E s:=by
 obtain⟨z,hd,vs,rel,dd⟩:=n9 I.n_ e;refine call_len_dict hd dd (by rw[<-rel.length];rw[NL]at z;lia) ?_;rw[<-rel.length];exact h _ _ (I.tok _)
end
def xB(I:Inv X a_ Z H s)(g:Ra H a y o):s.TypeIs (.ref a) "dict":=by
 rcases g with ⟨kvs,k,e,_,_⟩|⟨kvs,k,b,e,_,_,_⟩
 ·obtain⟨_,_,vs,_,dd⟩:=n9 I.n_ e;exact dd.typeIs
 ·obtain⟨_,_,xs,_,dd⟩:=mE I.n_ e;exact dd.typeIs
def GZ(td ty tv:TE):TS:=λD Z H=>tv Z H λv H1=>td Z H1 λx H2=>ty Z H2 λy H3=>∃a H4,x=.ref a/\PJ H3 a y v H4/\D.nx Z H4
section
variable {o i e value:Expr} {pos' Ov:Pos} {td ty tv:TE}
def zO(hu:X.A.units+1<cLine)(ho:PE X o td)(hi:PE X i ty)(hv:PE X value tv)(hs:swapsWith value (some (.Subscript o i pos')) pos.line X.env=pure false) :
  PS X (.Assign [.Subscript o i pos'] value pos) (GZ td ty tv):=by
 intro a_ s Z H D I h;refine wpAny_Assign_Subscript (u_ (hv a_ s Z H _ I h) λr s1 ⟨v,H1,I1,rv,q1⟩=>u_ (ho a_ s1 Z H1 _ I1 q1) λu s2 ⟨x,H2,I2,rx,q2⟩=>u_ (hi a_ s2 Z H2 _ I2 q2) λiv s3 ⟨y,H3,I3,ry,a,H4,ex,g,q3⟩=>?_) hs;subst ex;obtain rfl:u=Value.ref a:=rx;exact BK hu I3 g ry rv λs4 I4=>⟨Z,H4,I4,q3⟩
end
def xA(h:Heap)(hb:sysModules<h.objs.size):v_ P w H (h.push { cls:=.type "dict",data:=.dict #[] }) h.objs.size (.dK []) :=
 ⟨be _,beq_eq_false_iff_ne.mpr (Ne.symm (gu hb)),[],.nil,Heap.DictOf.new h⟩
def qU(h:Heap)(hb:sysModules<h.objs.size):v_ P w H (h.push { cls:=.type "dict",data:=.dict #[] }) h.objs.size (.dT []) :=
 ⟨be _,beq_eq_false_iff_ne.mpr (Ne.symm (gu hb)),[],.nil,_,#[],0,OX _ rfl,⟨rfl,rfl,rfl⟩,rfl,rfl,Ng⟩
def HH:TE:=λ_ H Q=>∀p,H p=none->Q (.ref p) (upd H p (.dK []))
def Cy:TE:=λ_ H Q=>∀p,H p=none->Q (.ref p) (upd H p (.dT []))
section
theorem Dk:PE X (.Dict [] [] pos) HH:=λa_ s Z H Q I h =>
 wpAny_Dict_empty ⟨.ref s.heap.objs.size,_,I.laid (a:=s.heap.objs.size) (o:=.dK []) (t':=s.toks) (λ_ _ q=>Od _ q) (ai _) (xA s.heap I.big),rfl,h _ (I.n_.fresh (ai _))⟩
theorem v6:PE X (.Dict [] [] pos) Cy:=λa_ s Z H Q I h =>
 wpAny_Dict_empty ⟨.ref s.heap.objs.size,_,I.laid (a:=s.heap.objs.size) (o:=.dT []) (t':=s.toks) (λ_ _ q=>Od _ q) (ai _) (qU s.heap I.big),rfl,h _ (I.n_.fresh (ai _))⟩
end
def Cw:List (TE×TE)->St->Hp->(List (V×V)->Hp->Prop)->Prop
 | [],_,H,Q=>Q [] H
 | (tk,tv)::r,Z,H,Q=>tk Z H λx H1=>tv Z H1 λy H2=>Cw r Z H2 λps H3=>Q ((x,y)::ps) H3
abbrev VV:List (V×V)->List (Value×Value)->Prop:=Paired λp q=>RelV p.1 q.1/\RelV p.2 q.2
def PPs(X:Cx)(pos:Pos)(keys:List (Option Expr))(values:List Expr)(Z_:List (TE×TE)):Prop :=
 ∀(a_:K_) (s:Shared) (Z:St) (H:Hp) (Q:List (V×V)->Hp->Prop),Inv X a_ Z H s->Cw Z_ Z H Q ->
  wpAny (model X.prog X.w) X.A (evalPairs (pairTrees keys values X.env pos)) (λvs s'=>∃ps H',Inv X a_ Z H' s'/\VV ps vs/\Q ps H') X.xe s
def Fp:PPs X pos [] [] []:=λa_ s Z H Q I h=>pairTrees_nil_walk ⟨[],H,I,.nil,h⟩
def C9{k v:Expr}{ks:List (Option Expr)}{vs:List Expr}{tk tv:TE}{Z_:List (TE×TE)}(hk:PE X k tk)(hv:PE X v tv)(hr:PPs X pos ks vs Z_) :
  PPs X pos (some k::ks) (v::vs) ((tk,tv)::Z_):=λa_ s Z H Q I h =>
 pairTrees_cons_walk (u_ (hk a_ s Z H _ I h) λu s1 ⟨x,H1,I1,rx,q1⟩=>u_ (hv a_ s1 Z H1 _ I1 q1) λw2 s2 ⟨y,H2,I2,ry,q2⟩ =>
  u_ (hr a_ s2 Z H2 _ I2 q2) λws s3 ⟨ps,H3,I3,rel,q3⟩=>⟨(x,y)::ps,H3,I3,.cons ⟨rx,ry⟩ rel,q3⟩)
structure M1(X:Cx)(o:Expr)(m:Str)(apos:Pos)(e:Expr)(A_:Pos):Prop where
 base:attributeBase o m X.env (eval o X.env)=eval o X.env
 Ue:((backTo A_ (starEach [e] X.env)).all (λx=>!x.1)&&(backToKw A_ (keywordEach [] X.env)).all (λx=>x.1.isSome)
  && decide (([e]:List Expr).length+([]:List Keyword).length+(if([]:List Keyword).isEmpty then 0 else 1)<30))=true
 line:(apos.endLine==A_.line)=true
 trees:backTo A_ (starEach [e] X.env)=[(false,eval e X.env)]
def IsD(H:Hp)(a:Addr):Prop:=(∃kvs,Rd H a (.dK kvs))\/∃kvs,Rd H a (.dT kvs)
def IZ(I:Inv X a_ Z H s)(d:IsD H a) :
  s.TypeIs (.ref a) "dict" /\ (∀b,Value.ref a=.ref b->∃ob,s.heap.get? b=some ob/\ob.dict=none)/\(a==sysModules)=false:=by
 rcases d with ⟨kvs,e⟩|⟨kvs,e⟩
 ·obtain⟨_,hd,vs,_,dd⟩:=n9 I.n_ e;refine⟨dd.typeIs,λb q=>?_,hd⟩
  cases q
  obtain⟨ob,_,_,h1,h2,_⟩:=dd;exact⟨ob,h1,h2.2.1⟩
 ·obtain⟨_,hd,xs,_,dd⟩:=mE I.n_ e;refine⟨dd.typeIs,λb q=>?_,hd⟩
  cases q
  obtain⟨ob,_,_,h1,h2,_⟩:=dd;exact⟨ob,h1,h2.2.1⟩
section
variable {d:V} {r:Value}
def Jr(hu:A.units+1<cLine)(I:Inv X a_ Z H s)(g:Ra H a y o)(ry:RelV y u)(h:∀w' s',Inv X a_ Z H s'->RelV (o.getD .OU) w'->Q w' s') :
  wpAny (model X.prog X.w) A (call (.builtin "dict.get") [.ref a,u]) Q E s:=by
 rcases g with ⟨kvs,k,e,ey,l⟩|⟨kvs,k,b,e,ey,eb,l⟩
 ·subst ey;obtain⟨z,hd,vs,rel,dd⟩:=n9 I.n_ e;refine NY Is dd.typeIs Nd (M8 _ _) (meets_dict_get (bL X.prog X.w) a (kz ry) hd) ⟨_,dd.mapOf,h _ _ (I.tok _) ?_⟩;rw[l];exact(rel.val k).getD rfl
 ·subst ey
  cases (show u=Value.ref b from ry)
  obtain⟨z,hd,xs,rel,dd⟩:=mE I.n_ e;refine NY Is dd.typeIs Nd (M8 _ _) (meetsH_dict_get (tupleKind (bL X.prog X.w)) a b hd) ⟨we hu,k,xs,gk I.n_ eb,dd,h _ _ (I.tok _) ?_⟩;rw[l];exact(rel.val k).getD rfl
end
end L2
namespace L4
open PySem PySem.Spec PyProof.Rows L2 PySem.W
def XO(e C:Addr)(dd:Option Addr):Heap->Prop:=λh=>∃oe,h.get? e=some oe/\oe.cls=.ref C/\oe.dict=dd/\PySem.W.notCls oe=true
def XD(dx:Addr)(fs:List (Str×V)):Heap->Prop:=λh=>∃mA,h.Ns1 dx mA/\PySem.Within mA (fs.map (·.1))/\∀f,Qx (fs.lookup f) (mA f)
abbrev UQ:List Value:=[.type "ValueError",.type "Exception",.type "BaseException",.type "object"]
structure XC(K:Frag)(C D fI:Addr):Prop where
 obj:∃nm q N bs sn sub ab col dd k0 k1 k2 k3 k5,K.lookup C=some (excClassObj nm q C N bs (.ref D::UQ) true sn sub ab col dd k0 k1 k2 k3 k5 "ValueError.__new__")
 tl:tailIn K UQ (.ref D::UQ)=true
 ini:findIn K (.ref C) "__init__"=some (some (.ref fI))
 fn:typeIn K (.ref fI)=some (.type "function")
 sa:findIn K (.ref C) "__setattr__"=some (some (.builtin "object.__setattr__"))
 ga:findIn K (.ref C) "__getattribute__"=some (some (.builtin "BaseException.__getattribute__"))
 gr:findIn K (.ref C) "__getattr__"=some none
structure KC(K:Frag)(C:Addr):Prop where
 ha:findIn K (.ref C) "__class__"=some (some (.builtin "object.__class__"))
 hn:specialIn K (.builtin "object.__class__") "__get__"=some (some (.builtin "getset_descriptor.__get__"))
 htk:takesIn K (.builtin "object.__class__")=some true
def HD(T:String):Bool:=T == "bool" || T == "int" || T == "str" || T == "list" || T == "tuple" || T == "dict"
structure XQ(K:Frag)(C:Addr)(x:Str):Prop where
 ns:nsIn K mainGlobals x=some (some (.ref C))
 xc:∃D fI,XC K C D fI
 kc:KC K C
 no:∀T,HD T=true->kitOne K (.ref C) (.type T)=some false
def FX(F:Hp)(dd:Option Addr)(fv:List (Str×V)):Prop:=(dd=none/\fv=[])\/∃dx,dd=some dx/\F dx=some (.ext (XD dx fv))
def FX.mono{F F':Hp}{dd:Option Addr}{fv:List (Str×V)}(e:f_ F F')(h:FX F dd fv):FX F' dd fv:=h.imp id λ⟨dx,h1,h2⟩=>⟨dx,h1,e _ _ h2⟩
end L4
namespace L3
open PySem PySem.Spec PyProof.Rows L2
variable {F H F':Hp}{v:V}{vs:List V}{a p:Addr}{o:HO}{Z:L2.St}
abbrev D:=PyData
abbrev Fg:=PySem.W.Frag
def Ow:Key->D
 | .inl i=>.int i
 | .inr x=>.str x
def cE(k:List Key):D:=.tuple (k.map Ow)
mutual
inductive Rep(K:Fg)(F:Hp):V->D->Prop
 | OU:Rep K F .OU .none
 | bl (b):Rep K F (.bl b) (.bool b)
 | int (i):Rep K F (.int i) (.int i)
 | str (x):Rep K F (.str x) (.str x)
 | tup {a vs ds}:F a=some (.tup vs)->h_ K F vs ds->Rep K F (.ref a) (.tuple ds)
 | lst {a vs ds}:Ot K F a vs->h_ K F vs ds->Rep K F (.ref a) (.list ds)
 | Sl {a ob kvs es}:F a=some (.OQ ob (.dT kvs))->es.map (·.1)=kvs.map (λp=>cE p.1)->h_ K F (kvs.map (·.2)) (es.map (·.2))->Rep K F (.ref a) (.dict es)
 | V2 {a kvs es}:F a=some (.dK kvs)->es.map (·.1)=kvs.map (λp=>Ow p.1)->h_ K F (kvs.map (·.2)) (es.map (·.2))->Rep K F (.ref a) (.dict es)
 | exc {a C dd cl fv es}:F a=some (.ext (L4.XO a C dd))->L4.XQ K C cl->L4.FX F dd fv->es.map (·.1)=fv.map (λp=>.str p.1)->h_ K F (fv.map (·.2)) (es.map (·.2))->Rep K F (.ref a) (.dict ((.none,.str cl)::es))
 | fn {a f}:PySem.W.nsIn K mainGlobals f=some (some (.ref a))->Rep K F (.ref a) (.dict [(.bool true,.str f)])
inductive h_(K:Fg)(F:Hp):List V->List D->Prop
 | nil:h_ K F [] []
 | cons {v d vs ds}:Rep K F v d->h_ K F vs ds->h_ K F (v::vs) (d::ds)
end
def bt{K:Fg}{xs:List V}(e:f_ F F')(h:N_ K F a xs):N_ K F' a xs:=by
 rcases h with (h|⟨o,h⟩)|h
 ·exact .inl (.inl (e _ _ h))
 ·exact .inl (.inr ⟨o,e _ _ h⟩)
 ·exact .inr h
def Rep.mono{K:Fg}(e:f_ F F'){d:D}(h:Rep K F v d):Rep K F' v d :=
 Rep.rec (motive_1:=λv d _=>Rep K F' v d) (motive_2:=λvs ds _=>h_ K F' vs ds) .OU .bl .int .str (λh _ r=>.tup (e _ _ h) r) (λh _ r=>.lst (e.seq h) r) (λh k _ r=>.Sl (e _ _ h) k r) (λh k _ r=>.V2 (e _ _ h) k r) (λh q f k _ r=>.exc (e _ _ h) q (f.mono e) k r) (λh=>.fn h) .nil (λ_ _ a b=>.cons a b) h
def h_.mono{K:Fg}(e:f_ F F'){ds:List D}(h:h_ K F vs ds):h_ K F' vs ds:=by
 induction vs generalizing ds with
 | nil=>cases h;exact .nil
 | cons v vs ih=>cases h with
  | cons a b=>exact .cons (a.mono e) (ih b)
def Kw(K:Fg)(F:Hp):D->V->Prop
 | .none,v=>v=.OU
 | .bool b,v=>v=.bl b
 | .int i,v=>v=.int i
 | .str x,v=>v=.str x
 | .tuple ds,v=>∃a vs,v=.ref a/\F a=some (.tup vs)/\h_ K F vs ds
 | .list ds,v=>∃a vs,v=.ref a/\Ot K F a vs/\h_ K F vs ds
 | _,_=>True
def Rep.inv{K:Fg}{d:D}(h:Rep K F v d):Kw K F d v :=
 Rep.casesOn (motive_1:=λv d _=>Kw K F d v) h rfl (λ_=>rfl) (λ_=>rfl) (λ_=>rfl) (λh r=>⟨_,_,rfl,h,r⟩) (λh r=>⟨_,_,rfl,h,r⟩) (λ_ _ _=>True.intro) (λ_ _ _=>True.intro) (λ_ _ _ _ _=>True.intro) (λ_=>True.intro)
def Rep.int_inv{K:Fg}{i:Int}(h:Rep K F v (.int i)):v=.int i:=h.inv
def Rep.bool_inv{K:Fg}{i:Bool}(h:Rep K F v (.bool i)):v=.bl i:=h.inv
def Rep.str_inv{K:Fg}{i:Str}(h:Rep K F v (.str i)):v=.str i:=h.inv
def Rep.OZ{K:Fg}{ds:List D}(h:Rep K F v (.tuple ds)):∃a vs,v=.ref a/\F a=some (.tup vs)/\h_ K F vs ds:=h.inv
def Rep.lst_inv{K:Fg}{ds:List D}(h:Rep K F v (.list ds)):∃a vs,v=.ref a/\Ot K F a vs/\h_ K F vs ds:=h.inv
def G5(K:Fg)(F:Hp):List D->List V->Prop
 | [],vs=>vs=[]
 | d::ds,vs=>∃v us,vs=v::us/\Rep K F v d/\h_ K F us ds
def h_.inv{K:Fg}{ds:List D}(h:h_ K F vs ds):G5 K F ds vs :=
 h_.casesOn (motive_2:=λvs ds _=>G5 K F ds vs) h rfl (λa b=>⟨_,_,rfl,a,b⟩)
def h_.QT{K:Fg}{d:D}(h:h_ K F vs [d]):∃v,vs=[v]/\Rep K F v d:=by
 obtain⟨v,us,rfl,a,b⟩:=(h.inv:∃v us,vs=v::us/\Rep K F v d/\h_ K F us []);obtain rfl:us=[]:=b.inv;exact⟨v,rfl,a⟩
def h_.Th{K:Fg}{d e:D}(h:h_ K F vs [d,e]):∃v u,vs=[v,u]/\Rep K F v d/\Rep K F u e:=by
 obtain⟨v,us,rfl,a,b⟩:=(h.inv:∃v us,vs=v::us/\Rep K F v d/\h_ K F us [e]);obtain⟨u,rfl,c⟩:=b.QT;exact⟨v,u,rfl,a,c⟩
def h_.length{K:Fg}:∀{vs ds},h_ K F vs ds->vs.length=ds.length
 | _,_,.nil=>rfl
 | _,_,.cons _ r=>by simp[h_.length r]
def h_.get{K:Fg}:∀{vs ds} {i:Nat} {d:D},h_ K F vs ds->ds[i]? = some d->∃v,vs[i]? = some v/\Rep K F v d
 | _,_,_,_,.nil,e=>by simp at e
 | _,_,0,_,.cons h _,e=>by simp at e;subst e;exact⟨_,rfl,h⟩
 | _,_,i+1,d,.cons _ r,e=>by
  obtain⟨v,h1,h2⟩:=h_.get (i:=i) (d:=d) r (by simpa using e);exact⟨v,by simpa using h1,h2⟩
def h_.append{K:Fg}{ds:List D}{us:List V}{es:List D}(h:h_ K F vs ds)(s:h_ K F us es):h_ K F (vs++us) (ds++es):=by
 induction vs generalizing ds with
 | nil=>cases h;exact s
 | cons v vs ih=>cases h with
  | cons a b=>exact .cons a (ih b)
def h_.take{K:Fg}:∀{vs ds} (n:Nat),h_ K F vs ds->h_ K F (vs.take n) (ds.take n)
 | _,_,0,_=>.nil
 | _,_,_+1,.nil=>.nil
 | _,_,n+1,.cons h r=>.cons h (h_.take n r)
def h_.drop{K:Fg}:∀{vs ds} (n:Nat),h_ K F vs ds->h_ K F (vs.drop n) (ds.drop n)
 | _,_,0,r=>r
 | _,_,_+1,.nil=>.nil
 | _,_,n+1,.cons _ r=>h_.drop n r
def h_.set{K:Fg}{d:D}(h:Rep K F v d):∀{vs ds} (i:Nat),h_ K F vs ds->h_ K F (vs.set i v) (ds.set i d)
 | _,_,_,.nil=>.nil
 | _,_,0,.cons _ r=>.cons h r
 | _,_,i+1,.cons q r=>.cons q (h_.set h i r)
def h_.ints{K:Fg}:∀(ns:List Int),h_ K F (ns.map V.int) (ns.map PyData.int)
 | []=>.nil
 | n::r=>.cons (.int n) (h_.ints r)
section
variable {X:Cx} {a_:K_} {s:Shared}
def sU{u:List Value}(r:Vals [] u):∃as,ReadsAll s.heap u [] as:=by cases r;exact⟨_,.nil⟩
def qf{d:D}{ds:List D}(h:d.canLay0=true->∀{u},RelV v u->∃as,Reads s.heap u d as)(t:PyData.canLayAll0 ds=true->∀{us},Vals vs us->∃as,ReadsAll s.heap us ds as)(c:PyData.canLayAll0 (d::ds)=true){us:List Value}(r:Vals (v::vs) us):∃as,ReadsAll s.heap us (d::ds) as:=by
 simp only[PyData.canLayAll0,am]at c
 cases r with
 | cons r rr =>
  obtain⟨as,ra⟩:=h c.1 r;obtain⟨bs,rb⟩:=t c.2 rr;exact⟨_,.cons ra rb⟩
def Bg(I:Inv X a_ Z H s){ds:List D}(hq:H a=some (.tup vs))(ih:PyData.canLayAll0 ds=true->∀{us},Vals vs us->∃as,ReadsAll s.heap us ds as)(c:(PyData.tuple ds).canLay0=true){u:Value}(r:RelV (.ref a) u):∃as,Reads s.heap u (.tuple ds) as:=by
 cases r
 obtain⟨k_,rv,⟨o,e1,e2,n',e3⟩,hz⟩:=I.tuple (N_.of hq);obtain⟨as,ra⟩:=ih (by simpa[PyData.canLay0]using c) rv;exact⟨_,.tuple e1 e2 e3 (by simpa using ra)⟩
def Bh(I:Inv X a_ Z H s){ds:List D}(hq:Ot X.K H a vs)(ih:PyData.canLayAll0 ds=true->∀{us},Vals vs us->∃as,ReadsAll s.heap us ds as)(c:(PyData.list ds).canLay0=true){u:Value}(r:RelV (.ref a) u):∃as,Reads s.heap u (.list ds) as:=by
 cases r
 obtain⟨k_,rv,⟨o,n',e1,e2,e3,e4⟩,hz⟩:=I.list hq;obtain⟨as,ra⟩:=ih (by simpa[PyData.canLay0]using c) rv;exact⟨_,.list e1 e2 e4 (by simpa using ra)⟩
def j0{es:List (D×D)}{P:Prop}(c:(PyData.dict es).canLay0=true):P:=by simp[PyData.canLay0]at c
def CZ(I:Inv X a_ Z H s){d:D}(h:Rep X.K H v d):d.canLay0=true->∀{u},RelV v u->∃as,Reads s.heap u d as :=
 Rep.rec (motive_1:=λv d _=>d.canLay0=true->∀{u},RelV v u->∃as,Reads s.heap u d as) (motive_2:=λvs ds _=>PyData.canLayAll0 ds=true->∀{us},Vals vs us->∃as,ReadsAll s.heap us ds as)
  (λ_ {_} r=>by cases r;exact⟨_,.none⟩) (λb _ {_} r=>by cases r;exact⟨_,.bool b⟩) (λi _ {_} r=>by obtain⟨t,rfl⟩:=r;exact⟨_,.int i t⟩) (λx _ {_} r=>by obtain⟨t,rfl⟩:=r;exact⟨_,.str x t⟩)
  (λhq _ ih=>Bg I hq ih) (λhq _ ih=>Bh I hq ih) (λ_ _ _ _ c=>j0 c) (λ_ _ _ _ c=>j0 c) (λ_ _ _ _ _ _ c=>j0 c) (λ_ c=>j0 c)
  (λ_ {_} r=>sU r) (λ_ _ a b=>qf a b) h
def HW(I:Inv X a_ Z H s){ds:List D}(h:h_ X.K H vs ds):PyData.canLayAll0 ds=true->∀{us},Vals vs us->∃as,ReadsAll s.heap us ds as:=by
 induction vs generalizing ds with
 | nil=>cases h;exact λ_ _ r=>sU r
 | cons v vs ih=>cases h with
  | cons a b=>exact qf (CZ I a) (ih b)
end
def cB{X:Cx}{a_:K_}{s:Shared}(I:Inv X a_ Z H s) :
  (∀{v d},Rep X.K H v d->d.canLay0=true->∀{u},RelV v u->∃as,Reads s.heap u d as)/\(∀{vs ds},h_ X.K H vs ds->PyData.canLayAll0 ds=true->∀{us},Vals vs us->∃as,ReadsAll s.heap us ds as) :=
 ⟨λ{v d} h c {u} r=>CZ I h c r,λ{vs ds} h c {us} r=>HW I h c r⟩
def nC:List (D×D)->Bool
 | (.none,_)::_=>true
 | (.bool _,_)::_=>true
 | _=>false
inductive NK where
 | b (b:Bool)
 | t (p:Int) (rs:List (List Int))
deriving DecidableEq
def HE(l:List Int):Int:=PySem.reduceHash (PySem.Builtin.Tuple.tupleHashOf l)
def NK.hash:NK->Int
 | .b x=>PySem.hashInt (if x then 1 else 0)
 | .t p rs=>HE [PySem.hashInt p,HE (rs.map λr=>HE (r.map PySem.hashInt))]
def TH(F:Hp):NK->Value->Prop
 | .b b,v=>v=.bool b
 | .t p rs,v=>∃c e bs,v=.ref c/\F c=some (.tup [.int p,.ref e])/\F e=some (.tup (bs.map V.ref))/\Paired (λr b=>F b=some (.tup (r.map V.int))) rs bs
def TH.mono{n:NK}{v:Value}(s:f_ F F')(h:TH F n v):TH F' n v:=by
 cases n with
 | b b=>exact h
 | t p rs=>obtain⟨c,e,bs,h1,h2,h3,h4⟩:=h;exact⟨c,e,bs,h1,s _ _ h2,s _ _ h3,Paired.Xf h4 λr b q=>s _ _ q⟩
def nkE(x:NK×Value×Value):DictEntry:=⟨x.1.hash,x.2.1,x.2.2⟩
def MP(a:Addr)(o:Obj)(xs:List (NK×Value×Value)):Prop:=(a==sysModules)=false/\o.ExactDict/\(∃es ep,o.data=.dict es ep/\es.toList=xs.map nkE)/\(xs.map (·.1)).Nodup/\xs.length<=sizeLine/\∀(i:Nat) x,xs[i]? = some x->∃t,x.2.2=.int i t
inductive OC where
 | l (ds:List D)
 | t (es:List (D×D))
 | k (es:List (D×D))
 | i (x:Str) (ns:List Str) (ds:List D)
 | n (ns:List NK)
def OC.VF:OC->Bool
 | .t _=>true
 | _=>false
def OC.Ya:OC->Bool
 | .i _ _ _=>true
 | .n _=>true
 | _=>false
inductive AV where
 | fz (d:D)
 | ol (c:OC)
 | op (c:OC)
abbrev En:=List (Option AV)
inductive RV where
 | fz (d:D)
 | fr (c:OC)
 | bor (i:Nat)
def Cd:HO->Prop
 | .tup _=>False
 | .ext _=>False
 | _=>True
structure Gh where
 P:Nat->Option Addr
 O:Hp
 B:Hp
def OH(K:Fg)(F H:Hp)(a:Addr):OC->Prop
 | .l ds=>∃vs,H a=some (.lst vs)/\h_ K F vs ds
 | .t es=>∃kvs,H a=some (.dT kvs)/\es.map (·.1)=kvs.map (λp=>cE p.1)/\h_ K F (kvs.map (·.2)) (es.map (·.2))
 | .k es=>∃kvs,H a=some (.dK kvs)/\es.map (·.1)=kvs.map (λp=>Ow p.1)/\h_ K F (kvs.map (·.2)) (es.map (·.2))
 | .i x ns ds=>∃C dx fs,H a=some (.ins C dx fs)/\PySem.W.nsIn K mainGlobals x=some (some (.ref C))/\fs.map (·.1)=ns/\h_ K F (fs.map (·.2)) ds
 | .n ns=>∃o xs,H a=some (.obj o)/\MP a o xs/\xs.map (·.1)=ns/\∀x∈xs,TH F x.1 x.2.1
structure TC(K:Fg)(G:Gh)(F H:Hp)(a:Addr)(c:OC):Prop where
 nf:F a=none
 no:G.O a=none
 he:OH K F H a c
def own(ρ:En)(i:Nat)(c:OC):Prop:=ρ[i]? = some (some (.ol c))\/ρ[i]? = some (some (.op c))
structure c_(K:Fg)(G:Gh)(F:Hp)(Z:L2.St)(H:Hp)(ρ:En):Prop where
 fh:f_ F H
 oh:f_ G.O H
 fo:∀b o,G.O b=some o->F b=none/\Cd o
 ln:Z.length=ρ.length
 fz:∀(i:Nat) (d:D),ρ[i]? = some (some (AV.fz d))->∃v,Z[i]? = some (some v)/\Rep K F v d
 ow:∀(i:Nat) (c:OC),own ρ i c->∃a:Addr,Z[i]? = some (some (V.ref a))/\TC K G F H a c
 dj:∀(i j:Nat) (c e:OC) (a:Addr),own ρ i c->own ρ j e->Z[i]? = some (some (V.ref a))->Z[j]? = some (some (V.ref a))->i=j
 pp:∀(i:Nat) (a:Addr),G.P i=some a->Z[i]? = some (some (V.ref a))/\∃c,ρ[i]? = some (some (AV.op c))
 pq:∀(i:Nat) (c:OC),ρ[i]? = some (some (AV.op c))->∃a,G.P i=some a
 fb:f_ G.B F
def RVR(K:Fg)(G:Gh)(F:Hp)(Z:L2.St)(H:Hp)(ρ:En)(v:V):RV->Prop
 | .fz d=>Rep K F v d
 | .fr c=>∃a,v=.ref a/\TC K G F H a c/\∀(i:Nat) (e:OC),own ρ i e->Z[i]? ≠ some (some (V.ref a))
 | .bor i=>∃c,own ρ i c/\Z[i]? = some (some v)
def OH.mono{K:Fg}{c:OC}(e:f_ F F')(h:OH K F H a c):OH K F' H a c:=by
 cases c with
 | l ds=>obtain⟨vs,h1,h2⟩:=h;exact⟨vs,h1,h2.mono e⟩
 | t es=>obtain⟨vs,h1,h2,h3⟩:=h;exact⟨vs,h1,h2,h3.mono e⟩
 | k es=>obtain⟨vs,h1,h2,h3⟩:=h;exact⟨vs,h1,h2,h3.mono e⟩
 | i x ns ds=>obtain⟨C,dx,fs,h1,h2,h3,h4⟩:=h;exact⟨C,dx,fs,h1,h2,h3,h4.mono e⟩
 | n ns=>obtain⟨o,xs,h1,h2,h3,h4⟩:=h;exact⟨o,xs,h1,h2,h3,λx m=>(h4 x m).mono e⟩
def OH.some{K:Fg}{c:OC}(h:OH K F H a c):∃o,H a=some o:=by
 cases c with
 | l ds=>obtain⟨vs,h1,h2⟩:=h;exact⟨_,h1⟩
 | t es=>obtain⟨vs,h1,h2⟩:=h;exact⟨_,h1⟩
 | k es=>obtain⟨vs,h1,h2⟩:=h;exact⟨_,h1⟩
 | i x ns ds=>obtain⟨C,dx,fs,h1,_⟩:=h;exact⟨_,h1⟩
 | n ns=>obtain⟨o,xs,h1,_⟩:=h;exact⟨_,h1⟩
def OH.at{K:Fg}{H':Hp}{c:OC}(h:OH K F H a c)(e:H' a=H a):OH K F H' a c:=by
 cases c with
 | l ds=>obtain⟨vs,h1,h2⟩:=h;exact⟨vs,e.trans h1,h2⟩
 | t es=>obtain⟨vs,h1,h2⟩:=h;exact⟨vs,e.trans h1,h2⟩
 | k es=>obtain⟨vs,h1,h2⟩:=h;exact⟨vs,e.trans h1,h2⟩
 | i x ns ds=>obtain⟨C,dx,fs,h1,h2⟩:=h;exact⟨C,dx,fs,e.trans h1,h2⟩
 | n ns=>obtain⟨o,xs,h1,h2⟩:=h;exact⟨o,xs,e.trans h1,h2⟩
def cu(h:F p=none):f_ F (upd F p o):=λb u e=>by
 rw[aD (aR e h)];exact e
def fY(s:f_ F H)(h:F p=none):f_ F (upd H p o):=λb u e=>by
 rw[aD (aR e h)];exact s b u e
section
variable {K:Fg} {G:Gh} {ρ:En}
def c_.lay(S:c_ K G F Z H ρ)(hp:H p=none):c_ K G F Z (upd H p o) ρ:=by
 have fp:F p=none:=S.fh.free hp;have op:G.O p=none:=S.oh.free hp;refine⟨fY S.fh fp,fY S.oh op,S.fo,S.ln,S.fz,λi c h=>?_,S.dj,S.pp,S.pq,S.fb⟩;obtain⟨a,e,oa⟩:=S.ow i c h;refine⟨a,e,oa.nf,oa.no,oa.he.at ?_⟩;obtain⟨u,hu⟩:=oa.he.some;exact aD (aR hu hp)
def c_.fresh_ne(S:c_ K G F Z H ρ)(hp:H p=none):∀(i:Nat) (e:OC),own ρ i e->Z[i]? ≠ some (some (V.ref p)):=λi e h q=>by
 obtain⟨a,e1,oa⟩:=S.ow i e h;rw[e1]at q;injection q with q;injection q with q;injection q with q;subst q;obtain⟨u,hu⟩:=oa.he.some;rw[hp]at hu;cases hu
def c_.freeze(S:c_ K G F Z H ρ)(ha:H a=some o)(fa:F a=none)(oa:G.O a=none)(ne:∀(i:Nat) (e:OC),own ρ i e->Z[i]? ≠ some (some (V.ref a))):c_ K G (upd F a o) Z H ρ:=by
 have sm:f_ F (upd F a o):=cu fa;refine⟨λb u e=>?_,S.oh,λb u e=>?_,S.ln,λi d h=>?_,λi c h=>?_,S.dj,S.pp,S.pq,S.fb.trans sm⟩
 ·by_cases hb:b=a
  ·subst hb;rw[aJ]at e;cases e;exact ha
  ·rw[aD hb]at e;exact S.fh b u e
 ·rw[aD (aR e oa)];exact S.fo b u e
 ·obtain⟨v,e,r⟩:=S.fz i d h;exact⟨v,e,r.mono sm⟩
 ·obtain⟨b,e,ob⟩:=S.ow i c h;refine⟨b,e,?_,ob.no,ob.he.mono sm⟩;rw[aD (λz=>ne i c h (by rw[e,z]))];exact ob.nf
def c_.O7(S:c_ K G F Z H ρ){ds:List D}(hp:H p=none)(r:h_ K F vs ds) :
  f_ F (upd F p (.tup vs))/\c_ K G (upd F p (.tup vs)) Z (upd H p (.tup vs)) ρ/\Rep K (upd F p (.tup vs)) (.ref p) (.tuple ds):=by
 have fp:F p=none:=S.fh.free hp;refine⟨cu fp,(S.lay hp).freeze aJ fp (S.oh.free hp) (S.fresh_ne hp),?_⟩;exact .tup aJ (r.mono (cu fp))
def c_.OO(S:c_ K G F Z H ρ){ds:List D}(hp:H p=none)(r:h_ K F vs ds) :
  c_ K G F Z (upd H p (.lst vs)) ρ/\RVR K G F Z (upd H p (.lst vs)) ρ (.ref p) (.fr (.l ds)) :=
 ⟨S.lay hp,p,rfl,⟨S.fh.free hp,S.oh.free hp,vs,aJ,r⟩,S.fresh_ne hp⟩
def c_.settle(S:c_ K G F Z H ρ){ds:List D}(r:RVR K G F Z H ρ v (.fr (.l ds))) :
  ∃F',f_ F F'/\c_ K G F' Z H ρ/\Rep K F' v (.list ds):=by
 obtain⟨a,rfl,oa,ne⟩:=r;obtain⟨vs,h1,h2⟩:=oa.he;exact⟨upd F a (.lst vs),cu oa.nf,S.freeze h1 oa.nf oa.no ne,.lst (.inl (.inl aJ)) (h2.mono (cu oa.nf))⟩
def oK{α:Type}(l:List α)(i:Nat)(x y:α)(h:l[i]? = some y):(l.set i x)[i]? = some x:=by
 rw[eE (List.getElem?_eq_some_iff.mp h).1]
def OC.d:OC->D
 | .l ds=>.list ds
 | .t es=>.dict es
 | .k es=>.dict es
 | .i _ _ _=>.none
 | .n _=>.none
def Am{c:OC}(hI:c.Ya=false)(hT:c.VF=false)(h:OH K F H a c):∃o,H a=some o/\∀F',f_ F F'->F' a=some o->Rep K F' (.ref a) c.d:=by
 cases c with
 | l ds=>obtain⟨vs,h1,h2⟩:=h;exact⟨_,h1,λF' s e=>.lst (.inl (.inl e)) (h2.mono s)⟩
 | t es=>cases hT
 | k es=>obtain⟨vs,h1,h2,h3⟩:=h;exact⟨_,h1,λF' s e=>.V2 e h2 (h3.mono s)⟩
 | i x ns ds=>cases hI
 | n ns=>cases hI
def c_.Vk(S:c_ K G F Z H ρ){i:Nat}{oc:OC}(hI:oc.Ya=false)(hT:oc.VF=false)(hi:ρ[i]? = some (some (.ol oc)))(hv:Z[i]? = some (some v)) :
  ∃F',f_ F F'/\c_ K G F' Z H (ρ.set i (some (.fz oc.d)))/\Rep K F' v oc.d/\∀b,v=.ref b->F' b=H b:=by
 obtain⟨a,e,oa⟩:=S.ow i _ (.inl hi);rw[hv]at e;injection e with e;injection e with e;subst e;obtain⟨vo,h1,zau⟩:=Am hI hT oa.he;have sm:f_ F (upd F a vo):=cu oa.nf;have rp:Rep K (upd F a vo) (.ref a) oc.d:=zau _ sm aJ;have ne:∀j,j≠i->(ρ.set i (some (.fz oc.d)))[j]? = ρ[j]?:=λj hj=>ba (Ne.symm hj)
 have X0:(ρ.set i (some (.fz oc.d)))[i]? = some (some (.fz oc.d)):=oK _ _ _ _ hi;have Um:∀j c,own (ρ.set i (some (.fz oc.d))) j c->j≠i/\own ρ j c:=λj c h=>by
  have hj:j≠i:=by
   rintro rfl;rcases h with h|h<;>(rw[X0]at h;cases h)
  refine⟨hj,?_⟩;rcases h with h|h
  ·exact .inl (by rw[<-ne j hj];exact h)
  ·exact .inr (by rw[<-ne j hj];exact h)
 refine⟨upd F a vo,sm,⟨λb u e=>?_,S.oh,λb u e=>?_,by simpa using S.ln,λj d h=>?_,λj c h=>?_,λj k c e b h1 h2=>S.dj j k c e b (Um j c h1).2 (Um k e h2).2,λj b h=>?_,λj c h=>?_,S.fb.trans sm⟩,rp,λb e=>by cases e;rw[aJ,h1]⟩
 ·by_cases hb:b=a
  ·subst hb;rw[aJ]at e;cases e;exact h1
  ·rw[aD hb]at e;exact S.fh b u e
 ·rw[aD (aR e oa.no)];exact S.fo b u e
 ·by_cases hj:j=i
  ·subst hj;rw[X0]at h
   cases h
   exact⟨_,hv,rp⟩
  ·rw[ne j hj]at h;obtain⟨w,e,r⟩:=S.fz j d h;exact⟨w,e,r.mono sm⟩
 ·obtain⟨hj,h'⟩:=Um j c h;obtain⟨b,e,ob⟩:=S.ow j c h';refine⟨b,e,?_,ob.no,ob.he.mono sm⟩;rw[aD (λz=>hj (S.dj j i _ _ a h' (.inl hi) (by rw[e,z]) hv))];exact ob.nf
 ·obtain⟨q,c,q'⟩:=S.pp j b h;refine⟨q,c,?_⟩;have hj:j≠i:=by rintro rfl;rw[hi]at q';cases q'
  rw[ne j hj];exact q'
 ·have hj:j≠i:=by rintro rfl;rw[X0]at h;cases h
  rw[ne j hj]at h;exact S.pq j c h
def c_.Vl(S:c_ K G F Z H ρ){i:Nat}{oc:OC}(hI:oc.Ya=false)(hT:oc.VF=false)(hi:ρ[i]? = some (some (.ol oc)))(hv:Z[i]? = some (some v)) :
  ∃F',f_ F F'/\c_ K G F' Z H (ρ.set i (some (.fz oc.d)))/\Rep K F' v oc.d:=let ⟨F',a,b,c,_⟩:=S.Vk hI hT hi hv;⟨F',a,b,c⟩
def c_.store(S:c_ K G F Z H ρ){j:Nat}{av:AV}(hj:∀c,ρ[j]? ≠ some (some (.op c)))(hl:j<ρ.length)
  (h:(∃d,av=.fz d/\Rep K F v d)\/∃c,av=.ol c/\RVR K G F Z H ρ v (.fr c)):c_ K G F (Z.set j (some v)) H (ρ.set j (some av)):=by
 have hls:j<Z.length:=by rw[S.ln];exact hl
 have ne:∀i,i≠j->(ρ.set j (some av))[i]? = ρ[i]?:=λi hi=>ba (Ne.symm hi)
 have Xe:∀i,i≠j->(Z.set j (some v))[i]? = Z[i]?:=λi hi=>ba (Ne.symm hi)
 have Sq:(ρ.set j (some av))[j]? = some (some av):=eE hl;have V9:(Z.set j (some v))[j]? = some (some v):=eE hls;have Qo:∀i c,i≠j->own (ρ.set j (some av)) i c->own ρ i c:=λi c hi h=>by
  unfold own at h ⊢;rw[ne i hi]at h;exact h
 refine⟨S.fh,S.oh,S.fo,by simpa using S.ln,λi d q=>?_,λi c q=>?_,λi k c e a q1 q2 e1 e2=>?_,λi a q=>?_,λi c q=>?_,S.fb⟩
 ·by_cases hi:i=j
  ·subst hi;rw[Sq]at q;rcases h with ⟨d',rfl,r⟩|⟨c,rfl,_⟩
   ·cases q;exact⟨v,V9,r⟩
   ·cases q
  ·rw[ne i hi]at q;obtain⟨w,e,r⟩:=S.fz i d q;exact⟨w,by rw[Xe i hi];exact e,r⟩
 ·by_cases hi:i=j
  ·subst hi;rcases h with ⟨d',rfl,r⟩|⟨c',rfl,a,rfl,oa,_⟩
   ·rcases q with q|q<;>(rw[Sq]at q;cases q)
   ·rcases q with q|q
    ·rw[Sq]at q;cases q;exact⟨a,V9,oa⟩
    ·rw[Sq]at q;cases q
  ·obtain⟨a,e,oa⟩:=S.ow i c (Qo i c hi q);exact⟨a,by rw[Xe i hi];exact e,oa⟩
 ·by_cases hi:i=j
  ·by_cases hk:k=j
   ·rw[hi,hk]
   ·exfalso;subst hi;rw[Xe k hk]at e2;rw[V9]at e1;injection e1 with e1;injection e1 with e1;subst e1;rcases h with ⟨d',rfl,r⟩|⟨c',rfl,a',e,oa,nn⟩
    ·rcases q1 with q|q<;>(rw[Sq]at q;cases q)
    ·injection e with e;subst e;exact nn k _ (Qo k _ hk q2) e2
  ·by_cases hk:k=j
   ·exfalso;subst hk;rw[Xe i hi]at e1;rw[V9]at e2;injection e2 with e2;injection e2 with e2;subst e2;rcases h with ⟨d',rfl,r⟩|⟨c',rfl,a',e,oa,nn⟩
    ·rcases q2 with q|q<;>(rw[Sq]at q;cases q)
    ·injection e with e;subst e;exact nn i _ (Qo i _ hi q1) e1
   ·rw[Xe i hi]at e1;rw[Xe k hk]at e2;exact S.dj i k _ _ a (Qo i _ hi q1) (Qo k _ hk q2) e1 e2
 ·obtain⟨q1,c,q2⟩:=S.pp i a q;have hi:i≠j:=by rintro rfl;exact hj c q2
  exact⟨by rw[Xe i hi];exact q1,c,by rw[ne i hi];exact q2⟩
 ·have hi:i≠j:=by
   rintro rfl;rw[Sq]at q;rcases h with ⟨d',rfl,r⟩|⟨c',rfl,_⟩<;>cases q
  rw[ne i hi]at q;exact S.pq i c q
def c_.change(S:c_ K G F Z H ρ){j:Nat}{c c':OC}(hj:own ρ j c)(ha:Z[j]? = some (some (.ref a)))(hh:OH K F (upd H a o) a c') :
  c_ K G F Z (upd H a o) (ρ.set j ((ρ[j]?.join).map fun | .op _=>.op c'|_=>.ol c')):=by
 obtain⟨b,e,ob⟩:=S.ow j c hj;rw[ha]at e;injection e with e;injection e with e;injection e with e;subst e;have hl:j<ρ.length:=by rcases hj with h|h<;>exact(List.getElem?_eq_some_iff.mp h).1
 generalize Yh:((ρ[j]?.join).map λ(x:AV)=>match x with | .op _=>AV.op c'|_=>AV.ol c')=av;have ne:∀i,i≠j->(ρ.set j av)[i]? = ρ[i]?:=λi hi=>ba (Ne.symm hi)
 have Sq:(ρ.set j av)[j]? = some av:=eE hl;have Qo:∀i e,i≠j->own (ρ.set j av) i e->own ρ i e:=λi c hi h=>by
  unfold own at h ⊢;rw[ne i hi]at h;exact h
 have kind:(ρ[j]? = some (some (.ol c))/\av=some (.ol c'))\/(ρ[j]? = some (some (.op c))/\av=some (.op c')):=by
  rcases hj with h|h
  ·exact .inl ⟨h,by rw[<-Yh,h];rfl⟩
  ·exact .inr ⟨h,by rw[<-Yh,h];rfl⟩
 have Um:∀e,own (ρ.set j av) j e->e=c':=λe h=>by
  unfold own at h;rw[Sq]at h;rcases kind with ⟨_,k⟩|⟨_,k⟩<;>rw[k]at h<;>rcases h with h|h<;>cases h<;>rfl
 refine⟨fY S.fh ob.nf,fY S.oh ob.no,S.fo,by simpa using S.ln,λi d q=>?_,λi e q=>?_,λi k c1 e1 b q1 q2=>?_,λi b q=>?_,λi e q=>?_,S.fb⟩
 ·by_cases hi:i=j
  ·subst hi;rw[Sq]at q;rcases kind with ⟨_,k⟩|⟨_,k⟩<;>rw[k]at q<;>cases q
  ·rw[ne i hi]at q;exact S.fz i d q
 ·by_cases hi:i=j
  ·subst hi;have:=Um e q;subst this;exact⟨a,ha,ob.nf,ob.no,hh⟩
  ·have q':=Qo i e hi q;obtain⟨b',e',UY⟩:=S.ow i e q';refine⟨b',e',UY.nf,UY.no,UY.he.at (aD λz=>hi (S.dj i j _ _ a q' hj (by rw[e',z]) ha))⟩
 ·have o1:∃e,own ρ i e:=by
   by_cases hi:i=j
   ·exact⟨c,hi▸hj⟩
   ·exact⟨_,Qo i _ hi q1⟩
  have o2:∃e,own ρ k e:=by
   by_cases hk:k=j
   ·exact⟨c,hk▸hj⟩
   ·exact⟨_,Qo k _ hk q2⟩
  exact S.dj i k _ _ b o1.choose_spec o2.choose_spec
 ·obtain⟨q1,e,q2⟩:=S.pp i b q;refine⟨q1,?_⟩;by_cases hi:i=j
  ·subst hi;rcases kind with ⟨k1,k⟩|⟨k1,k⟩
   ·rw[k1]at q2;cases q2
   ·exact⟨c',by rw[Sq,k]⟩
  ·exact⟨e,by rw[ne i hi];exact q2⟩
 ·by_cases hi:i=j
  ·subst hi;rcases kind with ⟨k1,k⟩|⟨k1,k⟩
   ·rw[Sq,k]at q;cases q
   ·exact S.pq i c k1
  ·rw[ne i hi]at q;exact S.pq i e q
end
end L3
namespace L4
open PySem PySem.Spec PyProof.Rows L2 L3
variable {s:Shared}{e L C:Addr}{Q:Unit->Shared->Prop}{H:Hp}{A:Around}{base:Heap}{outer:List Env}{dd:Option Addr}{P:Program}{w:World}
def ko(h:Heap)(e b:Addr):Prop:=∃oe vs,h.get? e=some oe/\oe.data=.fields vs/\vs[1]? = some (.ref b)
structure Ent(fs:List Addr)(h h':Heap)(e T:Addr)(oe:Obj)(ts:Array Value):Prop where
 keep:∀b o,h.get? b=some o->b∉fs->b≠e->h'.get? b=some o
 slot:∀b o,h.get? b=some o->b≠e->∃sl,h'.get? b=some { o with slots:=sl }
 new:h.objs.size<=T
 exc:h'.get? e=some (oe.mapFields (·.setIfInBounds 1 (.ref T)))
 way:∃oT,h'.get? T=some oT/\oT.data=.fields ts
section
variable {M:Model} {E:Of} {env:Env} {oe:Obj} {vs:Array Value}
theorem qT{top:Value}{nx:Bool}(hA:A.frames=some (env::outer))(hF:s.heap.FunFrames base (env::outer))(hL:env.frame=some L)
  (he:s.heap.get? e=some oe) (hd:oe.data=.fields vs) (hz:1<vs.size)
  (k:∀h' T ts,Ent (Q8 (env::outer)) s.heap h' e T oe ts->3<ts.size->ts[3]? = some (rawInt L)->Q () { s with heap:=h' }) :
  wpAny M A (do let a <-frameOf env;let pl <-entryPlaceOf L nx;let b <-EntryCells.newEntry top a .none (rawInt L) .none pl;setField (.ref e) 1 b) Q E s:=by
 have ne:e∉Q8 (env::outer):=λz=>by
  obtain⟨_,o,q,r⟩:=hF.mem z;rw[he]at q;cases q;exact r vs hd
 refine i_ (wpAny_frameOf_fun hA hF hL λh1 so=>i_ (wpAny_entryPlaceOf λpl ip=>?_));simp only[EntryCells.newEntry,newFields];refine i_ (im ?_ (ip.sizeOk5 _ _ _ _ _));generalize hts:([top,.ref L,.none,rawInt L,.none]++(if pl.isEmpty then List.replicate 6 Value.none else pl)).toArray=ts;have z3:3<ts.size:=by
  rw[<-hts,ax,Qh];simp only[gs,At];lia
 have g3:ts[3]? = some (rawInt L):=by rw[<-hts];simp
 generalize Yb:({ cls:=.type "traceback",dict:=none,data:=.fields ts }:Obj)=tb;have fr:tb.isFreed=false:=by rw[<-Yb];rfl
 have e1:h1.get? e=some oe:=by rw[so.2.1 e ne];exact he
 have lt:e<h1.objs.size:=ay e1;refine ye (Od tb e1) hd hz ?_;have hd':=mo hd (·.setIfInBounds 1 (Value.ref h1.objs.size));have up:∀b,b≠e->((h1.push tb).update e (Obj.mapFields (·.setIfInBounds 1 (.ref h1.objs.size)))).get? b=(h1.push tb).get? b:=λb hb=>xt _ _ (Ne.symm hb)
 refine k _ h1.objs.size ts ⟨λb o q nf nb=>?_,λb o q nb=>?_,by rw[so.1];exact ai _,?_,⟨tb,?_,?_⟩⟩ z3 g3
 ·exact(up b nb).trans (Od _ ((so.2.1 b nf).trans q))
 ·obtain⟨sl,q'⟩:=so.2.2 b o q;exact⟨sl,(up b nb).trans (Od _ q')⟩
 ·exact wa _ (Od tb e1) (y9 hd')
 ·exact(up _ (pr lt)).trans (OX h1 fr)
 ·rw[<-Yb]
end
structure XS(H:Hp)(h:Heap)(lo:Nat)(e C:Addr)(dd:Option Addr):Prop where
 yg:lo<=e
 Sy:H e=some (.ext (XO e C dd))
 obj:∃oe vs,h.get? e=some oe/\oe.cls=.ref C/\oe.dict=dd/\oe.data=.fields vs/\1<vs.size /\
  (vs[1]? = some .none\/∃T oT ts,vs[1]? = some (.ref T)/\T≠e/\lo<=T/\H T=none/\h.get? T=some oT/\oT.data=.fields ts/\ts[3]? = some .none)
structure Mv(fs:List Addr)(h h':Heap)(e:Addr):Prop where
 keep:∀b o,h.get? b=some o->b∉fs->b≠e->¬ ko h e b->h'.get? b=some o
 slot:∀b o,h.get? b=some o->b≠e->¬ ko h e b->∃sl,h'.get? b=some { o with slots:=sl }
 there:∀b o,h.get? b=some o->∃o',h'.get? b=some o'
def Ax(f:Array Value->Array Value)(o:Obj):(o.mapFields f).dict=o.dict:=by
 obtain⟨c,d,dt,sl⟩:=o
 cases dt<;>rfl
def Le:¬ ((Value.none==rawInt L)=true):=by simp[rawInt]
section
variable {M:Model} {E:Of} {env:Env} {lo:Nat}
theorem qO{oe:Obj}{vs:Array Value}{h0:Heap}{T:Addr}{ts:Array Value}(en:Ent (Q8 (env::outer)) h0 s.heap e T oe ts)(hd:oe.data=.fields vs)(hz:1<vs.size)(z3:3<ts.size)(hh:e<h0.objs.size)
  (k:∀h',(∀b,b≠T->h'.get? b=s.heap.get? b)->(∃oT tz,h'.get? T=some oT/\oT.data=.fields tz/\tz[3]? = some .none)->Q () { s with heap:=h' }):wpAny M A (setFlight (.ref e) none) Q E s:=by
 obtain⟨oT,q1,q2⟩:=en.way;have d':=mo hd (·.setIfInBounds 1 (Value.ref T));simp only[setFlight];refine i_ (ig en.exc d' (x:=.ref T) (by simp[hz]) ?_);rw[al (by simp)];refine ye q1 q2 z3 (k _ (λb hb=>xt _ _ (Ne.symm hb)) ⟨_,_,wa _ q1 (y9 (mo q2 _)),mo q2 _,by simp[z3]⟩)
theorem wB(hA:A.frames=some (env::outer))(hF:s.heap.FunFrames base (env::outer))(hL:env.frame=some L)(hk:O5 P w H s.heap)(xs:XS H s.heap lo e C dd)
  (k:∀h',Mv (Q8 (env::outer)) s.heap h' e->XS H h' lo e C dd->(∀b,ko h' e b->s.heap.objs.size<=b)->Q () { s with heap:=h' }) :
  wpAny M A (noteFrame (.ref e) env) (λ_ s2=>wpAny M A (setFlight (.ref e) none) Q E s2) E s:=by
 obtain⟨oe,vs,he,hc,hdd,hd,hz,tb⟩:=xs.obj;have elt:e<s.heap.objs.size:=ay he;have Wr:lo<=s.heap.objs.size:=di xs.yg (Nf elt);simp only[noteFrame,hL];rcases tb with tb|⟨T,oT,ts,tb,hTe,hTl,hTn,hT,Wt,t3⟩
 ·refine i_ (ig he hd tb ?_);rw[ar (by decide)];refine qT hA hF hL he hd hz λh1 T1 t1 en z3 g3=>?_
  refine qO (s:={ s with heap:=h1 }) en hd hz z3 elt λh2 same way=>?_
  have nT:∀b o,s.heap.get? b=some o->b≠T1:=λb o q=>gu (bo (ay q) en.new)
  have d1:=mo hd (·.setIfInBounds 1 (Value.ref T1));refine k h2 ⟨λb o q nf nb _=>?_,λb o q nb _=>?_,λb o q=>?_⟩ ⟨xs.yg,xs.Sy,_,_,?_,?_,?_,d1,by simpa using hz,.inr ?_⟩ ?_
  ·rw[same b (nT b o q)];exact en.keep b o q nf nb
  ·obtain⟨sl,z⟩:=en.slot b o q nb;exact⟨sl,by rw[same b (nT b o q)];exact z⟩
  ·by_cases nb:b=e
   ·subst nb;exact⟨_,by rw[same _ (nT _ o q)];exact en.exc⟩
   ·obtain⟨sl,z⟩:=en.slot b o q nb;exact⟨_,by rw[same b (nT b o q)];exact z⟩
  ·rw[same e (nT e _ he)];exact en.exc
  ·rw[NM];exact hc
  ·rw[Ax];exact hdd
  ·obtain⟨o1,tz,w1,w2,w3⟩:=way;exact⟨T1,o1,tz,by simp[hz],λz=>nT e _ he z.symm,di Wr en.new,hk.fresh en.new,w1,w2,w3⟩
  ·intro b ⟨Y1,Vc,g1,g2,g3⟩;rw[same e (nT e _ he),en.exc]at g1
   cases g1
   rw[d1]at g2
   cases g2
   have:Value.ref T1=Value.ref b:=by simpa[hz]using g3
   injection this with this;rw[<-this];exact en.new
 ·refine i_ (ig he hd tb ?_);rw[al (by simp)];refine i_ (ig hT Wt t3 ?_);rw[ar Le];have z3':3<ts.size:=(Array.getElem?_eq_some_iff.mp t3).1;refine i_ (ye hT Wt z3' ?_);have off:∀b,b≠T->(s.heap.update T (Obj.mapFields (·.setIfInBounds 3 Value.none))).get? b=s.heap.get? b:=λb hb=>xt _ _ (Ne.symm hb)
  have hF':(s.heap.update T (Obj.mapFields (·.setIfInBounds 3 Value.none))).FunFrames base (env::outer):=hF.of_keeps λb o q r=>⟨o,(off b λz=>by subst z;rw[hT]at q;cases q;exact r ts Wt).trans q,rfl⟩
  have Zs:(s.heap.update T (Obj.mapFields (·.setIfInBounds 3 Value.none))).get? e=some oe:=(off e (Ne.symm hTe)).trans he;have zz:(s.heap.update T (Obj.mapFields (·.setIfInBounds 3 Value.none))).objs.size=s.heap.objs.size:=Heap.size_update ..;refine qT (s:={ s with heap:=s.heap.update T (Obj.mapFields (·.setIfInBounds 3 Value.none)) }) hA hF' hL Zs hd hz λh1 T1 t1 en z3 g3=>?_
  refine qO (s:={ s with heap:=h1 }) en hd hz z3 (by rw[zz];exact elt) λh2 same way=>?_
  have nw:s.heap.objs.size<=T1:=by have:=en.new;rw[zz]at this;exact this
  have nT:∀b o,s.heap.get? b=some o->b≠T1:=λb o q=>gu (bo (ay q) nw)
  have VF:ko s.heap e T:=⟨oe,vs,he,hd,tb⟩;have nTT:∀b,¬ ko s.heap e b->b≠T:=λb z q=>z (q▸VF)
  have d1:=mo hd (·.setIfInBounds 1 (Value.ref T1));have T0:(s.heap.update T (Obj.mapFields (·.setIfInBounds 3 Value.none))).get? T=some (oT.mapFields (·.setIfInBounds 3 Value.none)):=wa _ hT (y9 (mo Wt _));refine k h2 ⟨λb o q nf nb nt=>?_,λb o q nb nt=>?_,λb o q=>?_⟩ ⟨xs.yg,xs.Sy,_,_,?_,?_,?_,d1,by simpa using hz,.inr ?_⟩ ?_
  ·rw[same b (nT b o q)];exact en.keep b o ((off b (nTT b nt)).trans q) nf nb
  ·obtain⟨sl,z⟩:=en.slot b o ((off b (nTT b nt)).trans q) nb;exact⟨sl,by rw[same b (nT b o q)];exact z⟩
  ·by_cases nb:b=e
   ·subst nb;exact⟨_,by rw[same _ (nT _ o q)];exact en.exc⟩
   ·by_cases nt:b=T
    ·subst nt;obtain⟨sl,z⟩:=en.slot b _ T0 nb;exact⟨_,by rw[same b (nT b o q)];exact z⟩
    ·obtain⟨sl,z⟩:=en.slot b o ((off b nt).trans q) nb;exact⟨_,by rw[same b (nT b o q)];exact z⟩
  ·rw[same e (nT e _ he)];exact en.exc
  ·rw[NM];exact hc
  ·rw[Ax];exact hdd
  ·obtain⟨o1,tz,w1,w2,w3⟩:=way;exact⟨T1,o1,tz,by simp[hz],λz=>nT e _ he z.symm,di Wr nw,hk.fresh nw,w1,w2,w3⟩
  ·intro b ⟨Y1,Vc,g1,g2,g3⟩;rw[same e (nT e _ he),en.exc]at g1
   cases g1
   rw[d1]at g2
   cases g2
   have:Value.ref T1=Value.ref b:=by simpa[hz]using g3
   injection this with this;rw[<-this];exact nw
theorem yE(hA:A.frames=some (env::outer))(hF:s.heap.FunFrames base (env::outer))(hL:env.frame=some L)(hk:O5 P w H s.heap)(xs:XS H s.heap lo e C dd)
  (k:∀h',Mv (Q8 (env::outer)) s.heap h' e->XS H h' lo e C dd->Q () { s with heap:=h' }):wpAny M A (leaving env (.ref e)) Q E s:=by
 unfold leaving;exact i_ (wB hA hF hL hk xs λh' m x _=>k h' m x)
end
section
variable {fs:List Addr} {h h':Heap} {lo:Nat}
def XO.ok{H':Hp}(x:XO e C dd h):v_ P w H' h e (.ext (XO e C dd)):=by
 obtain⟨oe,q,r⟩:=x;exact⟨⟨oe,q,r⟩,⟨oe,q⟩,λh1 h2 ⟨o,z,r⟩ k=>⟨o,k o z,r⟩⟩
def XS.xo(xs:XS H h lo e C dd):XO e C dd h:=by
 obtain⟨oe,vs,q,c,d,z,_⟩:=xs.obj;exact⟨oe,q,c,d,by unfold PySem.W.notCls;rw[z]⟩
def XS.tb(xs:XS H h lo e C dd){b:Addr}(t:ko h e b):H b=none/\lo<=b/\b≠e/\∃oT ts,h.get? b=some oT/\oT.data=.fields ts:=by
 obtain⟨oe,vs,q,c,d,z,_,k⟩:=xs.obj;obtain⟨Y1,Vc,q',z',k'⟩:=t;rw[q]at q';cases q';rw[z]at z';cases z';rcases k with k|⟨T,oT,ts,k,ne,l,n,g,gd,_⟩
 ·rw[k]at k';cases k'
 ·rw[k]at k'
  cases k'
  exact⟨n,l,ne,oT,ts,g,gd⟩
def XS.Vh(xs:XS H h lo e C dd):∃ch:List Addr,∀b,b∈ch↔ko h e b:=by
 obtain⟨oe,vs,q,c,d,z,_,k⟩:=xs.obj;rcases k with k|⟨T,oT,ts,k,_⟩
 ·exact⟨[],λb=>⟨λz=>(nomatch z),λ⟨Y1,Vc,q',z',k'⟩=>by rw[q]at q';cases q';rw[z]at z';cases z';rw[k]at k';cases k'⟩⟩
 ·refine⟨[T],λb=>⟨λy=>?_,λ⟨Y1,Vc,q',z',k'⟩=>?_⟩⟩
  ·rw[List.mem_singleton.mp y];exact⟨oe,vs,q,z,k⟩
  ·rw[q]at q';cases q';rw[z]at z';cases z';rw[k]at k';cases k';exact List.mem_singleton.mpr rfl
def Mv.n_(m:Mv fs h h' e)(ok:O5 P w H h)(xs:XS H h lo e C dd)(xs':XS H h' lo e C dd)(hf:∀b∈fs,H b=none):O5 P w H h':=λa o q=>by
 by_cases ae:a=e
 ·subst ae;rw[xs.Sy]at q;cases q;exact xs'.xo.ok
 ·refine(ok a o q).QY (λb u hb z=>?_) (λ_ z=>z) λ_ _ z=>z
  have hbH:∃v,H b=some v:=by
   rcases hb with rfl|hb
   ·exact⟨o,q⟩
   ·exact⟨_,hb⟩
  obtain⟨v,hv⟩:=hbH;refine m.keep b u z (λy=>by rw[hf b y]at hv;cases hv) (λy=>?_) λy=>by rw[(xs.tb y).1]at hv;cases hv
  subst y;rcases hb with rfl|hb
  ·exact ae rfl
  ·rw[xs.Sy]at hb;cases hb
def Mv.un{ch:List Addr}(m:Mv fs h h' e)(xs:XS H h lo e C dd)(hc:∀b,b∈ch↔ko h e b):Un fs ch H H h h' where
 keep:=λb o q n hb hx=>m.keep b o q hb (λz=>by subst z;rw[xs.Sy]at n;cases n) λz=>hx ((hc b).mpr z)
 slot:=λb o q n hb hx=>m.slot b o q (λz=>by subst z;rw[xs.Sy]at n;cases n) λz=>hx ((hc b).mpr z)
 free:=λ_ _ _ n _=>n
 there:=λb o q _=>m.there b o q
 Qm:=λ_ _ z=>z
 Qb:=λ_ _ _ z=>z
 Qn:=λb ps z=>⟨#[],by rw[z];simp⟩
end
section
variable {X:Cx} {a_:K_} {Z:L2.St} {h':Heap} {lo:Nat}
def Inv.mv(I:Inv X a_ Z H s)(m:Mv (Q8 X.stack) s.heap h' e)(xs:XS H s.heap lo e C dd)(xs':XS H h' lo e C dd)(Wr:X.s₀.heap.objs.size<=lo)(hp:∀p∈X.pn++a_,¬ ko s.heap e p.1)(t':Nat):Inv X a_ Z H { s with heap:=h',toks:=t' }:=by
 obtain⟨ch,hc⟩:=xs.Vh;refine I.call (g':=s.gens) (d':=s.drawn) (t':=t') (m.un xs hc) (m.n_ I.n_ xs xs' I.QR) I.bare λb hb=>?_
 have tb:=(hc b).mp hb;obtain⟨n,l,ne,oT,ts,g,gd⟩:=xs.tb tb;refine⟨.inr (di Wr l),λz=>?_,λx c q z=>?_,λp VI z=>hp p VI (z▸tb)⟩
 ·subst z;obtain⟨m,⟨o,es,ep,ho,hd,_⟩,_⟩:=I.loc;rw[g]at ho;cases ho;rw[gd]at hd;cases hd
 ·subst z;obtain⟨v,o,ho,hd⟩:=I.cell x c q;rw[g]at ho;cases ho;rw[gd]at hd;cases hd
end
def PF(P:Program)(w:World):WR:=λouter H s E e s'=>∃a C dd H',e=.ref a/\s'.os=s.os/\AllBare s'.gens/\Un (Q8 outer) [] H H' s.heap s'.heap/\O5 P w H' s'.heap/\XS H' s'.heap s.heap.objs.size a C dd/\E (.ref C) dd H'
theorem FV{K:Fg}{mg:Pn}{N:List Str}{qual:Str}{scope:Scope}{f:Addr}{cd:Value}{E:XK}
  {a_:K_} {Z:L2.St} {H':Hp} {s':Shared} {a C:Addr} {dd:Option Addr} (I:Inv (mG (PF P w) P w K mg base N qual scope f cd A outer s H E) a_ Z H' s') (xs:XS H' s'.heap s.heap.objs.size a C dd) (hE:E (.ref C) dd H') :
  (mG (PF P w) P w K mg base N qual scope f cd A outer s H E).xe (.ref a) s':=by
 have hF:=I.stack;have hS:=I.QR;refine yE (base:=base) (L:=s.heap.objs.size) (P:=P) (w:=w) (s:=s') I.ok.frames hF rfl I.n_ xs λh1 m xs1=>?_
 have un:Un (Q8 outer) [] H H' s.heap s'.heap:=I.base;have lt:∀b o,s.heap.get? b=some o->b<s.heap.objs.size:=λb o q=>ay q
 have ne:∀b o,s.heap.get? b=some o->b≠a:=λb o q=>gu (bo (lt b o q) xs.yg)
 have nt:∀b o,s.heap.get? b=some o->¬ ko s'.heap a b:=λb o q z=>absurd (bo (lt b o q) (xs.tb z).2.1) (nu _)
 refine⟨a,C,dd,H',rfl,I.os,I.bare,⟨λb o q n hb hx=>?_,λb o q n hb hx=>?_,un.free,λb o q hx=>?_,un.Qm,un.Qb,un.Qn⟩,m.n_ I.n_ xs xs1 hS,xs1,hE⟩
 ·refine m.keep b o (un.keep b o q n hb hx) (λz=>?_) (ne b o q) (nt b o q);rcases List.mem_cons.mp (I.QX b z)with y|y
  ·exact absurd (lt b o q) (by rw[y];exact nu _)
  ·exact hb y
 ·obtain⟨sl,z⟩:=un.slot b o q n hb hx;obtain⟨sl',z'⟩:=m.slot b _ z (ne b o q) (nt b o q);exact⟨sl',z'⟩
 ·obtain⟨o',z⟩:=un.there b o q hx;exact m.there b o' z
end L4
namespace L4
open PySem PySem.Spec PyProof.Rows L2 L3 PySem.W
variable {C fI:Addr}{K:Frag}{s:Shared}{od:Option Obj}
def Jw{D:Addr}(c:XC K C D fI):∃cd,PySem.W.clsIn K C=some cd/\cd.mro=.ref C::.ref D::UQ/\cd.hasDict=true:=by
 obtain⟨nm,q,N,bs,sn,sub,ab,col,dd,k0,k1,k2,k3,k5,lk⟩:=c.obj;refine⟨_,by unfold PySem.W.clsIn;rw[lk],rfl,rfl⟩
section
variable {prog:Program} {w:World} {A:Around} {E:Of} {x:Addr} {ox:Obj}
theorem Gq{Q:Option Value->Shared->Prop}(X:K.In s.heap)(I:PySem.W.InstAt s.heap x ox C od)(hga:findIn K (.ref C) "__getattribute__"=some (some (.builtin "BaseException.__getattribute__")))(hgr:findIn K (.ref C) "__getattr__"=some none)(hb:mroIn K C (.type "BaseException")=some true)
  (hf:findObj K C od "__class__"=some (.bind (.builtin "getset_descriptor.__get__") (.builtin "object.__class__"))) (hm:mroIn K C (.type "object")=some true) (h:Q (some (.ref C)) { s with toks:=s.toks+1 }):wpAny (model prog w) A (getAttr? (.ref x) "__class__") Q E s:=by
 obtain⟨hp,g,d,t,os⟩:=s;have L0:=I.type (M:=model prog w);have L1:=looks_findIn (M:=model prog w) X hga;have L2:=looks_findIn (M:=model prog w) X hgr;have L3:=looks_find (M:=model prog w) X I hf;have L4:=looks_mroIn (M:=model prog w) X hb;have bnd:=F.attr_ValueError.ga.bind (.ref x);have ok:=F.args_bexc_ga (.ref x) (.str "__class__" t);have kd:builtinKind "BaseException.__getattribute__"=some .slot:=by decide +kernel
 have sp:splitId "BaseException.__getattribute__"=some ("BaseException","__getattribute__"):=by decide +kernel
 unfold getAttr? getAttrBy?;refine i_ (wpAny_mkText (i_ (M4 ?_)));unfold getAttrBy;refine um (i_ (L0.at (i_ (L1.at ?_))));show wpAny _ _ (getAttrByItsOwn _ _ _ _ _ _) _ _ _;unfold getAttrByItsOwn
 repeat (any_goals (first|assumption|with_reducible refine L0.at ?_|with_reducible refine L2.at ?_|wp_step))
 refine codeAny_call_builtin F.attr_ValueError.ga.plain F.entry_bexc_ga ?_;simp only[checkBuiltinCall,kd,sp];refine i_ ?_;unfold isInstance;refine i_ (L0.at (L4.at ?_))
 repeat (any_goals (first|assumption|with_reducible refine L0.at ?_|with_reducible refine L3.at ?_|wp_step))
 refine class_get (s:=⟨hp,g,d,t+1,os⟩) (ox:=ox) (od:=od) X I hm ?_;exact s_ (handed_on rfl (s_ h))
def DM{D:Addr}(c:XC K C D fI)(hb:mroIn K C (.type "BaseException")=some true)
  (hf:findObj K C od "__class__"=some (.bind (.builtin "getset_descriptor.__get__") (.builtin "object.__class__"))) (hm:mroIn K C (.type "object")=some true) :
  KitX K (.ref x) (.ref C) (λh=>PySem.W.InstAt h x ox C od) where
 ty:=λ_ _ _ I=>I.type
 it:=λ_ _ X _=>by
  obtain⟨nm,q,N,bs,sn,sub,ab,col,dd,k0,k1,k2,k3,k5,ho⟩:=c.obj;intro A' Q' E' s' k q;unfold isType loadHead;exact i_ (wpAny_loadPart (k _ _ (X _ _ ho)) (s_ q))
 ne:=λh tp dd k_ n sl X htp=>by
  obtain⟨nm,q,N,bs,sn,sub,ab,col,Ug,k0,k1,k2,k3,k5,ho⟩:=c.obj;refine Bool.eq_false_iff.mpr λq=>?_
  have e:C=tp:=Value.ref.inj (beq_iff_eq.mp q);subst e;have z:=(X _ _ ho).symm.trans htp;injection z with z;injection z with z1 z2 z3
  cases z3
 ca:=λX I k=>Gq X I c.ga c.gr hb hf hm k
end
def XAt(H:Hp)(a C:Addr)(dd:Option Addr):Prop:=H a=some (.ext (XO a C dd))/\∀dx,dd=some dx->∃fv,H dx=some (.ext (XD dx fv))
def Aj{X:Cx}{a_:K_}{Z:L2.St}{H:Hp}{a:Addr}{dd:Option Addr}(I:Inv X a_ Z H s)(h:XAt H a C dd):∃ox od,PySem.W.InstAt s.heap a ox C od:=by
 obtain⟨h1,h2⟩:=h;obtain⟨⟨oe,q1,q2,q3,q4⟩,_⟩:=I.n_ a _ h1
 cases dd with
 | none=>exact⟨oe,none,q1,q2,q4,by rw[q3];trivial⟩
 | some dx =>
  obtain⟨fv,h2⟩:=h2 dx rfl;obtain⟨⟨mA,na,wi,r⟩,_⟩:=I.n_ dx _ h2;obtain⟨od,z1,hlk⟩:=Bt na;exact⟨oe,some od,q1,q2,q4,by rw[q3];exact z1⟩
def rZ{name:Str}{a g:Value}(hc:(clsIn K C).isSome=true)(ha:findIn K (.ref C) name=some (some a))(hg:specialIn K a "__get__"=some (some g))(ht:takesIn K a=some true):findObj K C od name=some (.bind g a):=by
 obtain⟨cd,hc⟩:=Option.isSome_iff_exists.mp hc;unfold findObj;rw[hc,NS,ha,NS];simp[hg,ht]
section
variable {X:Cx} {a_:K_} {Z:L2.St} {H:Hp} {a D:Addr} {dd:Option Addr} {Q:Of} {E:Of} {b:Bool}
def qH(c:XC X.K C D fI)(kc:KC X.K C){ox:Obj}:KitX X.K (.ref a) (.ref C) (λh=>PySem.W.InstAt h a ox C od):=by
 obtain⟨cd,k1,k2,k3⟩:=Jw c;refine DM c (by unfold PySem.W.mroIn;rw[k1,NS,k2];rfl) (rZ (by rw[k1];rfl) kc.ha kc.hn kc.htk) (by unfold PySem.W.mroIn;rw[k1,NS,k2];rfl)
theorem yL(I:Inv X a_ Z H s)(c:XC X.K C D fI)(kc:KC X.K C)(h:XAt H a C dd){cv:Value}(e:kitOne X.K (.ref C) cv=some b)(q:∀tk,Q (.bool b) { s with toks:=tk }) :
  wpAny (model X.prog X.w) X.A (call (.builtin "isinstance") [.ref a,cv]) Q E s:=by
 obtain⟨ox,od,It⟩:=Aj I h;exact kia_one (qH c kc) I.Sa It e (λz=>nomatch z) q
theorem wV(I:Inv X a_ Z H s)(c:XC X.K C D fI)(kc:KC X.K C)(h:XAt H a C dd){tp:Addr}{d:Option Addr}{k_:List Value}{n:Nat}{sl:Array (Option Value)}(ht:s.heap.get? tp=some ⟨.type "tuple",d,.seq k_.toArray n,sl⟩)
  (e:kitAny X.K (.ref C) k_=some b) (q:∀tk,Q (.bool b) { s with toks:=tk }):wpAny (model X.prog X.w) X.A (call (.builtin "isinstance") [.ref a,.ref tp]) Q E s:=by
 obtain⟨ox,od,It⟩:=Aj I h;exact kia_tup (qH c kc) I.Sa It ht e (λz=>nomatch z) q
end
end L4
namespace L4
open PySem PySem.Spec PyProof.Rows L2 L3
variable {F H F' H':Hp}{K:Fg}{X:Cx}{Z:L2.St}{ρ:En}{G:Gh}{i n j kk:Nat}{S α:Type}{vs:List V}{x y:Str}{e tg b:Expr}{a f C:Addr}{v:V}{r:R2}{es:List Expr}{pos p pos':Pos}{c:OC}{Q:VK}{ex dd:Option Addr}{op:CmpOp}{R:It->Hp->Prop}{st:Stmt}{fd:FuncData}{ps:List Str}{E:XK}{id T:String}{kvs:List (List Key×V)}{s:Shared}{o:HO}{P:Program}{w:World}{mg:Pn}{base:Heap}{A:Around}
structure Ex where
 cls:Str
 fs:List (Str×D)
inductive M(S:Type) where
 | ret (s:S)
 | exc (x:Ex)
 | bad
def M.on{S T:Type}(m:M S)(x:Ex->M T)(k:S->M T):M T:=match m with
 | .ret s=>k s
 | .exc e=>x e
 | .bad=>.bad
def bd{S T:Type}(m:M S)(k:S->M T):M T:=m.on .exc k
def oM{S:Type}(o:Option S):M S:=match o with
 | some s=>.ret s
 | none=>.bad
section
variable {T U:Type}
@[simp] theorem IC(s:S)(x:Ex->M T)(k:S->M T):(M.ret s).on x k=k s:=rfl
@[simp] theorem jY(s:S)(k:S->M T):bd (.ret s) k=k s:=rfl
end
abbrev Pu(α:Type):=En->M α
def XR(K:Fg)(F:Hp)(C:Addr)(dd:Option Addr)(x:Ex):Prop:=XQ K C x.cls /\
 ∃fv,FX F dd fv/\Paired (λ(p:Str×V) (q:Str×D)=>p.1=q.1/\Rep K F p.2 q.2) fv x.fs
def mC(x:Ex):D:=.dict ((.none,.str x.cls)::x.fs.map λp=>(.str p.1,p.2))
def qt:∀{fv:List (Str×V)} {fs:List (Str×D)},Paired (λ(p:Str×V) (q:Str×D)=>p.1=q.1/\Rep K F p.2 q.2) fv fs->(fs.map λp=>((PyData.str p.1,p.2):D×D)).map (·.1)=fv.map (λp=>.str p.1)/\h_ K F (fv.map (·.2)) ((fs.map λp=>((PyData.str p.1,p.2):D×D)).map (·.2))
:=by
 intro fv fs h
 induction h with
 | nil=>exact⟨rfl,.nil⟩
 | cons h _ ih=>exact⟨by simp only[aw,ih.1,h.1],by simp only[aw];exact .cons h.2 ih.2⟩
def XR.rep{x:Ex}(h:XR K F C dd x)(e:F a=some (.ext (XO a C dd))):Rep K F (.ref a) (mC x):=by
 obtain⟨q,fv,fx,p⟩:=h;exact .exc e q fx (qt p).1 (qt p).2
def XR.mono{x:Ex}(s:f_ F F')(h:XR K F C dd x):XR K F' C dd x:=by
 obtain⟨q,fv,fx,p⟩:=h;refine⟨q,fv,fx.mono s,?_⟩;clear fx q;revert p;generalize x.fs=fs;intro p
 induction p with
 | nil=>exact .nil
 | cons h t ih=>exact .cons ⟨h.1,h.2.mono s⟩ ih
structure X4(K:Fg)(F:Hp)(Z:L2.St)(ρ:En):Prop where
 ln:Z.length=ρ.length
 fz:∀(i:Nat) (d:D),ρ[i]? = some (some (AV.fz d))->∃v,Z[i]? = some (some v)/\Rep K F v d
def _root_.L3.c_.XI(S:c_ K G F Z H ρ)(s:f_ F F'):X4 K F' Z ρ:=⟨S.ln,λi d q=>by
 obtain⟨v,e,r⟩:=S.fz i d q
 exact⟨v,e,r.mono s⟩⟩
structure GOk(G:Gh)(F H:Hp):Prop where
 fh:f_ F H
 oh:f_ G.O H
 fo:∀b o,G.O b=some o->F b=none/\Cd o
 fb:f_ G.B F
def XW(X:Cx)(G:Gh)(F:Hp)(ρ:En)(x:Ex):Prop:=∀F' H' s' a C dd a_ Z,GOk G F' H'->X4 X.K F' Z ρ->Inv X a_ Z H' s'->XS H' s'.heap X.s₀.heap.objs.size a C dd->(∀p∈X.pn++a_,¬ ko s'.heap a p.1)->XR X.K F' C dd x->X.xe (.ref a) s'
def XW.mono{x:Ex}(s:f_ F F')(h:XW X G F ρ x):XW X G F' ρ x:=h
def W(X:Cx)(G:Gh)(F:Hp)(Z:L2.St)(ρ:En){α:Type}(m:M α)(C:α->Hp->Hp->Prop):Prop:=match m with
 | .ret a=>∀F' H',f_ F F'->c_ X.K G F' Z H' ρ->C a F' H'
 | .exc x=>XW X G F ρ x
 | .bad=>False
section
variable {β:Type} {m:M α} {k:α->M β} {C C':α->Hp->Hp->Prop}
def W.up{C:β->Hp->Hp->Prop}{m:M β}(s:f_ F F')(h:W X G F Z ρ m C):W X G F' Z ρ m C:=by
 cases m with
 | ret a=>exact λF2 H2 s2 S2=>h F2 H2 (s.trans s2) S2
 | exc x=>exact XW.mono (X:=X) (G:=G) (ρ:=ρ) (x:=x) s h
 | bad=>exact h
def W.bind{C:β->Hp->Hp->Prop}(h:W X G F Z ρ (bd m k) C):W X G F Z ρ m λa F' H'=>W X G F' Z ρ (k a) C:=by
 cases m with
 | ret a=>exact λF2 H2 s2 S2=>W.up s2 h
 | exc x=>exact h
 | bad=>exact h
def W.imp(h:W X G F Z ρ m C)(w:∀a F' H',f_ F F'->c_ X.K G F' Z H' ρ->C a F' H'->C' a F' H'):W X G F Z ρ m C':=by
 cases m with
 | ret a=>exact λF2 H2 s2 S2=>w a F2 H2 s2 S2 (h F2 H2 s2 S2)
 | exc x=>exact h
 | bad=>exact h
def W.opt{o:Option α}(h:W X G F Z ρ (oM o) C):∃a,o=some a/\∀F' H',f_ F F'->c_ X.K G F' Z H' ρ->C a F' H':=by
 cases o with
 | none=>exact h.elim
 | some a=>exact⟨a,rfl,h⟩
end
@[irreducible] def fR(X:Cx)(e:Expr):TE:=λZ H Q=>∀(a_:K_) (s:Shared),Inv X a_ Z H s->wpAny (model X.prog X.w) X.A (eval e X.env) (EP X a_ Z Q) X.xe s
@[irreducible] def sB(X:Cx)(e:Expr):TT:=λZ H Q=>∀(a_:K_) (s:Shared),Inv X a_ Z H s->wpAny (model X.prog X.w) X.A (isTrue e X.env (eval e X.env)) (TP X a_ Z Q) X.xe s
@[irreducible] def sA(X:Cx)(e:Expr):TT:=λZ H Q=>∀(whole:Sem Value) (a_:K_) (s:Shared),Inv X a_ Z H s->wpAny (model X.prog X.w) X.A (isTrue e X.env whole) (TP X a_ Z Q) X.xe s
@[irreducible] def gc(X:Cx)(es:List Expr):TA:=λZ H Q=>∀(pos:Pos) (a_:K_) (s:Shared),Inv X a_ Z H s->wpAny (model X.prog X.w) X.A (spliced (backTo pos (starEach es X.env))) (AP X a_ Z Q) X.xe s
section
theorem aN:PE X e (fR X e):=λa_ s Z H Q I h=>by unfold fR at h;exact h a_ s I
theorem eM:PT X e (sB X e):=λa_ s Z H Q I h=>by unfold sB at h;exact h a_ s I
theorem qj:PW X e (sA X e):=λwh a_ s Z H Q I h=>by unfold sA at h;exact h wh a_ s I
theorem cC:PA X es (gc X es):=λpos a_ s Z H Q I h=>by unfold gc at h;exact h pos a_ s I
theorem Po{t:TE}(h:PE X e t)(q:t Z H Q):fR X e Z H Q:=by unfold fR;exact λa_ s I=>h a_ s Z H Q I q
theorem yh{t:TT}{Q:Bool->Hp->Prop}(h:PT X e t)(q:t Z H Q):sB X e Z H Q:=by unfold sB;exact λa_ s I=>h a_ s Z H Q I q
theorem Bd{t:TT}{Q:Bool->Hp->Prop}(h:PW X e t)(q:t Z H Q):sA X e Z H Q:=by unfold sA;exact λwh a_ s I=>h wh a_ s Z H Q I q
theorem yj{t:TA}{Q:List V->Hp->Prop}(h:PA X es t)(q:t Z H Q):gc X es Z H Q:=by unfold gc;exact λpos a_ s I=>h pos a_ s Z H Q I q
end
def gW(ρ:En)(i:Nat):Option (List D):=match ρ[i]? with
 | some (some (.ol (.l ds)))=>some ds
 | some (some (.op (.l ds)))=>some ds
 | _=>none
def lJ{ds:List D}(h:gW ρ i=some ds):own ρ i (.l ds):=by
 unfold gW at h;split at h
 ·rename_i q;cases h;exact .inl q
 ·rename_i q;cases h;exact .inr q
 ·cases h
def VO(K:Fg)(F:Hp)(Z:L2.St)(ρ:En)(v:V)(d:D):Prop:=Rep K F v d\/∃i c,own ρ i c/\Z[i]? = some (some v)/\d=c.d/\c.Ya=false
inductive Yt(K:Fg)(F:Hp)(Z:L2.St)(ρ:En):List V->List D->Prop
 | nil:Yt K F Z ρ [] []
 | cons {v d vs ds}:VO K F Z ρ v d->Yt K F Z ρ vs ds->Yt K F Z ρ (v::vs) (d::ds)
theorem VO.mono{d:D}(s:f_ F F')(h:VO K F Z ρ v d):VO K F' Z ρ v d:=h.imp (Rep.mono s) id
def OR(K:Fg)(F H:Hp)(v:V)(d:D):Prop:=Rep K F v d\/∃a c,v=.ref a/\d=c.d/\OH K F H a c/\c.Ya=false
inductive Ui(K:Fg)(F H:Hp):List V->List D->Prop
 | nil:Ui K F H [] []
 | cons {v d vs ds}:OR K F H v d->Ui K F H vs ds->Ui K F H (v::vs) (d::ds)
def VO.or{d:D}(S:c_ K G F Z H ρ)(h:VO K F Z ρ v d):OR K F H v d:=by
 rcases h with h|⟨i,c,ho,hv,rfl,hI⟩
 ·exact .inl h
 ·obtain⟨a,e1,oa⟩:=S.ow i _ ho;rw[hv]at e1;injection e1 with e1;injection e1 with e1;exact .inr ⟨a,c,e1,rfl,oa.he,hI⟩
def Yt.ors(S:c_ K G F Z H ρ):∀{vs ds},Yt K F Z ρ vs ds->Ui K F H vs ds
 | _,_,.nil=>.nil
 | _,_,.cons h t=>.cons (h.or S) (t.ors S)
section
variable {ds:List D}
def Lo:D->Bool
 | .dict _=>true
 | _=>false
def i4{d:D}(h:d.canLay0=true):Lo d=false:=by
 cases d with
 | dict es=>simp[PyData.canLay0]at h
 | _=>rfl
def Ss(K:Fg)(H:Hp)(v:V)(d:D):Prop:=Rep K H v d\/∃a kvs es,v=.ref a/\d=.dict es/\Rd H a (.dT kvs)/\es.map (·.1)=kvs.map (λp=>cE p.1)
def Ss.of{d:D}(h:Ss K H v d)(hd:Lo d=false):Rep K H v d:=by
 rcases h with h|⟨a,kvs,es,e,rfl,_⟩
 ·exact h
 ·cases hd
def OR.rep{d:D}(s:f_ F H)(h:OR K F H v d):Ss K H v d:=by
 rcases h with h|⟨a,c,rfl,rfl,h1,hI⟩
 ·exact .inl (h.mono s)
 ·cases hT:c.VF with
  | false=>obtain⟨o,e,r⟩:=Am hI hT h1;exact .inl (r H s e)
  | true=>cases c with
   | t es=>obtain⟨kvs,q1,q2,_⟩:=h1;exact .inr ⟨a,kvs,es,rfl,rfl,.inl q1,q2⟩
   | _=>cases hT
def OR.list(s:f_ F H)(h:OR K F H v (.list ds)):∃a vs,v=.ref a/\Ot K H a vs/\h_ K F vs ds:=by
 rcases h with h|⟨a,c,e,e2,h1,hI⟩
 ·obtain⟨a,vs,e,h1,h2⟩:=h.lst_inv;exact⟨a,vs,e,s.seq h1,h2⟩
 ·cases c<;>cases e2
  obtain⟨vs,h1,h2⟩:=h1;exact⟨a,vs,e,.inl (.inl h1),h2⟩
def OR.tuple(s:f_ F H)(h:OR K F H v (.tuple ds)):∃a vs,v=.ref a/\N_ K H a vs/\h_ K F vs ds:=by
 rcases h with h|⟨a,c,e,e2,h1,hI⟩
 ·obtain⟨a,vs,e,h1,h2⟩:=h.OZ;exact⟨a,vs,e,N_.of (s _ _ h1),h2⟩
 ·cases c<;>cases e2
def OR.Vd(h:OR K F H v (.tuple ds)):Rep K F v (.tuple ds):=by
 rcases h with h|⟨a,c,e,e2,h1,hI⟩
 ·exact h
 ·cases c<;>cases e2
def OR.int{i:Int}(h:OR K F H v (.int i)):v=.int i:=by
 rcases h with h|⟨a,c,e,e2,h1,hI⟩
 ·exact h.inv
 ·cases c<;>cases e2
def OR.bool{i:Bool}(h:OR K F H v (.bool i)):v=.bl i:=by
 rcases h with h|⟨a,c,e,e2,h1,hI⟩
 ·exact h.inv
 ·cases c<;>cases e2
def OR.str{i:Str}(h:OR K F H v (.str i)):v=.str i:=by
 rcases h with h|⟨a,c,e,e2,h1,hI⟩
 ·exact h.inv
 ·cases c<;>cases e2
def OR.none(h:OR K F H v .none):v=.OU:=by
 rcases h with h|⟨a,c,e,e2,h1,hI⟩
 ·exact h.inv
 ·cases c with
  | i _ _ _=>cases hI
  | n _=>cases hI
  | _=>cases e2
def bD{d:D}{ds:List D}(h:Ui K F H vs (d::ds)):∃v r,vs=v::r/\OR K F H v d/\Ui K F H r ds:=by
 cases h with|cons a b=>exact⟨_,_,rfl,a,b⟩
def bT(h:Ui K F H vs []):vs=[]:=by cases h;rfl
end
def AP(X:Cx)(e:Expr)(p:Pu D):Prop :=
 ∀(G:Gh) (F:Hp) (Z:L2.St) (H:Hp) (ρ:En) (Q:VK),c_ X.K G F Z H ρ->W X G F Z ρ (p ρ) (λd F' H'=>∀v,Rep X.K F' v d->Q v H')->fR X e Z H Q
def AO(X:Cx)(e:Expr)(p:Pu D):Prop :=
 ∀(G:Gh) (F:Hp) (Z:L2.St) (H:Hp) (ρ:En) (Q:VK),c_ X.K G F Z H ρ->W X G F Z ρ (p ρ) (λd F' H'=>∀v,VO X.K F' Z ρ v d->Q v H')->fR X e Z H Q
def AT(X:Cx)(e:Expr)(p:Pu Bool):Prop :=
 ∀(G:Gh) (F:Hp) (Z:L2.St) (H:Hp) (ρ:En) (Q:Bool->Hp->Prop),c_ X.K G F Z H ρ->W X G F Z ρ (p ρ) (λd F' H'=>Q d H')->sB X e Z H Q
def AW(X:Cx)(e:Expr)(p:Pu Bool):Prop :=
 ∀(G:Gh) (F:Hp) (Z:L2.St) (H:Hp) (ρ:En) (Q:Bool->Hp->Prop),c_ X.K G F Z H ρ->W X G F Z ρ (p ρ) (λd F' H'=>Q d H')->sA X e Z H Q
def AB(X:Cx)(e:Expr)(p:Pu Bool):Prop :=
 ∀(G:Gh) (F:Hp) (Z:L2.St) (H:Hp) (ρ:En) (Q:VK),c_ X.K G F Z H ρ->W X G F Z ρ (p ρ) (λd F' H'=>Q (.bl d) H')->fR X e Z H Q
def AA{α:Type}(X:Cx)(es:List Expr)(m:(List D->M α)->En->M α):Prop :=
 ∀(G:Gh) (F:Hp) (Z:L2.St) (H:Hp) (ρ:En) (Q:List V->Hp->Prop) (k:List D->M α) (C:α->Hp->Hp->Prop),c_ X.K G F Z H ρ->W X G F Z ρ (m k ρ) C ->
  (∀ds vs F' H',f_ F F'->c_ X.K G F' Z H' ρ->vs.length=es.length->h_ X.K F' vs ds->W X G F' Z ρ (k ds) C->Q vs H')->gc X es Z H Q
def Wg{α:Type}(X:Cx)(es:List Expr)(m:(List D->M α)->En->M α):Prop :=
 ∀(G:Gh) (F:Hp) (Z:L2.St) (H:Hp) (ρ:En) (Q:List V->Hp->Prop) (k:List D->M α) (C:α->Hp->Hp->Prop),c_ X.K G F Z H ρ->W X G F Z ρ (m k ρ) C ->
  (∀ds vs F' H',f_ F F'->c_ X.K G F' Z H' ρ->Yt X.K F' Z ρ vs ds->W X G F' Z ρ (k ds) C->Q vs H')->gc X es Z H Q
def Frs(K:Fg)(G:Gh)(F:Hp)(Z:L2.St)(H:Hp)(ρ:En)(v:V)(c:OC):Prop:=∃a,v=.ref a/\TC K G F H a c/\∀(i:Nat) (e:OC),own ρ i e->Z[i]? ≠ some (some (V.ref a))
def AL(X:Cx)(e:Expr)(p:Pu (List D)):Prop :=
 ∀(G:Gh) (F:Hp) (Z:L2.St) (H:Hp) (ρ:En) (Q:VK),c_ X.K G F Z H ρ->W X G F Z ρ (p ρ) (λds F' H'=>∀v,Frs X.K G F' Z H' ρ v (.l ds)->Q v H')->fR X e Z H Q
def Iq(i:Nat):Pu D:=λρ=>match ρ[i]? with
 | some (some (.fz d))=>.ret d
 | _=>.bad
def Jq(c:OC):M D:=match c with
 | .i _ _ _=>.bad
 | .n _=>.bad
 | c=>.ret c.d
def Hh(i:Nat):Pu D:=λρ=>match ρ[i]? with
 | some (some (.ol c))=>Jq c
 | some (some (.op c))=>Jq c
 | _=>.bad
def Bm(d:D):Pu D:=λ_=>.ret d
def K8(f:D->D->Option D)(a b:Pu D):Pu D:=λρ=>bd (a ρ) λx=>bd (b ρ) λy=>oM (f x y)
def Hk(f:D->D->Option Bool)(a b:Pu D):Pu Bool:=λρ=>bd (a ρ) λx=>bd (b ρ) λy=>oM (f x y)
def pUn(f:D->Option D)(a:Pu D):Pu D:=λρ=>bd (a ρ) λx=>oM (f x)
abbrev Pa(α:Type):=(List D->M α)->En->M α
def K5{α:Type}:Pa α:=λk _=>k []
def Hi{α:Type}(a:Pu D)(r:Pa α):Pa α:=λk ρ=>bd (a ρ) λx=>r (λxs=>k (x::xs)) ρ
def cA{S:Type}(ds:List S):M (List S):=if ds.length<=sizeLine then .ret ds else .bad
def Mo(ps:Pa D):Pu D:=λρ=>ps (λds=>.ret (.tuple ds)) ρ
def Mq(ps:Pa (List D)):Pu (List D):=λρ=>ps (λds=>.ret ds) ρ
def kZ(h:n<=1000):n<=sizeLine:=di h (by decide)
def Hj(f:List D->Option D)(ps:Pa D):Pu D:=λρ=>ps (λds=>oM (f ds)) ρ
def Iv(f:List D->Option Bool)(ps:Pa Bool):Pu Bool:=λρ=>ps (λds=>oM (f ds)) ρ
def kU(f:List D->Option (List D))(ps:Pa (List D)):Pu (List D):=λρ=>ps (λds=>oM (f ds)) ρ
def pB(p:Pu Bool):Pu D:=λρ=>bd (p ρ) λb=>.ret (.bool b)
def pZ(p:Pu (List D)):Pu D:=λρ=>bd (p ρ) λds=>.ret (.list ds)
def X2(d:D):M Bool:=match d with
 | .bool b=>.ret b
 | _=>.bad
def Mx(p:Pu D):Pu Bool:=λρ=>bd (p ρ) X2
def ki:D->Option Bool
 | .none=>some false
 | .bool b=>some b
 | .int i=>some (i != 0)
 | .str x=>if x.length<=sizeLine then some ((x.length:Int) != 0)else none
 | .list ds=>some (!ds.isEmpty)
 | .tuple ds=>some (!ds.isEmpty)
 | .dict _=>none
def K2(p:Pu D):Pu Bool:=λρ=>bd (p ρ) λd=>oM (ki d)
def K9(a b:Pu Bool):Pu Bool:=λρ=>bd (a ρ) λt=>if t then b ρ else .ret false
def pOr(a b:Pu Bool):Pu Bool:=λρ=>bd (a ρ) λt=>if t then .ret true else b ρ
def K4(a:Pu Bool):Pu Bool:=λρ=>bd (a ρ) λt=>.ret (!t)
def pIf{α:Type}(c:Pu Bool)(a b:Pu α):Pu α:=λρ=>bd (c ρ) λt=>if t then a ρ else b ρ
def T9(K:Fg)(r:R2)(f:D->D->Option D):Prop :=
 ∀(G:Gh) (F:Hp) (Z:L2.St) (H:Hp) (ρ:En) (x y:V) (dx dy:D) (res:D) (Q:VK),c_ K G F Z H ρ->OR K F H x dx->OR K F H y dy->f dx dy=some res ->
  (∀v F' H',f_ F F'->c_ K G F' Z H' ρ->Rep K F' v res->Q v H')->r x y H Q
def Uh(K:Fg)(r:R2)(f:D->D->Option Bool):Prop :=
 ∀(G:Gh) (F:Hp) (Z:L2.St) (H:Hp) (ρ:En) (x y:V) (dx dy:D) (res:Bool) (Q:VK),c_ K G F Z H ρ->OR K F H x dx->OR K F H y dy->f dx dy=some res->Q (.bl res) H->r x y H Q
def UnD(K:Fg)(r:V->Hp->VK->Prop)(f:D->Option D):Prop :=
 ∀(G:Gh) (F:Hp) (Z:L2.St) (H:Hp) (ρ:En) (x:V) (dx:D) (res:D) (Q:VK),c_ K G F Z H ρ->OR K F H x dx->f dx=some res ->
  (∀v F' H',f_ F F'->c_ K G F' Z H' ρ->Rep K F' v res->Q v H')->r x H Q
def gC(K:Fg)(r:List V->Hp->VK->Prop)(f:List D->Option D):Prop :=
 ∀(G:Gh) (F:Hp) (Z:L2.St) (H:Hp) (ρ:En) (xs:List V) (ds:List D) (res:D) (Q:VK),c_ K G F Z H ρ->Ui K F H xs ds->f ds=some res ->
  (∀v F' H',f_ F F'->c_ K G F' Z H' ρ->Rep K F' v res->Q v H')->r xs H Q
def vE(K:Fg)(r:List V->Hp->VK->Prop)(f:List D->Option Bool):Prop :=
 ∀(G:Gh) (F:Hp) (Z:L2.St) (H:Hp) (ρ:En) (xs:List V) (ds:List D) (res:Bool) (Q:VK),c_ K G F Z H ρ->Ui K F H xs ds->f ds=some res->Q (.bl res) H->r xs H Q
def AZ(K:Fg)(r:List V->Hp->VK->Prop)(f:List D->Option (List D)):Prop :=
 ∀(G:Gh) (F:Hp) (Z:L2.St) (H:Hp) (ρ:En) (xs:List V) (ds:List D) (res:List D) (Q:VK),c_ K G F Z H ρ->Ui K F H xs ds->f ds=some res ->
  (∀v F' H',f_ F F'->c_ K G F' Z H' ρ->Frs K G F' Z H' ρ v (.l res)->Q v H')->r xs H Q
def isStar:Expr->Bool
 | .Starred _ _=>true
 | _=>false
def fS{env:Env}:∀{e:Expr} {es:List Expr},isStar e=false->starEach (e::es) env=(false,eval e env)::starEach es env:=by
 intro e es h
 cases e<;>first|rfl|cases h
def FS(o:Option NameKind):Bool:=match o with
 | some .local=>true
 | some .cell=>true
 | _=>false
theorem lo{sc:Scope}(h:FS (sc.names.lookup x)=true):L2.Loc sc x:=by
 unfold L2.Loc;generalize sc.names.lookup x=o at *;unfold FS at h;split at h
 ·exact .inl rfl
 ·exact .inr rfl
 ·cases h
def J6(o:Option NameKind):Bool:=match o with
 | some .free=>true
 | o=>FS o
theorem vi{sc:Scope}(h:J6 (sc.names.lookup x)=true):L2.RY sc x:=by
 unfold L2.RY;generalize sc.names.lookup x=o at *;unfold J6 FS at h;split at h
 ·exact .inr (.inr rfl)
 ·split at h
  ·exact .inl rfl
  ·exact .inr (.inl rfl)
  ·cases h
section
variable {a c:Expr} {rest:List Expr} {p pa pb:Pu D} {ta tb tc:Pu Bool} {ps:Pa D} {pb':Pa Bool} {pl:Pa (List D)} {pα:Pa α} {qs:Pu (List D)}
theorem JJ(hN:X.N[i]? = some x)(hv:RY X.env.scope x)(hd:(x==("__debug__" : Str))=false:=by decide)(O2:(x==("__classdict__" : Str))=false:=by decide):AP X (.Name x pos) (Iq i) :=
 λG F Z H ρ Q S w=>Po (cO hN hv hd O2)<|by
  unfold Iq at w;split at w
  ·rename_i d q;obtain⟨v,e1,r1⟩:=S.fz i d q;exact⟨v,e1,w F H (f_.refl _) S v r1⟩
  ·exact w.elim
theorem bm(hN:X.N[i]? = some x:=by rfl)(hv:RY X.env.scope x:=by exact vi rfl)(hd:(x==("__debug__" : Str))=false:=by decide)(O2:(x==("__classdict__" : Str))=false:=by decide):AO X (.Name x pos) (Hh i) :=
 λG F Z H ρ Q S w=>Po (cO hN hv hd O2)<|by
  have go:∀c:OC,own ρ i c->W X G F Z ρ (Jq c) (λd F' H'=>∀v,VO X.K F' Z ρ v d->Q v H')->kj i Z H Q:=λc ho w=>by
   obtain⟨a,e1,oa⟩:=S.ow i _ ho
   cases c with
   | i _ _ _=>exact w.elim
   | n _=>exact w.elim
   | _=>exact⟨_,e1,w F H (f_.refl _) S _ (.inr ⟨i,_,ho,e1,rfl,rfl⟩)⟩
  unfold Hh at w;split at w
  ·rename_i ds q;exact go ds (.inl q) w
  ·rename_i ds q;exact go ds (.inr q) w
  ·exact w.elim
def ao(h:AP X e p):AO X e p:=λG F Z H ρ Q S w=>h G F Z H ρ Q S (w.imp λd F' H' _ _ q v r=>q v (.inl r))
def vn{d:D}(h:PE X e (tC v))(r:∀F,Rep X.K F v d):AP X e (Bm d) :=
 λG F Z H ρ Q S w=>Po h (w F H (f_.refl _) S v (r F))
def ag{i j}:AP X (.Constant (.int i) j pos) (Bm (.int i)):=vn Dj λ_=>.int _
def eI{i j}:AP X (.Constant (.bool i) j pos) (Bm (.bool i)):=vn KZ λ_=>.bl _
def br{i j}:AP X (.Constant (.str i) j pos) (Bm (.str i)):=vn Ij λ_=>.str _
def JK{j}:AP X (.Constant .none j pos) (Bm .none):=vn Il λ_=>.OU
def va{f:D->D->M α}{C:α->Hp->Hp->Prop}(ha:AO X a pa)(hb:AO X b pb)(S:c_ X.K G F Z H ρ)(w:W X G F Z ρ (bd (pa ρ) λx=>bd (pb ρ) λy=>f x y) C)
  (k:∀x y dx dy F' H',f_ F F'->c_ X.K G F' Z H' ρ->OR X.K F' H' x dx->OR X.K F' H' y dy->W X G F' Z ρ (f dx dy) C->r x y H' Q):Wj r (fR X a) (fR X b) Z H Q :=
 ha G F Z H ρ _ S (w.bind.imp λdx F1 H1 s1 S1 w1 x hx=>hb G F1 Z H1 ρ _ S1 (w1.bind.imp λdy F2 H2 s2 S2 w2 y hy=>k x y dx dy F2 H2 (s1.trans s2) S2 ((hx.mono s2).or S2) (hy.or S2) w2))
def aP{op:Operator}{f:D->D->Option D}(ho:OA X (binaryOp op) r)(hf:T9 X.K r f)(ha:AO X a pa)(hb:AO X b pb):AP X (.BinOp a op b pos) (K8 f pa pb) :=
 λG F Z H ρ Q S w=>Po (Dh ho aN aN) (va ha hb S w λx y dx dy F' H' s' S' hx hy w'=>by
  obtain⟨res,e,k⟩:=w'.opt
  exact hf G F' Z H' ρ x y dx dy res Q S' hx hy e λv F2 H2 s2 S2 r2=>k F2 H2 s2 S2 v r2)
theorem aQ{f:D->D->Option D}(hr:TJ X r)(hf:T9 X.K r f)(ha:AO X a pa)(hb:AO X b pb)(hs:vx b:=by exact λ_ _=>rfl):AP X (.Subscript a b pos) (K8 f pa pb) :=
 λG F Z H ρ Q S w=>Po (zT hr aN aN hs) (va ha hb S w λx y dx dy F' H' s' S' hx hy w'=>by
  obtain⟨res,e,k⟩:=w'.opt
  exact hf G F' Z H' ρ x y dx dy res Q S' hx hy e λv F2 H2 s2 S2 r2=>k F2 H2 s2 S2 v r2)
theorem cM{f:D->D->Option Bool}(ho:OA X (compareOp op) r)(hf:Uh X.K r f)(ha:AO X a pa)(hb:AO X b pb)(hm:behindInMarks op b=false:=by rfl):AB X (.Compare a [op] [b] pos) (Hk f pa pb) :=
 λG F Z H ρ Q S w=>Po (zV ho aN aN hm) (va ha hb S w λx y dx dy F' H' s' S' hx hy w'=>by
  obtain⟨res,e,k⟩:=w'.opt
  exact hf G F' Z H' ρ x y dx dy res Q S' hx hy e (k F' H' (f_.refl _) S'))
theorem aO{f:D->D->Option Bool}(ho:OA X (compareOp op) r)(hf:Uh X.K r f)(ha:AO X a pa)(hb:AO X b pb)(hm:behindInMarks op b=false:=by rfl):AT X (.Compare a [op] [b] pos) (Hk f pa pb) :=
 λG F Z H ρ Q S w=>yh (zM ho aN aN hm) (va (Q:=λx H'=>∃k,x=.bl k/\Q k H') ha hb S w λx y dx dy F' H' s' S' hx hy w'=>by
  obtain⟨res,e,k⟩:=w'.opt
  exact hf G F' Z H' ρ x y dx dy res _ S' hx hy e ⟨res,rfl,k F' H' (f_.refl _) S'⟩)
def fA(h:AB X e ta):AP X e (pB ta):=λG F Z H ρ Q S w=>h G F Z H ρ Q S (w.bind.imp λb F' H' s1 S1 w1=>w1 F' H' (f_.refl _) S1 _ (.bl b))
def LL{op:UnaryOp}{r:V->Hp->VK->Prop}{f:D->Option D}(ho:UnR X (unaryOp op) r)(hf:UnD X.K r f)(ha:AO X a pa):AP X (.UnaryOp op a pos) (pUn f pa) :=
 λG F Z H ρ Q S w=>Po (KW ho aN) (ha G F Z H ρ _ S (w.bind.imp λdx F1 H1 s1 S1 w1 x hx=>by
  obtain⟨res,e,k⟩:=w1.opt
  exact hf G F1 Z H1 ρ x dx res Q S1 (hx.or S1) e λv F2 H2 s2 S2 r2=>k F2 H2 s2 S2 v r2))
def hW(h:AL X e qs):AP X e (pZ qs):=λG F Z H ρ Q S w=>h G F Z H ρ Q S (w.bind.imp λds F' H' s1 S1 w1 v fr=>by
 obtain⟨F2,s2,S2,r2⟩:=S1.settle (v:=v) (ds:=ds) fr
 exact w1 F2 H' s2 S2 v r2)
theorem au:AA (α:=α) X [] K5:=λG F Z H ρ Q k C S w kk=>yj iQ (kk [] [] F H (f_.refl _) S rfl .nil w)
def aa(h:AP X e p)(hr:AA X es pα)(hs:starEach (e::es) X.env=(false,eval e X.env)::starEach es X.env:=by exact fS rfl):AA X (e::es) (Hi p pα) :=
 λG F Z H ρ Q k C S w kk=>yj (dR aN cC hs) (h G F Z H ρ _ S (w.bind.imp λd F1 H1 s1 S1 w1 v r1 =>
  hr G F1 Z H1 ρ _ _ C S1 w1 λds vs F2 H2 s2 S2 hl r2 w2=>kk (d::ds) (v::vs) F2 H2 (s1.trans s2) S2 (by simp[hl]) (.cons (r1.mono s2) r2) w2))
theorem aM:Wg (α:=α) X [] K5:=λG F Z H ρ Q k C S w kk=>yj iQ (kk [] [] F H (f_.refl _) S .nil w)
def aG(h:AO X e p)(hr:Wg X es pα)(hs:starEach (e::es) X.env=(false,eval e X.env)::starEach es X.env:=by exact fS rfl):Wg X (e::es) (Hi p pα) :=
 λG F Z H ρ Q k C S w kk=>yj (dR aN cC hs) (h G F Z H ρ _ S (w.bind.imp λd F1 H1 s1 S1 w1 v r1 =>
  hr G F1 Z H1 ρ _ _ C S1 w1 λds vs F2 H2 s2 S2 r2 w2=>kk (d::ds) (v::vs) F2 H2 (s1.trans s2) S2 (.cons (r1.mono s2) r2) w2))
def W.fit{ds:List α}{C:List α->Hp->Hp->Prop}(h:W X G F Z ρ (cA ds) C):ds.length<=sizeLine/\∀F' H',f_ F F'->c_ X.K G F' Z H' ρ->C ds F' H':=by
 unfold cA at h;split at h
 ·exact⟨by assumption,h⟩
 ·exact h.elim
theorem bp{x1}(h:AA X es ps)(hz:es.length<=1000:=by decide +kernel):AP X (.Tuple es x1 pos) (Mo ps) :=
 λG F Z H ρ Q S w=>Po (yq cC) (h G F Z H ρ _ _ _ S w λds vs F1 H1 s1 S1 hl r1 w1=>by
  refine⟨by rw[hl];exact kZ hz,λq hq=>?_⟩;obtain⟨s2,S2,r2⟩:=S1.O7 hq r1
  exact w1 _ _ s2 S2 _ r2)
theorem dB(h:AA X es pl)(hz:es.length<=1000:=by decide +kernel):AL X (.List es pos) (Mq pl) :=
 λG F Z H ρ Q S w=>Po (Di cC) (h G F Z H ρ _ _ _ S w λds vs F1 H1 s1 S1 hl r1 w1=>by
  refine⟨by rw[hl];exact kZ hz,λq hq=>?_⟩;obtain⟨S2,r2⟩:=S1.OO hq r1
  exact w1 _ _ (f_.refl _) S2 _ r2)
def mI{r:List V->Hp->VK->Prop}{f:List D->M α}{C:α->Hp->Hp->Prop}(ha:Wg X es pα)(S:c_ X.K G F Z H ρ)(w:W X G F Z ρ (pα f ρ) C)
  (k:∀xs ds F' H',f_ F F'->c_ X.K G F' Z H' ρ->Ui X.K F' H' xs ds->W X G F' Z ρ (f ds) C->r xs H' Q):tCB r (gc X es) Z H Q :=
 ha G F Z H ρ _ _ C S w λds xs F1 H1 s1 S1 hx w1=>k xs ds F1 H1 s1 S1 (hx.ors S1) w1
theorem bc{p:Pos}{r:List V->Hp->VK->Prop}{f:List D->Option D}(hc:p_ X (.builtin id) r)(hf:gC X.K r f)(hm:X.mg x=none)(hv:bootBuiltins x=some (.builtin id))(ha:Wg X (e::es) ps)(hg:Gl X x:=by rfl)
  (hn:x ≠ "__name__":=by decide) (P8:(x==("__debug__" : Str))=false:=by decide) (he:starEach (e::es) X.env=(false,eval e X.env)::starEach es X.env:=by rfl) (OY:(backTo pos (starEach es X.env)).any (·.1)=false:=by rfl):AP X (.Call (.Name x p) (e::es) [] pos) (Hj f ps) :=
 λG F Z H ρ Q S w=>Po (jD hc hg hm hv cC hn P8 he OY) (mI ha S w λxs ds F' H' s' S' hx w'=>by
  obtain⟨res,e,k⟩:=w'.opt
  exact hf G F' Z H' ρ xs ds res Q S' hx e λv F2 H2 s2 S2 r2=>k F2 H2 s2 S2 v r2)
theorem EG{p:Pos}{r:List V->Hp->VK->Prop}{f:List D->Option (List D)}(hc:p_ X (.builtin id) r)(hf:AZ X.K r f)(hm:X.mg x=none)(hv:bootBuiltins x=some (.builtin id))(ha:Wg X (e::es) pl)(hg:Gl X x:=by rfl)
  (hn:x ≠ "__name__":=by decide) (P8:(x==("__debug__" : Str))=false:=by decide) (he:starEach (e::es) X.env=(false,eval e X.env)::starEach es X.env:=by rfl) (OY:(backTo pos (starEach es X.env)).any (·.1)=false:=by rfl):AL X (.Call (.Name x p) (e::es) [] pos) (kU f pl) :=
 λG F Z H ρ Q S w=>Po (jD hc hg hm hv cC hn P8 he OY) (mI ha S w λxs ds F' H' s' S' hx w'=>by
  obtain⟨res,e,k⟩:=w'.opt
  exact hf G F' Z H' ρ xs ds res Q S' hx e λv F2 H2 s2 S2 r2=>k F2 H2 s2 S2 v r2)
theorem xN{p:Pos}{r:List V->Hp->VK->Prop}{f:List D->Option Bool}(hc:p_ X (.builtin id) r)(hf:vE X.K r f)(hg:Gl X x)(hm:X.mg x=none)(hv:bootBuiltins x=some (.builtin id))(ha:Wg X (e::es) pb')
  (hn:x ≠ "__name__":=by decide) (P8:(x==("__debug__" : Str))=false:=by decide) (he:starEach (e::es) X.env=(false,eval e X.env)::starEach es X.env:=by rfl) (OY:(backTo pos (starEach es X.env)).any (·.1)=false:=by rfl):AB X (.Call (.Name x p) (e::es) [] pos) (Iv f pb') :=
 λG F Z H ρ Q S w=>Po (jD hc hg hm hv cC hn P8 he OY) (mI ha S w λxs ds F' H' s' S' hx w'=>by
  obtain⟨res,e,k⟩:=w'.opt
  exact hf G F' Z H' ρ xs ds res Q S' hx e (k F' H' (f_.refl _) S'))
theorem bC{p:Pos}{r:List V->Hp->VK->Prop}{f:List D->Option D}(hc:p_ X (.type T) r)(hf:gC X.K r f)(hm:X.mg x=none)(hv:bootBuiltins x=some (.type T))(ha:Wg X (e::es) ps)(hg:Gl X x:=by rfl)
  (hn:x ≠ "__name__":=by decide) (P8:(x==("__debug__" : Str))=false:=by decide) (he:starEach (e::es) X.env=(false,eval e X.env)::starEach es X.env:=by rfl) (OY:(backTo pos (starEach es X.env)).any (·.1)=false:=by rfl):AP X (.Call (.Name x p) (e::es) [] pos) (Hj f ps) :=
 λG F Z H ρ Q S w=>Po (mW hc hg hm hv cC hn P8 he OY) (mI ha S w λxs ds F' H' s' S' hx w'=>by
  obtain⟨res,e,k⟩:=w'.opt
  exact hf G F' Z H' ρ xs ds res Q S' hx e λv F2 H2 s2 S2 r2=>k F2 H2 s2 S2 v r2)
theorem nK{p:Pos}{r:List V->Hp->VK->Prop}{f:List D->Option (List D)}(hc:p_ X (.type T) r)(hf:AZ X.K r f)(hm:X.mg x=none)(hv:bootBuiltins x=some (.type T))(ha:Wg X (e::es) pl)(hg:Gl X x:=by rfl)
  (hn:x ≠ "__name__":=by decide) (P8:(x==("__debug__" : Str))=false:=by decide) (he:starEach (e::es) X.env=(false,eval e X.env)::starEach es X.env:=by rfl) (OY:(backTo pos (starEach es X.env)).any (·.1)=false:=by rfl):AL X (.Call (.Name x p) (e::es) [] pos) (kU f pl) :=
 λG F Z H ρ Q S w=>Po (mW hc hg hm hv cC hn P8 he OY) (mI ha S w λxs ds F' H' s' S' hx w'=>by
  obtain⟨res,e,k⟩:=w'.opt
  exact hf G F' Z H' ρ xs ds res Q S' hx e λv F2 H2 s2 S2 r2=>k F2 H2 s2 S2 v r2)
def fU{ds:List D}(h:h_ K F vs ds):(!vs.isEmpty) = !ds.isEmpty:=by cases h<;>rfl
def zl(ha:AO X a pa)(he:∀whole,isTrue a X.env whole=(do let v <-whole;standAt a.pos;holding [v] (truthy v))):AT X a (K2 pa) :=
 λG F Z H ρ Q S w=>yh (v3 aN he) (ha G F Z H ρ _ S (w.bind.imp λx F1 H1 s1 S1 w1 v hv=>by
  obtain⟨bb,hb,k⟩:=w1.opt;refine⟨bb,?_,k F1 H1 (f_.refl _) S1⟩;have o:=hv.or S1
  cases x with
  | none=>rw[o.none];cases hb;exact rfl
  | bool i=>rw[o.bool];cases hb;exact rfl
  | int i=>rw[o.int];cases hb;exact rfl
  | str i =>
   rw[o.str];unfold ki at hb;dsimp only at hb;split at hb
   ·rename_i hl;cases hb;exact⟨hl,rfl⟩
   ·cases hb
  | list ds=>obtain⟨a,vs,rfl,h1,h2⟩:=o.list S1.fh;cases hb;exact .inl ⟨vs,h1,(fU h2).symm⟩
  | tuple ds=>obtain⟨a,vs,rfl,h1,h2⟩:=o.tuple S1.fh;cases hb;exact .inr (.inl ⟨vs,h1,(fU h2).symm⟩)
  | dict ds=>cases hb))
def vg(ha:AB X a ta)(he:∀whole,isTrue a X.env whole=(do let v <-whole;standAt a.pos;holding [v] (truthy v))):AT X a ta :=
 λG F Z H ρ Q S w=>yh (v3 aN he) (ha G F Z H ρ _ S (w.imp λx F1 H1 s1 S1 w1=>⟨x,rfl,w1⟩))
def ja(ha:AT X a ta):AW X (.BoolOp .And [a] pos) ta:=λG F Z H ρ Q S w=>Bd (zJ eM) (ha G F Z H ρ Q S w)
def JA(ha:AT X a ta):AW X (.BoolOp .Or [a] pos) ta:=λG F Z H ρ Q S w=>Bd (Ib eM) (ha G F Z H ρ Q S w)
def lv(ha:AT X a ta)(hb:AW X (.BoolOp .And (b::rest) pos) tb):AW X (.BoolOp .And (a::b::rest) pos) (K9 ta tb) :=
 λG F Z H ρ Q S w=>Bd (C4 eM qj) (ha G F Z H ρ _ S (w.bind.imp λt F1 H1 s1 S1 w1=>by
  cases t with
  | true=>refine rX ?_;exact hb G F1 Z H1 ρ Q S1 w1
  | false=>refine uT ?_;exact w1 F1 H1 (f_.refl _) S1))
def LJ(ha:AT X a ta)(hb:AW X (.BoolOp .Or (b::rest) pos) tb):AW X (.BoolOp .Or (a::b::rest) pos) (pOr ta tb) :=
 λG F Z H ρ Q S w=>Bd (KP eM qj) (ha G F Z H ρ _ S (w.bind.imp λt F1 H1 s1 S1 w1=>by
  cases t with
  | true=>refine rX ?_;exact w1 F1 H1 (f_.refl _) S1
  | false=>refine uT ?_;exact hb G F1 Z H1 ρ Q S1 w1))
def oA(h:AW X e ta):AT X e ta:=λG F Z H ρ Q S w=>yh (λa_ s Z H Q I h=>qj _ a_ s Z H Q I h) (h G F Z H ρ Q S w)
def JB(ha:AT X a ta):AT X (.UnaryOp .Not a pos) (K4 ta) :=
 λG F Z H ρ Q S w=>yh (Ic eM) (ha G F Z H ρ _ S (w.bind.imp λt F1 H1 s1 S1 w1=>w1 F1 H1 (f_.refl _) S1))
def AX(h:AP X a pa):AB X a (Mx pa):=λG F Z H ρ Q S w=>h G F Z H ρ Q S (w.bind.imp λd F1 H1 s1 S1 w1 v r=>by
 cases r with
 | bl b=>exact w1 F1 H1 (f_.refl _) S1
 | OU=>exact w1.elim
 | int i=>exact w1.elim
 | str i=>exact w1.elim
 | tup _ _=>exact w1.elim
 | lst _ _=>exact w1.elim
 | Sl _ _ _=>exact w1.elim
 | V2 _ _ _=>exact w1.elim
 | exc _ _ _ _ _=>exact w1.elim
 | fn _=>exact w1.elim)
def vq{op}(h:AB X a ta):AB X (.BoolOp op [a] pos) ta:=λG F Z H ρ Q S w=>Po (Ik aN) (h G F Z H ρ Q S w)
def vv(ha:AB X a ta)(hb:AB X (.BoolOp .And (b::rest) pos) tb):AB X (.BoolOp .And (a::b::rest) pos) (K9 ta tb) :=
 λG F Z H ρ Q S w=>Po (Io aN aN) (ha G F Z H ρ _ S (w.bind.imp λt F1 H1 s1 S1 w1=>⟨t,rfl,by
  cases t with
  | true=>refine rX ?_;exact hb G F1 Z H1 ρ Q S1 w1
  | false=>refine uT ?_;exact w1 F1 H1 (f_.refl _) S1⟩))
def LP(ha:AB X a ta)(hb:AB X (.BoolOp .Or (b::rest) pos) tb):AB X (.BoolOp .Or (a::b::rest) pos) (pOr ta tb) :=
 λG F Z H ρ Q S w=>Po (KY aN aN) (ha G F Z H ρ _ S (w.bind.imp λt F1 H1 s1 S1 w1=>⟨t,rfl,by
  cases t with
  | true=>refine rX ?_;exact w1 F1 H1 (f_.refl _) S1
  | false=>refine uT ?_;exact hb G F1 Z H1 ρ Q S1 w1⟩))
def rH(hc:AT X c tc)(ha:AP X a pa)(hb:AP X b pb):AP X (.IfExp c a b pos) (pIf tc pa pb) :=
 λG F Z H ρ Q S w=>Po (v5 eM aN aN) (hc G F Z H ρ _ S (w.bind.imp λt F1 H1 s1 S1 w1=>by
  cases t with
  | true=>refine rX ?_;exact ha G F1 Z H1 ρ Q S1 w1
  | false=>refine uT ?_;exact hb G F1 Z H1 ρ Q S1 w1))
end
def Ab(i j:Int):Bool:=(decide (-(2^64)<i)&&decide (i<2^64))||(decide (-(2^64)<j)&&decide (j<2^64))
def bn:D->D->Option D
 | .int i,.int j=>some (.int (i+j))
 | .str a,.str b=>if a.length+b.length<=sizeLine then some (.str (a++b))else none
 | .tuple a,.tuple b=>if a.length+b.length<=sizeLine then some (.tuple (a++b))else none
 | .list a,.list b=>if a.length+b.length<=sizeLine then some (.list (a++b))else none
 | _,_=>none
def gG:D->D->Option D
 | .int i,.int j=>some (.int (i - j))
 | _,_=>none
def dW:D->D->Option D
 | .int i,.int j=>if Ab i j then some (.int (i*j))else none
 | _,_=>none
def qx:D->D->Option (List D)
 | .list a,.int k=>if decide (-(2^63)<=k)&&decide (k<2^63)&&decide (a.length*k.toNat<=sizeLine)then some (List.replicate k.toNat a).flatten else none
 | _,_=>none
def qy:D->D->Option D
 | .int i,.int j=>if decide (0<j)&&decide (j<1073741824)then some (.int (i / j))else none
 | _,_=>none
def cY:D->D->Option D
 | .int i,.int j=>if 0<j then some (.int (i % j))else none
 | _,_=>none
def zY:D->D->Option D
 | .int i,.int j=>if decide (0<=j)&&decide (j<=1000000)&&decide (i.natAbs<2^64)then some (.int (i^j.toNat))else none
 | _,_=>none
def Dr:D->Option D
 | .int i=>some (.int (-i))
 | _=>none
def wj:D->D->Option Bool
 | .int i,.int j=>some (decide (i<j))
 | _,_=>none
def dX:D->D->Option Bool
 | .int i,.int j=>some (decide (j<i))
 | _,_=>none
def uA:D->D->Option Bool
 | .int i,.int j=>some (decide (j<=i))
 | _,_=>none
def Hf(K:Fg):R2:=λx y H Q=>∃a b xs ys,x=.ref a/\y=.ref b/\N_ K H a xs/\N_ K H b ys/\xs.length+ys.length<=sizeLine /\
 (xs=[]->Q (.ref b) H)/\(xs≠[]->ys=[]->Q (.ref a) H)/\(xs≠[]->ys≠[]->∀p,H p=none->Q (.ref p) (upd H p (.tup (xs++ys))))
theorem Vr:OA X (binaryOp .Add) (Hf X.K):=by
 intro a_ s Z H x y v u Q I rx ry h;obtain⟨a,b,xs,ys,rfl,rfl,ha,hb,hz,q0,q1,q2⟩:=h;by_cases hx:xs=[]
 ·cases rx
  cases ry
  obtain⟨k_,r1,p1,_⟩:=I.tuple ha;obtain⟨P5,r2,p2,_⟩:=I.tuple hb;have hv:k_=[]:=r1.QU.mpr hx;obtain⟨⟨cls,dd,data,sl⟩,ho,hc,n,hd⟩:=id p1;obtain⟨⟨XT,U7,data2,UU⟩,RS,UN,n2,hd2⟩:=id p2;simp only at hc hd UN hd2;subst hc hd UN hd2;exact concat_meets ⟨_,ho,rfl⟩ ⟨_,RS,rfl⟩ noFill_tuple_add seq_tuple_add N0 NR (NQ _ _)
   (tuple_addW0 a b k_.toArray P5.toArray n n2 dd U7 sl UU (by simp[hv])) ⟨ho,RS,⟨.ref b,H,I,rfl,q0 hx⟩⟩
 ·exact FE a_ s Z H _ _ v u Q I rx ry ⟨a,b,xs,ys,rfl,rfl,ha,hb,hx,hz,q1 hx,q2 hx⟩
section
def QK{a:α}{P:Prop}(e:(none:Option α)=some a):P:=nomatch e
def okI{C:Int->Int->Prop}{g:Int->Int->V}{f:D->D->Option D}(h:∀dx dy res,f dx dy=some res->∃i j,dx=.int i/\dy=.int j/\C i j/\∀K F,Rep K F (g i j) res):T9 K (rI C g) f:=by
 intro G F Z H ρ x y dx dy res Q S ox oy e k;obtain⟨i,j,rfl,rfl,hc,hr⟩:=h dx dy res e;exact⟨i,j,ox.int,oy.int,hc,k _ F H (f_.refl _) S (hr K F)⟩
def okB{g:Int->Int->Bool}{f:D->D->Option Bool}(h:∀dx dy res,f dx dy=some res->∃i j,dx=.int i/\dy=.int j/\res=g i j):Uh K (Tn λi j=>.bl (g i j)) f:=by
 intro G F Z H ρ x y dx dy res Q S ox oy e k;obtain⟨i,j,rfl,rfl,rfl⟩:=h dx dy res e;exact⟨i,j,ox.int,oy.int,k⟩
def qA:T9 K (Tn λi j=>.int (i - j)) gG:=by
 intro G F Z H ρ x y dx dy res Q S ox oy e k
 cases dx<;>first|exact QK e|(cases dy<;>first|exact QK e|cases e)
 exact⟨_,_,ox.int,oy.int,k _ F H (f_.refl _) S (.int _)⟩
def Lc:Uh K (Tn λi j=>.bl (decide (i<j))) wj:=okB λdx dy res e=>by
 cases dx<;>first|exact QK e|(cases dy<;>first|exact QK e|cases e)
 exact⟨_,_,rfl,rfl,rfl⟩
def iw:Uh K (Tn λi j=>.bl (decide (j<i))) dX:=okB λdx dy res e=>by
 cases dx<;>first|exact QK e|(cases dy<;>first|exact QK e|cases e)
 exact⟨_,_,rfl,rfl,rfl⟩
def tj:Uh K (Tn λi j=>.bl (decide (j<=i))) uA:=okB λdx dy res e=>by
 cases dx<;>first|exact QK e|(cases dy<;>first|exact QK e|cases e)
 exact⟨_,_,rfl,rfl,rfl⟩
def uD:T9 K (rI LU λi j=>.int (i / j)) qy:=okI λdx dy res e=>by
 cases dx<;>first|exact QK e|(cases dy<;>try (exact QK e))
 rename_i i j;dsimp only[qy]at e;split at e
 ·rename_i hc
  cases e
  simp only[am,OB]at hc;exact⟨i,j,rfl,rfl,hc,λ_ _=>.int _⟩
 ·cases e
def dY:T9 K (rI (λ_ j=>0<j) λi j=>.int (i % j)) cY:=okI λdx dy res e=>by
 cases dx<;>first|exact QK e|(cases dy<;>try (exact QK e))
 rename_i i j;dsimp only[cY]at e;split at e
 ·rename_i hc
  cases e
  exact⟨i,j,rfl,rfl,hc,λ_ _=>.int _⟩
 ·cases e
def IF:T9 K (rI LS λi j=>.int (i^j.toNat)) zY:=okI λdx dy res e=>by
 cases dx<;>first|exact QK e|(cases dy<;>try (exact QK e))
 rename_i i j;dsimp only[zY]at e;split at e
 ·rename_i hc
  cases e
  simp only[am,OB]at hc;exact⟨i,j,rfl,rfl,⟨hc.1.1,hc.1.2,hc.2⟩,λ_ _=>.int _⟩
 ·cases e
def IG:UnD K (rU λi=>.int (-i)) Dr:=by
 intro G F Z H ρ x dx res Q S ox e k
 cases dx<;>cases e
 exact⟨_,ox.int,k _ F H (f_.refl _) S (.int _)⟩
def lF{ds:List D}(r:h_ K F vs ds):vs=[]↔ds=[]:=by cases r<;>simp
def He(K:Fg):R2:=λx y H Q=>∃l b xs zs,x=.ref l/\y=.ref b/\Ot K H l xs/\Ot K H b zs/\xs.length+zs.length<=sizeLine/\∀p,H p=none->Q (.ref p) (upd H p (.lst (xs++zs)))
theorem FF:OA X (binaryOp .Add) (He X.K):=by
 intro a_ s Z H x y v u Q I rx ry h;obtain⟨l,b,xs,zs,rfl,rfl,hH,hB,hz,q⟩:=h
 cases rx
 cases ry
 obtain⟨k_,r,pl,_⟩:=I.list hH;obtain⟨P5,r2,pl2,_⟩:=I.list hB;obtain⟨⟨cls,dd,data,sl⟩,ho,hc,n,hd⟩:=id pl.isList;obtain⟨⟨XT,U7,data2,UU⟩,RS,UN,n2,hd2⟩:=id pl2.isList;simp only at hc hd UN hd2;subst hc hd UN hd2;have e:k_.toArray++P5.toArray=(k_++P5).toArray:=by simp
 refine concat_meets ⟨_,ho,rfl⟩ ⟨_,RS,rfl⟩ noFill_list_add seq_list_add PySem.F.slot_list_add PySem.F.entry_list_add (PySem.F.args_list_add_2 _ _) (list_addW l b k_.toArray P5.toArray n n2 dd U7 sl UU (by rw[ax,ax,<-r.length,<-r2.length];exact hz)) ⟨ho,RS,?_⟩;rw[e];exact⟨.ref _,_,I.laid (t':=s.toks) (o:=.lst (xs++zs)) (λb ob q=>Od _ q) (ai _) ⟨by rw[Qh];exact hz,_,0,r.append r2,OX _ rfl⟩,rfl,q _ (I.n_.fresh (ai _))⟩
def Ky:R2:=λx y H Q=>∃i j,x=.str i/\y=.str j/\i.length+j.length<=sizeLine/\Q (.str (i++j)) H
def Hg(K:Fg):R2:=λx y H Q=>Tn (λi j=>.int (i+j)) x y H Q\/(Ky x y H Q\/(Hf K x y H Q\/He K x y H Q))
def aX:OA X (binaryOp .Add) (Hg X.K):=Xb.or (OA.or yr (Vr.or FF))
def bq:T9 K (Hg K) bn:=by
 intro G F Z H ρ x y dx dy res Q S ox oy e k
 cases dx<;>first|exact QK e|(cases dy<;>try (exact QK e))
 ·cases e;exact .inl ⟨_,_,ox.int,oy.int,k _ F H (f_.refl _) S (.int _)⟩
 ·dsimp only[bn]at e;split at e
  ·rename_i hz
   cases e
   exact .inr (.inl ⟨_,_,ox.str,oy.str,hz,k _ F H (f_.refl _) S (.str _)⟩)
  ·cases e
 ·dsimp only[bn]at e;split at e
  ·rename_i hz
   cases e
   obtain⟨a,vs,rfl,h1,h2⟩:=ox.list S.fh;obtain⟨b,us,rfl,g1,g2⟩:=oy.list S.fh;refine .inr (.inr (.inr ⟨a,b,vs,us,rfl,rfl,h1,g1,by rw[h2.length,g2.length];exact hz,λp hp=>?_⟩));obtain⟨S2,r2⟩:=S.OO hp (h2.append g2);obtain⟨F2,s3,S3,r3⟩:=S2.settle r2;exact k _ F2 _ s3 S3 r3
  ·cases e
 ·dsimp only[bn]at e;split at e
  ·rename_i hz
   cases e
   obtain⟨a,vs,rfl,h1,h2⟩:=ox.tuple S.fh;obtain⟨b,us,rfl,g1,g2⟩:=oy.tuple S.fh;refine .inr (.inr (.inl ⟨a,b,vs,us,rfl,rfl,h1,g1,by rw[h2.length,g2.length];exact hz,λz=>?_,λ_ z=>?_,λ_ _ p hp=>?_⟩))
   ·have z':=(lF h2).mp z;subst z';exact k _ F H (f_.refl _) S oy.Vd
   ·have z':=(lF g2).mp z;subst z';exact k _ F H (f_.refl _) S (by rw[li];exact ox.Vd)
   ·obtain⟨s2,S2,r2⟩:=S.O7 hp (h2.append g2);exact k _ _ _ s2 S2 r2
  ·cases e
def h_.rep{ds:List D}(h:h_ K F vs ds):∀k:Nat,h_ K F (List.replicate k vs).flatten (List.replicate k ds).flatten
 | 0=>.nil
 | k+1=>by rw[sw,sw,Ba,Ba];exact h.append (h_.rep h k)
def iS:T9 K (rI Wc λi j=>.int (i*j)) dW:=okI λdx dy res e=>by
 cases dx<;>first|exact QK e|(cases dy<;>try (exact QK e))
 rename_i i j;dsimp only[dW]at e;split at e
 ·rename_i hc
  cases e
  unfold Ab at hc;simp only[ua,am,OB]at hc;exact⟨i,j,rfl,rfl,hc,λ_ _=>.int _⟩
 ·cases e
end
def sg(d e:D):Bool:=d.canLay0&&e.canLay0&&decide (d.depth<=1000)
def aZ(d e:D):Option Bool:=if sg d e then some (PyData.eqv d e)else none
def dO(d e:D):Option Bool:=if sg d e then some (!PyData.eqv d e)else none
def km(d:D)(xs:List D):Bool:=PyData.canLayAll0 xs&&d.canLay0&&decide (d.depth<=1000)
def Hn(i j:Str):Bool:=!(Builtin.Str.occurrences j i 0 j.length 1).isEmpty
def wm(d c:D):Option Bool:=match c with
 | .list xs=>if km d xs then some (xs.any λy=>PyData.eqv y d)else none
 | .tuple xs=>if km d xs then some (xs.any λy=>PyData.eqv y d)else none
 | .str j=>match d with
  | .str i=>some (Hn i j)
  | _=>none
 | _=>none
def gH(d c:D):Option Bool:=match c with
 | .list xs=>if km d xs then some (!xs.any λy=>PyData.eqv y d)else none
 | .tuple xs=>if km d xs then some (!xs.any λy=>PyData.eqv y d)else none
 | .str j=>match d with
  | .str i=>some (!Hn i j)
  | _=>none
 | _=>none
def isNone:D->Bool
 | .none=>true
 | _=>false
def Dq(d e:D):Option Bool:=match e with
 | .none=>some (!isNone d)
 | _=>none
def Vp(K:Fg)(f:D->D->Option Bool):R2:=λx y H Q=>∃d e b,Ss K H x d/\Ss K H y e/\f d e=some b/\Q (.bl b) H
def bw{f:D->D->Option Bool}:Uh K (Vp K f) f:=by
 intro G F Z H ρ x y dx dy res Q S ox oy e k;exact⟨dx,dy,res,ox.rep S.fh,oy.rep S.fh,e,k⟩
def Rep.RD{d:D}(r:Rep K F v d):(decide (v=.OU))=isNone d:=by
 cases r<;>rfl
def Ss.RD{d:D}(r:Ss K F v d):(decide (v=.OU))=isNone d:=by
 rcases r with r|⟨a,kvs,es,rfl,rfl,_⟩
 ·exact Rep.RD r
 ·rfl
section
theorem bA(hu:X.A.units+1100<cLine):OA X (compareOp .Eq) (Vp X.K aZ):=by
 intro a_ s Z H x y v u Q I rx ry ⟨d,e,b,r1,r2,ho,q⟩;unfold aZ at ho;split at ho
 case isFalse=>cases ho
 rename_i hc
 cases ho
 simp only[sg,am,OB]at hc;obtain⟨as,ra⟩:=(cB I).1 (r1.of (i4 hc.1.1)) hc.1.1 rx;obtain⟨bs,rb⟩:=(cB I).1 (r2.of (i4 hc.1.2)) hc.1.2 ry;exact SeqAt.compareEq_reads ra rb hc.1.1 hc.1.2 (by have:=Nat.min_le_left d.depth e.depth;lia) ⟨.bl _,H,I,rfl,q⟩
theorem gX(hu:X.A.units+1100<cLine):OA X (compareOp .NotEq) (Vp X.K dO):=by
 intro a_ s Z H x y v u Q I rx ry ⟨d,e,b,r1,r2,ho,q⟩;unfold dO at ho;split at ho
 case isFalse=>cases ho
 rename_i hc
 cases ho
 simp only[sg,am,OB]at hc;obtain⟨as,ra⟩:=(cB I).1 (r1.of (i4 hc.1.1)) hc.1.1 rx;obtain⟨bs,rb⟩:=(cB I).1 (r2.of (i4 hc.1.2)) hc.1.2 ry;exact SeqAt.compareNe_reads ra rb hc.1.1 hc.1.2 (by have:=Nat.min_le_left d.depth e.depth;lia) ⟨.bl _,H,I,rfl,q⟩
theorem Iw(hu:X.A.units+1100<cLine):OA X (compareOp .In) (Vp X.K wm):=by
 intro a_ s Z H x y v u Q I rx ry ⟨d,e,b,r1,r2,ho,q⟩;unfold wm at ho;split at ho
 ·rename_i xs;split at ho
  case isFalse=>cases ho
  rename_i hc
  cases ho
  simp only[km,am,OB]at hc;obtain⟨as,ra⟩:=(cB I).1 (r1.of (i4 hc.1.2)) hc.1.2 rx;obtain⟨bs,rb⟩:=(cB I).1 (r2.of rfl) (by simpa[PyData.canLay0]using hc.1.1) ry;exact SeqAt.in_list_reads rb ra hc.1.1 hc.1.2 (by have:=Nn (PyData.depthAll xs) d.depth;lia) ⟨.bl _,H,I,rfl,q⟩
 ·rename_i xs;split at ho
  case isFalse=>cases ho
  rename_i hc
  cases ho
  simp only[km,am,OB]at hc;obtain⟨as,ra⟩:=(cB I).1 (r1.of (i4 hc.1.2)) hc.1.2 rx;obtain⟨bs,rb⟩:=(cB I).1 (r2.of rfl) (by simpa[PyData.canLay0]using hc.1.1) ry;exact SeqAt.in_tuple_reads rb ra hc.1.1 hc.1.2 (by have:=Nn (PyData.depthAll xs) d.depth;lia) ⟨.bl _,H,I,rfl,q⟩
 ·split at ho
  ·cases ho
   obtain rfl:=(r1.of rfl).str_inv;obtain rfl:=(r2.of rfl).str_inv;exact Bo a_ s Z H _ _ v u Q I rx ry ⟨_,_,rfl,rfl,q⟩
  ·cases ho
 ·cases ho
theorem Bn(hu:X.A.units+1100<cLine):OA X (compareOp .NotIn) (Vp X.K gH):=by
 intro a_ s Z H x y v u Q I rx ry ⟨d,e,b,r1,r2,ho,q⟩;unfold gH at ho;split at ho
 ·rename_i xs;split at ho
  case isFalse=>cases ho
  rename_i hc
  cases ho
  simp only[km,am,OB]at hc;obtain⟨as,ra⟩:=(cB I).1 (r1.of (i4 hc.1.2)) hc.1.2 rx;obtain⟨bs,rb⟩:=(cB I).1 (r2.of rfl) (by simpa[PyData.canLay0]using hc.1.1) ry;exact SeqAt.notIn_list_reads rb ra hc.1.1 hc.1.2 (by have:=Nn (PyData.depthAll xs) d.depth;lia) ⟨.bl _,H,I,rfl,q⟩
 ·rename_i xs;split at ho
  case isFalse=>cases ho
  rename_i hc
  cases ho
  simp only[km,am,OB]at hc;obtain⟨as,ra⟩:=(cB I).1 (r1.of (i4 hc.1.2)) hc.1.2 rx;obtain⟨bs,rb⟩:=(cB I).1 (r2.of rfl) (by simpa[PyData.canLay0]using hc.1.1) ry;exact SeqAt.notIn_tuple_reads rb ra hc.1.1 hc.1.2 (by have:=Nn (PyData.depthAll xs) d.depth;lia) ⟨.bl _,H,I,rfl,q⟩
 ·split at ho
  ·cases ho
   obtain rfl:=(r1.of rfl).str_inv;obtain rfl:=(r2.of rfl).str_inv;exact uz a_ s Z H _ _ v u Q I rx ry ⟨_,_,rfl,rfl,q⟩
  ·cases ho
 ·cases ho
def Do:OA X (compareOp .IsNot) (Vp X.K Dq):=by
 intro a_ s Z H x y v u Q I rx ry ⟨d,e,b,r1,r2,ho,q⟩;unfold Dq at ho;split at ho
 ·cases ho
  cases r2.of rfl
  refine FD a_ s Z H x _ v u Q I rx ry ⟨rfl,?_⟩;rw[Ss.RD r1];exact q
 ·cases ho
end
def dC:D->D->Option D
 | .list ds,.int i=>Sr ds i
 | .tuple ds,.int i=>Sr ds i
 | .str z,.int i=>if z.length<=sizeLine then(Sr z.cps.toList i).map λc=>.str ⟨#[c]⟩else none
 | _,_=>none
def vh{ds:List D}{i:Int}{d:D}(r:h_ K F vs ds)(h:Sr ds i=some d):∃v,Sr vs i=some v/\Rep K F v d:=by
 unfold Sr at h ⊢;rw[r.length]
 cases q:Tq ds.length i with
 | none=>rw[q]at h;cases h
 | some j =>
  rw[q]at h;exact r.get (i:=j) h
def Ld:T9 K (rIx K) dC:=by
 intro G F Z H ρ x y dx dy res Q S ox oy e k
 cases dx<;>first|exact QK e|(cases dy<;>try (exact QK e))
 ·dsimp only[dC]at e;split at e
  ·rename_i hz;obtain⟨c,hc,rfl⟩:=Option.map_eq_some_iff.mp e;exact .inr (.inr ⟨_,_,c,ox.str,oy.int,hz,hc,k _ F H (f_.refl _) S (.str _)⟩)
  ·cases e
 ·obtain⟨a,vs,rfl,h1,h2⟩:=ox.list S.fh;obtain⟨v,e1,e2⟩:=vh h2 e;exact .inl ⟨a,vs,_,v,rfl,oy.int,h1,e1,k v F H (f_.refl _) S e2⟩
 ·obtain⟨a,vs,rfl,h1,h2⟩:=ox.tuple S.fh;obtain⟨v,e1,e2⟩:=vh h2 e;exact .inr (.inl ⟨a,vs,_,v,rfl,oy.int,h1,e1,k v F H (f_.refl _) S e2⟩)
def Vals.one{us:List Value}(h:Vals [v] us):∃u,us=[u]/\RelV v u:=by
 cases h with|cons a b=>cases b;exact⟨_,rfl,a⟩
def fm:List D->Option D
 | [.list ds]=>some (.int ds.length)
 | [.tuple ds]=>some (.int ds.length)
 | [.str z]=>if z.length<=sizeLine then some (.int z.length)else none
 | _=>none
def cj:List D->Option D
 | [.list ds]=>some (.tuple ds)
 | [.tuple ds]=>some (.tuple ds)
 | _=>none
def Ea:List D->Option D
 | [.int i,.int j]=>some (.int (if j<i then j else i))
 | _=>none
def HX(K:Fg):List V->Hp->VK->Prop:=λxs H Q=>(∃p ys,xs=[.ref p]/\(Ot K H p ys\/N_ K H p ys)/\Q (.int ys.length) H)\/∃z,xs=[.str z]/\z.length<=sizeLine/\Q (.int z.length) H
def cq:p_ X (.builtin "len") (HX X.K):=p_.or u7 u6
def fE:gC K (HX K) fm:=by
 intro G F Z H ρ xs ds res Q S o e k;unfold fm at e;split at e
 ·rename_i es
  cases e
  obtain⟨v,r,rfl,ho,hr⟩:=bD o;obtain rfl:=bT hr;obtain⟨a,vs,rfl,h1,h2⟩:=ho.list S.fh;exact .inl ⟨a,vs,rfl,.inl h1,k _ F H (f_.refl _) S (by rw[h2.length];exact .int _)⟩
 ·rename_i es
  cases e
  obtain⟨v,r,rfl,ho,hr⟩:=bD o;obtain rfl:=bT hr;obtain⟨a,vs,rfl,h1,h2⟩:=ho.tuple S.fh;exact .inl ⟨a,vs,rfl,.inr h1,k _ F H (f_.refl _) S (by rw[h2.length];exact .int _)⟩
 ·split at e
  ·rename_i hz
   cases e
   obtain⟨v,r,rfl,ho,hr⟩:=bD o;obtain rfl:=bT hr;exact .inr ⟨_,by rw[ho.str],hz,k _ F H (f_.refl _) S (.int _)⟩
  ·cases e
 ·cases e
def bV:gC K (λxs H Q=>∃p ys,xs=[.ref p]/\((Ot K H p ys/\∀l,H l=none->Q (.ref l) (upd H l (.tup ys)))\/(N_ K H p ys/\Q (.ref p) H))) cj:=by
 intro G F Z H ρ xs ds res Q S o e k;unfold cj at e;split at e
 ·rename_i es
  cases e
  obtain⟨v,r,rfl,ho,hr⟩:=bD o;obtain rfl:=bT hr;obtain⟨a,vs,rfl,h1,h2⟩:=ho.list S.fh;refine⟨a,vs,rfl,.inl ⟨h1,λl hl=>?_⟩⟩;obtain⟨s2,S2,r2⟩:=S.O7 hl h2;exact k _ _ _ s2 S2 r2
 ·rename_i es
  cases e
  obtain⟨v,r,rfl,ho,hr⟩:=bD o;obtain rfl:=bT hr;have ho:=ho.Vd
  cases ho with
  | tup h1 h2=>exact⟨_,_,rfl,.inr ⟨N_.of (S.fh _ _ h1),k _ F H (f_.refl _) S (show Rep K F _ _ from .tup h1 h2)⟩⟩
 ·cases e
def FI:gC K (λxs H Q=>∃i j,xs=[.int i,.int j]/\Q (.int (if j<i then j else i)) H) Ea:=by
 intro G F Z H ρ xs ds res Q S o e k;unfold Ea at e;split at e
 ·cases e
  obtain⟨v,r,rfl,ho,hr⟩:=bD o;obtain⟨v2,r2,rfl,RS,hr2⟩:=bD hr;obtain rfl:=bT hr2;exact⟨_,_,by rw[ho.int,RS.int],k _ F H (f_.refl _) S (show Rep K F _ _ from .int _)⟩
 ·cases e
def mU(d:D):Bool:=d.showable&&d.canLay0&&decide (d.depth<=1000)&&decide (d.shown.length<=sizeLine)
def jM:List D->Option D
 | [d]=>if mU d then some (.str d.shown)else none
 | _=>none
def G8(K:Fg):List V->Hp->VK->Prop:=λxs H Q=>∃v d,xs=[v]/\Rep K H v d/\mU d=true/\Q (.str d.shown) H
def j4:gC K (G8 K) jM:=by
 intro G F Z H ρ xs ds res Q S o e k;unfold jM at e;split at e
 ·rename_i d;split at e
  ·rename_i hc
   cases e
   obtain⟨v,r,rfl,ho,hr⟩:=bD o;obtain rfl:=bT hr;exact⟨v,d,rfl,(ho.rep S.fh).of (i4 (by simp[mU]at hc;exact hc.1.1.2)),hc,k _ F H (f_.refl _) S (.str _)⟩
  ·cases e
 ·cases e
theorem fZ(hu:X.A.units+1100<cLine)(hg:X.A.guards=some []):p_ X (.builtin "repr") (G8 X.K):=by
 intro a_ s Z H xs us Q I r h0;obtain⟨v,d,rfl,rp,hc,q⟩:=h0;obtain⟨u,rfl,ru⟩:=Vals.one r;simp only[mU,am,OB]at hc;obtain⟨as,ra⟩:=(cB I).1 rp hc.1.1.2 ru;have big:∀a,v=.ref a->wpAny (model X.prog X.w) X.A (call (.builtin "repr") [u]) (EP X a_ Z Q) X.xe s:=λa e=>by
  subst e
  cases ru
  exact repr_of_reads' ra hc.1.1.1 (PyData.noDict_hsm (PyData.hasDict_of_canLay d hc.1.1.2)) hg (by lia) (λ_ _ e=>e) (λh' u tk hk=>⟨.str _,H,I.kept hk,⟨_,rfl⟩,q⟩) hc.2
 cases rp with
 | OU=>cases ru;exact PySem.P.repr_of_none ⟨.str _,H,I.tok _,⟨_,rfl⟩,q⟩
 | bl b=>cases ru;exact PySem.P.repr_of_bool ⟨.str _,H,I.tok _,⟨_,rfl⟩,q⟩
 | int i=>obtain⟨t,rfl⟩:=ru;exact PySem.P.repr_of_int (by simpa[PyData.showable]using hc.1.1.1) ⟨.str _,H,I.tok _,⟨_,rfl⟩,q⟩
 | str x=>obtain⟨t,rfl⟩:=ru;exact PySem.P.repr_of_str ⟨.str _,H,I.tok _,⟨_,rfl⟩,q⟩ hc.2
 | tup h1 h2=>exact big _ rfl
 | lst h1 h2=>exact big _ rfl
 | Sl h1 h2 h3=>exact big _ rfl
 | V2 h1 h2 h3=>exact big _ rfl
 | exc _ _ _ _ _=>exact big _ rfl
 | fn _=>exact big _ rfl
def intsOf:List D->Option (List Int)
 | []=>some []
 | .int i::r=>match intsOf r with
  | some l=>some (i::l)
  | none=>none
 | _=>none
def dm:∀{ds:List D} {ns:List Int},intsOf ds=some ns->ds=ns.map PyData.int
 | [],ns,h=>by cases h;rfl
 | .int i::r,ns,h=>by
  dsimp only[intsOf]at h;split at h
  ·rename_i l e;cases h;rw[dm e];rfl
  ·cases h
 | .none::_,_,h=>by cases h
 | .bool _::_,_,h=>by cases h
 | .str _::_,_,h=>by cases h
 | .list _::_,_,h=>by cases h
 | .tuple _::_,_,h=>by cases h
 | .dict _::_,_,h=>by cases h
def yO(ns:List Int):intsOf (ns.map PyData.int)=some ns:=by
 induction ns with
 | nil=>rfl
 | cons n r ih=>simp[intsOf,ih]
def dk{K:Fg}{F:Hp}:∀{vs:List V} {ns:List Int},h_ K F vs (ns.map PyData.int)->vs=ns.map V.int
 | _,[],h=>by cases h;rfl
 | _,n::r,h=>by
  cases h with
  | cons a b=>cases a;rw[dk b];rfl
def eJ:∀{ns:List Int} {us:List Value},Vals (ns.map V.int) us->∃ps:List (Int×Tok),us=ps.map (λp=>Value.int p.1 p.2)/\ps.map Prod.fst=ns
 | [],_,h=>by cases h;exact⟨[],rfl,rfl⟩
 | n::r,_,h=>by
  cases h with
  | cons a b =>
   obtain⟨t,rfl⟩:=a;obtain⟨ps,rfl,e⟩:=eJ b;exact⟨(n,t)::ps,rfl,by simp[e]⟩
def pT(ns:List Int):Bool:=ns.all (λi=>decide (i.natAbs<=2^40))&&decide (ns.length<=2^20)
def Gj:List D->Option D
 | [.list ds]=>match intsOf ds with
  | some ns=>if pT ns then some (.int ns.sum)else none
  | none=>none
 | _=>none
def uP:List Int->Int
 | []=>0
 | n::r=>r.foldl max n
def Jk:List D->Option D
 | [.list ds]=>match intsOf ds with
  | some (n::r)=>some (.int (uP (n::r)))
  | _=>none
 | [.int i,.int j]=>some (.int (if j>i then j else i))
 | _=>none
def nQ(K:Fg)(f:List Int->Option Int):List V->Hp->VK->Prop:=λxs H Q=>∃a ns i,xs=[.ref a]/\Ot K H a (ns.map V.int)/\f ns=some i/\Q (.int i) H
def uX(ns:List Int):Option Int:=if pT ns then some ns.sum else none
def BF:List Int->Option Int
 | []=>none
 | ns=>some (uP ns)
def IE:gC K (nQ K uX) Gj:=by
 intro G F Z H ρ xs ds res Q S o e k;unfold Gj at e;split at e
 case h_2=>cases e
 rename_i es;split at e
 case h_2=>cases e
 rename_i ns Sz;split at e
 case isFalse=>cases e
 rename_i hc
 cases e
 obtain⟨v,r,rfl,ho,hr⟩:=bD o;obtain rfl:=bT hr;obtain⟨a,vs,rfl,h1,h2⟩:=ho.list S.fh;rw[dm Sz]at h2;rw[dk h2]at h1;exact⟨a,ns,_,rfl,h1,by unfold uX;rw[al hc],k _ F H (f_.refl _) S (show Rep K F _ _ from .int _)⟩
def fg{ps:List (Int×Tok)}:numAt ps.toArray i=(ps.map Prod.fst).getD i 0:=by
 unfold numAt;rw[Nj,eg,fu]
theorem iq(ns:List Int):∀j,j<=ns.length->preSum (λi=>ns.getD i 0) j=(ns.take j).sum
 | 0,_=>by simp[preSum]
 | j+1,h=>by
  rw[preSum,iq ns j (by lia),List.take_add_one,List.sum_append];congr 1;rw[eg];rw[ac (by lia)];simp
def sum_bound(B:Nat):∀(ns:List Int),(∀i∈ns,i.natAbs<=B)->ns.sum.natAbs<=ns.length*B
 | [],_=>by simp
 | n::r,h=>by
  have h1:=h n du;have h2:=sum_bound B r λi hi=>h i (QC _ hi)
  rw[Nq,gs,NB];omega
theorem BR(hc:X.calm=true):p_ X (.builtin "sum") (nQ X.K uX):=by
 intro a_ s Z H xs us Q I r h0;obtain⟨a,ns,i,rfl,hq,e,q⟩:=h0;obtain⟨u,rfl,ru⟩:=Vals.one r
 cases ru
 unfold uX at e;split at e
 case isFalse=>cases e
 rename_i n_
 cases e
 obtain⟨k_,rv,pl,hz⟩:=I.list hq;obtain⟨ps,rfl,rfl⟩:=eJ rv;have Xu:∀j,numAt ps.toArray j=(ps.map Prod.fst).getD j 0:=λj=>fg
 have UJ:numAt ps.toArray=λj=>(ps.map Prod.fst).getD j 0:=funext Xu
 unfold pT at n_;simp only[am,xz,OB]at n_;have hl:s.heap.IsList a (intItems ps.toArray):=by
  have:=pl.isList;unfold intItems;simpa using this
 have bnd:∀j,j<=ps.length->((ps.map Prod.fst).take j).sum.natAbs<=2^60:=λj hj=>by
  have h1:=sum_bound (2^40) ((ps.map Prod.fst).take j) λi hi=>n_.1 i (List.mem_of_mem_take hi)
  have h2:((ps.map Prod.fst).take j).length<=2^20:=by rw[ss];have:=n_.2;lia
  calc _<=_:=h1
   _<=2^20*2^40:=Me _ h2
 refine sum_intList (I.ok.hd hc) hl (λj hj=>?_) λh' tk t' hk=>?_
 ·have UI:j<ps.length:=by simpa using hj
  rw[UJ,iq _ _ (by simp;lia)];have h1:=bnd (j+1) UI;have h2:((ps.map Prod.fst).getD j 0).natAbs<=2^40:=by
   rw[eg,ac (by simpa using UI)];exact n_.1 _ (oC _)
  unfold InLong;dsimp only;constructor<;>constructor<;>lia
 ·refine⟨.int _,H,I.kept hk,⟨_,rfl⟩,?_⟩;rw[UJ,iq _ _ (by simp),wT (by simp)];exact q
def IH:gC K (λxs H Q=>nQ K BF xs H Q\/∃i j,xs=[.int i,.int j]/\Q (.int (if j>i then j else i)) H) Jk:=by
 intro G F Z H ρ xs ds res Q S o e k;unfold Jk at e;split at e
 ·rename_i es;split at e
  case h_2=>cases e
  rename_i n r' Sz
  cases e
  obtain⟨v,r,rfl,ho,hr⟩:=bD o;obtain rfl:=bT hr;obtain⟨a,vs,rfl,h1,h2⟩:=ho.list S.fh;rw[dm Sz]at h2;rw[dk h2]at h1;exact .inl ⟨a,_,_,rfl,h1,rfl,k _ F H (f_.refl _) S (show Rep K F _ _ from .int _)⟩
 ·cases e
  obtain⟨v,r,rfl,ho,hr⟩:=bD o;obtain⟨v2,r2,rfl,RS,hr2⟩:=bD hr;obtain rfl:=bT hr2;exact .inr ⟨_,_,by rw[ho.int,RS.int],k _ F H (f_.refl _) S (show Rep K F _ _ from .int _)⟩
 ·cases e
theorem BH(r:List Int):∀n:Int,n<=r.foldl max n/\(∀i∈r,i<=r.foldl max n)/\(r.foldl max n=n\/r.foldl max n∈r):=by
 induction r with
 | nil=>intro n;exact⟨Int.le_refl _,λi hi=>(nomatch hi),.inl rfl⟩
 | cons a r ih =>
  intro n;obtain⟨h1,h2,h3⟩:=ih (max n a);rw[lf];refine⟨by lia,λi hi=>?_,?_⟩
  ·rcases List.mem_cons.mp hi with rfl|hi
   ·lia
   ·exact h2 i hi
  ·rcases h3 with h3|h3
   ·rw[h3];by_cases hna:n<=a
    ·right;rw[show max n a=a by lia];exact du
    ·left;lia
   ·right;exact QC _ h3
def tG{ns:List Int}(h:ns≠[]):(∀i∈ns,i<=uP ns)/\uP ns∈ns:=by
 cases ns with
 | nil=>exact absurd rfl h
 | cons n r =>
  obtain⟨h1,h2,h3⟩:=BH r n;refine⟨λi hi=>?_,?_⟩
  ·rcases List.mem_cons.mp hi with rfl|hi
   ·exact h1
   ·exact h2 i hi
  ·rcases h3 with h3|h3
   ·show r.foldl max n∈_;rw[h3];exact du
   ·exact QC _ h3
theorem BY(hc:X.calm=true):p_ X (.builtin "max") (nQ X.K BF):=by
 intro a_ s Z H xs us Q I r h0;obtain⟨a,ns,i,rfl,hq,e,q⟩:=h0;obtain⟨u,rfl,ru⟩:=Vals.one r
 cases ru
 obtain⟨k_,rv,pl,hz⟩:=I.list hq;obtain⟨ps,rfl,rfl⟩:=eJ rv;have Ts:ps≠[]:=by rintro rfl;cases e
 have Se:ps.map Prod.fst≠[]:=by simpa using Ts
 have ei:i=uP (ps.map Prod.fst):=by
  cases hp:ps.map Prod.fst with
  | nil=>exact absurd hp Se
  | cons n r=>rw[hp]at e;cases e;rfl
 subst ei;have hl:s.heap.IsList a (intItems ps.toArray):=by
  have:=pl.isList;unfold intItems;simpa using this
 have SW:0<ps.length:=List.length_pos_iff.mpr Ts;refine max_intList (I.ok.hd hc) hl (by simpa using SW) λv h' tk hv hk=>?_
 obtain⟨t,rfl⟩:=intItems_at hv;refine⟨.int _,H,I.kept hk,⟨_,rfl⟩,?_⟩;have b:=argBest_gt (numAt ps.toArray) (ps.toArray.size - 1);generalize argBest (λi j=>decide (numAt ps.toArray i>numAt ps.toArray j)) (ps.toArray.size - 1)=m at b hv;have hm:m<ps.length:=by
  have h0:=b.1;simp at h0;lia
 have RG:=tG Se;have e1:numAt ps.toArray m=uP (ps.map Prod.fst):=by
  refine Int.le_antisymm ?_ ?_
  ·refine RG.1 _ ?_;rw[fg,eg,ac (by simpa using hm)];exact oC _
  ·obtain⟨j,hj,ej⟩:=ut RG.2;have h0:=b.2 j (by simp at hj ⊢;lia);rw[fg,eg,ac hj]at h0;rw[<-ej];exact h0
 rw[e1];exact q
def DP{es:List (D×D)}(h:es.map (·.1)=kvs.map (λp=>cE p.1)):nC es=false:=by
 cases es with
 | nil=>rfl
 | cons e r =>
  cases kvs with
  | nil=>cases h
  | cons k ks =>
   obtain⟨e1,e2⟩:=e;simp only[aw,List.cons.injEq]at h;rw[h.1];rfl
def DQ{kvs:List (Key×V)}{es:List (D×D)}(h:es.map (·.1)=kvs.map (λp=>Ow p.1)):nC es=false:=by
 cases es with
 | nil=>rfl
 | cons e r =>
  cases kvs with
  | nil=>cases h
  | cons k ks =>
   obtain⟨e1,e2⟩:=e;obtain⟨k1,k2⟩:=k;simp only[aw,List.cons.injEq]at h;rw[h.1]
   cases k1<;>rfl
section
variable {ρ':En}
def _root_.L3.c_.weak(S:c_ K G F Z H ρ)(hl:ρ'.length=ρ.length)(h:∀(i:Nat) (av:AV),ρ'[i]? = some (some av)->ρ[i]? = some (some av))(hp:∀(i:Nat) (c:OC),ρ[i]? = some (some (AV.op c))->ρ'[i]? = some (some (AV.op c))):c_ K G F Z H ρ':=by
 have To:∀j c,own ρ' j c->own ρ j c:=λj c q=>q.imp (h _ _) (h _ _)
 refine⟨S.fh,S.oh,S.fo,S.ln.trans hl.symm,λj d q=>S.fz j d (h _ _ q),λj c q=>S.ow j c (To j c q),λj k c e a h1 h2=>S.dj j k c e a (To j c h1) (To k e h2),λj a q=>?_,λj c q=>S.pq j c (h _ _ q),S.fb⟩;obtain⟨q1,c,q2⟩:=S.pp j a q;exact⟨q1,c,hp _ _ q2⟩
def iH{k:Nat}{av:AV}(h:(ρ++List.replicate k none)[i]? = some (some av)):ρ[i]? = some (some av):=by
 by_cases hi:i<ρ.length
 ·rw[io hi]at h;exact h
 ·rw[NF (Nat.not_lt.mp hi),Cr]at h;split at h<;>cases h
def _root_.L3.c_.grow(S:c_ K G F Z H ρ)(k:Nat):c_ K G F (Z++List.replicate k none) H (ρ++List.replicate k none):=by
 have ap:∀{i:Nat} {v:V},Z[i]? = some (some v)->(Z++List.replicate k none)[i]? = some (some v):=λ{i v} e=>by
  rw[io (List.getElem?_eq_some_iff.mp e).1];exact e
 have apr:∀{i:Nat} {v:AV},ρ[i]? = some (some v)->(ρ++List.replicate k none)[i]? = some (some v):=λ{i v} e=>by
  rw[io (List.getElem?_eq_some_iff.mp e).1];exact e
 have To:∀i c,own (ρ++List.replicate k none) i c->own ρ i c:=λi c h=>by
  rcases h with h|h
  ·exact .inl (iH h)
  ·exact .inr (iH h)
 refine⟨S.fh,S.oh,S.fo,by simp[S.ln],λi d h=>?_,λi c h=>?_,λi j c e a h1 h2 e1 e2=>?_,λi a h=>?_,λi c h=>S.pq i c (iH h),S.fb⟩
 ·obtain⟨v,e,r⟩:=S.fz i d (iH h);exact⟨v,ap e,r⟩
 ·obtain⟨a,e,oa⟩:=S.ow i c (To i c h);exact⟨a,ap e,oa⟩
 ·have o1:=To i c h1;have o2:=To j e h2;obtain⟨a1,q1,_⟩:=S.ow i c o1;obtain⟨a2,q2,_⟩:=S.ow j e o2;rw[ap q1]at e1;rw[ap q2]at e2;injection e1 with e1;injection e2 with e2;exact S.dj i j c e a o1 o2 (by rw[q1,e1]) (by rw[q2,e2])
 ·obtain⟨e,c,q⟩:=S.pp i a h;exact⟨ap e,c,apr q⟩
theorem _root_.L3.c_.shrink(S:c_ K G F Z H ρ)(hn:n<=ρ.length)(hp:∀i a,G.P i=some a->i<n):c_ K G F (Z.take n) H (ρ.take n):=by
 have tk:∀{i:Nat} {v:AV},(ρ.take n)[i]? = some (some v)->i<n/\ρ[i]? = some (some v):=λ{i v} e=>by
  have hi:i<n:=by
   have:=(List.getElem?_eq_some_iff.mp e).1;rw[ss]at this;lia
  rw[ir hi]at e;exact⟨hi,e⟩
 have To:∀i c,own (ρ.take n) i c->i<n/\own ρ i c:=λi c h=>by
  rcases h with h|h
  ·exact⟨(tk h).1,.inl (tk h).2⟩
  ·exact⟨(tk h).1,.inr (tk h).2⟩
 refine⟨S.fh,S.oh,S.fo,by simp[S.ln],λi d h=>?_,λi c h=>?_,λi j c e a h1 h2 e1 e2=>?_,λi a h=>?_,λi c h=>S.pq i c (tk h).2,S.fb⟩
 ·obtain⟨v,e,r⟩:=S.fz i d (tk h).2;exact⟨v,by rw[ir (tk h).1];exact e,r⟩
 ·obtain⟨a,e,oa⟩:=S.ow i c (To i c h).2;exact⟨a,by rw[ir (To i c h).1];exact e,oa⟩
 ·rw[ir (To i c h1).1]at e1;rw[ir (To j e h2).1]at e2;exact S.dj i j c e a (To i c h1).2 (To j e h2).2 e1 e2
 ·obtain⟨e,c,q⟩:=S.pp i a h;exact⟨by rw[ir (hp i a h)];exact e,c,by rw[ir (hp i a h)];exact q⟩
end
theorem pQ{l l':List α}(h:∀j,j<n->l'[j]? = l[j]?)(hl:l.length=n):l'.take n=l:=by
 apply List.ext_getElem?;intro i;by_cases hi:i<n
 ·rw[ir hi,h i hi]
 ·rw[List.getElem?_eq_none_iff.mpr (by rw[ss];lia),List.getElem?_eq_none_iff.mpr (by lia)]
inductive Kd where
 | z|f|o|p|t|k
 | i (x:Str) (ns:List Str)|j (x:Str) (ns:List Str)
 | n
@[reducible] def OG:List Kd->Type
 | []=>Unit
 | .z::r=>OG r
 | .f::r=>D×OG r
 | .o::r=>List D×OG r
 | .p::r=>List D×OG r
 | .t::r=>List (D×D)×OG r
 | .k::r=>List (D×D)×OG r
 | .i _ _::r=>List D×OG r
 | .j _ _::r=>List D×OG r
 | .n::r=>List NK×OG r
def rd:(sh:List Kd)->En->Option (OG sh)
 | [],[]=>some ()
 | .z::r,x::ρ=>match x with
  | some (.op _)=>none
  | _=>rd r ρ
 | .f::r,x::ρ=>match x with
  | some (.fz d)=>match rd r ρ with
   | some s=>some (d,s)
   | none=>none
  | _=>none
 | .o::r,x::ρ=>match x with
  | some (.ol (.l ds))=>match rd r ρ with
   | some s=>some (ds,s)
   | none=>none
  | _=>none
 | .p::r,x::ρ=>match x with
  | some (.op (.l ds))=>match rd r ρ with
   | some s=>some (ds,s)
   | none=>none
  | _=>none
 | .t::r,x::ρ=>match x with
  | some (.ol (.t ds))=>match rd r ρ with
   | some s=>some (ds,s)
   | none=>none
  | _=>none
 | .k::r,x::ρ=>match x with
  | some (.ol (.k ds))=>match rd r ρ with
   | some s=>some (ds,s)
   | none=>none
  | _=>none
 | .i y ns::r,x::ρ=>match x with
  | some (.ol (.i z ms ds))=>if z=y/\ms=ns then(match rd r ρ with
   | some s=>some (ds,s)
   | none=>none)else none
  | _=>none
 | .j y ns::r,x::ρ=>match x with
  | some (.op (.i z ms ds))=>if z=y/\ms=ns then(match rd r ρ with
   | some s=>some (ds,s)
   | none=>none)else none
  | _=>none
 | .n::r,x::ρ=>match x with
  | some (.ol (.n ds))=>match rd r ρ with
   | some s=>some (ds,s)
   | none=>none
  | _=>none
 | _,_=>none
def wr:(sh:List Kd)->OG sh->En
 | [],_=>[]
 | .z::r,s=>none::wr r s
 | .f::r,s=>some (.fz s.1)::wr r s.2
 | .o::r,s=>some (.ol (.l s.1))::wr r s.2
 | .p::r,s=>some (.op (.l s.1))::wr r s.2
 | .t::r,s=>some (.ol (.t s.1))::wr r s.2
 | .k::r,s=>some (.ol (.k s.1))::wr r s.2
 | .i y ns::r,s=>some (.ol (.i y ns s.1))::wr r s.2
 | .j y ns::r,s=>some (.op (.i y ns s.1))::wr r s.2
 | .n::r,s=>some (.ol (.n s.1))::wr r s.2
def Wk(w ρ:En):Prop:=w.length=ρ.length/\(∀(i:Nat) (av:AV),w[i]? = some (some av)->ρ[i]? = some (some av))/\(∀(i:Nat) (c:OC),ρ[i]? = some (some (AV.op c))->w[i]? = some (some (AV.op c)))
def gE{w:En}{x:Option AV}(h:Wk w ρ):Wk (x::w) (x::ρ):=by
 refine⟨congrArg (· + 1) h.1,λi av q=>?_,λi c q=>?_⟩
 ·cases i with
  | zero=>exact q
  | succ i=>exact h.2.1 i av q
 ·cases i with
  | zero=>exact q
  | succ i=>exact h.2.2 i c q
def ET{w:En}{x:Option AV}(hx:∀c,x≠some (AV.op c))(h:Wk w ρ):Wk (none::w) (x::ρ):=by
 refine⟨congrArg (· + 1) h.1,λi av q=>?_,λi c q=>?_⟩
 ·cases i with
  | zero=>cases q
  | succ i=>exact h.2.1 i av q
 ·cases i with
  | zero=>exact absurd (Option.some.inj q) (hx c)
  | succ i=>exact h.2.2 i c q
def ji:∀(sh:List Kd) (ρ:En) (s:OG sh),rd sh ρ=some s->Wk (wr sh s) ρ
 | [],[],s,h=>⟨rfl,λi av q=>q,λi c q=>q⟩
 | [],_::_,s,h=>by cases h
 | a::r,[],s,h=>by cases a<;>cases h
 | .z::r,x::ρ,s,h=>by
  dsimp only[rd]at h;split at h
  ·cases h
  ·rename_i hx;exact ET hx (ji r ρ s h)
 | .f::r,x::ρ,s,h=>by
  dsimp only[rd]at h;split at h
  ·split at h
   ·rename_i s' e
    cases h
    exact gE (ji r ρ s' e)
   ·cases h
  ·cases h
 | .o::r,x::ρ,s,h=>by
  dsimp only[rd]at h;split at h
  ·split at h
   ·rename_i s' e
    cases h
    exact gE (ji r ρ s' e)
   ·cases h
  ·cases h
 | .p::r,x::ρ,s,h=>by
  dsimp only[rd]at h;split at h
  ·split at h
   ·rename_i s' e
    cases h
    exact gE (ji r ρ s' e)
   ·cases h
  ·cases h
 | .t::r,x::ρ,s,h=>by
  dsimp only[rd]at h;split at h
  ·split at h
   ·rename_i s' e
    cases h
    exact gE (ji r ρ s' e)
   ·cases h
  ·cases h
 | .k::r,x::ρ,s,h=>by
  dsimp only[rd]at h;split at h
  ·split at h
   ·rename_i s' e
    cases h
    exact gE (ji r ρ s' e)
   ·cases h
  ·cases h
 | .i y ns::r,x::ρ,s,h=>by
  dsimp only[rd]at h;split at h
  ·split at h
   ·rename_i hc;split at h
    ·rename_i s' e
     cases h
     obtain⟨rfl,rfl⟩:=hc;exact gE (ji r ρ s' e)
    ·cases h
   ·cases h
  ·cases h
 | .j y ns::r,x::ρ,s,h=>by
  dsimp only[rd]at h;split at h
  ·split at h
   ·rename_i hc;split at h
    ·rename_i s' e
     cases h
     obtain⟨rfl,rfl⟩:=hc;exact gE (ji r ρ s' e)
    ·cases h
   ·cases h
  ·cases h
 | .n::r,x::ρ,s,h=>by
  dsimp only[rd]at h;split at h
  ·split at h
   ·rename_i s' e
    cases h
    exact gE (ji r ρ s' e)
   ·cases h
  ·cases h
theorem _root_.L3.c_.rd{sh:List Kd}{s:OG sh}(S:c_ K G F Z H ρ)(h:L4.rd sh ρ=some s):c_ K G F Z H (wr sh s):=by
 obtain⟨h1,h2,h3⟩:=ji sh ρ s h;exact S.weak h1 h2 h3
def P2{S:Type}(sh:List Kd)(k:OG sh->M S)(ρ:En):M S:=match rd sh ρ with
 | some s=>k s
 | none=>.bad
abbrev Ev(S α:Type):=(Ex->En->M S)->(α->En->M S)->En->M S
structure KS(S:Type) where
 nx:En->M S
 rt:D->En->M S
 rl:OC->En->M S
 bk:En->M S
 ct:En->M S
 x:Ex->En->M S
def Ro{S:Type}(OK:M S->Prop):Prop:=¬ OK .bad
def XL{S:Type}(X:Cx)(OK:M S->Prop)(x:Ex->En->M S)(G:Gh):Prop:=∀F ρ e,OK (x e ρ)->XW X G F ρ e
def AE{S:Type}(X:Cx)(e:Expr)(m:Ev S D):Prop :=
 ∀(OK:M S->Prop) (x:Ex->En->M S) (k:D->En->M S) (G:Gh) (F:Hp) (Z:L2.St) (H:Hp) (ρ:En) (Q:VK),Ro OK->XL X OK x G->c_ X.K G F Z H ρ->OK (m x k ρ) ->
  (∀d v F' H' ρ',f_ F F'->c_ X.K G F' Z H' ρ'->Rep X.K F' v d->OK (k d ρ')->Q v H')->fR X e Z H Q
def U9{S:Type}(X:Cx)(e:Expr)(m:Ev S Bool):Prop :=
 ∀(OK:M S->Prop) (x:Ex->En->M S) (k:Bool->En->M S) (G:Gh) (F:Hp) (Z:L2.St) (H:Hp) (ρ:En) (Q:Bool->Hp->Prop),Ro OK->XL X OK x G->c_ X.K G F Z H ρ->OK (m x k ρ) ->
  (∀d F' H' ρ',f_ F F'->c_ X.K G F' Z H' ρ'->OK (k d ρ')->Q d H')->sB X e Z H Q
def AEw{S:Type}(X:Cx)(e:Expr)(m:Ev S Bool):Prop :=
 ∀(OK:M S->Prop) (x:Ex->En->M S) (k:Bool->En->M S) (G:Gh) (F:Hp) (Z:L2.St) (H:Hp) (ρ:En) (Q:Bool->Hp->Prop),Ro OK->XL X OK x G->c_ X.K G F Z H ρ->OK (m x k ρ) ->
  (∀d F' H' ρ',f_ F F'->c_ X.K G F' Z H' ρ'->OK (k d ρ')->Q d H')->sA X e Z H Q
def AEb{S:Type}(X:Cx)(e:Expr)(m:Ev S Bool):Prop :=
 ∀(OK:M S->Prop) (x:Ex->En->M S) (k:Bool->En->M S) (G:Gh) (F:Hp) (Z:L2.St) (H:Hp) (ρ:En) (Q:VK),Ro OK->XL X OK x G->c_ X.K G F Z H ρ->OK (m x k ρ) ->
  (∀d F' H' ρ',f_ F F'->c_ X.K G F' Z H' ρ'->OK (k d ρ')->Q (.bl d) H')->fR X e Z H Q
def We{S:Type}(X:Cx)(es:List Expr)(m:Ev S (List D)):Prop :=
 ∀(OK:M S->Prop) (x:Ex->En->M S) (k:List D->En->M S) (G:Gh) (F:Hp) (Z:L2.St) (H:Hp) (ρ:En) (Q:List V->Hp->Prop),Ro OK->XL X OK x G->c_ X.K G F Z H ρ->OK (m x k ρ) ->
  (∀ds vs F' H' ρ',f_ F F'->c_ X.K G F' Z H' ρ'->vs.length=es.length->h_ X.K F' vs ds->OK (k ds ρ')->Q vs H')->gc X es Z H Q
def YA{S:Type}(X:Cx)(e:Expr)(m:Ev S (List D)):Prop :=
 ∀(OK:M S->Prop) (x:Ex->En->M S) (k:List D->En->M S) (G:Gh) (F:Hp) (Z:L2.St) (H:Hp) (ρ:En) (Q:VK),Ro OK->XL X OK x G->c_ X.K G F Z H ρ->OK (m x k ρ) ->
  (∀ds v F' H' ρ',f_ F F'->c_ X.K G F' Z H' ρ'->Frs X.K G F' Z H' ρ' v (.l ds)->OK (k ds ρ')->Q v H')->fR X e Z H Q
def V0{S α:Type}(p:Pu α):Ev S α:=λx k ρ=>(p ρ).on (λe=>x e ρ) (λa=>k a ρ)
section
variable {OK:M S->Prop} {x:Ex->En->M S} {k:α->En->M S} {p:Pu α} {C:α->Hp->Hp->Prop}
def W.of(hO:Ro OK)(hX:XL X OK x G)(h:OK (V0 p x k ρ))(w:∀a F' H',f_ F F'->c_ X.K G F' Z H' ρ->OK (k a ρ)->C a F' H'):W X G F Z ρ (p ρ) C:=by
 unfold V0 at h
 cases hp:p ρ with
 | ret a=>rw[hp]at h;exact λF' H' s S'=>w a F' H' s S' h
 | exc e=>rw[hp]at h;exact hX F ρ e h
 | bad=>rw[hp]at h;exact hO h
end
section
variable {a c:Expr} {rest:List Expr} {p:Pu D} {pt:Pu Bool} {ps:Pu (List D)}
def ak(h:AP X e p):AE (S:=S) X e (V0 p):=λOK x k G F Z H ρ Q hO hX St ok kk=>h G F Z H ρ Q St (W.of hO hX ok λd F' H' s S' o v r=>kk d v F' H' ρ s S' r o)
def bf(h:AT X e pt):U9 (S:=S) X e (V0 pt):=λOK x k G F Z H ρ Q hO hX St ok kk=>h G F Z H ρ Q St (W.of hO hX ok λd F' H' s S' o=>kk d F' H' ρ s S' o)
def eW(h:AL X e ps):YA (S:=S) X e (V0 ps):=λOK x k G F Z H ρ Q hO hX St ok kk=>h G F Z H ρ Q St (W.of hO hX ok λd F' H' s S' o v r=>kk d v F' H' ρ s S' r o)
def eB(m:Ev S Bool):Ev S D:=λx k ρ=>m x (λb ρ1=>k (.bool b) ρ1) ρ
def eZ(m:Ev S (List D)):Ev S D:=λx k ρ=>m x (λds ρ1=>k (.list ds) ρ1) ρ
def Jp(f:D->D->Option D)(a b:Ev S D):Ev S D:=λx k ρ=>a x (λd ρ1=>b x (λd2 ρ2=>(oM (f d d2)).on (λe=>x e ρ2) (λr=>k r ρ2)) ρ1) ρ
def Hu(f:D->D->Option Bool)(a b:Ev S D):Ev S Bool:=λx k ρ=>a x (λd ρ1=>b x (λd2 ρ2=>(oM (f d d2)).on (λe=>x e ρ2) (λr=>k r ρ2)) ρ1) ρ
def MH:Ev S (List D):=λ_ k ρ=>k [] ρ
def LD(m:Ev S D)(ms:Ev S (List D)):Ev S (List D):=λx k ρ=>m x (λd ρ1=>ms x (λds ρ2=>k (d::ds) ρ2) ρ1) ρ
def MG(ms:Ev S (List D)):Ev S D:=λx k ρ=>ms x (λds ρ1=>k (.tuple ds) ρ1) ρ
def LE(f:List D->Option D)(ms:Ev S (List D)):Ev S D:=λx k ρ=>ms x (λds ρ1=>(oM (f ds)).on (λe=>x e ρ1) (λr=>k r ρ1)) ρ
def MJ(a b:Ev S Bool):Ev S Bool:=λx k ρ=>a x (λt ρ1=>if t then b x k ρ1 else k false ρ1) ρ
def eIf{α:Type}(c:Ev S Bool)(a b:Ev S α):Ev S α:=λx k ρ=>c x (λt ρ1=>if t then a x k ρ1 else b x k ρ1) ρ
def dA{OK:M S->Prop}(hO:Ro OK){o:Option α}{x:Ex->M S}{k:α->M S}(h:OK ((oM o).on x k)):∃a,o=some a/\OK (k a):=by
 cases o with
 | none=>exact(hO h).elim
 | some a=>exact⟨a,rfl,h⟩
def Ji{OK:M S->Prop}(hO:Ro OK){ds:List α}{x:Ex->M S}{k:List α->M S}(h:OK ((cA ds).on x k)):ds.length<=sizeLine/\OK (k ds):=by
 unfold cA at h;split at h
 ·exact⟨by assumption,h⟩
 ·exact(hO h).elim
variable {ma mb m:Ev S D} {ta tb tc:Ev S Bool} {ms:Ev S (List D)}
def ML(h:AEb X e ta):AE X e (eB ta):=λOK x k G F Z H ρ Q hO hX St ok kk=>h OK x _ G F Z H ρ Q hO hX St ok λb F' H' ρ' s S' o=>kk _ _ F' H' ρ' s S' (.bl b) o
def JQ(h:YA X e ms):AE X e (eZ ms):=λOK x k G F Z H ρ Q hO hX St ok kk=>h OK x _ G F Z H ρ Q hO hX St ok λds v F' H' ρ' s S' fr o=>by
 obtain⟨F2,s2,S2,r2⟩:=S'.settle (v:=v) (ds:=ds) fr;exact kk _ v F2 H' ρ' (s.trans s2) S2 r2 o
def pw{OK:M S->Prop}{x:Ex->En->M S}{f:D->D->En->M S}(ha:AE X a ma)(hb:AE X b mb)(hO:Ro OK)(hX:XL X OK x G)(St:c_ X.K G F Z H ρ)
  (ok:OK (ma x (λd ρ1=>mb x (λd2 ρ2=>f d d2 ρ2) ρ1) ρ)) (k:∀u v dx dy F' H' ρ',f_ F F'->c_ X.K G F' Z H' ρ'->Rep X.K F' u dx->Rep X.K F' v dy->OK (f dx dy ρ')->r u v H' Q):Wj r (fR X a) (fR X b) Z H Q :=
 ha OK x _ G F Z H ρ _ hO hX St ok λd v F1 H1 ρ1 s1 S1 r1 o1=>hb OK x _ G F1 Z H1 ρ1 _ hO hX S1 o1 λd2 u F2 H2 ρ2 s2 S2 r2 o2=>k v u d d2 F2 H2 ρ2 (s1.trans s2) S2 (r1.mono s2) r2 o2
def rK{op:Operator}{f:D->D->Option D}(ho:OA X (binaryOp op) r)(hf:T9 X.K r f)(ha:AE X a ma)(hb:AE X b mb):AE X (.BinOp a op b pos) (Jp f ma mb) :=
 λOK x k G F Z H ρ Q hO hX St ok kk=>Po (Dh ho aN aN) (pw ha hb hO hX St ok λu v dx dy F' H' ρ' s S' r1 r2 o=>by
  obtain⟨res,e,o'⟩:=dA hO o
  exact hf G F' Z H' ρ' u v dx dy res Q S' (.inl r1) (.inl r2) e λw F2 H2 s2 S2 r3=>kk res w F2 H2 ρ' (s.trans s2) S2 r3 o')
theorem LN{f:D->D->Option D}(hr:TJ X r)(hf:T9 X.K r f)(ha:AE X a ma)(hb:AE X b mb)(hs:vx b:=by exact λ_ _=>rfl):AE X (.Subscript a b pos) (Jp f ma mb) :=
 λOK x k G F Z H ρ Q hO hX St ok kk=>Po (zT hr aN aN hs) (pw ha hb hO hX St ok λu v dx dy F' H' ρ' s S' r1 r2 o=>by
  obtain⟨res,e,o'⟩:=dA hO o
  exact hf G F' Z H' ρ' u v dx dy res Q S' (.inl r1) (.inl r2) e λw F2 H2 s2 S2 r3=>kk res w F2 H2 ρ' (s.trans s2) S2 r3 o')
theorem GI{f:D->D->Option Bool}(ho:OA X (compareOp op) r)(hf:Uh X.K r f)(ha:AE X a ma)(hb:AE X b mb)(hm:behindInMarks op b=false:=by rfl):AEb X (.Compare a [op] [b] pos) (Hu f ma mb) :=
 λOK x k G F Z H ρ Q hO hX St ok kk=>Po (zV ho aN aN hm) (pw ha hb hO hX St ok λu v dx dy F' H' ρ' s S' r1 r2 o=>by
  obtain⟨res,e,o'⟩:=dA hO o
  exact hf G F' Z H' ρ' u v dx dy res Q S' (.inl r1) (.inl r2) e (kk res F' H' ρ' s S' o'))
theorem pG{f:D->D->Option Bool}(ho:OA X (compareOp op) r)(hf:Uh X.K r f)(ha:AE X a ma)(hb:AE X b mb)(hm:behindInMarks op b=false:=by rfl):U9 X (.Compare a [op] [b] pos) (Hu f ma mb) :=
 λOK x k G F Z H ρ Q hO hX St ok kk=>yh (zM ho aN aN hm) (pw (Q:=λx H'=>∃k,x=.bl k/\Q k H') ha hb hO hX St ok λu v dx dy F' H' ρ' s S' r1 r2 o=>by
  obtain⟨res,e,o'⟩:=dA hO o
  exact hf G F' Z H' ρ' u v dx dy res _ S' (.inl r1) (.inl r2) e ⟨res,rfl,kk res F' H' ρ' s S' o'⟩)
theorem aL:We (S:=S) X [] MH:=λOK x k G F Z H ρ Q hO hX St ok kk=>yj iQ (kk [] [] F H ρ (f_.refl _) St rfl .nil ok)
def aA(h:AE X e m)(hr:We X es ms)(hs:starEach (e::es) X.env=(false,eval e X.env)::starEach es X.env:=by exact fS rfl):We X (e::es) (LD m ms) :=
 λOK x k G F Z H ρ Q hO hX St ok kk=>yj (dR aN cC hs) (h OK x _ G F Z H ρ _ hO hX St ok λd v F1 H1 ρ1 s1 S1 r1 o1 =>
  hr OK x _ G F1 Z H1 ρ1 _ hO hX S1 o1 λds vs F2 H2 ρ2 s2 S2 hl r2 o2=>kk (d::ds) (v::vs) F2 H2 ρ2 (s1.trans s2) S2 (by simp[hl]) (.cons (r1.mono s2) r2) o2)
theorem ly{x1}(h:We X es ms)(hz:es.length<=1000:=by decide +kernel):AE X (.Tuple es x1 pos) (MG ms) :=
 λOK x k G F Z H ρ Q hO hX St ok kk=>Po (yq cC) (h OK x _ G F Z H ρ _ hO hX St ok λds vs F1 H1 ρ1 s1 S1 hl r1 o1=>by
  refine⟨by rw[hl];exact kZ hz,λq hq=>?_⟩;obtain⟨s2,S2,r2⟩:=S1.O7 hq r1
  exact kk _ _ _ _ ρ1 (s1.trans s2) S2 r2 o1)
def EJ(ha:U9 X a ta):AEw X (.BoolOp .And [a] pos) ta:=λOK x k G F Z H ρ Q hO hX St ok kk=>Bd (zJ eM) (ha OK x k G F Z H ρ Q hO hX St ok kk)
def GH(ha:U9 X a ta)(hb:AEw X (.BoolOp .And (b::rest) pos) tb):AEw X (.BoolOp .And (a::b::rest) pos) (MJ ta tb) :=
 λOK x k G F Z H ρ Q hO hX St ok kk=>Bd (C4 eM qj) (ha OK x _ G F Z H ρ _ hO hX St ok λt F1 H1 ρ1 s1 S1 o1=>by
  cases t with
  | true=>refine rX ?_;exact hb OK x k G F1 Z H1 ρ1 Q hO hX S1 o1 λd F2 H2 ρ2 s2 S2 o2=>kk d F2 H2 ρ2 (s1.trans s2) S2 o2
  | false=>refine uT ?_;exact kk false F1 H1 ρ1 s1 S1 o1)
def JP(h:AEw X e ta):U9 X e ta:=λOK x k G F Z H ρ Q hO hX St ok kk=>yh (λa_ s Z H Q I h=>qj _ a_ s Z H Q I h) (h OK x k G F Z H ρ Q hO hX St ok kk)
def Hw(hc:U9 X c tc)(ha:AE X a ma)(hb:AE X b mb):AE X (.IfExp c a b pos) (eIf tc ma mb) :=
 λOK x k G F Z H ρ Q hO hX St ok kk=>Po (v5 eM aN aN) (hc OK x _ G F Z H ρ _ hO hX St ok λt F1 H1 ρ1 s1 S1 o1=>by
  cases t with
  | true=>refine rX ?_;exact ha OK x k G F1 Z H1 ρ1 Q hO hX S1 o1 λd v F2 H2 ρ2 s2 S2 r2 o2=>kk d v F2 H2 ρ2 (s1.trans s2) S2 r2 o2
  | false=>refine uT ?_;exact hb OK x k G F1 Z H1 ρ1 Q hO hX S1 o1 λd v F2 H2 ρ2 s2 S2 r2 o2=>kk d v F2 H2 ρ2 (s1.trans s2) S2 r2 o2)
def h_.ors{ds:List D}(h:h_ K F vs ds):Ui K F H vs ds:=by
 induction vs generalizing ds with
 | nil=>cases h;exact .nil
 | cons v vs ih=>cases h with
  | cons a b=>exact .cons (.inl a) (ih b)
theorem kg{p:Pos}{r:List V->Hp->VK->Prop}{f:List D->Option D}(hc:p_ X (.type T) r)(hf:gC X.K r f)(hm:X.mg x=none)(hv:bootBuiltins x=some (.type T))(ha:We X (e::es) ms)(hg:Gl X x:=by rfl)
  (hn:x ≠ "__name__":=by decide) (P8:(x==("__debug__" : Str))=false:=by decide) (he:starEach (e::es) X.env=(false,eval e X.env)::starEach es X.env:=by rfl) (OY:(backTo pos (starEach es X.env)).any (·.1)=false:=by rfl):AE X (.Call (.Name x p) (e::es) [] pos) (LE f ms) :=
 λOK y k G F Z H ρ Q hO hX St ok kk=>Po (mW hc hg hm hv cC hn P8 he OY) (ha OK y _ G F Z H ρ _ hO hX St ok λds vs F1 H1 ρ1 s1 S1 _ r1 o1=>by
  obtain⟨res,e,o'⟩:=dA hO o1
  exact hf G F1 Z H1 ρ1 vs ds res Q S1 (h_.ors r1) e λw F2 H2 s2 S2 r3=>kk res w F2 H2 ρ1 (s1.trans s2) S2 r3 o')
end
structure Walk(K:Fg)(J:It)(ds:List D)(F:Hp):Prop where
 go:∀(i:Nat) (G:Gh) (F2:Hp) (Z:L2.St) (H2:Hp) (ρ:En),f_ F F2->c_ K G F2 Z H2 ρ->i<ds.length->J.go i H2
 Sw:∀(i:Nat) (G:Gh) (F2:Hp) (Z:L2.St) (H2:Hp) (ρ:En) (x:V) (H3:Hp) (d:D),f_ F F2->c_ K G F2 Z H2 ρ->ds[i]? = some d->J.Sw i H2 x H3->∃F3,f_ F2 F3/\c_ K G F3 Z H3 ρ/\Rep K F3 x d
 stop:∀(G:Gh) (F2:Hp) (Z:L2.St) (H2:Hp) (ρ:En),f_ F F2->c_ K G F2 Z H2 ρ->J.stop ds.length H2
def A5{ds:List D}(h:Ot K F a vs)(r:h_ K F vs ds):Walk K (Yw K a) ds F where
 go:=λi G F2 Z H2 ρ s S hi=>by
  have Sf:i<vs.length:=by rw[r.length];exact hi
  exact⟨vs,vs[i],S.fh.seq (s.seq h),by simp[Sf]⟩
 Sw:=λi G F2 Z H2 ρ x H3 d s S hd ⟨e,q⟩=>by
  subst e;obtain⟨v,e1,e2⟩:=r.get hd;have:=q vs (S.fh.seq (s.seq h));rw[e1]at this
  cases this
  exact⟨F2,f_.refl _,S,e2.mono s⟩
 stop:=λG F2 Z H2 ρ s S=>⟨vs,S.fh.seq (s.seq h),by rw[r.length];exact ai _⟩
def Co{ds:List D}(h:N_ K F a vs)(r:h_ K F vs ds):Walk K (Z1 K a) ds F where
 go:=λi G F2 Z H2 ρ s S hi=>by
  have Sf:i<vs.length:=by rw[r.length];exact hi
  exact⟨vs,vs[i],bt S.fh (bt s h),by simp[Sf]⟩
 Sw:=λi G F2 Z H2 ρ x H3 d s S hd ⟨e,q⟩=>by
  subst e;obtain⟨v,e1,e2⟩:=r.get hd;have:=q vs (bt S.fh (bt s h));rw[e1]at this
  cases this
  exact⟨F2,f_.refl _,S,e2.mono s⟩
 stop:=λG F2 Z H2 ρ s S=>⟨vs,bt S.fh (bt s h),by rw[r.length];exact ai _⟩
def iP(lo:Int)(n:Nat):List D:=(List.range n).map λ(i:Nat)=>PyData.int (lo+(i:Int))
def gV(lo:Int)(n:Nat):(iP lo n).length=n:=by simp[iP]
def pK(lo:Int)(n:Nat):Walk K (X3 lo n) (iP lo n) F where
 go:=λi G F2 Z H2 ρ s S hi=>by rw[gV]at hi;exact hi
 Sw:=λi G F2 Z H2 ρ x H3 d s S hd ⟨e,q⟩=>by
  subst e q;have e':(iP lo n)[i]? = some d:=hd;unfold iP at e';rw[fu]at e';have hi:i<n:=by
   have:=(List.getElem?_eq_some_iff.mp hd).1;rw[gV]at this;exact this
  rw[Nz hi]at e'
  cases e'
  exact⟨F2,f_.refl _,S,.int _⟩
 stop:=λG F2 Z H2 ρ s S=>by rw[gV];exact ai _
@[irreducible] def jh(X:Cx)(tg iter:Expr):TI:=λZ H R=>∀(a_:K_) (s:Shared),Inv X a_ Z H s->wpAny (model X.prog X.w) X.A (eval iter X.env) (λv s1=>wpAny (model X.prog X.w) X.A (pyIter v) (PIE X a_ Z tg R) X.xe s1) X.xe s
theorem qp:PI X tg e (jh X tg e):=λa_ s Z H R I h=>by unfold jh at h;exact h a_ s I
theorem vR{t:TI}(h:PI X tg e t)(q:t Z H R):jh X tg e Z H R:=by unfold jh;exact λa_ s I=>h a_ s Z H R I q
def AI(X:Cx)(tg e:Expr)(p:Pu (List D)):Prop :=
 ∀(G:Gh) (F:Hp) (Z:L2.St) (H:Hp) (ρ:En) (R:It->Hp->Prop),c_ X.K G F Z H ρ->W X G F Z ρ (p ρ) (λds F' H'=>∀J,Walk X.K J ds F'->R J H')->jh X tg e Z H R
def YB{S:Type}(X:Cx)(tg e:Expr)(m:Ev S (List D)):Prop :=
 ∀(OK:M S->Prop) (x:Ex->En->M S) (k:List D->En->M S) (G:Gh) (F:Hp) (Z:L2.St) (H:Hp) (ρ:En) (R:It->Hp->Prop),Ro OK->XL X OK x G->c_ X.K G F Z H ρ->OK (m x k ρ) ->
  (∀ds J F' H' ρ',f_ F F'->c_ X.K G F' Z H' ρ'->Walk X.K J ds F'->OK (k ds ρ')->R J H')->jh X tg e Z H R
def bS{ps:Pu (List D)}(h:AI X tg e ps):YB (S:=S) X tg e (V0 ps):=λOK x k G F Z H ρ Q hO hX St ok kk=>h G F Z H ρ Q St (W.of hO hX ok λd F' H' s S' o v r=>kk d v F' H' ρ s S' r o)
def MD(K:Fg)(tl:TE):TI:=λZ H R=>tl Z H λx H1=>(∃a,x=.ref a/\(∃xs,Ot K H1 a xs)/\R (Yw K a) H1)\/∃a,x=.ref a/\(∃xs,N_ K H1 a xs)/\R (Z1 K a) H1
def Ih{l:Expr}{tl:TE}(hl:PE X l tl):PI X tg l (MD X.K tl):=by
 intro a_ s Z H R I h;refine u_ (hl a_ s Z H _ I h) λv s1 ⟨x,H1,I1,r1,q1⟩=>?_
 rcases q1 with ⟨a,e,⟨xs,hq⟩,q⟩|⟨a,e,⟨xs,hq⟩,q⟩
 ·subst e
  cases r1
  obtain⟨k_,rv,p,hz⟩:=I1.list hq;refine Na p.isList ?_;refine⟨s1.heap.objs.size,[s1.heap.objs.size],_,_,H1,rfl,I1.kept (t':=s1.toks) λb o e=>Od _ e,mO a _,⟨_,OX _ rfl,rfl,rfl⟩,λb hb=>?_,q⟩;have e:b=s1.heap.objs.size:=by simpa using hb
  subst e;exact I1.Pm (ai _) (I1.n_.fresh (ai _))
 ·subst e
  cases r1
  obtain⟨k_,rv,p,hz⟩:=I1.tuple hq;refine ue (show s1.heap.IsTuple a k_.toArray from p) ?_;refine⟨s1.heap.objs.size,[s1.heap.objs.size],_,_,H1,rfl,I1.kept (t':=s1.toks) λb o e=>Od _ e,pP a _,⟨_,OX _ rfl,rfl,rfl⟩,λb hb=>?_,q⟩;have e:b=s1.heap.objs.size:=by simpa using hb
  subst e;exact I1.Pm (ai _) (I1.n_.fresh (ai _))
def dQ:D->Option (List D)
 | .list ds=>some ds
 | .tuple ds=>some ds
 | _=>none
def pIt(p:Pu D):Pu (List D):=λρ=>bd (p ρ) λd=>oM (dQ d)
def iJ(i:Int):Bool:=decide (-(2^62)<=i)&&decide (i<2^62)
def eK{i:Int}(h:iJ i=true) : -(2^62)<=i/\i<2^62:=by
 unfold iJ at h;simp only[am,OB]at h;exact h
def bx:List D->Option (List D)
 | [.int j]=>if iJ j then some (iP 0 j.toNat)else none
 | _=>none
def gO:List D->Option (List D)
 | [.int i,.int j]=>if iJ i&&iJ j then some (iP i (j - i).toNat)else none
 | _=>none
def Jo{S:Type}(f:List D->Option (List D))(ms:Ev S (List D)):Ev S (List D):=λx k ρ=>ms x (λds ρ1=>(oM (f ds)).on (λe=>x e ρ1) (λr=>k r ρ1)) ρ
section
variable {a:Expr} {pp:Pu D} {ps:Pa (List D)} {m:Ev S D} {ms:Ev S (List D)}
def vQ{d:D}{ds:List D}(s:f_ F H)(r:Rep X.K F v d)(hd:dQ d=some ds)(k:∀J,Walk X.K J ds F->R J H) :
  (∃a,v=.ref a/\(∃xs,Ot X.K H a xs)/\R (Yw X.K a) H)\/∃a,v=.ref a/\(∃xs,N_ X.K H a xs)/\R (Z1 X.K a) H:=by
 cases d with
 | list xs =>
  cases hd
  obtain⟨a,vs,rfl,h1,h2⟩:=r.lst_inv;exact .inl ⟨_,rfl,⟨_,s.seq h1⟩,k _ (A5 h1 h2)⟩
 | tuple xs =>
  cases hd
  obtain⟨a,vs,rfl,h1,h2⟩:=r.OZ;exact .inr ⟨_,rfl,⟨_,N_.of (s _ _ h1)⟩,k _ (Co (N_.of h1) h2)⟩
 | _=>exact QK hd
def dg(h:AP X e pp):AI X tg e (pIt pp):=λG F Z H ρ R S w=>vR (Ih aN) (h G F Z H ρ _ S (w.bind.imp λd F1 H1 s1 S1 w1 v r1=>by
 obtain⟨ds,hd,k⟩:=w1.opt
 exact vQ S1.fh r1 hd (k F1 H1 (f_.refl _) S1)))
def sV{ds out:List D}(r:h_ X.K F vs ds)(h:bx ds=some out)(k:∀J,Walk X.K J out F->R J H):∃j,vs=[.int j] /\ -(2^62)<=j/\j<2^62/\R (X3 0 j.toNat) H:=by
 unfold bx at h;split at h
 ·rename_i j;split at h
  ·rename_i hs
   cases h
   obtain⟨v,rfl,r1⟩:=r.QT;obtain rfl:=r1.int_inv;exact⟨j,rfl,(eK hs).1,(eK hs).2,k _ (pK 0 j.toNat)⟩
  ·cases h
 ·cases h
def Bi{ds out:List D}(r:h_ X.K F vs ds)(h:gO ds=some out)(k:∀J,Walk X.K J out F->R J H) :
  ∃i j,vs=[.int i,.int j]/\(-(2^62)<=i/\i<2^62 /\ -(2^62)<=j/\j<2^62)/\R (X3 i (j - i).toNat) H:=by
 unfold gO at h;split at h
 ·rename_i i j;split at h
  ·rename_i hs
   cases h
   rw[am]at hs;obtain⟨v,u,rfl,r1,r3⟩:=r.Th;obtain rfl:=r1.int_inv;obtain rfl:=r3.int_inv;exact⟨i,j,rfl,⟨(eK hs.1).1,(eK hs.1).2,(eK hs.2).1,(eK hs.2).2⟩,k _ (pK i (j - i).toNat)⟩
  ·cases h
 ·cases h
def bI(hg:Gl X "range")(hm:X.mg "range"=none)(ha:AA X [a] ps)(hs:starEach [a] X.env=[(false,eval a X.env)]):AI X tg (.Call (.Name "range" p) [a] [] pos) (kU bx ps) :=
 λG F Z H ρ R S w=>vR (sX hg hm cC hs) (ha G F Z H ρ _ _ _ S w λds vs F1 H1 s1 S1 _ r1 w1=>by
  obtain⟨out,hd,k⟩:=w1.opt
  exact sV r1 hd (k F1 H1 (f_.refl _) S1))
def nL(hg:Gl X "range")(hm:X.mg "range"=none)(ha:AA X [a,b] ps)(hs:starEach [a,b] X.env=[(false,eval a X.env),(false,eval b X.env)])(Rn:starEach [b] X.env=[(false,eval b X.env)]):AI X tg (.Call (.Name "range" p) [a,b] [] pos) (kU gO ps) :=
 λG F Z H ρ R S w=>vR (Bl hg hm cC hs Rn) (ha G F Z H ρ _ _ _ S w λds vs F1 H1 s1 S1 _ r1 w1=>by
  obtain⟨out,hd,k⟩:=w1.opt
  exact Bi r1 hd (k F1 H1 (f_.refl _) S1))
def zm(hg:Gl X "range")(hm:X.mg "range"=none)(ha:We X [a] ms)(hs:starEach [a] X.env=[(false,eval a X.env)]):YB X tg (.Call (.Name "range" p) [a] [] pos) (Jo bx ms) :=
 λOK x k G F Z H ρ R hO hX St ok kk=>vR (sX hg hm cC hs) (ha OK x _ G F Z H ρ _ hO hX St ok λds vs F1 H1 ρ1 s1 S1 _ r1 o1=>by
  obtain⟨out,hd,o⟩:=dA hO o1
  exact sV r1 hd λJ wk=>kk out J F1 H1 ρ1 s1 S1 wk o)
end
abbrev Tg(S:Type):=D->(En->M S)->En->M S
def gJ(ρ:En)(i:Nat):Bool:=decide (i<ρ.length)&&(match ρ[i]? with
 | some (some (.op _))=>false
 | _=>true)
def dD(h:gJ ρ i=true):i<ρ.length/\∀c,ρ[i]? ≠ some (some (.op c)):=by
 unfold gJ at h;rw[am]at h;refine⟨by simpa using h.1,λc e=>?_⟩;rw[e]at h;exact absurd h.2 (by simp)
@[irreducible] def sC(X:Cx)(tg:Expr):TG:=λv Z H Q=>∀(a_:K_) (s:Shared) (u:Value),Inv X a_ Z H s->RelV v u->wpAny (model X.prog X.w) X.A (assign tg X.env u) (λ_ s'=>∃σ' H',Inv X a_ σ' H' s'/\Q σ' H') X.xe s
@[irreducible] def pR(X:Cx)(Vf:List Expr):Wb:=λvs Z H Q=>∀(a_:K_) (s:Shared) (us:List Value),Inv X a_ Z H s->Vals vs us->wpAny (model X.prog X.w) X.A (assignInOrder ((assignEach Vf X.env).map (·.2)) us) (λ_ s'=>∃σ' H',Inv X a_ σ' H' s'/\Q σ' H') X.xe s
theorem kS:PG X tg (sC X tg):=λa_ s Z H v u Q I r h=>by unfold sC at h;exact h a_ s u I r
theorem zR{Vf:List Expr}:Yv X Vf (pR X Vf):=λa_ s Z H vs us Q I r h=>by unfold pR at h;exact h a_ s us I r
theorem Kj{t:TG}{Q:L2.St->Hp->Prop}(h:PG X tg t)(q:t v Z H Q):sC X tg v Z H Q:=by unfold sC;exact λa_ s u I r=>h a_ s Z H v u Q I r q
theorem GU{Vf:List Expr}{t:Wb}{Q:L2.St->Hp->Prop}(h:Yv X Vf t)(q:t vs Z H Q):pR X Vf vs Z H Q:=by unfold pR;exact λa_ s us I r=>h a_ s Z H vs us Q I r q
def AG{S:Type}(X:Cx)(n:Nat)(tg:Expr)(st:Tg S):Prop :=
 ∀(OK:M S->Prop) (k:En->M S) (G:Gh) (F:Hp) (Z:L2.St) (H:Hp) (ρ:En) (v:V) (d:D) (Q:L2.St->Hp->Prop),Ro OK->c_ X.K G F Z H ρ->Rep X.K F v d->OK (st d k ρ) ->
  (∀σ' ρ',c_ X.K G F σ' H ρ'->(∀j,j<n->σ'[j]? = Z[j]? /\ ρ'[j]? = ρ[j]?)->σ'.length=Z.length->ρ'.length=ρ.length->OK (k ρ')->Q σ' H)->sC X tg v Z H Q
def Yz{S:Type}(X:Cx)(n:Nat)(Vf:List Expr)(st:List D->(En->M S)->En->M S):Prop :=
 ∀(OK:M S->Prop) (k:En->M S) (G:Gh) (F:Hp) (Z:L2.St) (H:Hp) (ρ:En) (vs:List V) (ds:List D) (Q:L2.St->Hp->Prop),Ro OK->c_ X.K G F Z H ρ->h_ X.K F vs ds->OK (st ds k ρ) ->
  (∀σ' ρ',c_ X.K G F σ' H ρ'->(∀j,j<n->σ'[j]? = Z[j]? /\ ρ'[j]? = ρ[j]?)->σ'.length=Z.length->ρ'.length=ρ.length->OK (k ρ')->Q σ' H)->pR X Vf vs Z H Q
def Lz{S:Type}(i:Nat):Tg S:=λd k ρ=>match gJ ρ i with
 | true=>k (ρ.set i (some (.fz d)))
 | false=>.bad
def Lx{S:Type}:List D->(En->M S)->En->M S
 | [],k,ρ=>k ρ
 | _,_,_=>.bad
def Jb{S:Type}(t:Tg S)(ts:List D->(En->M S)->En->M S):List D->(En->M S)->En->M S
 | d::ds,k,ρ=>t d (λρ1=>ts ds k ρ1) ρ
 | [],_,_=>.bad
def QQ{S:Type}(d:D)(k:D->D->M S):M S:=match d with
 | .tuple [a,b]=>k a b
 | _=>.bad
def X7{S:Type}(d:D)(k:D->D->D->D->M S):M S:=match d with
 | .tuple [a,b,c,e]=>k a b c e
 | _=>.bad
def Hq{S:Type}(ts:List D->(En->M S)->En->M S):Tg S:=λd k ρ=>QQ d λa b=>ts [a,b] k ρ
def Ho{S:Type}(ts:List D->(En->M S)->En->M S):Tg S:=λd k ρ=>X7 d λa b c e=>ts [a,b,c,e] k ρ
section
theorem aC(hn:n<=i)(hN:X.N.Nodup)(hi:X.N[i]? = some x:=by rfl)(hx:Loc X.env.scope x:=by exact lo rfl)(hf:X.fn x=true\/X.env.scope.names.lookup x=some .local:=by first|exact .inl rfl|exact .inr rfl):AG (S:=S) X n (.Name x pos) (Lz i):=by
 intro OK k G F Z H ρ v d Q hO S r ok kk;unfold Lz at ok;split at ok
 ·rename_i ho;obtain⟨hl,Rt⟩:=dD ho;refine Kj (lH hN hi hx hf) ?_;exact kk _ _ (S.store Rt hl (.inl ⟨d,rfl,r⟩)) (λj hj=>⟨ba (by lia),ba (by lia)⟩) (by simp) (by simp) ok
 ·exact(hO ok).elim
theorem dH:Yz (S:=S) X n [] Lx:=by
 intro OK k G F Z H ρ vs ds Q hO S r ok kk
 cases ds with
 | nil =>
  cases r
  exact GU zS ⟨rfl,kk Z ρ S (λ_ _=>⟨rfl,rfl⟩) rfl rfl ok⟩
 | cons d ds=>exact(hO ok).elim
def bi{st:Tg S}{QI:List D->(En->M S)->En->M S}(h1:AG X n e st)(h2:Yz X n es QI)
  (hs:(assignEach (e::es) X.env).map (·.2)=assign e X.env::(assignEach es X.env).map (·.2)):Yz X n (e::es) (Jb st QI):=by
 intro OK k G F Z H ρ vs ds Q hO S r ok kk
 cases ds with
 | nil=>exact(hO ok).elim
 | cons d ds =>
  cases r with
  | cons rv rr =>
   refine GU (qq kS zR hs) ⟨_,_,rfl,?_⟩;refine h1 OK _ G F Z H ρ _ d _ hO S rv ok λσ1 ρ1 S1 kp1 l1 m1 o1=>?_
   exact h2 OK k G F σ1 H ρ1 _ ds _ hO S1 rr o1 λσ2 ρ2 S2 kp2 l2 m2 o2=>kk σ2 ρ2 S2 (λj hj=>⟨(kp2 j hj).1.trans (kp1 j hj).1,(kp2 j hj).2.trans (kp1 j hj).2⟩) (l2.trans l1) (m2.trans m1) o2
def AQ{l:Nat}{QI:List D->(En->M S)->En->M S}{st:Tg S}(hc:X.calm=true)(h:Yz X n es QI)(hn:(assignEach es X.env).length=l)(TV:(assignEach es X.env).findIdx? (·.1)=none)
  (hw:∀(OK:M S->Prop) d k ρ,Ro OK->OK (st d k ρ)->∃ds,d=.tuple ds/\ds.length=l/\OK (QI ds k ρ)):AG X n (.Tuple es kk pos) st:=by
 intro OK k G F Z H ρ v d Q hO S r ok k2;obtain⟨ds,rfl,hl,ok⟩:=hw OK d k ρ hO ok
 cases r with
 | tup h1 h2 =>
  refine Kj (Dg hc zR hn TV) ⟨_,_,rfl,N_.of (S.fh _ _ h1),by rw[h2.length];exact hl,?_⟩;exact h OK k G F Z H ρ _ ds _ hO S h2 ok k2
def e9{QI:List D->(En->M S)->En->M S}(hc:X.calm=true)(h:Yz X n es QI)(hn:(assignEach es X.env).length=2)(TV:(assignEach es X.env).findIdx? (·.1)=none):AG X n (.Tuple es kk pos) (Hq QI) :=
 AQ hc h hn TV λOK d k ρ hO o=>by
  unfold Hq QQ at o;split at o
  ·exact⟨_,rfl,rfl,o⟩
  ·exact(hO o).elim
def AR{QI:List D->(En->M S)->En->M S}(hc:X.calm=true)(h:Yz X n es QI)(hn:(assignEach es X.env).length=4)(TV:(assignEach es X.env).findIdx? (·.1)=none):AG X n (.Tuple es kk pos) (Ho QI) :=
 AQ hc h hn TV λOK d k ρ hO o=>by
  unfold Ho X7 at o;split at o
  ·exact⟨_,rfl,rfl,o⟩
  ·exact(hO o).elim
end
abbrev SM(S:Type):=KS S->En->M S
structure Yx{S:Type}(X:Cx)(OK:M S->Prop)(K:KS S)(G:Gh)(F:Hp)(E:Ends):Prop where
 nx:∀F' σ' H' ρ',f_ F F'->c_ X.K G F' σ' H' ρ'->OK (K.nx ρ')->E.nx σ' H'
 rt:∀F' σ' H' ρ' d v,f_ F F'->c_ X.K G F' σ' H' ρ'->Rep X.K F' v d->OK (K.rt d ρ')->E.rt v H'
 rl:∀F' σ' H' ρ' c v,f_ F F'->c_ X.K G F' σ' H' ρ'->Frs X.K G F' σ' H' ρ' v c->OK (K.rl c ρ')->E.rt v H'
 bk:∀F' σ' H' ρ',f_ F F'->c_ X.K G F' σ' H' ρ'->OK (K.bk ρ')->E.bk σ' H'
 ct:∀F' σ' H' ρ',f_ F F'->c_ X.K G F' σ' H' ρ'->OK (K.ct ρ')->E.ct σ' H'
def Yx.up{OK:M S->Prop}{K:KS S}{E:Ends}(h:Yx X OK K G F E)(s:f_ F F'):Yx X OK K G F' E :=
 ⟨λF2 σ' H' ρ' s2=>h.nx F2 σ' H' ρ' (s.trans s2),λF2 σ' H' ρ' d v s2=>h.rt F2 σ' H' ρ' d v (s.trans s2),λF2 σ' H' ρ' d v s2=>h.rl F2 σ' H' ρ' d v (s.trans s2),λF2 σ' H' ρ' s2=>h.bk F2 σ' H' ρ' (s.trans s2),λF2 σ' H' ρ' s2=>h.ct F2 σ' H' ρ' (s.trans s2)⟩
@[irreducible] def jg(X:Cx)(st:Stmt):TS:=λE Z H=>∀(a_:K_) (s:Shared),Inv X a_ Z H s->wpAny (model X.prog X.w) X.A (exec st X.env) (SP X a_ E) X.xe s
@[irreducible] def h7(X:Cx)(QI:List Stmt):TS:=λE Z H=>∀(a_:K_) (s:Shared),Inv X a_ Z H s->wpAny (model X.prog X.w) X.A (execs QI X.env) (SP X a_ E) X.xe s
section
variable {QI:List Stmt} {E:Ends} {t:TS}
theorem C7:PS X st (jg X st):=λa_ s Z H E I h=>by unfold jg at h;exact h a_ s I
theorem eX:SF X QI (h7 X QI):=λa_ s Z H E I h=>by unfold h7 at h;exact h a_ s I
theorem ik(h:PS X st t)(q:t E Z H):jg X st E Z H:=by unfold jg;exact λa_ s I=>h a_ s Z H E I q
theorem CM(h:SF X QI t)(q:t E Z H):h7 X QI E Z H:=by unfold h7;exact λa_ s I=>h a_ s Z H E I q
end
def AS{S:Type}(X:Cx)(st:Stmt)(m:SM S):Prop :=
 ∀(OK:M S->Prop) (K:KS S) (G:Gh) (F:Hp) (Z:L2.St) (H:Hp) (ρ:En) (E:Ends),Ro OK->XL X OK K.x G->c_ X.K G F Z H ρ->OK (m K ρ)->Yx X OK K G F E->jg X st E Z H
def RK{S:Type}(X:Cx)(st:List Stmt)(m:SM S):Prop :=
 ∀(OK:M S->Prop) (K:KS S) (G:Gh) (F:Hp) (Z:L2.St) (H:Hp) (ρ:En) (E:Ends),Ro OK->XL X OK K.x G->c_ X.K G F Z H ρ->OK (m K ρ)->Yx X OK K G F E->h7 X st E Z H
section
def Kn:SM S:=λK ρ=>K.nx ρ
def Mb(m n:SM S):SM S:=λK ρ=>m { K with nx:=λρ1=>n K ρ1 } ρ
def sIf(c:Ev S Bool)(m n:SM S):SM S:=λK ρ=>c K.x (λb ρ1=>if b then m K ρ1 else n K ρ1) ρ
def sTo(sh:List Kd)(m:SM S):SM S:=λK ρ=>m { K with nx:=λρ1=>P2 sh (λs=>K.nx (wr sh s)) ρ1 } ρ
def Kl(i:Nat)(m:Ev S D):SM S:=λK ρ=>m K.x (λd ρ1=>match gJ ρ1 i with
 | true=>K.nx (ρ1.set i (some (.fz d)))
 | false=>.bad) ρ
def GW(i:Nat)(m:Ev S (List D)):SM S:=λK ρ=>m K.x (λds ρ1=>match gJ ρ1 i with
 | true=>K.nx (ρ1.set i (some (.ol (.l ds))))
 | false=>.bad) ρ
def Mg(t:Tg S)(m:Ev S D):SM S:=λK ρ=>m K.x (λd ρ1=>t d K.nx ρ1) ρ
def Mc(m:Ev S D):SM S:=λK ρ=>m K.x K.rt ρ
def Km(m:Ev S (List D)):SM S:=λK ρ=>m K.x (λds=>K.rl (.l ds)) ρ
def Kp(m:Ev S D):SM S:=λK ρ=>m K.x (λ_ ρ1=>K.nx ρ1) ρ
def Ko(i:Nat)(m:SM S):SM S:=λK ρ=>match ρ[i]? with
 | some (some (.ol c))=>if c.Ya then .bad else m K (ρ.set i (some (.fz c.d)))
 | _=>.bad
def oE(ρ:En)(i:Nat)(ds:List D):En:=match ρ[i]? with
 | some (some (.op _))=>ρ.set i (some (.op (.l ds)))
 | _=>ρ.set i (some (.ol (.l ds)))
def E9(i:Nat)(f:List D->List D->Option (List D))(ms:Ev S (List D)):SM S:=λK ρ=>match gW ρ i with
 | some _=>ms K.x (λas ρ1=>match gW ρ1 i with
  | some ds=>(oM (f ds as)).on (λe=>K.x e ρ1) (λTb=>K.nx (oE ρ1 i Tb))
  | none=>.bad) ρ
 | none=>.bad
def dn{T:Type}(step:T->D->(T->M S)->M S):List D->T->(T->M S)->M S
 | [],s,k=>k s
 | d::r,s,k=>step s d (λs'=>dn step r s' k)
@[reducible] def ky(sh:List Kd)(K:KS S)(kn:OG sh->M S):KS S:={ K with
  nx:=λρ3=>P2 sh kn ρ3
  ct:=λρ3=>P2 sh kn ρ3
  bk:=λρ3=>P2 sh (λs'=>K.nx (wr sh s')) ρ3 }
def HR(sh:List Kd)(it:Ev S (List D))(t:Tg S)(mb:SM S):SM S:=λK ρ=>it K.x (λds ρ1=>P2 sh (λs=>dn (λs d kn=>t d (λρ2=>mb (ky sh K kn) ρ2) (wr sh s)) ds s (λs'=>K.nx (wr sh s'))) ρ1) ρ
def bF{T:Type}(step:T->(T->M S)->M S):Nat->T->M S
 | 0,_=>.bad
 | n+1,s=>step s (λs'=>bF step n s')
def ym(sh:List Kd)(fuel:Nat)(c:Ev S Bool)(mb:SM S):SM S:=λK ρ=>P2 sh (λs=>bF (λs kn=>c K.x (λb ρ2=>if b then mb (ky sh K kn) ρ2 else P2 sh (λs'=>K.nx (wr sh s')) ρ2) (wr sh s)) fuel s) ρ
end
def nP(ρ:En)(i:Nat)(ds XM:List D)(h:gW ρ i=some XM):oE ρ i ds=ρ.set i ((ρ[i]?.join).map fun | .op _=>.op (.l ds)|_=>.ol (.l ds)):=by
 unfold gW at h;unfold oE;split at h
 ·rename_i q;rw[q];rfl
 ·rename_i q;rw[q];rfl
 ·cases h
def gi{OK:M S->Prop}(hO:Ro OK){sh:List Kd}{k:OG sh->M S}(h:OK (P2 sh k ρ)):∃s,rd sh ρ=some s/\OK (k s):=by
 unfold P2 at h;split at h
 ·rename_i s e;exact⟨s,e,h⟩
 ·exact(hO h).elim
section
variable {QI rest:List Stmt} {m n:SM S} {c a:Expr} {me:Ev S D} {mt:Ev S Bool} {ml:Ev S (List D)} {Ov:Pos}
theorem aU:RK (S:=S) X [] Kn:=λOK K G F Z H ρ E hO hX St ok eo=>CM zN (eo.nx F Z H ρ (f_.refl _) St ok)
def af(h1:AS X st m)(h2:RK X rest n):RK X (st::rest) (Mb m n):=λOK K G F Z H ρ E hO hX St ok eo =>
 CM (jB C7 eX) (h1 OK { K with nx:=λρ1=>n K ρ1 } G F Z H ρ _ hO hX St ok ⟨λF' σ' H' ρ' s S' o=>h2 OK K G F' σ' H' ρ' E hO hX S' o (eo.up s),eo.rt,eo.rl,eo.bk,eo.ct⟩)
def aq(h1:AS X st m):RK X [st] m:=λOK K G F Z H ρ E hO hX St ok eo=>CM (lG C7) (h1 OK K G F Z H ρ E hO hX St ok eo)
def bK{A B:List Stmt}(hc:U9 X c mt)(ha:RK X A m)(hb:RK X B n):AS X (.If c A B pos) (sIf mt m n):=λOK K G F Z H ρ E hO hX St ok eo =>
 ik (KR eM eX eX) (hc OK K.x _ G F Z H ρ _ hO hX St ok λt F1 H1 ρ1 s1 S1 o1=>by
  cases t with
  | true=>exact ha OK K G F1 Z H1 ρ1 E hO hX S1 o1 (eo.up s1)
  | false=>exact hb OK K G F1 Z H1 ρ1 E hO hX S1 o1 (eo.up s1))
def aI{sh:List Kd}(h:AS X st m):AS X st (sTo sh m):=λOK K G F Z H ρ E hO hX St ok eo =>
 h OK { K with nx:=λρ1=>P2 sh (λs=>K.nx (wr sh s)) ρ1 } G F Z H ρ E hO hX St ok ⟨λF' σ' H' ρ' s S' o=>by
  obtain⟨s',e',o'⟩:=gi hO o
  exact eo.nx F' σ' H' _ s (S'.rd e') o',eo.rt,eo.rl,eo.bk,eo.ct⟩
theorem _root_.L3.c_.drop(S:c_ K G F Z H ρ)(hi:∀c,ρ[i]? ≠ some (some (.op c))):c_ K G F Z H (ρ.set i none):=by
 refine S.weak (by simp) (λj av e=>?_) (λj c e=>?_)
 ·by_cases hj:j=i
  ·subst hj;exfalso;by_cases hl:j<ρ.length
   ·rw[eE hl]at e;cases e
   ·rw[List.getElem?_eq_none_iff.mpr (by simp;lia)]at e;cases e
  ·rw[ba (Ne.symm hj)]at e;exact e
 ·have hj:j≠i:=by rintro rfl;exact hi c e
  rw[ba (Ne.symm hj)];exact e
def _root_.L2.Inv.OQ{a_:K_}(I:Inv X a_ Z H s){a:Addr}(e:H a=some (.dT kvs)):∃o,Inv X a_ Z (upd H a (.OQ o (.dT kvs))) s:=by
 obtain⟨z,y,xs,r,ob,es,ep,h1,h2⟩:=(show v_ X.prog X.w H s.heap a (.dT kvs)from I.n_ a _ e);have ne:∀b,H b=none->upd H a (.OQ ob (.dT kvs)) b=none:=λb q=>by rw[aD (λz=>by rw[z,e]at q;cases q)];exact q
 have nx:∀b u,H b=some u->u≠.dT kvs->upd H a (.OQ ob (.dT kvs)) b=some u:=λb u q d=>by rw[aD (wD q e d)];exact q
 have st:∀b u,v_ X.prog X.w H s.heap b u->v_ X.prog X.w (upd H a (.OQ ob (.dT kvs))) s.heap b u:=λb u q=>q.QY (λ_ _ _ q=>q) (λc q=>nx c _ q (by intro z;cases z)) λc xs q=>nx c _ q (by intro z;cases z)
 refine⟨ob,I.ok,I.os,I.bare,⟨I.base.keep,I.base.slot,λb o q n hx=>ne b (I.base.free b o q n hx),I.base.there,λb xs q=>nx b _ (I.base.Qm b xs q) (by intro z;cases z),λb o u q=>nx b _ (I.base.Qb b o u q) (by intro z;cases z),λb ps q=>?_⟩,I.loc,I.cell,ne _ I.free,λx c q=>ne _ (I.OL x c q),λp hp=>?_,λb u q=>?_,I.len⟩
 ·obtain⟨more,q⟩:=I.base.Qn b ps q;exact⟨more,nx b _ q (by intro z;cases z)⟩
 ·obtain⟨q1,q2,q3⟩:=I.pin p hp;exact⟨q1,ne _ q2,q3⟩
 ·by_cases hb:b=a
  ·subst hb;rw[aJ]at q;cases q;exact⟨h1,st _ _ (I.n_ _ _ e)⟩
  ·rw[aD hb]at q;exact st _ _ (I.n_ b u q)
theorem CK{E:Ends}{a:Addr}(e:H a=some (.dT kvs))(k:∀o,jg X st E Z (upd H a (.OQ o (.dT kvs)))):jg X st E Z H:=by
 unfold jg at *;exact λa_ s I=>let ⟨o,I'⟩:=I.OQ e;k o a_ s I'
def _root_.L3.c_.R6(S:c_ K G F Z H ρ){p:Addr}(fp:F p=none)(op:G.O p=none)(ne:∀(i:Nat) (e:OC),own ρ i e->Z[i]? ≠ some (some (V.ref p))):c_ K G F Z (upd H p o) ρ:=by
 refine⟨fY S.fh fp,fY S.oh op,S.fo,S.ln,S.fz,λi c h=>?_,S.dj,S.pp,S.pq,S.fb⟩;obtain⟨a,e,oa⟩:=S.ow i c h;exact⟨a,e,oa.nf,oa.no,oa.he.at (aD λz=>ne i c h (by rw[e,z]))⟩
def _root_.L3.c_.Vj(S:c_ K G F Z H ρ){es:List (D×D)}(hi:ρ[i]? = some (some (.ol (.t es)))){a:Addr}(hv:Z[i]? = some (some (V.ref a))) :
  ∃kvs,H a=some (.dT kvs)/\∀o,∃F',f_ F F'/\c_ K G F' Z (upd H a (.OQ o (.dT kvs))) (ρ.set i (some (.fz (.dict es)))):=by
 obtain⟨b,e,oa⟩:=S.ow i _ (.inl hi);rw[hv]at e;injection e with e;injection e with e;injection e with e;subst e;obtain⟨kvs,h1,h2,h3⟩:=oa.he;refine⟨kvs,h1,λo=>?_⟩;have hl:i<ρ.length:=(List.getElem?_eq_some_iff.mp hi).1;have S1:=S.drop (i:=i) (λc q=>by rw[hi]at q;cases q);have ne:∀(j:Nat) (c:OC),own (ρ.set i none) j c->Z[j]? ≠ some (some (V.ref a)):=λj c h q=>by
  have hj:j≠i:=by
   rintro rfl;rcases h with h|h<;>(rw[eE hl]at h;cases h)
  have h':own ρ j c:=by
   unfold own at h ⊢;rw[ba (Ne.symm hj)]at h;exact h
  exact hj (S.dj j i _ _ a h' (.inl hi) q hv)
 have S2:=(S1.R6 (o:=.OQ o (.dT kvs)) oa.nf oa.no ne).freeze (a:=a) aJ oa.nf oa.no ne;have sm:f_ F (upd F a (.OQ o (.dT kvs))):=cu oa.nf;have S3:=S2.store (j:=i) (v:=.ref a) (av:=.fz (.dict es)) (λc q=>by rw[eE hl]at q;cases q) (by rw[N7];exact hl) (.inl ⟨_,rfl,.Sl aJ h2 (h3.mono sm)⟩);have eσ:Z.set i (some (V.ref a))=Z:=by
  obtain⟨q1,q2⟩:=List.getElem?_eq_some_iff.mp hv;rw[<-q2];exact List.set_getElem_self q1
 rw[eσ,List.set_set]at S3;exact⟨_,sm,S3⟩
def lw(h:AS X st m):AS X st (Ko i m):=λOK K G F Z H ρ E hO hX St ok eo=>by
 unfold Ko at ok;split at ok
 ·rename_i ds q;obtain⟨a,ea,_⟩:=St.ow i _ (.inl q);split at ok
  ·exact(hO ok).elim
  rename_i hI
  cases hT:ds.VF with
  | false =>
   obtain⟨F2,s2,S2,_⟩:=St.Vl (by simpa using hI) hT q ea;exact h OK K G F2 Z H _ E hO hX S2 ok (eo.up s2)
  | true =>
   cases ds with
   | t es =>
    obtain⟨kvs,e,go⟩:=St.Vj q ea;refine CK e λo=>?_
    obtain⟨F2,s2,S2⟩:=go o;exact h OK K G F2 Z _ _ E hO hX S2 ok (eo.up s2)
   | _=>cases hT
 ·exact(hO ok).elim
def aS(he:AE X e me):AS X (.Return (some e) pos) (Mc me):=λOK K G F Z H ρ E hO hX St ok eo =>
 ik (yn aN) (he OK K.x K.rt G F Z H ρ _ hO hX St ok λd v F1 H1 ρ1 s1 S1 r1 o1=>eo.rt F1 Z H1 ρ1 d v s1 S1 r1 o1)
def GC(he:YA X e ml):AS X (.Return (some e) pos) (Km ml):=λOK K G F Z H ρ E hO hX St ok eo =>
 ik (yn aN) (he OK K.x (λds=>K.rl (.l ds)) G F Z H ρ _ hO hX St ok λd v F1 H1 ρ1 s1 S1 r1 o1=>eo.rl F1 Z H1 ρ1 (.l d) v s1 S1 r1 o1)
theorem aK(hN:X.N.Nodup)(he:AE X e me)(hi:X.N[i]? = some x:=by rfl)(hx:Loc X.env.scope x:=by exact lo rfl)(hs:swapsWith e (some (.Name x pos')) pos.line X.env=pure false:=by rfl)(hf:X.fn x=true\/X.env.scope.names.lookup x=some .local:=by exact .inl rfl) :
  AS X (.Assign [.Name x pos'] e pos) (Kl i me):=λOK K G F Z H ρ E hO hX St ok eo =>
 ik (jC hN hi hx aN hs hf) (he OK K.x _ G F Z H ρ _ hO hX St ok λd v F1 H1 ρ1 s1 S1 r1 o1=>by
  split at o1
  ·rename_i ho;obtain⟨hl,Rt⟩:=dD ho;exact eo.nx F1 _ H1 _ s1 (S1.store Rt hl (.inl ⟨d,rfl,r1⟩)) o1
  ·exact(hO o1).elim)
theorem eF(hN:X.N.Nodup)(he:YA X e ml)(hi:X.N[i]? = some x:=by rfl)(hx:Loc X.env.scope x:=by exact lo rfl)(hs:swapsWith e (some (.Name x pos')) pos.line X.env=pure false:=by rfl)(hf:X.fn x=true\/X.env.scope.names.lookup x=some .local:=by exact .inl rfl) :
  AS X (.Assign [.Name x pos'] e pos) (GW i ml):=λOK K G F Z H ρ E hO hX St ok eo =>
 ik (jC hN hi hx aN hs hf) (he OK K.x _ G F Z H ρ _ hO hX St ok λd v F1 H1 ρ1 s1 S1 r1 o1=>by
  split at o1
  ·rename_i ho;obtain⟨hl,Rt⟩:=dD ho;exact eo.nx F1 _ H1 _ s1 (S1.store Rt hl (.inr ⟨.l d,rfl,r1⟩)) o1
  ·exact(hO o1).elim)
def vm{t:Tg S}(he:AE X e me)(hg:AG X 0 tg t)(hs:swapsWithSole [tg] e pos.line X.env=pure false)(hw:swappedStores [tg] e X.env=pure none)
  (h1:(assignEach [tg] X.env).map (·.2)=[assign tg X.env]):AS X (.Assign [tg] e pos) (Mg t me):=λOK K G F Z H ρ E hO hX St ok eo =>
 ik (C8 aN kS hs hw h1) (he OK K.x _ G F Z H ρ _ hO hX St ok λd v F1 H1 ρ1 s1 S1 r1 o1 =>
  hg OK K.nx G F1 Z H1 ρ1 v d _ hO S1 r1 o1 λσ' ρ' S' _ _ _ o'=>eo.nx F1 σ' H1 ρ' s1 S' o')
def GF(he:AE X e me)(hs:swapsWith e none pos.line X.env=pure false):AS X (.Expr e pos) (Kp me):=λOK K G F Z H ρ E hO hX St ok eo =>
 ik (o8 aN hs) (he OK K.x _ G F Z H ρ _ hO hX St ok λd v F1 H1 ρ1 s1 S1 r1 o1=>eo.nx F1 Z H1 ρ1 s1 S1 o1)
end
section
variable {m n mb:SM S} {c a o:Expr} {me mi:Ev S D} {mt:Ev S Bool} {ml ms:Ev S (List D)} {Ov apos A_:Pos}
def JF{iter:Expr}{body:List Stmt}{sh:List Kd}{t:Tg S}(hp:PassesOwn (model X.prog X.w) X.A X.env X.xe)(hc:X.calm=true)(hi:YB X tg iter ml)(hg:AG X 0 tg t)(hb:RK X body mb)
  (hs:∀x,foldedSetIterable iter X.env x=pure x):AS X (.For tg iter body [] pos) (HR sh ml t mb):=λOK K G F Z H ρ E hO hX St ok eo =>
 ik (uw hp hc qp kS eX hs) (hi OK K.x _ G F Z H ρ _ hO hX St ok λds J F1 H1 ρ1 s1 S1 wk o1=>by
  obtain⟨s0,e0,o0⟩:=gi hO o1;have S0:=S1.rd e0;clear o1;generalize P6:(λ(s:OG sh) d (kn:OG sh->M S)=>t d (λρ2=>mb (ky sh K kn) ρ2) (wr sh s))=step at o0;refine⟨λi m σ' H'=>∃F' s,m=ds.length - i/\i<=ds.length/\f_ F1 F'/\c_ X.K G F' σ' H' (wr sh s)/\OK (dn step (ds.drop i) s (λs'=>K.nx (wr sh s'))),⟨ds.length,F1,s0,rfl,be _,f_.refl _,S0,o0⟩,?_⟩;rintro i m σ' H' ⟨F',s,rfl,hi,s2,S2,go⟩;by_cases Oi:i<ds.length
  ·have ed:ds.drop i=ds[i]::ds.drop (i+1):=u8 Oi;rw[ed]at go;dsimp only[dn]at go;rw[<-P6]at go;have again:∀F5 σ5 H5 ρ5,f_ F' F5->c_ X.K G F5 σ5 H5 ρ5->OK (P2 sh (λs'=>dn step (ds.drop (i+1)) s' λs'=>K.nx (wr sh s')) ρ5) ->
     ∃m',m'<ds.length - i/\∃F' s,m'=ds.length - (i+1)/\i+1<=ds.length/\f_ F1 F'/\c_ X.K G F' σ5 H5 (wr sh s)/\OK (dn step (ds.drop (i+1)) s (λs'=>K.nx (wr sh s'))):=λF5 σ5 H5 ρ5 s5 S5 o5=>by
    obtain⟨s',e',o'⟩:=gi hO o5;exact⟨ds.length - (i+1),by omega,F5,s',rfl,Oi,s2.trans s5,S5.rd e',o'⟩
   refine .inr ⟨wk.go i G F' σ' H' _ s2 S2 Oi,λσ4 H4=>∃m',m'<ds.length - i/\∃F' s,m'=ds.length - (i+1)/\i+1<=ds.length/\f_ F1 F'/\c_ X.K G F' σ4 H4 (wr sh s)/\OK (dn step (ds.drop (i+1)) s (λs'=>K.nx (wr sh s'))),λσ4 H4 h4=>h4,λx H2 y=>?_⟩;obtain⟨F3,s3,S3,r3⟩:=wk.Sw i G F' σ' H' _ x H2 ds[i] s2 S2 (by simp[Oi]) y;refine hg OK _ G F3 σ' H2 (wr sh s) x ds[i] _ hO S3 r3 go λσ3 ρ3 S4 _ _ _ o4=>?_
   rw[P6]at o4;refine hb OK (ky sh K λs'=>dn step (ds.drop (i+1)) s' λs'=>K.nx (wr sh s')) G F3 σ3 H2 ρ3 _ hO hX S4 o4 ⟨λF5 σ5 H5 ρ5 s5 S5 o5=>?_,λF5 σ5 H5 ρ5 d v s5=>eo.rt F5 σ5 H5 ρ5 d v ((s1.trans (s2.trans s3)).trans s5),λF5 σ5 H5 ρ5 d v s5=>eo.rl F5 σ5 H5 ρ5 d v ((s1.trans (s2.trans s3)).trans s5),λF5 σ5 H5 ρ5 s5 S5 o5=>?_,λF5 σ5 H5 ρ5 s5 S5 o5=>?_⟩
   ·exact again F5 σ5 H5 ρ5 (s3.trans s5) S5 o5
   ·obtain⟨s',e',o'⟩:=gi hO o5;exact eo.nx F5 σ5 H5 _ ((s1.trans (s2.trans s3)).trans s5) (S5.rd e') o'
   ·exact again F5 σ5 H5 ρ5 (s3.trans s5) S5 o5
  ·have ei:i=ds.length:=by omega
   subst ei;rw[M3]at go
   exact .inl ⟨wk.stop G F' σ' H' _ s2 S2,eo.nx F' σ' H' _ (s1.trans s2) S2 go⟩)
def ED{body:List Stmt}{sh:List Kd}{fuel:Nat}(hp:PassesOwn (model X.prog X.w) X.A X.env X.xe)(hc:U9 X c mt)(hb:RK X body mb):AS X (.While c body [] pos) (ym sh fuel mt mb):=λOK K G F Z H ρ E hO hX St ok eo =>
 ik (C6 hp eM eX) (by
  obtain⟨s0,e0,o0⟩:=gi hO ok;have S0:=St.rd e0;clear ok;generalize P6:(λ(s:OG sh) (kn:OG sh->M S)=>mt K.x (λb ρ2=>if b then mb (ky sh K kn) ρ2 else P2 sh (λs'=>K.nx (wr sh s')) ρ2) (wr sh s))=step at o0;refine⟨λm σ' H'=>∃F' s,f_ F F'/\c_ X.K G F' σ' H' (wr sh s)/\OK (bF step m s),⟨fuel,F,s0,f_.refl _,S0,o0⟩,?_⟩;rintro m σ' H' ⟨F',s,s2,S2,go⟩
  cases m with
  | zero=>exact(hO go).elim
  | succ m =>
   dsimp only[bF]at go;rw[<-P6]at go;refine hc OK K.x _ G F' σ' H' (wr sh s) _ hO hX S2 go λt F1 H1 ρ1 s1 S1 o1=>?_
   cases t with
   | false =>
    obtain⟨s',e',o'⟩:=gi hO (show OK (P2 sh (λs'=>K.nx (wr sh s')) ρ1)from o1);exact eo.nx F1 σ' H1 _ (s2.trans s1) (S1.rd e') o'
   | true =>
    have Vt:OK (mb (ky sh K λs'=>bF (λ(s:OG sh) (kn:OG sh->M S)=>mt K.x (λb ρ2=>if b then mb (ky sh K kn) ρ2 else P2 sh (λs'=>K.nx (wr sh s')) ρ2) (wr sh s)) m s') ρ1):=o1;rw[P6]at Vt;have again:∀F5 σ5 H5 ρ5,f_ F1 F5->c_ X.K G F5 σ5 H5 ρ5->OK (P2 sh (λs'=>bF step m s') ρ5)->∃m',m'<m+1/\∃F' s,f_ F F'/\c_ X.K G F' σ5 H5 (wr sh s)/\OK (bF step m' s):=λF5 σ5 H5 ρ5 s5 S5 o5=>by
     obtain⟨s',e',o'⟩:=gi hO o5;exact⟨m,No _,F5,s',(s2.trans s1).trans s5,S5.rd e',o'⟩
    refine rX ⟨λσ4 H4=>∃m',m'<m+1/\∃F' s,f_ F F'/\c_ X.K G F' σ4 H4 (wr sh s)/\OK (bF step m' s),λσ4 H4 h4=>h4,?_⟩;refine hb OK (ky sh K λs'=>bF step m s') G F1 σ' H1 ρ1 _ hO hX S1 Vt ⟨λF5 σ5 H5 ρ5 s5 S5 o5=>again F5 σ5 H5 ρ5 s5 S5 o5,λF5 σ5 H5 ρ5 d v s5=>eo.rt F5 σ5 H5 ρ5 d v ((s2.trans s1).trans s5),λF5 σ5 H5 ρ5 d v s5=>eo.rl F5 σ5 H5 ρ5 d v ((s2.trans s1).trans s5),λF5 σ5 H5 ρ5 s5 S5 o5=>?_,λF5 σ5 H5 ρ5 s5 S5 o5=>again F5 σ5 H5 ρ5 s5 S5 o5⟩;obtain⟨s',e',o'⟩:=gi hO o5
    exact eo.nx F5 σ5 H5 _ ((s2.trans s1).trans s5) (S5.rd e') o')
def dS{ds:List D}(St:c_ K G F Z H ρ)(h:gW ρ i=some ds):∃a vs,Z[i]? = some (some (.ref a))/\H a=some (.lst vs)/\h_ K F vs ds:=by
 obtain⟨a,ea,oa⟩:=St.ow i _ (lJ h);obtain⟨vs,h1,h2⟩:=oa.he;exact⟨a,vs,ea,h1,h2⟩
def lI{a:Addr}{ds Tb:List D}{Vc:List V}(St:c_ K G F Z H ρ)(h:gW ρ i=some ds)(ha:Z[i]? = some (some (.ref a)))(r:h_ K F Vc Tb) :
  c_ K G F Z (upd H a (.lst Vc)) (oE ρ i Tb):=by
 rw[nP ρ i Tb ds h];exact St.change (lJ h) ha (c':=.l Tb) ⟨_,aJ,r⟩
def oI(ds as:List D):Option (List D):=match as with
 | [d]=>if ds.length<sizeLine then some (ds++[d])else none
 | _=>none
def jc(hN:X.N[i]? = some x)(hv:RY X.env.scope x)(he:We X [e] ms)
  (O9:attributeBase (.Name x pos') "append" X.env (eval (.Name x pos') X.env)=eval (.Name x pos') X.env)
  (UL:((backTo A_ (starEach [e] X.env)).all (λx=>!x.1)&&(backToKw A_ (keywordEach [] X.env)).all (λx=>x.1.isSome)
   && decide ([e].length+([]:List Keyword).length+(if([]:List Keyword).isEmpty then 0 else 1)<30))=true)
  (O8:(apos.endLine==A_.line)=true) (hs:starEach [e] X.env=(false,eval e X.env)::starEach [] X.env) (Q5:(backTo A_ (starEach [] X.env)).any (·.1)=false)
  (UC:swapsWith (.Call (.Attribute (.Name x pos') "append" apos) [e] [] A_) none pos.line X.env=pure false) (hd:(x==("__debug__" : Str))=false:=by decide) (O2:(x==("__classdict__" : Str))=false:=by decide) :
  AS X (.Expr (.Call (.Attribute (.Name x pos') "append" apos) [e] [] A_) pos) (E9 i oI ms):=λOK K G F Z H ρ E hO hX St ok eo =>
 ik (o8 (Dl M7 PySem.F.slot_list_append PySem.F.type_list_append tB (cO hN hv hd O2) cC O9 UL O8 hs Q5) UC) (by
  unfold E9 at ok;split at ok
  case h_2=>exact(hO ok).elim
  ·rename_i XM h0;obtain⟨a,Vb,ea,hh,_⟩:=dS St h0;refine⟨_,ea,.inl ⟨rfl,Vb,.inl (.inl hh)⟩,he OK K.x _ G F Z H ρ _ hO hX St ok λas ws F1 H1 ρ1 s1 S1 _ r1 o1=>?_⟩;split at o1
   ·rename_i ds RT;obtain⟨Tb,hf,o2⟩:=dA hO o1;obtain⟨a',vs,OM,hh',rv⟩:=dS S1 RT;rw[ea]at OM;injection OM with OM;injection OM with OM;injection OM with OM;subst OM;unfold oI at hf;split at hf
    ·split at hf
     ·rename_i hz
      cases hf
      cases r1 with
      | cons ra rb =>
       cases rb
       refine⟨a,vs,_,rfl,rfl,hh',by rw[rv.length];exact hz,?_⟩;exact eo.nx F1 Z _ _ s1 (lI S1 RT ea (rv.append (.cons ra .nil))) o2
     ·cases hf
    ·cases hf
   ·exact(hO o1).elim)
end
def P4{l:List α}{x:α}:(l.map some)[i]? = some (some x)↔l[i]? = some x:=by
 rw[fu]
 cases l[i]? <;> simp
open Classical in
noncomputable def bB(G:Gh)(Z:L2.St)(ρ:En)(H:Hp)(ex:Option Addr):Hp:=λb=>if(∃(i:Nat) (c:OC),own ρ i c/\Z[i]? = some (some (V.ref b)))/\some b≠ex then H b else G.O b
def setC(ρ:En)(j:Nat)(c:OC):En:=ρ.set j ((ρ[j]?.join).map fun | .op _=>.op c|_=>.ol c)
section
variable {ds:List D}
def db(S:c_ K G F Z H ρ){b:Addr}(h:G.O b=some o):bB G Z ρ H ex b=some o:=by
 unfold bB;rw[ar]
 ·exact h
 ·rintro⟨⟨i,c,ho,e⟩,_⟩;obtain⟨a,e',oa⟩:=S.ow i c ho;rw[e]at e';injection e' with e';injection e' with e';injection e' with e';subst e';rw[oa.no]at h;cases h
def gP{b:Addr}(ho:own ρ i c)(e:Z[i]? = some (some (V.ref b)))(hx:some b≠ex):bB G Z ρ H ex b=H b:=by
 unfold bB;rw[al ⟨⟨i,c,ho,e⟩,hx⟩]
def tV(S:c_ K G F Z H ρ):f_ (bB G Z ρ H ex) H:=λb o h=>by
 unfold bB at h;split at h
 ·exact h
 ·exact S.oh b o h
def _root_.L3.OH.Up(h:OH K F H a c)(e:H a=some o):Cd o:=by
 cases c with
 | l ds=>obtain⟨vs,h1,_⟩:=h;rw[h1]at e;cases e;exact True.intro
 | t es=>obtain⟨vs,h1,_⟩:=h;rw[h1]at e;cases e;exact True.intro
 | k es=>obtain⟨vs,h1,_⟩:=h;rw[h1]at e;cases e;exact True.intro
 | i x ns ds=>obtain⟨C,dx,fs,h1,_⟩:=h;rw[h1]at e;cases e;exact True.intro
 | n ns=>obtain⟨o,xs,h1,_⟩:=h;rw[h1]at e;cases e;exact True.intro
def tW(S:c_ K G F Z H ρ):∀b o,bB G Z ρ H ex b=some o->F b=none/\Cd o:=λb o h=>by
 unfold bB at h;split at h
 ·rename_i hc;obtain⟨⟨i,c,ho,e⟩,_⟩:=hc;obtain⟨a,e',oa⟩:=S.ow i c ho;rw[e]at e';injection e' with e';injection e' with e';injection e' with e';subst e';exact⟨oa.nf,oa.he.Up h⟩
 ·exact S.fo b o h
def lh{av:AV}(h:((ds.map AV.fz).map some)[i]? = some (some av)):∃d,av=.fz d/\ds[i]? = some d:=by
 rw[P4,fu]at h
 cases q:ds[i]? with
 | none=>rw[q]at h;cases h
 | some d=>rw[q]at h;cases h;exact⟨d,rfl,rfl⟩
def iT(h:own ((ds.map AV.fz).map some) i c):False:=by
 rcases h with h|h<;>(obtain⟨d,z,_⟩:=lh h;cases z)
def dJ(S:c_ K G F Z H ρ)(r:h_ K F vs ds):c_ K ⟨λ_=>none,bB G Z ρ H none,F⟩ F (vs.map some) H ((ds.map AV.fz).map some):=by
 refine⟨S.fh,tV S,tW S,by simp[r.length],λi d h=>?_,λi c h=>(iT h).elim,λi j c e a h=>(iT h).elim,λi a h=>(nomatch h),λi c h=>?_,f_.refl _⟩
 ·obtain⟨d',z,e⟩:=lh h
  cases z
  obtain⟨v,e1,e2⟩:=r.get e;exact⟨v,P4.mpr e1,e2⟩
 ·obtain⟨d',z,e⟩:=lh h;cases z
def i5{avs':List AV}(S:c_ K G F Z H ρ)(s1:f_ F F')(S1:c_ K ⟨λ_=>none,bB G Z ρ H none,F⟩ F' (vs.map some) H' (avs'.map some)) :
  c_ K G F' Z H' ρ/\∀v c,Frs K ⟨λ_=>none,bB G Z ρ H none,F⟩ F' (vs.map some) H' (avs'.map some) v c->Frs K G F' Z H' ρ v c:=by
 have oo:∀b,bB G Z ρ H none b=none->G.O b=none:=λb h=>by
  cases q:G.O b with
  | none=>rfl
  | some o=>rw[db S q]at h;cases h
 refine⟨⟨S1.fh,λb o h=>S1.oh b o (db S h),λb o h=>S1.fo b o (db S h),S.ln,λi d h=>?_,λi c h=>?_,S.dj,S.pp,S.pq,S.fb.trans s1⟩,λv cc h=>?_⟩
 ·obtain⟨v,e,r⟩:=S.fz i d h;exact⟨v,e,r.mono s1⟩
 ·obtain⟨a,e,oa⟩:=S.ow i c h;obtain⟨o,ho⟩:=oa.he.some;have q:bB G Z ρ H none a=some o:=by rw[gP h e (by simp)];exact ho
  exact⟨a,e,(S1.fo a o q).1,oa.no,(oa.he.mono s1).at (by rw[S1.oh a o q,ho])⟩
 ·obtain⟨a,rfl,oa,_⟩:=h;refine⟨a,rfl,⟨oa.nf,oo a oa.no,oa.he⟩,λi e ho q=>?_⟩;obtain⟨a',e',oa'⟩:=S.ow i e ho;rw[q]at e';injection e' with e';injection e' with e';injection e' with e';subst e';obtain⟨o,hh⟩:=oa'.he.some;have:=oa.no;rw[show(⟨λ_=>none,bB G Z ρ H none,F⟩:Gh).O a=bB G Z ρ H none a from rfl,gP ho q (by simp),hh]at this
  cases this
def P1(a:Addr):Nat->Option Addr
 | 0=>some a
 | _=>none
def BS(S:c_ K G F Z H ρ)(hj:own ρ j c)(ha:Z[j]? = some (some (V.ref a)))(r:h_ K F vs ds) :
  c_ K ⟨P1 a,bB G Z ρ H (some a),F⟩ F ((V.ref a::vs).map some) H ((AV.op c::ds.map AV.fz).map some):=by
 obtain⟨a',e',oa⟩:=S.ow j c hj;rw[ha]at e';injection e' with e';injection e' with e';injection e' with e';subst e';have WM:∀i d,own ((AV.op c::ds.map AV.fz).map some) i d->i=0/\d=c:=λi d h=>by
  cases i with
  | zero=>rcases h with h|h<;>(simp at h);exact⟨rfl,h.symm⟩
  | succ i=>exact(iT (ds:=ds) (i:=i) (c:=d) (by unfold own at h ⊢;simpa using h)).elim
 refine⟨S.fh,tV S,tW S,by simp[r.length],λi d h=>?_,λi d h=>?_,λi k d e b h1 h2 _ _=>?_,λi b h=>?_,λi d h=>?_,f_.refl _⟩
 ·cases i with
  | zero=>simp at h
  | succ i =>
   obtain⟨d',z,e⟩:=lh (ds:=ds) (i:=i) (av:=.fz d) (by simpa using h)
   cases z
   obtain⟨v,e1,e2⟩:=r.get e;exact⟨v,by simpa using e1,e2⟩
 ·obtain⟨rfl,rfl⟩:=WM i d h;refine⟨a,rfl,oa.nf,?_,oa.he⟩;show bB G Z ρ H (some a) a=none;unfold bB;rw[ar (by simp)];exact oa.no
 ·rw[(WM i d h1).1,(WM k e h2).1]
 ·cases i with
  | zero=>cases h;exact⟨rfl,c,rfl⟩
  | succ i=>cases h
 ·cases i with
  | zero=>exact⟨a,rfl⟩
  | succ i =>
   obtain⟨d',z,e⟩:=lh (ds:=ds) (i:=i) (av:=.op d) (by simpa using h)
   cases z
def zc{c':OC}{l:List AV}(S:c_ K G F Z H ρ)(hj:own ρ j c)(ha:Z[j]? = some (some (V.ref a)))(s1:f_ F F')
  (S1:c_ K ⟨P1 a,bB G Z ρ H (some a),F⟩ F' ((V.ref a::vs).map some) H' ((AV.op c'::l).map some)) :
  c_ K G F' Z H' (setC ρ j c')/\∀v cc,Frs K ⟨P1 a,bB G Z ρ H (some a),F⟩ F' ((V.ref a::vs).map some) H' ((AV.op c'::l).map some) v cc->Frs K G F' Z H' (setC ρ j c') v cc:=by
 have oo:∀b,bB G Z ρ H (some a) b=none->G.O b=none:=λb h=>by
  cases q:G.O b with
  | none=>rfl
  | some o=>rw[db S q]at h;cases h
 obtain⟨a',e',oa⟩:=S.ow j c hj;rw[ha]at e';injection e' with e';injection e' with e';injection e' with e';subst e';have hl:j<ρ.length:=by rcases hj with h|h<;>exact(List.getElem?_eq_some_iff.mp h).1
 generalize Yh:((ρ[j]?.join).map λ(x:AV)=>match x with | .op _=>AV.op c'|_=>AV.ol c')=av;have Xp:setC ρ j c'=ρ.set j av:=by rw[<-Yh];rfl
 rw[Xp];have ne:∀i,i≠j->(ρ.set j av)[i]? = ρ[i]?:=λi hi=>ba (Ne.symm hi)
 have Sq:(ρ.set j av)[j]? = some av:=eE hl;have kind:(ρ[j]? = some (some (.ol c))/\av=some (.ol c'))\/(ρ[j]? = some (some (.op c))/\av=some (.op c')):=by
  rcases hj with h|h
  ·exact .inl ⟨h,by rw[<-Yh,h];rfl⟩
  ·exact .inr ⟨h,by rw[<-Yh,h];rfl⟩
 have Qo:∀i e,own (ρ.set j av) i e->(i=j/\e=c')\/(i≠j/\own ρ i e):=λi e h=>by
  by_cases hi:i=j
  ·subst hi;unfold own at h;rw[Sq]at h;rcases kind with ⟨_,k⟩|⟨_,k⟩<;>rw[k]at h<;>rcases h with h|h<;>cases h<;>exact .inl ⟨rfl,rfl⟩
  ·unfold own at h ⊢;rw[ne i hi]at h;exact .inr ⟨hi,h⟩
 have nea:∀i e b,i≠j->own ρ i e->Z[i]? = some (some (V.ref b))->b≠a:=λi e b hi ho q z=>by
  subst z;exact hi (S.dj i j e c b ho hj q ha)
 have RC:TC K ⟨P1 a,bB G Z ρ H (some a),F⟩ F' H' a c':=by
  obtain⟨b,e1,ob⟩:=S1.ow 0 c' (.inr rfl);have:V.ref a=V.ref b:=by simpa using e1
  injection this with this;subst this;exact ob
 refine⟨⟨S1.fh,λb o h=>S1.oh b o (db S h),λb o h=>S1.fo b o (db S h),by simpa using S.ln,λi d h=>?_,λi e h=>?_,λi k d e b h1 h2=>?_,λi b h=>?_,λi d h=>?_,S.fb.trans s1⟩,λv cc h=>?_⟩
 ·by_cases hi:i=j
  ·subst hi;rw[Sq]at h;rcases kind with ⟨_,k⟩|⟨_,k⟩<;>rw[k]at h<;>cases h
  ·rw[ne i hi]at h;obtain⟨v,e,r⟩:=S.fz i d h;exact⟨v,e,r.mono s1⟩
 ·rcases Qo i e h with ⟨rfl,rfl⟩|⟨hi,ho⟩
  ·exact⟨a,ha,RC.nf,oa.no,RC.he⟩
  ·obtain⟨b,eb,ob⟩:=S.ow i e ho;obtain⟨o,hh⟩:=ob.he.some;have q:bB G Z ρ H (some a) b=some o:=by rw[gP ho eb (λz=>nea i e b hi ho eb (Option.some.inj z))];exact hh
   exact⟨b,eb,(S1.fo b o q).1,ob.no,(ob.he.mono s1).at (by rw[S1.oh b o q,hh])⟩
 ·have f:∀i e,own (ρ.set j av) i e->∃d,own ρ i d:=λi e h=>by
   rcases Qo i e h with ⟨rfl,_⟩|⟨_,ho⟩
   ·exact⟨c,hj⟩
   ·exact⟨e,ho⟩
  exact S.dj i k _ _ b (f i d h1).choose_spec (f k e h2).choose_spec
 ·obtain⟨q1,e,q2⟩:=S.pp i b h;refine⟨q1,?_⟩;by_cases hi:i=j
  ·subst hi;rcases kind with ⟨k1,k⟩|⟨k1,k⟩
   ·rw[k1]at q2;cases q2
   ·exact⟨c',by rw[Sq,k]⟩
  ·exact⟨e,by rw[ne i hi];exact q2⟩
 ·by_cases hi:i=j
  ·subst hi;rcases kind with ⟨k1,k⟩|⟨k1,k⟩
   ·rw[Sq,k]at h;cases h
   ·exact S.pq i c k1
  ·rw[ne i hi]at h;exact S.pq i d h
 ·obtain⟨b,rfl,ob,nn⟩:=h;refine⟨b,rfl,⟨ob.nf,oo b ob.no,ob.he⟩,λi e ho q=>?_⟩;rcases Qo i e ho with ⟨rfl,_⟩|⟨hi,TX⟩
  ·rw[ha]at q;injection q with q;injection q with q;injection q with q;subst q;exact nn 0 c' (.inr rfl) rfl
  ·obtain⟨b',eb,UY⟩:=S.ow i e TX;rw[q]at eb;injection eb with eb;injection eb with eb;injection eb with eb;subst eb;obtain⟨o,hh⟩:=UY.he.some;have:=ob.no;rw[show(⟨P1 a,bB G Z ρ H (some a),F⟩:Gh).O b=bB G Z ρ H (some a) b from rfl,gP TX q (λz=>nea i e b hi TX q (Option.some.inj z)),hh]at this
   cases this
end
abbrev Q7(ds:List D):En:=(ds.map AV.fz).map some
def KD:KS D:=⟨λ_=>.ret .none,λd _=>.ret d,λ_ _=>.bad,λ_=>.bad,λ_=>.bad,λe _=>.exc e⟩
def asL{S:Type}(c:OC)(k:List D->M S):M S:=match c with
 | .l ds=>k ds
 | _=>.bad
def KL:KS (List D):=⟨λ_=>.bad,λ_ _=>.bad,λc _=>asL c .ret,λ_=>.bad,λ_=>.bad,λe _=>.exc e⟩
def WM{S:Type}(ρ:En)(k:List D->M S):M S:=match (ρ[0]? : Option (Option AV))with
 | some (some (AV.op (OC.l f)))=>k f
 | _=>.bad
def K1:KS (D×List D):=⟨λρ=>WM ρ λf=>.ret (.none,f),λd ρ=>WM ρ λf=>.ret (d,f),λ_ _=>.bad,λ_=>.bad,λ_=>.bad,λe _=>.exc e⟩
def oV(K:Fg)(G:Gh)(E:XK){α:Type}(m:M α)(C:α->Prop):Prop:=match m with
 | .ret a=>C a
 | .exc x=>∀F' H' Cl dd,GOk G F' H'->XR K F' Cl dd x->E (.ref Cl) dd H'
 | .bad=>False
def C_(K:Fg)(n:Nat)(mf:List D->M D):Sp:=λvs H Q E=>∃G F ds,vs.length=n/\c_ K G F (vs.map some) H (Q7 ds)/\oV K G E (mf ds) λd=>∀v F' H',f_ F F'->c_ K G F' (vs.map some) H' (Q7 ds)->Rep K F' v d->Q v H'
def YN(K:Fg)(n:Nat)(mf:List D->M (List D)):Sp:=λvs H Q E=>∃G F ds,vs.length=n/\c_ K G F (vs.map some) H (Q7 ds)/\oV K G E (mf ds) λd=>∀v F' H',f_ F F'->c_ K G F' (vs.map some) H' (Q7 ds)->Frs K G F' (vs.map some) H' (Q7 ds) v (.l d)->Q v H'
def PV(K:Fg)(n:Nat)(mf:List D->List D->M (D×List D)):Sp:=λvs H Q E=>∃G F f ds,vs.length=n/\c_ K G F (vs.map some) H (some (.op (.l f))::Q7 ds)/\oV K G E (mf f ds) λr =>
 ∀v F' H',f_ F F'->c_ K G F' (vs.map some) H' (some (.op (.l r.2))::Q7 ds)->Rep K F' v r.1->Q v H'
section
variable {ds:List D}
def rE(S:c_ K G F (vs.map some) H (Q7 ds))(s1:f_ F F')(S1:c_ K G F' Z H' ρ):c_ K G F' (vs.map some) H' (Q7 ds):=by
 refine⟨S1.fh,S1.oh,S1.fo,S.ln,λi d q=>?_,λi c q=>(iT q).elim,λi j c e a q=>(iT q).elim,S.pp,S.pq,S1.fb⟩;obtain⟨v,e,r⟩:=S.fz i d q;exact⟨v,e,r.mono s1⟩
def GA(S1:c_ K G F' Z H' ρ)(h:Frs K G F' Z H' ρ v c):Frs K G F' (vs.map some) H' (Q7 ds) v c:=by
 obtain⟨a,rfl,oa,_⟩:=h;exact⟨a,rfl,oa,λi e q=>(iT q).elim⟩
def RC{f:List D}(h:own (some (.op (.l f))::Q7 ds) i c):i=0/\c=.l f:=by
 cases i with
 | zero=>rcases h with h|h<;>simp at h;exact⟨rfl,h.symm⟩
 | succ i=>exact(iT (ds:=ds) (i:=i) (c:=c) (by unfold own at h ⊢;simpa using h)).elim
def EB{f f':List D}(S:c_ K G F (vs.map some) H (some (.op (.l f))::Q7 ds))(s1:f_ F F')(S1:c_ K G F' Z H' ρ)(h0:ρ[0]? = some (some (.op (.l f')))) :
  c_ K G F' (vs.map some) H' (some (.op (.l f'))::Q7 ds)/\∀v c,Frs K G F' Z H' ρ v c->Frs K G F' (vs.map some) H' (some (.op (.l f'))::Q7 ds) v c:=by
 obtain⟨a,ha⟩:=S1.pq 0 _ h0;obtain⟨e1,_⟩:=S1.pp 0 a ha;obtain⟨e2,_⟩:=S.pp 0 a ha;obtain⟨b,eb,ob⟩:=S1.ow 0 _ (.inr h0);rw[e1]at eb;injection eb with eb;injection eb with eb;injection eb with eb;subst eb;have only:∀i b,G.P i=some b->i=0:=λi b h=>by
  obtain⟨_,c,q⟩:=S.pp i b h;exact(RC (.inr q)).1
 refine⟨⟨S1.fh,S1.oh,S1.fo,S.ln,λi d q=>?_,λi c q=>?_,λi j c e b q1 q2 _ _=>?_,λi b q=>?_,λi c q=>?_,S1.fb⟩,λv c h=>?_⟩
 ·cases i with
  | zero=>simp at q
  | succ i =>
   obtain⟨v,e,r⟩:=S.fz (i+1) d (by simpa using q);exact⟨v,e,r.mono s1⟩
 ·obtain⟨rfl,rfl⟩:=RC q;exact⟨a,e2,ob⟩
 ·rw[(RC q1).1,(RC q2).1]
 ·have:=only i b q;subst this;exact⟨(S.pp 0 b q).1,_,rfl⟩
 ·obtain⟨rfl,_⟩:=RC (.inr q);exact⟨a,ha⟩
 ·obtain⟨b,rfl,ob2,nn⟩:=h;refine⟨b,rfl,ob2,λi e q z=>?_⟩;obtain⟨rfl,rfl⟩:=RC q;rw[e2]at z;injection z with z;injection z with z;injection z with z;subst z;exact nn 0 _ (.inr h0) e1
end
section
variable {qual:Str} {N:List Str} {k:Nat}
def pV{ds:List D}(hl:vs.length=ps.length)(S0:c_ K G F (vs.map some) H (Q7 ds)):c_ K G F (L2.start N vs) H (Q7 ds++List.replicate (N.length - ps.length) none):=by
 have e0:L2.start N vs=vs.map some++List.replicate (N.length - ps.length) none:=by unfold L2.start;rw[hl]
 rw[e0];exact S0.grow _
def Gf{sp:Sp}(Fn:Oy K x qual st f fd)(S:l_ N ps (aB st))(len:∀vs H Q E,sp vs H Q E->vs.length=ps.length)
  (Si:∀(r_:Value) (A:Around) (outer:List Env) (s:Shared) (H:Hp) (vs:List V) (Q:VK) (E:XK),I_ k (A.deeper (envOfC qual (aB st) s.heap.objs.size f r_))->sp vs H Q E ->
   ∃t,SF (mG (PF P w) P w K mg base N qual (aB st) f r_ A outer s H E) (bO st) t/\t { nx:=λ_ H'=>Q .OU H',rt:=Q } (start N vs) H):Oz P w K mg base (PF P w) (k+1) f fd ps sp:=by
 obtain⟨oc,od,kV,doc,pm,an,r_,ct,Rq,rfl,lk,O2⟩:=Fn.ex;exact Hr lk O2 S len λA outer s H vs Q E hr RG=>Si r_ A outer s H vs Q E hr RG
def Aw{C:α->Prop}{N:List Str}{qual:Str}{scope:Scope}{r_:Value}{outer:List Env}{e:Ex}(h:oV K G E (M.exc e:M α) C):XW (mG (PF P w) P w K mg base N qual scope f r_ A outer s H E) G F ρ e :=
 λF' H' s' a Cl dd a_ Z g _ I xs _ xr=>FV I xs (h F' H' Cl dd g xr)
theorem bW{mb:SM D}{mf:List D->M D}(Fn:Oy K x qual st f fd)(Sc:l_ N ps (aB st))
  (hb:∀(r_:Value) (A:Around) (outer:List Env) (s:Shared) (H:Hp) (E:XK),I_ k (A.deeper (envOfC qual (aB st) s.heap.objs.size f r_)) ->
   RK (mG (PF P w) P w K mg base N qual (aB st) f r_ A outer s H E) (bO st) mb)
  (hm:∀ds,ds.length=ps.length->mf ds=mb KD (Q7 ds++List.replicate (N.length - ps.length) none)):Oz P w K mg base (PF P w) (k+1) f fd ps (C_ K ps.length mf):=by
 refine Gf Fn Sc (λvs H Q E h=>?_) (λr_ A outer s H vs Q E hr h=>?_)
 ·obtain⟨_,_,_,h1,_⟩:=h;exact h1
 ·obtain⟨G,F0,ds,h1,S0,e⟩:=h;have hl:ds.length=ps.length:=by have:=S0.ln;simp at this;lia
  rw[hm ds hl]at e;refine⟨_,eX,hb r_ A outer s H E hr (λm=>oV K G E m _) KD G F0 _ H _ _ (λz=>z) (λF ρ e z=>Aw z) (pV h1 S0) e ?_⟩;exact⟨λF' σ' H' ρ' s S' o=>(by exact o .OU F' H' s (rE S0 s S') .OU),λF' σ' H' ρ' d' v s S' r o=>(by exact o v F' H' s (rE S0 s S') r),λF' σ' H' ρ' d' v s S' r o=>(o:False).elim,λF' σ' H' ρ' s S' o=>(o:False).elim,λF' σ' H' ρ' s S' o=>(o:False).elim⟩
def JI{k:List D->M S}{C:S->Prop}(h:oV K G E (asL c k) C):∃ds,c=.l ds/\oV K G E (k ds) C:=by
 cases c with
 | l ds=>exact⟨ds,rfl,h⟩
 | _=>exact(h:False).elim
theorem Je{mb:SM (List D)}{mf:List D->M (List D)}(Fn:Oy K x qual st f fd)(Sc:l_ N ps (aB st))
  (hb:∀(r_:Value) (A:Around) (outer:List Env) (s:Shared) (H:Hp) (E:XK),I_ k (A.deeper (envOfC qual (aB st) s.heap.objs.size f r_)) ->
   RK (mG (PF P w) P w K mg base N qual (aB st) f r_ A outer s H E) (bO st) mb)
  (hm:∀ds,ds.length=ps.length->mf ds=mb KL (Q7 ds++List.replicate (N.length - ps.length) none)):Oz P w K mg base (PF P w) (k+1) f fd ps (YN K ps.length mf):=by
 refine Gf Fn Sc (λvs H Q E h=>?_) (λr_ A outer s H vs Q E hr h=>?_)
 ·obtain⟨_,_,_,h1,_⟩:=h;exact h1
 ·obtain⟨G,F0,ds,h1,S0,e⟩:=h;have hl:ds.length=ps.length:=by have:=S0.ln;simp at this;lia
  rw[hm ds hl]at e;refine⟨_,eX,hb r_ A outer s H E hr (λm=>oV K G E m _) KL G F0 _ H _ _ (λz=>z) (λF ρ e z=>Aw z) (pV h1 S0) e ?_⟩;exact⟨λF' σ' H' ρ' s S' o=>(o:False).elim,λF' σ' H' ρ' d' v s S' r o=>(o:False).elim,λF' σ' H' ρ' d' v s S' r o=>(by obtain⟨Tb,rfl,o⟩:=JI o;exact o v F' H' s (rE S0 s S') (GA S' r)),λF' σ' H' ρ' s S' o=>(o:False).elim,λF' σ' H' ρ' s S' o=>(o:False).elim⟩
def EC{k:List D->M S}{C:S->Prop}(h:oV K G E (WM ρ k) C):∃f,ρ[0]? = some (some (AV.op (OC.l f)))/\oV K G E (k f) C:=by
 unfold WM at h;split at h
 ·rename_i f q;exact⟨f,q,h⟩
 ·exact h.elim
def E5{ds g:List D}(hl:vs.length=ps.length)(S0:c_ K G F (vs.map some) H (some (.op (.l g))::Q7 ds)):c_ K G F (L2.start N vs) H (some (.op (.l g))::Q7 ds++List.replicate (N.length - ps.length) none):=by
 have e0:L2.start N vs=vs.map some++List.replicate (N.length - ps.length) none:=by unfold L2.start;rw[hl]
 rw[e0];exact S0.grow _
theorem lj{mb:SM (D×List D)}{mf:List D->List D->M (D×List D)}(Fn:Oy K x qual st f fd)(Sc:l_ N ps (aB st))
  (hb:∀(r_:Value) (A:Around) (outer:List Env) (s:Shared) (H:Hp) (E:XK),I_ k (A.deeper (envOfC qual (aB st) s.heap.objs.size f r_)) ->
   RK (mG (PF P w) P w K mg base N qual (aB st) f r_ A outer s H E) (bO st) mb)
  (hm:∀g ds,ds.length+1=ps.length->mf g ds=mb K1 (some (.op (.l g))::Q7 ds++List.replicate (N.length - ps.length) none)):Oz P w K mg base (PF P w) (k+1) f fd ps (PV K ps.length mf):=by
 refine Gf Fn Sc (λvs H Q E h=>?_) (λr_ A outer s H vs Q E hr h=>?_)
 ·obtain⟨_,_,_,_,h1,_⟩:=h;exact h1
 ·obtain⟨G,F0,g,ds,h1,S0,e⟩:=h;have hl:ds.length+1=ps.length:=by have:=S0.ln;simp at this;lia
  rw[hm g ds hl]at e;refine⟨_,eX,hb r_ A outer s H E hr (λm=>oV K G E m _) K1 G F0 _ H _ _ (λz=>z) (λF ρ e z=>Aw z) (E5 h1 S0) e ?_⟩;refine⟨λF' σ' H' ρ' s S' o=>?_,λF' σ' H' ρ' d' v s S' rv o=>?_,λF' σ' H' ρ' d' v s S' r o=>(o:False).elim,λF' σ' H' ρ' s S' o=>(o:False).elim,λF' σ' H' ρ' s S' o=>(o:False).elim⟩
  ·obtain⟨f',q,e'⟩:=EC o;exact e' .OU F' H' s (EB S0 s S' q).1 .OU
  ·obtain⟨f',q,e'⟩:=EC o;exact e' v F' H' s (EB S0 s S' q).1 rv
end
structure CF(P:Program)(w:World)(K:Fg)(mg:Pn)(base:Heap)(x:Str)(k:Nat)(sp:Sp):Prop where
 ex:∃(f:Addr) (fd:FuncData) (ps:List Str),Oz P w K mg base (PF P w) k f fd ps sp/\mg x=some (.ref f)/\PySem.W.keepIn K (.ref f)=true/\L2.Binds K fd ps []
def Mw(mf:List D->M D)(ps:Pa D):Pu D:=λρ=>ps (λds=>mf ds) ρ
def Mu(mf:List D->M (List D))(ps:Pa (List D)):Pu (List D):=λρ=>ps (λds=>mf ds) ρ
section
def MI(mf:List D->List D->M (D×List D))(i:Nat)(ms:Ev S (List D)):Ev S D:=λx k ρ=>ms x (λds ρ1=>match gW ρ1 i with
 | some f=>(mf f ds).on (λe=>x e ρ1) (λr=>k r.1 (oE ρ1 i r.2))
 | none=>.bad) ρ
end
def EX(X:Cx)(G:Gh)(Z:L2.St):XK:=λc dd H'=>∃x ρ F1 F' C,c=.ref C/\XW X G F1 ρ x/\GOk G F' H'/\X4 X.K F' Z ρ/\XR X.K F' C dd x
theorem XS.Y0{h:Heap}{lo lo':Nat}{e:Addr}(xs:XS H h lo e C dd)(hl:lo'<=lo):XS H h lo' e C dd:=by
 obtain⟨oe,vs,q,c,d,z,z1,k⟩:=xs.obj;refine⟨di hl xs.yg,xs.Sy,oe,vs,q,c,d,z,z1,k.imp id ?_⟩;rintro⟨T,oT,ts,k,ne,l,r⟩;exact⟨T,oT,ts,k,ne,di hl l,r⟩
def mL(X:Cx)(Z:L2.St)(E:XK):Prop:=∀(a_:K_) (H:Hp) (s:Shared) (e:Value) (s':Shared),Inv X a_ Z H s->PF X.prog X.w X.stack H s E e s'->X.xe e s'
def v7:mL X Z (EX X G Z):=λa_ H s e s' I h=>by
 obtain⟨a,C,dd,H',rfl,ho,hb,un,hk,xs,x,ρ,F1,F',C',ec,xw,g,fz,xr⟩:=h
 cases ec
 refine xw F' H' s' a C dd a_ Z g fz (I.WL ho un hk hb λb z=>absurd z (by simp)) (xs.Y0 I.sz) (λp hp z=>?_) xr;exact absurd (bo (ay (I.pin p hp).1) (xs.tb z).2.1) (nu _)
def EX.of{x:Ex}{p:Nat->Option Addr}(S:c_ X.K G F Z H ρ)(xw:XW X G F ρ x)(g:GOk ⟨p,bB G Z ρ H ex,F⟩ F' H')(xr:XR X.K F' C dd x):EX X G Z (.ref C) dd H' :=
 ⟨x,ρ,F,F',C,rfl,xw,⟨g.fh,λb o h=>g.oh b o (db S h),λb o h=>g.fo b o (db S h),S.fb.trans g.fb⟩,S.XI g.fb,xr⟩
section
variable {k:Nat} {sp:Sp}
def CV{a_:K_}{us:List Value}(F:Oz X.prog X.w X.K X.mg X.base (PF X.prog X.w) k f fd ps sp)(hr:I_ k X.A)(hb:L2.Binds X.K fd ps [])(hx:mL X Z E)
  (I:Inv X a_ Z H s) (r:Vals vs us) (h:sp vs H Q E):wpAny (model X.prog X.w) X.A (call (.ref f) us) (EP X a_ Z Q) X.xe s:=by
 have hl:(us++[]).length=ps.length:=by rw[li,<-r.length];exact F.len _ _ _ _ h
 have bb:=hb s us I.Sa hl;rw[li]at bb;refine wpAny_call (NX (F.run X.A X.stack s H ⟨us,[]⟩ us vs Q E hr I.XJ bb r h) λr s' hq=>?_)
 cases r with
 | error e=>exact hx a_ H s e s' I hq
 | ok fl =>
  cases fl with
  | ret u=>exact I.after hq
  | next=>exact False.elim hq
  | brk=>exact False.elim hq
  | cont=>exact False.elim hq
theorem qa(F:Oz X.prog X.w X.K X.mg X.base (PF X.prog X.w) k f fd ps sp)(hr:I_ k X.A)(hg:Gl X x)(hm:X.mg x=some (.ref f))(hk:PySem.W.keepIn X.K (.ref f)=true)(hb:L2.Binds X.K fd ps [])(hx:mL X Z E)
  (P8:(x==("__debug__" : Str))=false) (he:starEach (e::es) X.env=(false,eval e X.env)::starEach es X.env) (OY:(backTo pos (starEach es X.env)).any (·.1)=false)
  (h:gc X (e::es) Z H λvs H1=>sp vs H1 Q E):fR X (.Call (.Name x p) (e::es) [] pos) Z H Q:=by
 unfold fR;intro a_ s I;unfold gc at h;refine ug (lY I hg hm ?_ P8);refine PySem.W.callWith_K (h₀:=X.base) I.ok.mod.Zc hk (u_ (h pos a_ s I) λus s1 ⟨vs,H1,I1,r,q⟩=>⟨I1.Sa,?_⟩) he OY;exact CV F hr hb hx I1 r q
end
section
variable {k:Nat} {mf:List D->M D} {ml:List D->M (List D)} {m1:List D->List D->M (D×List D)} {m1L:List D->List D->M (List D×List D)} {pn:Pos} {ps:Pa D} {pl:Pa (List D)} {ms:Ev S (List D)}
theorem bQ(C:CF X.prog X.w X.K X.mg X.base x k (C_ X.K n mf))(hr:I_ k X.A)(ha:AA X (e::es) ps)(hg:Gl X x:=by rfl)(hn:(e::es).length=n:=by rfl)
  (P8:(x==("__debug__" : Str))=false:=by decide) (he:starEach (e::es) X.env=(false,eval e X.env)::starEach es X.env:=by rfl) (OY:(backTo pos (starEach es X.env)).any (·.1)=false:=by rfl):AP X (.Call (.Name x p) (e::es) [] pos) (Mw mf ps):=by
 obtain⟨f,fd,pl,Fn,h1,h2,h3⟩:=C.ex;intro G F Z H ρ Q St w;refine qa Fn hr hg h1 h2 h3 (v7 (G:=G)) P8 he OY ?_;refine ha G F Z H ρ _ _ _ St w λds vs F1 H1 s1 S1 hl r1 w1=>?_
 show C_ X.K n mf vs H1 Q (EX X G Z)
 cases hd:mf ds with
 | bad=>rw[hd]at w1;exact w1.elim
 | exc e =>
  rw[hd]at w1;exact⟨_,F1,ds,hl.trans hn,dJ S1 r1,by rw[hd];exact λF' H' Cl dd g xr=>EX.of S1 w1 g xr⟩
 | ret d =>
  rw[hd]at w1;refine⟨_,F1,ds,hl.trans hn,dJ S1 r1,?_⟩;rw[hd];intro v F2 H2 s2 S2 r2;obtain⟨S3,t3⟩:=i5 (avs':=ds.map AV.fz) S1 s2 S2;exact w1 F2 H2 s2 S3 v r2
theorem LM(C:CF X.prog X.w X.K X.mg X.base x k (YN X.K n ml))(hr:I_ k X.A)(ha:AA X (e::es) pl)(hg:Gl X x:=by rfl)(hn:(e::es).length=n:=by rfl)
  (P8:(x==("__debug__" : Str))=false:=by decide) (he:starEach (e::es) X.env=(false,eval e X.env)::starEach es X.env:=by rfl) (OY:(backTo pos (starEach es X.env)).any (·.1)=false:=by rfl):AL X (.Call (.Name x p) (e::es) [] pos) (Mu ml pl):=by
 obtain⟨f,fd,pz,Fn,h1,h2,h3⟩:=C.ex;intro G F Z H ρ Q St w;refine qa Fn hr hg h1 h2 h3 (v7 (G:=G)) P8 he OY ?_;refine ha G F Z H ρ _ _ _ St w λds vs F1 H1 s1 S1 hl r1 w1=>?_
 show YN X.K n ml vs H1 Q (EX X G Z)
 cases hd:ml ds with
 | bad=>rw[hd]at w1;exact w1.elim
 | exc e =>
  rw[hd]at w1;exact⟨_,F1,ds,hl.trans hn,dJ S1 r1,by rw[hd];exact λF' H' Cl dd g xr=>EX.of S1 w1 g xr⟩
 | ret d =>
  rw[hd]at w1;refine⟨_,F1,ds,hl.trans hn,dJ S1 r1,?_⟩;rw[hd];intro v F2 H2 s2 S2 r2;obtain⟨S3,t3⟩:=i5 (avs':=ds.map AV.fz) S1 s2 S2;exact w1 F2 H2 s2 S3 v (t3 v _ r2)
def Bb{f g:List D}(h:gW ρ i=some g):oE ρ i f=setC ρ i (.l f):=nP ρ i f g h
def zj{OK:M S->Prop}{z:Ex->En->M S}{kk:List D->En->M S}{Q:List V->Hp->Prop}(hN:X.N[i]? = some y)(hv:RY X.env.scope y)(hd:(y==("__debug__" : Str))=false)(O2:(y==("__classdict__" : Str))=false)
  (ha:We X es ms) (he:starEach (.Name y pn::es) X.env=(false,eval (.Name y pn) X.env)::starEach es X.env) (hO:Ro OK) (hX:XL X OK z G) (St:c_ X.K G F Z H ρ) (ok:OK (ms z (λds ρ1=>match gW ρ1 i with|some f=>kk (.list f::ds) ρ1|none=>.bad) ρ))
  (h0:(gW ρ i).isSome=true)
  (k2:∀a f ds vs F' H' ρ',f_ F F'->c_ X.K G F' Z H' ρ'->gW ρ' i=some f->Z[i]? = some (some (V.ref a))->vs.length=es.length->h_ X.K F' vs ds->OK (kk (.list f::ds) ρ')->Q (.ref a::vs) H'):gc X (.Name y pn::es) Z H Q:=by
 obtain⟨f0,hf0⟩:=Option.isSome_iff_exists.mp h0;obtain⟨a,_,ea,_,_⟩:=dS St hf0;refine yj (dR (cO hN hv hd O2) cC he) ⟨_,ea,?_⟩;refine ha OK z _ G F Z H ρ _ hO hX St ok λds vs F1 H1 ρ1 s1 S1 hl r1 o1=>?_
 split at o1
 ·rename_i f hf;exact k2 a f ds vs F1 H1 ρ1 s1 S1 hf ea hl r1 o1
 ·exact(hO o1).elim
def ck{S α:Type}(i:Nat)(m:Ev S α):Ev S α:=λx k ρ=>match (gW ρ i).isSome with
 | true=>m x k ρ
 | false=>.bad
def qY{ds f:List D}(S:c_ K G F Z H ρ)(hj:gW ρ j=some f)(ha:Z[j]? = some (some (V.ref a)))(r:h_ K F vs ds) :
  c_ K ⟨P1 a,bB G Z ρ H (some a),F⟩ F ((V.ref a::vs).map some) H (some (.op (.l f))::Q7 ds):=BS S (lJ hj) ha r
theorem bG(C:CF X.prog X.w X.K X.mg X.base x k (PV X.K n m1))(hr:I_ k X.A)(ha:We X es ms)(hg:Gl X x:=by rfl)(hN:X.N[i]? = some y:=by rfl)(hv:RY X.env.scope y:=by exact vi rfl)(hn:es.length+1=n:=by rfl)
  (P8:(x==("__debug__" : Str))=false:=by decide) (he:starEach (.Name y pn::es) X.env=(false,eval (.Name y pn) X.env)::starEach es X.env:=by rfl) (OY:(backTo pos (starEach es X.env)).any (·.1)=false:=by rfl)
  (hd:(y==("__debug__" : Str))=false:=by decide) (O2:(y==("__classdict__" : Str))=false:=by decide):AE X (.Call (.Name x p) (.Name y pn::es) [] pos) (ck i (MI m1 i ms)):=by
 obtain⟨f,fd,pl,Fn,h1,h2,h3⟩:=C.ex;intro OK z kk G F Z H ρ Q hO hX St ok k2;unfold ck at ok;split at ok
 case h_2=>exact(hO ok).elim
 rename_i h0;refine qa Fn hr hg h1 h2 h3 (v7 (G:=G)) P8 he OY ?_;refine zj (OK:=OK) (z:=z) (kk:=λl ρ1=>match l with | .list f::ds=>(m1 f ds).on (λe=>z e ρ1) (λr=>kk r.1 (oE ρ1 i r.2))|_=>.bad) hN hv hd O2 ha he hO hX St ok h0 λa f ds vs F1 H1 ρ1 s1 S1 hf ea hl r1 o1=>?_
 have Vt:OK ((m1 f ds).on (λe=>z e ρ1) (λr=>kk r.1 (oE ρ1 i r.2))):=o1;show PV X.K n m1 (V.ref a::vs) H1 Q (EX X G Z)
 cases hd:m1 f ds with
 | bad=>rw[hd]at Vt;exact(hO Vt).elim
 | exc e =>
  rw[hd]at Vt;exact⟨_,F1,f,ds,by simp[hl];exact hn,qY S1 hf ea r1,by rw[hd];exact λF' H' Cl dd g xr=>EX.of S1 (hX F1 ρ1 e Vt) g xr⟩
 | ret r =>
  rw[hd]at Vt;refine⟨_,F1,f,ds,by simp[hl];exact hn,qY S1 hf ea r1,?_⟩;rw[hd];intro v F2 H2 s2 S2 r2;obtain⟨S3,t3⟩:=zc (c':=.l r.2) (l:=ds.map AV.fz) S1 (lJ hf) ea s2 S2;rw[<-Bb hf]at S3;exact k2 r.1 v F2 H2 _ (s1.trans s2) S3 r2 Vt
end
def CF.zero(k n:Nat)(h1:mg x=some (.ref f))(h2:PySem.W.keepIn K (.ref f)=true)(h3:L2.Binds K fd ps []) :
  CF P w K mg base x k (C_ K n λ_=>.bad):=⟨f,fd,ps,⟨λvs H Q E h=>(by obtain⟨_,_,_,_,_,z⟩:=h;exact z.elim),λA outer s H args us vs Q E hr e0 hb hv h=>(by obtain⟨_,_,_,_,_,z⟩:=h;exact z.elim)⟩,h1,h2,h3⟩
def CF.YC(k n:Nat)(h1:mg x=some (.ref f))(h2:PySem.W.keepIn K (.ref f)=true)(h3:L2.Binds K fd ps []) :
  CF P w K mg base x k (PV K n λ_ _=>.bad):=⟨f,fd,ps,⟨λvs H Q E h=>(by obtain⟨_,_,_,_,_,_,z⟩:=h;exact z.elim),λA outer s H args us vs Q E hr e0 hb hv h=>(by obtain⟨_,_,_,_,_,_,z⟩:=h;exact z.elim)⟩,h1,h2,h3⟩
def _root_.L2.I_.m{k:Nat}(r:I_ k A)(h:j<=k:=by decide):I_ j A:=r.mono h
theorem aj{k:Nat}(r:I_ k A):A.units+1100<cLine:=by have:=r.un;lia
def Wo{S:Type}(m:M S):M S:=match m with
 | .ret s=>.ret s
 | _=>.bad
def iU(s:S):Wo (M.ret s)=.ret s:=rfl
def aV(step:D->M (Option D)):List D->M (List D)
 | []=>.ret []
 | d::r=>bd (Wo (step d)) λo=>bd (aV step r) λxs=>.ret (o.toList++xs)
def xG{step:D->M (Option D)}:∀{ds:List D} {e:Ex},aV step ds≠.exc e
 | [],e,h=>by cases h
 | d::r,e,h=>by
  unfold aV at h
  cases hs:step d with
  | ret o =>
   rw[hs,iU,jY]at h
   cases hr:aV step r with
   | ret xs=>rw[hr]at h;cases h
   | exc e'=>exact xG hr
   | bad=>rw[hr]at h;cases h
  | exc e'=>rw[hs]at h;cases h
  | bad=>rw[hs]at h;cases h
def wb(k:Nat)(it:Pu (List D))(t:Tg (Option D))(pt:Pu Bool)(pe:Pu D):Pu (List D):=λρ=>bd (it ρ) λds =>
 bd (aV (λd=>t d (λρ1=>bd (pt ρ1) λb=>if b then bd (pe ρ1) λv=>.ret (some v)else .ret none) (ρ++List.replicate k none)) ds) cA
def d0{T:Type}(step:T->D->M (Option D×T)):List D->T->M (List D×T)
 | [],s=>.ret ([],s)
 | d::r,s=>bd (Wo (step s d)) λp=>bd (d0 step r p.2) λq=>.ret (p.1.toList++q.1,q.2)
def xE{T:Type}{step:T->D->M (Option D×T)}:∀{ds:List D} {s:T} {e:Ex},d0 step ds s≠.exc e
 | [],s,e,h=>by cases h
 | d::r,s,e,h=>by
  unfold d0 at h
  cases hs:step s d with
  | ret o =>
   rw[hs,iU,jY]at h
   cases hr:d0 step r o.2 with
   | ret xs=>rw[hr]at h;cases h
   | exc e'=>exact xE hr
   | bad=>rw[hr]at h;cases h
  | exc e'=>rw[hs]at h;cases h
  | bad=>rw[hs]at h;cases h
def Ht{S:Type}(sh:List Kd)(k:Nat)(it:Ev S (List D))(t:Tg (Option D×OG sh))(et:Ev (Option D×OG sh) Bool)(ee:Ev (Option D×OG sh) D):Ev S (List D):=λx kk ρ=>it x (λds ρ1=>P2 sh (λs =>
 (d0 (λs d=>t d (λρ2=>et (λe _=>.exc e) (λb ρ3=>if b then ee (λe _=>.exc e) (λv ρ4=>P2 sh (λs'=>.ret (some v,s')) (ρ4.take sh.length)) ρ3 else P2 sh (λs'=>.ret (none,s')) (ρ3.take sh.length)) ρ2) (wr sh s++List.replicate k none)) ds s).on
  (λe=>x e ρ1) (λq=>(cA q.1).on (λe=>x e ρ1) (λout=>kk out (wr sh q.2)))) ρ1) ρ
def K0:Pu Bool:=λ_=>.ret true
def X5(X:Cx)(ifs:List Expr)(p:Pu Bool):Prop :=
 ∀(G:Gh) (F:Hp) (Z:L2.St) (H:Hp) (ρ:En) (Q:Bool->Hp->Prop),c_ X.K G F Z H ρ->W X G F Z ρ (p ρ) (λd F' H'=>Q d H')->∀(a_:K_) (s:Shared),Inv X a_ Z H s ->
  wpAny (model X.prog X.w) X.A (forIn ifs true λc r=>if r=true then do let ok <-isTrue c X.env (eval c X.env);pure (ForInStep.yield ok)else pure (ForInStep.yield r)) (TP X a_ Z Q) X.xe s
def cS:X5 X [] K0:=λG F Z H ρ Q S w a_ s I=>Fl a_ s Z H Q I (w F H (f_.refl _) S)
def eD{c:Expr}{p:Pu Bool}(h:AT X c p):X5 X [c] p:=λG F Z H ρ Q S w a_ s I=>zL eM a_ s Z H Q I (h G F Z H ρ Q S w)
def GQ{S:Type}(X:Cx)(ifs:List Expr)(m:Ev S Bool):Prop :=
 ∀(OK:M S->Prop) (x:Ex->En->M S) (k:Bool->En->M S) (G:Gh) (F:Hp) (Z:L2.St) (H:Hp) (ρ:En) (Q:Bool->Hp->Prop),Ro OK->XL X OK x G->c_ X.K G F Z H ρ->OK (m x k ρ) ->
  (∀d F' H' ρ',f_ F F'->c_ X.K G F' Z H' ρ'->OK (k d ρ')->Q d H')->∀(a_:K_) (s:Shared),Inv X a_ Z H s ->
  wpAny (model X.prog X.w) X.A (forIn ifs true λc r=>if r=true then do let ok <-isTrue c X.env (eval c X.env);pure (ForInStep.yield ok)else pure (ForInStep.yield r)) (TP X a_ Z Q) X.xe s
def AU{ifs:List Expr}{p:Pu Bool}(h:X5 X ifs p):GQ (S:=S) X ifs (V0 p):=λOK x k G F Z H ρ Q hO hX St ok kk=>h G F Z H ρ Q St (W.of hO hX ok λd F' H' s S' o=>kk d F' H' ρ s S' o)
def EK{c:Expr}{m:Ev S Bool}(h:U9 X c m):GQ X [c] m:=λOK x k G F Z H ρ Q hO hX St ok kk a_ s I=>zL eM a_ s Z H Q I (h OK x k G F Z H ρ Q hO hX St ok kk)
def W.YU{m:M α}{a:α}{C:α->Hp->Hp->Prop}(e:m=.ret a)(h:∀F' H',f_ F F'->c_ X.K G F' Z H' ρ->C a F' H'):W X G F Z ρ m C:=by subst e;exact h
def Ck:∀(sh:List Kd) (s:OG sh),(wr sh s).length=sh.length:=by
 intro sh
 induction sh with
 | nil=>intro s;rfl
 | cons a r ih=>intro s;cases a<;>simp[wr,ih]
inductive Wd{τ:Type}(K:Fg)(G:Gh)(Z:L2.St)(k:Nat)(ds:List D)(F1:Hp)(en:τ->En)(go:Nat->τ->List D->Prop)(out:List D):Nat->Nat->List V->L2.St->Hp->Prop
 | mk {i:Nat} {vs:List V} {σ':L2.St} {H':Hp} (F':Hp) (acc rest:List D) (s:τ) (hi:i<=ds.length) (s2:f_ F1 F') (S2:c_ K G F' σ' H' (en s)) (kp:∀j,j<Z.length->σ'[j]? = Z[j]?) (hl:σ'.length=Z.length+k) (rp:h_ K F' vs acc) (g:go i s rest) (eo:out=acc++rest):Wd K G Z k ds F1 en go out i (ds.length - i) vs σ' H'
theorem Wd.on{τ:Type}{k:Nat}{ds:List D}{F1:Hp}{en:τ->En}{go:Nat->τ->List D->Prop}{out:List D}{σ':L2.St}(F':Hp)(acc rest:List D)(s:τ)(hi:i<ds.length)(s2:f_ F1 F')(S2:c_ K G F' σ' H' (en s))(kp:∀j,j<Z.length->σ'[j]? = Z[j]?)(hl:σ'.length=Z.length+k)(rp:h_ K F' vs acc)(g:go (i+1) s rest)(eo:out=acc++rest):∃m',m'<ds.length - i/\Wd K G Z k ds F1 en go out (i+1) m' vs σ' H' :=
 ⟨ds.length - (i+1),by lia,⟨F',acc,rest,s,hi,s2,S2,kp,hl,rp,g,eo⟩⟩
def yY{step:D->M (Option D)}{d:D}{r rest:List D}(h:aV step (d::r)=.ret rest):∃o OD,step d=.ret o/\aV step r=.ret OD/\rest=o.toList++OD:=by
 unfold aV at h
 cases hs:step d with
 | bad=>rw[hs]at h;cases h
 | exc e=>rw[hs]at h;cases h
 | ret o =>
  rw[hs,iU,jY]at h
  cases hr:aV step r with
  | bad=>rw[hr]at h;cases h
  | exc e=>rw[hr]at h;cases h
  | ret OD=>rw[hr,jY]at h;cases h;exact⟨o,OD,rfl,rfl,rfl⟩
def yX{T:Type}{step:T->D->M (Option D×T)}{d:D}{r rest:List D}{s sf:T}(h:d0 step (d::r) s=.ret (rest,sf)):∃o sn OD,step s d=.ret (o,sn)/\d0 step r sn=.ret (OD,sf)/\rest=o.toList++OD:=by
 unfold d0 at h
 cases hs:step s d with
 | bad=>rw[hs]at h;cases h
 | exc e=>rw[hs]at h;cases h
 | ret o =>
  obtain⟨o,sn⟩:=o;rw[hs,iU,jY]at h
  cases hr:d0 step r sn with
  | bad=>rw[hr]at h;cases h
  | exc e=>rw[hr]at h;cases h
  | ret q'=>obtain⟨OD,sf'⟩:=q';rw[hr,jY]at h;cases h;exact⟨o,sn,OD,rfl,hr,rfl⟩
def t9{A B:Type}{m:M A}{f:A->M B}{b:B}(h:bd m f=.ret b):∃a,m=.ret a/\f a=.ret b:=by
 cases m with
 | bad=>cases h
 | exc e=>cases h
 | ret a=>exact⟨a,rfl,h⟩
section
def sG(X:Cx)(N':List Str)(scope:Scope)(tg:Expr):TG:=λv Z H Q=>∀cl s H0 fp C,sC (bv X N' scope cl s H0 fp C) tg v Z H Q
def sD(X:Cx)(N':List Str)(scope:Scope)(ifs:List Expr):TT:=λZ H Q=>∀cl s0 H0 fp C,∀(a_:K_) (s:Shared),Inv (bv X N' scope cl s0 H0 fp C) a_ Z H s ->
  wpAny (model X.prog X.w) (bv X N' scope cl s0 H0 fp C).A (forIn ifs true λc r=>if r=true then do let ok <-isTrue c (bv X N' scope cl s0 H0 fp C).env (eval c (bv X N' scope cl s0 H0 fp C).env);pure (ForInStep.yield ok)else pure (ForInStep.yield r)) (TP (bv X N' scope cl s0 H0 fp C) a_ Z Q) (bv X N' scope cl s0 H0 fp C).xe s
def sH(X:Cx)(N':List Str)(scope:Scope)(e:Expr):TE:=λZ H Q=>∀cl s H0 fp C,fR (bv X N' scope cl s H0 fp C) e Z H Q
variable {elt iter:Expr} {ifs:List Expr} {scope:Scope} {N':List Str} {k:Nat}
theorem u5{it:Pu (List D)}{t:Tg (Option D)}{pt:Pu Bool}{pe:Pu D}(hi:AI X tg iter it)
  (hg:∀cl s H fp C,AG (bv X N' scope cl s H fp C) X.N.length tg t) (ht:∀cl s H fp C,X5 (bv X N' scope cl s H fp C) ifs pt) (he:∀cl s H fp C,AP (bv X N' scope cl s H fp C) elt pe)
  (hσ:Z.length=X.N.length) (St:c_ X.K G F Z H ρ) (w:W X G F Z ρ (wb k it t pt pe ρ) λds F' H'=>∀v,Frs X.K G F' Z H' ρ v (.l ds)->Q v H') :
  zD (jh X tg iter) k (sG X N' scope tg) (sD X N' scope ifs) (sH X N' scope elt) Z H Q:=by
 refine hi G F Z H ρ _ St (w.bind.imp λds F1 H1 s1 S1 w1 J wk=>?_);have hP:∀i a,G.P i=some a->i<Z.length:=λi a h=>(List.getElem?_eq_some_iff.mp (S1.pp i a h).1).1
 have hln:Z.length=ρ.length:=S1.ln;have wc:=w1.bind;revert wc;generalize P6:(λd=>t d (λρ1=>bd (pt ρ1) λb=>if b then bd (pe ρ1) λv=>.ret (some v)else .ret none) (ρ++List.replicate k none))=step;intro wc
 cases RU:aV step ds with
 | bad=>rw[RU]at wc;exact wc.elim
 | exc e=>exact(xG RU).elim
 | ret out =>
  rw[RU]at wc;have wf:∀F' H',f_ F1 F'->c_ X.K G F' Z H' ρ->W X G F' Z ρ (cA out) λds F' H'=>∀v,Frs X.K G F' Z H' ρ v (.l ds)->Q v H':=wc
  have Sg:out.length<=sizeLine:=(wf F1 H1 (f_.refl _) S1).fit.1;have fin:∀F' H',f_ F1 F'->c_ X.K G F' Z H' ρ->∀v,Frs X.K G F' Z H' ρ v (.l out)->Q v H':=λF' H' s' S'=>(wf F' H' s' S').fit.2 F' H' (f_.refl _) S'
  have grown:∀{F' H' σ' ρ'},c_ X.K G F' σ' H' ρ'->(∀j,j<Z.length->σ'[j]? = Z[j]? /\ ρ'[j]? = ρ[j]?)->σ'.length=Z.length+k->c_ X.K G F' σ' H' (ρ++List.replicate k none):=λ{F' H' σ' ρ'} S' kp hl=>by
   refine S'.weak (by have:=S'.ln;simp;lia) (λi av q=>?_) (λi c q=>?_)
   ·have q':=iH q;have hi:i<Z.length:=by rw[hln];exact(List.getElem?_eq_some_iff.mp q').1
    rw[(kp i hi).2];exact q'
   ·obtain⟨a,ha⟩:=S'.pq i c q;have hi:=hP i a ha;rw[io (by lia),<-(kp i hi).2];exact q
  refine⟨Wd X.K G Z k ds F1 (λ_:Unit=>ρ++List.replicate k none) (λi _ rest=>aV step (ds.drop i)=.ret rest) out,
   ⟨_,⟨F1,[],out,(),be _,f_.refl _,S1.grow k,λj hj=>by rw[io hj],by simp,.nil,RU,rfl⟩⟩,?_⟩
  rintro i m vs σ' H' ⟨F',acc,rest,_,hi,s2,S2,kp,hlen,rp,go,eo⟩;refine⟨by rw[rp.length];rw[eo,Qh]at Sg;lia,?_⟩;by_cases Oi:i<ds.length
  ·refine .inr ⟨wk.go i G F' σ' H' _ s2 S2 Oi,λx H2 y cl s0 H0 fp C=>?_⟩;obtain⟨F3,s3,S3,r3⟩:=wk.Sw i G F' σ' H' _ x H2 ds[i] s2 S2 (ac Oi) y;rw[u8 Oi]at go;obtain⟨o,OD,TV,hr,er⟩:=yY go;subst er;clear go;rw[<-P6]at TV;refine hg cl s0 H0 fp C (λm=>m=.ret o) _ G F3 σ' H2 _ x ds[i] _ (λz=>nomatch z) S3 r3 TV λσ3 ρ3 S4 kp3 hl3 ml3 o4=>?_
   have VB:∀j,j<Z.length->σ3[j]? = Z[j]? /\ ρ3[j]? = ρ[j]?:=λj hj=>⟨((kp3 j (by lia)).1).trans (kp j hj),by rw[(kp3 j (by lia)).2,io (by lia)]⟩
   obtain⟨b,RH,o4⟩:=t9 o4;intro cl s0 H0 fp C;refine ht cl s0 H0 fp C G F3 σ3 H2 ρ3 _ S4 (W.YU RH λF5 H5 s5 S5=>?_)
   cases b with
   | true =>
    refine rX ?_;obtain⟨v,Xq,o5⟩:=t9 (m:=pe ρ3) o4
    cases o5
    intro cl s0 H0 fp C;refine he cl s0 H0 fp C G F5 σ3 H5 ρ3 _ S5 (W.YU Xq λF6 H6 s6 S6 u ru=>?_);exact Wd.on F6 (acc++[v]) OD () Oi (((s2.trans s3).trans s5).trans s6) (grown S6 VB (by lia)) (λj hj=>(VB j hj).1) (by lia) ((rp.mono ((s3.trans s5).trans s6)).append (.cons ru .nil)) hr (by rw[eo];simp)
   | false =>
    refine uT ?_;have o4':(M.ret none:M (Option D))=M.ret o:=o4
    cases o4'
    exact Wd.on F5 acc OD () Oi ((s2.trans s3).trans s5) (grown S5 VB (by lia)) (λj hj=>(VB j hj).1) (by lia) (rp.mono (s3.trans s5)) hr (by rw[eo];simp)
  ·have ei:i=ds.length:=by lia
   subst ei;rw[M3]at go
   cases go
   rw[li]at eo;subst eo;refine .inl ⟨wk.stop G F' σ' H' _ s2 S2,λp hp=>?_⟩;have ZX:=S2.shrink (n:=Z.length) (by simp;lia) hP;have e1:σ'.take Z.length=Z:=pQ kp rfl;have e2:(ρ++List.replicate k none).take Z.length=ρ:=by rw[hln,List.take_left]
   rw[e1,e2]at ZX;obtain⟨S5,r5⟩:=ZX.OO hp rp;exact fin F' _ s2 S5 _ r5
theorem dz{it:Pu (List D)}{t:Tg (Option D)}{pt:Pu Bool}{pe:Pu D}(hc:X.calm=true)(Sc:Pf X N' k scope)(hi:AI X tg iter it)
  (hg:∀cl s H fp C,AG (bv X N' scope cl s H fp C) X.N.length tg t) (ht:∀cl s H fp C,X5 (bv X N' scope cl s H fp C) ifs pt) (he:∀cl s H fp C,AP (bv X N' scope cl s H fp C) elt pe)
  (hs:∀x,foldedSetIterable iter X.env x=pure x:=by exact λ_=>rfl):AL X (.ListComp elt [⟨tg,iter,ifs,0⟩] scope pos) (wb k it t pt pe):=by
 intro G F Z H ρ Q St w;unfold fR;intro a_ s I;refine zU (wi:=jh X tg iter) (g:=sG X N' scope tg) (tc:=sD X N' scope ifs) (te:=sH X N' scope elt) hc Sc (λx hx hf=>I.ok.has x.1 (Sc.free x hx hf)) qp
  (λcl s H fp C a_ s' Z H v u Q I r h=>kS a_ s' Z H v u Q I r (h cl _ _ fp C)) (λcl s H fp C a_ s' Z H Q I h=>h cl _ _ fp C a_ s' I) (λcl s H fp C a_ s' Z H Q I h=>aN a_ s' Z H Q I (h cl _ _ fp C)) hs a_ s Z H Q I (u5 hi hg ht he I.len St w)
theorem Eg{sh:List Kd}{it:Ev S (List D)}{t:Tg (Option D×OG sh)}{et:Ev (Option D×OG sh) Bool}{ee:Ev (Option D×OG sh) D}{OK:M S->Prop}{x:Ex->En->M S}{kk:List D->En->M S}(hi:YB X tg iter it)
  (hg:∀cl s H fp C,AG (bv X N' scope cl s H fp C) X.N.length tg t) (ht:∀cl s H fp C,GQ (bv X N' scope cl s H fp C) ifs et) (he:∀cl s H fp C,AE (bv X N' scope cl s H fp C) elt ee)
  (hσ:Z.length=X.N.length) (hO:Ro OK) (hX:XL X OK x G) (St:c_ X.K G F Z H ρ) (ok:OK (Ht sh k it t et ee x kk ρ)) (k2:∀ds v F' H' ρ',f_ F F'->c_ X.K G F' Z H' ρ'->Frs X.K G F' Z H' ρ' v (.l ds)->OK (kk ds ρ')->Q v H') :
  zD (jh X tg iter) k (sG X N' scope tg) (sD X N' scope ifs) (sH X N' scope elt) Z H Q:=by
 refine hi OK x _ G F Z H ρ _ hO hX St ok λds J F1 H1 ρ1 s1 S1 wk o1=>?_
 obtain⟨s0,e0,o0⟩:=gi hO o1;clear o1;have S0:=S1.rd e0;have zat:sh.length=Z.length:=(Ck sh s0).symm.trans S0.ln.symm;have Tt:∀s:OG sh,(wr sh s).length=Z.length:=λs=>(Ck sh s).trans zat
 have hP:∀i a,G.P i=some a->i<Z.length:=λi a h=>(List.getElem?_eq_some_iff.mp (S1.pp i a h).1).1
 revert o0;generalize P6:(λ(s:OG sh) d=>t d (λρ2=>et (λe _=>.exc e) (λb ρ3=>if b then ee (λe _=>.exc e) (λv ρ4=>P2 sh (λs'=>.ret (some v,s')) (ρ4.take sh.length)) ρ3 else P2 sh (λs'=>.ret (none,s')) (ρ3.take sh.length)) ρ2) (wr sh s++List.replicate k none))=step;intro o0
 cases RU:d0 step ds s0 with
 | bad=>rw[RU]at o0;exact(hO o0).elim
 | exc e=>exact(xE RU).elim
 | ret q =>
  obtain⟨out,sf⟩:=q;rw[RU,IC]at o0;obtain⟨Sg,o0⟩:=Ji hO o0;have again:∀{F' H' σ' ρ'} {s':OG sh},c_ X.K G F' σ' H' ρ'->(∀j,j<Z.length->σ'[j]? = Z[j]?)->σ'.length=Z.length+k->rd sh (ρ'.take sh.length)=some s'->c_ X.K G F' σ' H' (wr sh s'++List.replicate k none):=λ{F' H' σ' ρ' s'} S' kp hl e'=>by
   obtain⟨h1,h2,h3⟩:=ji sh _ s' e';have hρ':ρ'.length=Z.length+k:=by rw[<-S'.ln];exact hl
   refine S'.weak (by simp[Tt];lia) (λi av q=>?_) (λi c q=>?_)
   ·have q':=iH q;have:=h2 i av q';have hi:i<sh.length:=by
     have:=(List.getElem?_eq_some_iff.mp this).1;rw[ss]at this;lia
    rw[ir hi]at this;exact this
   ·obtain⟨a,ha⟩:=S'.pq i c q;have hi:=hP i a ha;rw[io (by rw[Tt];exact hi)];exact h3 i c (by rw[ir (by lia)];exact q)
  refine⟨Wd X.K G Z k ds F1 (λs=>wr sh s++List.replicate k none) (λi s rest=>d0 step (ds.drop i) s=.ret (rest,sf)) out,
   ⟨_,⟨F1,[],out,s0,be _,f_.refl _,S0.grow k,λj hj=>by rw[io hj],by simp,.nil,RU,rfl⟩⟩,?_⟩
  rintro i m vs σ' H' ⟨F',acc,rest,sc,hi,s2,S2,kp,hlen,rp,go,eo⟩;refine⟨by rw[rp.length];rw[eo,Qh]at Sg;lia,?_⟩;by_cases Oi:i<ds.length
  ·refine .inr ⟨wk.go i G F' σ' H' _ s2 S2 Oi,λx H2 y cl sx H0 fp C=>?_⟩;obtain⟨F3,s3,S3,r3⟩:=wk.Sw i G F' σ' H' _ x H2 ds[i] s2 S2 (ac Oi) y;rw[u8 Oi]at go;obtain⟨o,sn,OD,TV,hr,er⟩:=yX go;subst er;clear go;rw[<-P6]at TV;refine hg cl sx H0 fp C (λm=>m=.ret (o,sn)) _ G F3 σ' H2 _ x ds[i] _ (λz=>nomatch z) S3 r3 TV λσ3 ρ3 S4 kp3 hl3 ml3 o4=>?_
   have VB:∀j,j<Z.length->σ3[j]? = Z[j]?:=λj hj=>((kp3 j (by lia)).1).trans (kp j hj)
   intro cl sx H0 fp C;refine ht cl sx H0 fp C (λm=>m=.ret (o,sn)) (λe _=>.exc e) _ G F3 σ3 H2 ρ3 _ (λz=>nomatch z) (λF ρ e z=>nomatch z) S4 o4 λb F5 H5 ρ5 s5 S5 o5=>?_
   cases b with
   | true =>
    refine rX ?_;intro cl sx H0 fp C;refine he cl sx H0 fp C (λm=>m=.ret (o,sn)) (λe _=>.exc e) _ G F5 σ3 H5 ρ5 _ (λz=>nomatch z) (λF ρ e z=>nomatch z) S5 o5 λv u F6 H6 ρ6 s6 S6 ru o6=>?_
    obtain⟨s',e',o'⟩:=gi (OK:=λm=>m=.ret (o,sn)) (λz=>nomatch z) o6
    cases o'
    exact Wd.on F6 (acc++[v]) OD sn Oi (((s2.trans s3).trans s5).trans s6) (again S6 VB (by lia) e') VB (by lia) ((rp.mono ((s3.trans s5).trans s6)).append (.cons ru .nil)) hr (by rw[eo];simp)
   | false =>
    refine uT ?_;obtain⟨s',e',o'⟩:=gi (OK:=λm=>m=.ret (o,sn)) (λz=>nomatch z) o5
    cases o'
    exact Wd.on F5 acc OD sn Oi ((s2.trans s3).trans s5) (again S5 VB (by lia) e') VB (by lia) (rp.mono (s3.trans s5)) hr (by rw[eo];simp)
  ·have ei:i=ds.length:=by lia
   subst ei;rw[M3]at go
   cases go
   rw[li]at eo;subst eo;refine .inl ⟨wk.stop G F' σ' H' _ s2 S2,λp hp=>?_⟩;have ZX:=S2.shrink (n:=Z.length) (by simp[Tt]) hP;have e1:σ'.take Z.length=Z:=pQ kp rfl;have e2:(wr sh sf++List.replicate k none).take Z.length=wr sh sf:=by rw[<-Tt sf,List.take_left]
   rw[e1,e2]at ZX;obtain⟨S5,r5⟩:=ZX.OO hp rp;exact k2 _ _ F' _ _ (s1.trans s2) S5 r5 o0
theorem rJ{sh:List Kd}{it:Ev S (List D)}{t:Tg (Option D×OG sh)}{et:Ev (Option D×OG sh) Bool}{ee:Ev (Option D×OG sh) D}(hc:X.calm=true)(Sc:Pf X N' k scope)(hi:YB X tg iter it)
  (hg:∀cl s H fp C,AG (bv X N' scope cl s H fp C) X.N.length tg t) (ht:∀cl s H fp C,GQ (bv X N' scope cl s H fp C) ifs et) (he:∀cl s H fp C,AE (bv X N' scope cl s H fp C) elt ee)
  (hs:∀x,foldedSetIterable iter X.env x=pure x:=by exact λ_=>rfl):YA X (.ListComp elt [⟨tg,iter,ifs,0⟩] scope pos) (Ht sh k it t et ee):=by
 intro OK x kk G F Z H ρ Q hO hX St ok k2;unfold fR;intro a_ s I;refine zU (wi:=jh X tg iter) (g:=sG X N' scope tg) (tc:=sD X N' scope ifs) (te:=sH X N' scope elt) hc Sc (λx hx hf=>I.ok.has x.1 (Sc.free x hx hf)) qp
  (λcl s H fp C a_ s' Z H v u Q I r h=>kS a_ s' Z H v u Q I r (h cl _ _ fp C)) (λcl s H fp C a_ s' Z H Q I h=>h cl _ _ fp C a_ s' I) (λcl s H fp C a_ s' Z H Q I h=>aN a_ s' Z H Q I (h cl _ _ fp C)) hs a_ s Z H Q I (Eg hi hg ht he I.len hO hX St ok k2)
theorem oB{R4:Pos}{it:Pu (List D)}{t:Tg (Option D)}{pt:Pu Bool}{pe:Pu D}
  (hN:X.N.Nodup) (hy:X.N[i]? = some y) (Zo:Loc X.env.scope y) (UK:X.fn y=true\/X.env.scope.names.lookup y=some .local) (hc:X.calm=true) (Sc:Pf X N' k scope) (hi:AI X tg iter it)
  (hg:∀cl s H fp C,AG (bv X N' scope cl s H fp C) X.N.length tg t) (ht:∀cl s H fp C,X5 (bv X N' scope cl s H fp C) ifs pt) (he:∀cl s H fp C,AP (bv X N' scope cl s H fp C) elt pe)
  (UC:swapsWith (.ListComp elt [⟨tg,iter,ifs,0⟩] scope pos) (some (.Name y pos')) R4.line X.env=pure true) (hs:∀x,foldedSetIterable iter X.env x=pure x) :
  AS (S:=S) X (.Assign [.Name y pos'] (.ListComp elt [⟨tg,iter,ifs,0⟩] scope pos) R4) (GW i (V0 (wb k it t pt pe))):=by
 intro OK K G F Z H ρ E hO hX St ok eo;unfold jg;intro a_ s I;refine ql (wi:=jh X tg iter) (g:=sG X N' scope tg) (tc:=sD X N' scope ifs) (te:=sH X N' scope elt) hN hy Zo UK hc Sc (λx hx hf=>I.ok.has x.1 (Sc.free x hx hf)) qp
  (λcl s H fp C a_ s' Z H v u Q I r h=>kS a_ s' Z H v u Q I r (h cl _ _ fp C)) (λcl s H fp C a_ s' Z H Q I h=>h cl _ _ fp C a_ s' I) (λcl s H fp C a_ s' Z H Q I h=>aN a_ s' Z H Q I (h cl _ _ fp C)) UC hs a_ s Z H E I ?_
 refine u5 hi hg ht he I.len St ?_;refine W.of hO hX ok λd F' H' s S' o v r=>?_
 have o':OK (match gJ ρ i with|true=>K.nx (ρ.set i (some (.ol (.l d))))|false=>.bad):=o;split at o'
 ·rename_i ho;obtain⟨hl,Rt⟩:=dD ho;exact eo.nx F' _ H' _ s (S'.store Rt hl (.inr ⟨.l d,rfl,r⟩)) o'
 ·exact(hO o').elim
theorem cU{R4:Pos}{it:Pu (List D)}{t:Tg (Option D)}{pt:Pu Bool}{pe:Pu D}
  (hN:X.N.Nodup) (hy:X.N[i]? = some y) (Zo:Loc X.env.scope y) (UK:X.fn y=true\/X.env.scope.names.lookup y=some .local) (hc:X.calm=true) (Sc:Pf X N' k scope) (hi:AI X tg iter it)
  (hg:∀cl s H fp C,AG (bv X N' scope cl s H fp C) X.N.length tg t) (ht:∀cl s H fp C,X5 (bv X N' scope cl s H fp C) ifs pt) (he:∀cl s H fp C,AP (bv X N' scope cl s H fp C) elt pe)
  (UC:swapsWith (.ListComp elt [⟨tg,iter,ifs,0⟩] scope pos) (some (.Name y pos')) R4.line X.env=pure true) (hs:∀x,foldedSetIterable iter X.env x=pure x) :
  AS (S:=S) X (.Assign [.Name y pos'] (.ListComp elt [⟨tg,iter,ifs,0⟩] scope pos) R4) (Kl i (V0 (pZ (wb k it t pt pe)))):=by
 intro OK K G F Z H ρ E hO hX St ok eo;unfold jg;intro a_ s I;refine ql (wi:=jh X tg iter) (g:=sG X N' scope tg) (tc:=sD X N' scope ifs) (te:=sH X N' scope elt) hN hy Zo UK hc Sc (λx hx hf=>I.ok.has x.1 (Sc.free x hx hf)) qp
  (λcl s H fp C a_ s' Z H v u Q I r h=>kS a_ s' Z H v u Q I r (h cl _ _ fp C)) (λcl s H fp C a_ s' Z H Q I h=>h cl _ _ fp C a_ s' I) (λcl s H fp C a_ s' Z H Q I h=>aN a_ s' Z H Q I (h cl _ _ fp C)) UC hs a_ s Z H E I ?_
 refine u5 hi hg ht he I.len St ?_;have w:W X G F Z ρ (pZ (wb k it t pt pe) ρ) (λd F' H'=>∀v,Rep X.K F' v d->gn i v Z H' E.nx):=W.of hO hX ok λd F' H' s S' o v r=>by
  have o':OK (match gJ ρ i with|true=>K.nx (ρ.set i (some (.fz d)))|false=>.bad):=o;split at o'
  ·rename_i ho;obtain⟨hl,Rt⟩:=dD ho;exact eo.nx F' _ H' _ s (S'.store Rt hl (.inl ⟨d,rfl,r⟩)) o'
  ·exact(hO o').elim
 refine w.bind.imp λds F' H' s1 S1 w1 v fr=>?_
 obtain⟨F2,s2,S2,r2⟩:=S1.settle (v:=v) (ds:=ds) fr;exact w1 F2 H' s2 S2 v r2
end
end L4
namespace HT
open PySem PySem.Spec PyProof.Rows
section
variable {prog:Program}{w:World}{A:Around}{E:Of}{s:Shared}
def P_{t sl:Addr}{items:Array Value}{vl vu:Value}{lo hi:Option Int}{Q:Of}(ht:IsTup s.heap t items)(hs:s.heap.IsSliceOf sl vl vu .none)(pl:IsPart vl lo)(pu:IsPart vu hi)
  (hw:J_ items.size 0 lo=0/\J_ items.size items.size hi=items.size) (h:Q (.ref t) s):wpAny (model prog w) A (getItem (.ref t) (.ref sl)) Q E s:=by
 obtain⟨os,Xr,Yg,RT⟩:=id hs;have hTs:s.TypeIs (.ref sl) "slice":=⟨os,Xr,Yg⟩;unfold getItem
 try with_reducible refine um ?_
 first|refine i_ (s_ ?_)|skip
 refine i_ (wpAny_sequenceKey ht.typeIs (by decide) ?_)
 refine i_ (je (name:=Str.ofString "__getitem__") ht.typeIs Ch
  (ou Ch ht.typeIs entry_tuple_getitem ?_ (args_tuple_getitem _ _)))
 show wpAny _ _ (Builtin.Tuple.tupleItemsOf (.ref t) >>= _) _ _ s;refine i_ (tupleItemsOf_ ht ?_);refine i_ (NU hTs ?_);rw[al (by decide)];refine i_ (ij hs pl pu ?_);have zap:((((J_ items.size 0 lo:Nat):Int)==0&&(1:Int)==1&&(J_ items.size items.size hi - J_ items.size 0 lo)==items.size)=true):=by
  rw[hw.1,hw.2];simp
 show wpAny _ _ (if(((J_ items.size 0 lo:Nat):Int)==0&&(1:Int)==1&&(J_ items.size items.size hi - J_ items.size 0 lo)==items.size)=true then _ else _) _ _ s;rw[al zap];obtain⟨o,ho,hc,n,hd⟩:=id ht;have hex:∀{Q':Bool->Shared->Prop},Q' true s->wpAny (model prog w) A.in1 (Builtin.Tuple.tupleIsExact (.ref t)) Q' E s:=λ{Q'} q=>by
  unfold Builtin.Tuple.tupleIsExact;refine i_ (NU ht.typeIs (s_ ?_));exact q
 first
  | exact i_ (hex (i_ (NV (s_ ⟨_,rfl,s_ h⟩))))
  | exact i_ (i_ (hex (i_ (NV (s_ (s_ ⟨_,rfl,s_ h⟩))))))
end
end HT
namespace L4
open PySem PySem.Spec PyProof.Rows L2 L3
variable {K:Fg}{X:Cx}
def cutD(ds:List D)(lo hi:Option Int):List D:=(ds.drop (HT.J_ ds.length 0 lo)).take (HT.J_ ds.length ds.length hi - HT.J_ ds.length 0 lo)
def u3{F:Hp}{vs:List V}{ds:List D}(r:h_ K F vs ds)(lo hi:Option Int):h_ K F (xD vs lo hi) (cutD ds lo hi):=by
 unfold xD cutD;rw[r.length];exact(r.drop _).take _
def Mj(K:Fg):V->Option Int->Option Int->Hp->VK->Prop:=λx lo hi H Q=>∃a xs,x=.ref a/\N_ K H a xs/\(HT.J_ xs.length 0 lo=0/\HT.J_ xs.length xs.length hi=xs.length)/\Q x H
def Vi:WN X (Mj X.K):=by
 intro a_ s Z H x v vl vu lo hi sl Q I rx hs pl pu h;obtain⟨a,xs,rfl,hx,hw,q⟩:=h
 cases rx
 obtain⟨k_,r,ht,hz⟩:=I.tuple hx;have hlen:k_.toArray.size=xs.length:=by rw[ax];exact r.length.symm
 refine⟨"tuple",_,PyProof.Rows.slot_tuple_getitem.lookup,ht.typeIs,?_⟩;exact HT.P_ ht hs pl pu (by rw[hlen];exact hw) ⟨.ref a,H,I,rfl,q⟩
def Mp:Pu (Option Int):=λ_=>.ret none
def QG(d:D):M (Option Int):=match d with
 | .int i=>.ret (some i)
 | _=>.bad
def Ms(p:Pu D):Pu (Option Int):=λρ=>bd (p ρ) QG
def fJ(d:D)(lo hi:Option Int):Option D:=match d with
 | .tuple ds=>some (.tuple (cutD ds lo hi))
 | .list ds=>some (.list (cutD ds lo hi))
 | _=>none
def Ir(p:Pu D)(l h:Pu (Option Int)):Pu D:=λρ=>bd (p ρ) λd=>bd (l ρ) λlo=>bd (h ρ) λhi=>oM (fJ d lo hi)
def APo(X:Cx)(e:Option Expr)(p:Pu (Option Int)):Prop :=
 ∀(G:Gh) (F:Hp) (Z:L2.St) (H:Hp) (ρ:En) (Q:Option Int->Hp->Prop),c_ X.K G F Z H ρ->W X G F Z ρ (p ρ) (λd F' H'=>Q d H')->∀(a_:K_) (s:Shared),Inv X a_ Z H s ->
  wpAny (model X.prog X.w) X.A (evalPart e X.env) (λu s'=>∃o H',Inv X a_ Z H' s'/\IsPart u o/\Q o H') X.xe s
def Kb(X:Cx)(e:Option Expr):TO:=λZ H Q=>∀(a_:K_) (s:Shared),Inv X a_ Z H s->wpAny (model X.prog X.w) X.A (evalPart e X.env) (λu s'=>∃o H',Inv X a_ Z H' s'/\IsPart u o/\Q o H') X.xe s
def Da{e:Option Expr}:PO X e (Kb X e):=λa_ s Z H Q I h=>h a_ s I
section
variable {e:Expr} {lo hi:Option Expr} {p:Pu D} {pl ph:Pu (Option Int)} {pos p2:Pos}
def cK:APo X none Mp:=λG F Z H ρ Q S w a_ s I=>zQ a_ s Z H Q I (w F H (f_.refl _) S)
def cJ(h:AP X e p):APo X (some e) (Ms p):=λG F Z H ρ Q S w a_ s I=>zP aN a_ s Z H Q I (h G F Z H ρ _ S (w.bind.imp λd F1 H1 s1 S1 w1 v r=>by
 cases r with
 | int i=>exact⟨i,rfl,w1 F1 H1 (f_.refl _) S1⟩
 | bl b=>exact w1.elim
 | OU=>exact w1.elim
 | str i=>exact w1.elim
 | tup _ _=>exact w1.elim
 | lst _ _=>exact w1.elim
 | Sl _ _ _=>exact w1.elim
 | V2 _ _ _=>exact w1.elim
 | exc _ _ _ _ _=>exact w1.elim
 | fn _=>exact w1.elim))
def cL(he:AO X e p)(hl:APo X lo pl)(hh:APo X hi ph):AP X (.Subscript e (.Slice lo hi none p2) pos) (Ir p pl ph) :=
 λG F Z H ρ Q S w=>Po (v4 (W2.or (Vi.or zF)) aN Da Da) (he G F Z H ρ _ S (w.bind.imp λd F1 H1 s1 S1 w1 x hx =>
  hl G F1 Z H1 ρ _ S1 (w1.bind.imp λlo F2 H2 s2 S2 w2=>hh G F2 Z H2 ρ _ S2 (w2.bind.imp λhi F3 H3 s3 S3 w3=>by
   obtain⟨res,hr,k⟩:=w3.opt;have ox:=(hx.mono (s2.trans s3)).or S3
   cases d<;>try (cases hr)
   ·obtain⟨a,vs,rfl,h1,h2⟩:=ox.list S3.fh;refine .inr (.inr ⟨a,vs,rfl,h1,λq hq=>?_⟩);obtain⟨S4,r4⟩:=S3.OO hq (u3 h2 lo hi);obtain⟨F5,s5,S5,r5⟩:=S4.settle r4;exact k F5 _ s5 S5 _ r5
   ·rename_i ds;obtain⟨a,vs,rfl,h1,h2⟩:=ox.tuple S3.fh;by_cases hw:HT.J_ vs.length 0 lo=0/\HT.J_ vs.length vs.length hi=vs.length
    ·refine .inr (.inl ⟨a,vs,rfl,h1,hw,k F3 H3 (f_.refl _) S3 _ ?_⟩);have:cutD ds lo hi=ds:=by
      unfold cutD;rw[<-h2.length,hw.1,hw.2];simp[h2.length]
     rw[this];exact ox.Vd
    ·refine .inl ⟨a,vs,rfl,h1,hw,λq hq=>?_⟩;obtain⟨s4,S4,r4⟩:=S3.O7 hq (u3 h2 lo hi)
     exact k _ _ s4 S4 _ r4))))
end
def kW(d e:D):Option Bool:=match d,e with
 | .bool a,.bool b=>some (a != b)
 | _,.none=>some (!isNone d)
 | _,_=>none
section
def Dp:OA X (compareOp .IsNot) (Vp X.K kW):=by
 intro a_ s Z H x y v u Q I rx ry ⟨d,e,b,r1,r2,ho,q⟩;unfold kW at ho;split at ho
 ·cases ho
  obtain rfl:=(r1.of rfl).bool_inv;obtain rfl:=(r2.of rfl).bool_inv
  cases rx
  cases ry
  exact PyProof.Rows.isnot_bool ⟨.bl _,H,I,rfl,q⟩
 ·exact Do a_ s Z H x y v u Q I rx ry ⟨d,.none,b,r1,r2,by rw[<-ho];rfl,q⟩
 ·cases ho
end
def boolsOf:List D->Option (List Bool)
 | []=>some []
 | .bool b::r=>match boolsOf r with
  | some l=>some (b::l)
  | none=>none
 | _=>none
def lq:∀{ds:List D} {bs:List Bool},boolsOf ds=some bs->ds=bs.map PyData.bool
 | [],_,h=>by cases h;rfl
 | .bool i::r,ns,h=>by
  dsimp only[boolsOf]at h;split at h
  ·rename_i l e;cases h;rw[lq e];rfl
  ·cases h
 | .none::_,_,h=>by cases h
 | .int _::_,_,h=>by cases h
 | .str _::_,_,h=>by cases h
 | .list _::_,_,h=>by cases h
 | .tuple _::_,_,h=>by cases h
 | .dict _::_,_,h=>by cases h
def oj(bs:List Bool):boolsOf (bs.map PyData.bool)=some bs:=by
 induction bs with
 | nil=>rfl
 | cons b r ih=>simp[boolsOf,ih]
def qe{K:Fg}{F:Hp}:∀{vs:List V} {bs:List Bool},h_ K F vs (bs.map PyData.bool)->vs=bs.map V.bl
 | _,[],h=>by cases h;rfl
 | _,n::r,h=>by
  cases h with
  | cons a b=>cases a;rw[qe b];rfl
def kI:∀{bs:List Bool} {us:List Value},Vals (bs.map V.bl) us->us=bs.map Value.bool
 | [],_,h=>by cases h;rfl
 | n::r,_,h=>by
  cases h with
  | cons a b=>cases a;rw[kI b];rfl
def Gm:List D->Option Bool
 | [.list ds]=>(boolsOf ds).map λbs=>bs.all id
 | _=>none
def Gk:List D->Option Bool
 | [.list ds]=>(boolsOf ds).map λbs=>bs.any id
 | _=>none
def qi(K:Fg)(f:List Bool->Bool):List V->Hp->VK->Prop:=λxs H Q=>∃a bs,xs=[.ref a]/\Ot K H a (bs.map V.bl)/\Q (.bl (f bs)) H
def wx{f:List Bool->Bool}{g:List D->Option Bool}(hg:∀l b,g l=some b->∃bs,l=[.list (bs.map PyData.bool)]/\b=f bs):vE K (qi K f) g:=by
 intro G F Z H ρ xs ds res Q S o e k;obtain⟨bs,rfl,rfl⟩:=hg _ _ e;obtain⟨v,r,rfl,ho,hr⟩:=bD o;obtain rfl:=bT hr;obtain⟨a,vs,rfl,h1,h2⟩:=ho.list S.fh;rw[qe h2]at h1;exact⟨a,bs,rfl,h1,k⟩
def IJ:vE K (qi K λbs=>bs.all id) Gm:=wx λl b h=>by
 unfold Gm at h;split at h
 ·obtain⟨bs,e,rfl⟩:=Option.map_eq_some_iff.mp h;exact⟨bs,by rw[lq e],rfl⟩
 ·cases h
def II:vE K (qi K λbs=>bs.any id) Gk:=wx λl b h=>by
 unfold Gk at h;split at h
 ·obtain⟨bs,e,rfl⟩:=Option.map_eq_some_iff.mp h;exact⟨bs,by rw[lq e],rfl⟩
 ·cases h
def tM{prog:Program}{w:World}{A:Around}{E:Of}{s:Shared}{l:Addr}{k_:Array Value}{Q:Of}(hl:s.heap.IsList l k_)
  (h:∀s₂:Shared,s₂={ s with heap:=s.heap.push { cls:=.type "list_iterator",data:=.fields #[.ref l,.int 0 0] } } ->
   (s₂.heap.IsListIter s.heap.objs.size l 0/\s₂.heap.IsList l k_)->l≠s.heap.objs.size->Q (.ref s.heap.objs.size) s₂) :
  wpAny (model prog w) A (pyIter (.ref l)) Q E s:=by
 have Oi:l<s.heap.objs.size:=by obtain⟨_,e,_⟩:=hl;exact ay e
 exact Na hl (h _ rfl ⟨⟨_,OX _ rfl,rfl,rfl⟩,hl.push _⟩ (gu Oi))
def nN{prog:Program}{w:World}{A:Around}(bs:List Bool):TruthOf prog w A (λi v=>(bs.map Value.bool).toArray[i]? = some v) (λi=>bs.getD i false):=λi v s Q E hP hQ=>by
 dsimp only at hP hQ;rw[Nj,fu]at hP;obtain⟨b,e,rfl⟩:=Option.map_eq_some_iff.mp hP;rw[eg,e]at hQ;exact M9 hQ
def all_range(bs:List Bool):(List.range bs.length).all (λi=>bs.getD i false)=bs.all id:=by
 induction bs with
 | nil=>rfl
 | cons b r ih =>
  rw[gs,N2,Nr,List.all_map,Nr];simp only[List.getD_cons_zero,id_eq];congr 1
def any_range(bs:List Bool):(List.range bs.length).any (λi=>bs.getD i false)=bs.any id:=by
 induction bs with
 | nil=>rfl
 | cons b r ih =>
  rw[gs,N2,wo,N4,wo];simp only[List.getD_cons_zero,id_eq];congr 1
def Eu(hc:X.calm=true):p_ X (.builtin "all") (qi X.K λbs=>bs.all id):=by
 intro a_ s Z H xs us Q I r h;obtain⟨a,bs,rfl,hq,q⟩:=h;obtain⟨u,rfl,ru⟩:=Vals.one r
 cases ru
 obtain⟨k_,rv,pl,hz⟩:=I.list hq;rw[kI rv]at pl;refine call_all_walk (tM pl.isList λs₂ e st hlI=>?_);subst e;refine⟨_,_,_,_,_,_,_,rfl,Walks.list (A:=X.A.in1) (I.ok.hd hc) _ a hlI (bs.map Value.bool).toArray,st,nN bs,λh' tk hk=>?_⟩;refine⟨.bl (bs.all id),H,I.kept (old_kept hk),?_,q⟩;show _=_;rw[<-all_range bs];simp
def Et(hc:X.calm=true):p_ X (.builtin "any") (qi X.K λbs=>bs.any id):=by
 intro a_ s Z H xs us Q I r h;obtain⟨a,bs,rfl,hq,q⟩:=h;obtain⟨u,rfl,ru⟩:=Vals.one r
 cases ru
 obtain⟨k_,rv,pl,hz⟩:=I.list hq;rw[kI rv]at pl;refine call_any_walk (tM pl.isList λs₂ e st hlI=>?_);subst e;refine⟨_,_,_,_,_,_,_,rfl,Walks.list (A:=X.A.in1) (I.ok.hd hc) _ a hlI (bs.map Value.bool).toArray,st,nN bs,λh' tk hk=>?_⟩;refine⟨.bl (bs.any id),H,I.kept (old_kept hk),?_,q⟩;show _=_;rw[<-any_range bs];simp
def n8:List D->Option (List D)
 | [.list ds]=>some ds
 | [.tuple ds]=>some ds
 | _=>none
def KF(K:Fg):List V->Hp->VK->Prop:=λxs H Q=>∃p ys,xs=[.ref p]/\(Ot K H p ys\/N_ K H p ys)/\∀l,H l=none->Q (.ref l) (upd H l (.lst ys))
def uC:AZ K (KF K) n8:=by
 intro G F Z H ρ xs ds res Q S o e k;unfold n8 at e;split at e
 ·cases e
  obtain⟨v,r,rfl,ho,hr⟩:=bD o;obtain rfl:=bT hr;obtain⟨a,vs,rfl,h1,h2⟩:=ho.list S.fh;refine⟨a,vs,rfl,.inl h1,λl hl=>?_⟩;obtain⟨S2,r2⟩:=S.OO hl h2;exact k _ F _ (f_.refl _) S2 r2
 ·cases e
  obtain⟨v,r,rfl,ho,hr⟩:=bD o;obtain rfl:=bT hr;obtain⟨a,vs,rfl,h1,h2⟩:=ho.tuple S.fh;refine⟨a,vs,rfl,.inr h1,λl hl=>?_⟩;obtain⟨S2,r2⟩:=S.OO hl h2;exact k _ F _ (f_.refl _) S2 r2
 ·cases e
def mz:List D->Option D
 | [.int i]=>some (.int i)
 | [.bool b]=>some (.int (if b then 1 else 0))
 | _=>none
def kX:gC K (λxs H Q=>(∃i,xs=[.int i]/\Q (.int i) H)\/∃k,xs=[.bl k]/\Q (.int (if k then 1 else 0)) H) mz:=by
 intro G F Z H ρ xs ds res Q S o e k;unfold mz at e;split at e
 ·cases e
  obtain⟨v,r,rfl,ho,hr⟩:=bD o;obtain rfl:=bT hr;exact .inl ⟨_,by rw[ho.int],k _ F H (f_.refl _) S (.int _)⟩
 ·cases e
  obtain⟨v,r,rfl,ho,hr⟩:=bD o;obtain rfl:=bT hr;exact .inr ⟨_,by rw[ho.bool],k _ F H (f_.refl _) S (.int _)⟩
 ·cases e
section
variable {S:Type}
def putD(ds:List D)(j d:D):Option (List D):=match j with
 | .int k=>(Tq ds.length k).map λq=>ds.set q d
 | _=>none
def Md(i:Nat)(mi me:Ev S D):SM S:=λK ρ=>me K.x (λd ρ1=>match gW ρ1 i with
 | some _=>mi K.x (λj ρ2=>match gW ρ2 i with
  | some ds=>(oM (putD ds j d)).on (λe=>K.x e ρ2) (λTb=>K.nx (oE ρ2 i Tb))
  | none=>.bad) ρ1
 | none=>.bad) ρ
def Kq(i:Nat)(f:D->D->Option D)(me:Ev S D):SM S:=λK ρ=>match ρ[i]? with
 | some (some (.fz x))=>me K.x (λd ρ1=>(oM (f x d)).on (λe=>K.x e ρ1) (λr=>match gJ ρ1 i with
  | true=>K.nx (ρ1.set i (some (.fz r)))
  | false=>.bad)) ρ
 | _=>.bad
def G3(i:Nat)(f:D->D->Option D)(mj me:Ev S D):SM S:=λK ρ=>match gW ρ i with
 | some _=>mj K.x (λj ρ1=>match gW ρ1 i with
  | some ds=>(oM (dC (.list ds) j)).on (λe=>K.x e ρ1) (λx=>me K.x (λd ρ2=>(oM (f x d)).on (λe=>K.x e ρ2) (λr=>match gW ρ2 i with
   | some ds2=>(oM (putD ds2 j r)).on (λe=>K.x e ρ2) (λTb=>K.nx (oE ρ2 i Tb))
   | none=>.bad)) ρ1)
  | none=>.bad) ρ
 | none=>.bad
def ipD(f:D->D->Option D)(K:Fg)(t:Wa):Prop:=∀(x y:V) (dx dy r:D) (F H:Hp) (Q:VK),Rep K F x dx->Rep K F y dy->f dx dy=some r->(∀v,Rep K F v r->Q v H)->t x y H Q
def mY:D->D->Option D
 | .int i,.int j=>some (.int (i+j))
 | _,_=>none
def uU:ipD mY K (ipI λi j=>i+j):=λx y dx dy r F H Q r1 r2 e k=>by
 cases dx<;>first|exact QK e|(cases dy<;>first|exact QK e|cases e)
 obtain rfl:=r1.int_inv;obtain rfl:=r2.int_inv;exact⟨_,_,rfl,rfl,k _ (.int _)⟩
def FZ:ipD gG K (ipI λi j=>i - j):=λx y dx dy r F H Q r1 r2 e k=>by
 cases dx<;>first|exact QK e|(cases dy<;>first|exact QK e|cases e)
 obtain rfl:=r1.int_inv;obtain rfl:=r2.int_inv;exact⟨_,_,rfl,rfl,k _ (.int _)⟩
variable {a b e:Expr} {mi me:Ev S D} {pos pos' Ov apos A_:Pos} {ml:Ev S (List D)}
def nJ{i:Nat}{x:Str}(hN:X.N[i]? = some x)(hv:RY X.env.scope x)(hi:AE X b mi)(he:AE X e me)(ha:∀v,assign (.Subscript (.Name x pos') b Ov) X.env v=(do
   let ov <-holding [v] (eval (.Name x pos') X.env)
   let iv <-holding [v,ov] (eval b X.env)
   standAt Ov
   holding [v,ov,iv] (setItem ov iv v)
   release [v,ov,iv] []))
  (hs:swapsWithSole [.Subscript (.Name x pos') b Ov] e pos.line X.env=pure false) (hw:swappedStores [.Subscript (.Name x pos') b Ov] e X.env=pure none)
  (h1:(assignEach [.Subscript (.Name x pos') b Ov] X.env).map (·.2)=[assign (.Subscript (.Name x pos') b Ov) X.env])
  (hd:(x==("__debug__" : Str))=false:=by decide) (O2:(x==("__classdict__" : Str))=false:=by decide):AS X (.Assign [.Subscript (.Name x pos') b Ov] e pos) (Md i mi me):=λOK K G F Z H ρ E hO hX St ok eo =>
 ik (C8 aN (Ii (cO hN hv hd O2) aN set_list ha) hs hw h1) (he OK K.x _ G F Z H ρ _ hO hX St ok λd v F1 H1 ρ1 s1 S1 r1 o1=>by
  split at o1
  case h_2=>exact(hO o1).elim
  rename_i XM Xy;obtain⟨a,Vb,ea,_,_⟩:=dS S1 Xy;refine⟨_,ea,hi OK K.x _ G F1 Z H1 ρ1 _ hO hX S1 o1 λj u F2 H2 ρ2 s2 S2 r2 o2=>?_⟩;split at o2
  case h_2=>exact(hO o2).elim
  rename_i ds RT;obtain⟨Tb,hp,o3⟩:=dA hO o2;obtain⟨a',vs,OM,hh,rv⟩:=dS S2 RT;rw[ea]at OM;injection OM with OM;injection OM with OM;injection OM with OM;subst OM;unfold putD at hp;split at hp
  ·rename_i k;obtain⟨q,hq,rfl⟩:=Option.map_eq_some_iff.mp hp;obtain rfl:=r2.int_inv;refine⟨a,vs,k,q,rfl,rfl,hh,by rw[rv.length];exact hq,?_⟩;exact eo.nx F2 Z _ _ (s1.trans s2) (lI S2 RT ea (h_.set (r1.mono s2) q rv)) o3
  ·cases hp)
def JH{i:Nat}{x:Str}{op:Operator}{t:Wa}{f:D->D->Option D}(hN:X.N.Nodup)(hi:X.N[i]? = some x)(hx:Loc X.env.scope x)(ho:Yu X op t)(hf:ipD f X.K t)(he:AE X e me)(UK:X.fn x=true\/X.env.scope.names.lookup x=some .local) :
  AS X (.AugAssign (.Name x pos') op e pos) (Kq i f me):=λOK K G F Z H ρ E hO hX St ok eo =>
 ik (Ie hN hi hx aN ho UK) (by
  unfold Kq at ok;split at ok
  case h_2=>exact(hO ok).elim
  rename_i dx Zu;obtain⟨v,ev,rv⟩:=St.fz i dx Zu;refine⟨v,ev,he OK K.x _ G F Z H ρ _ hO hX St ok λd u F1 H1 ρ1 s1 S1 r1 o1=>?_⟩;obtain⟨r,er,o2⟩:=dA hO o1;refine hf v u dx d r F1 H1 _ (rv.mono s1) r1 er λz rz=>?_
  split at o2
  ·rename_i n_;obtain⟨hl,Rt⟩:=dD n_;exact eo.nx F1 _ H1 _ s1 (S1.store Rt hl (.inl ⟨r,rfl,rz⟩)) o2
  ·exact(hO o2).elim)
def MF:V->V->Hp->VK->Prop:=λx y H Q=>∃p xs i v,x=.ref p/\y=.int i/\H p=some (.lst xs)/\Sr xs i=some v/\Q v H
end
def kindB(k:NameKind):Option NameKind->Bool
 | some k'=>k==k'
 | none=>false
def AC(N N':List Str)(k:Nat)(scope sc:Scope):Bool :=
 (scope.kind==.function)&&(N'.length==N.length+k)&&scope.names.all (λy=>y.2 != .cell||kindB .cell (scope.names.lookup y.1))&&scope.names.all (λy=>y.2 != .local||kindB .local (scope.names.lookup y.1))
  && ((List.range N.length).all λi=>match N'[i]? with
   | some x=>!(kindB .free (scope.names.lookup x)||kindB .local (scope.names.lookup x)||kindB .cell (scope.names.lookup x))||(N[i]? == some x&&kindB .free (scope.names.lookup x))
   | none=>true)
  && scope.names.all (λy=>y.2 != .free||kindB .cell (sc.names.lookup y.1)||kindB .free (sc.names.lookup y.1))
def jL{k:NameKind}{o:Option NameKind}(h:kindB k o=true):o=some k:=by
 cases o with
 | none=>cases h
 | some k'=>simp[kindB]at h;rw[h]
def DN{k:NameKind}{o:Option NameKind}(h:o=some k):kindB k o=true:=by subst h;simp[kindB]
def aW{N N':List Str}{k:Nat}{scope sc:Scope}(h:AC N N' k scope sc=true)(hN:X.N=N)(hs:X.env.scope=sc):Pf X N' k scope:=by
 subst hN hs;simp only[AC,am,xz,beq_iff_eq,ua,bne_iff_ne,ne_eq]at h;obtain⟨⟨⟨⟨⟨h1,h2⟩,h3⟩,h4⟩,h5⟩,h6⟩:=h;refine⟨h1,h2,λy hy hl=>?_,λy hy hl=>?_,λi x hi hx _ hk=>?_,λy hy hf=>?_⟩
 ·rcases h3 y hy with z|z
  ·exact absurd hl z
  ·exact jL z
 ·rcases h4 y hy with z|z
  ·exact absurd hl z
  ·exact jL z
 ·have:=h5 i (List.mem_range.mpr hi);rw[hx]at this;simp only[ua,Ni,am,beq_iff_eq]at this;rcases this with z|⟨z1,z2⟩
  ·exfalso;rcases hk with hk|hk|hk<;>simp[DN hk]at z
  ·exact⟨z1,jL z2⟩
 ·rcases h6 y hy with (z|z)|z
  ·exact absurd hf z
  ·exact .inl (jL z)
  ·exact .inr (jL z)
def Bw{H:Hp}{a:Addr}{ns:List Int}{mf:List D->M D}(hS:Ot K H a (ns.map V.int))(h:mf [.list (ns.map PyData.int)]=.ret (.bool true)):C_ K 1 mf [.ref a] H (λv _=>v=.bl true) λ_ _ _=>False:=by
 refine⟨⟨λ_=>none,λ_=>none,H⟩,H,[.list (ns.map PyData.int)],rfl,⟨f_.refl _,λb o z=>(nomatch z),λb o z=>(nomatch z),rfl,λi d z=>?_,λi c z=>(iT (ds:=[.list (ns.map PyData.int)]) z).elim,λi j c e a z=>(iT (ds:=[.list (ns.map PyData.int)]) z).elim,λi a z=>(nomatch z),λi c z=>?_,f_.refl _⟩,?_⟩
 ·obtain⟨d',e,q⟩:=lh (ds:=[.list (ns.map PyData.int)]) z
  cases e
  cases i with
  | zero=>simp at q;subst q;exact⟨_,rfl,.lst hS (h_.ints ns)⟩
  | succ i=>simp at q
 ·obtain⟨d',e,q⟩:=lh (ds:=[.list (ns.map PyData.int)]) z
  cases e
 ·rw[h];intro v F' H' s S' r
  cases r
  rfl
end L4
namespace HT
end HT
namespace L4
open PySem PySem.Spec PyProof.Rows L2 L3
variable {S:Type}
section
variable {X:Cx} {a:Expr} {pa:Pu D} {pos:Pos} {ta:TE}
def Fu(ha:PE X a ta):PE X (.UnaryOp .Not a pos) (λZ H Q=>ta Z H λx H'=>∃k,JS X.K x H' k/\Q (.bl (!k)) H'):=by
 intro a_ s Z H Q I h;refine UnaryOp_ (u_ (ha a_ s Z H _ I h) λv s1 ⟨x,H1,I1,r1,q1⟩=>?_);obtain⟨k,q1,q2⟩:=q1;exact not_of (u_ (Ct a_ s1 Z H1 x v (λc H'=>Q (.bl (!c)) H') I1 r1 ⟨k,q1,q2⟩) λc s2 ⟨H2,I2,q⟩=>⟨.bl (!c),H2,I2,rfl,q⟩)
def pH(ha:AO X a pa):AB X (.UnaryOp .Not a pos) (K4 (K2 pa)) :=
 λG F Z H ρ Q S w=>Po (Fu aN) (ha G F Z H ρ _ S (w.bind.bind.imp λx F1 H1 s1 S1 w1 v hv=>by
  obtain⟨bb,hb,k⟩:=w1.opt;refine⟨bb,?_,k F1 H1 (f_.refl _) S1 F1 H1 (f_.refl _) S1⟩;have o:=hv.or S1
  cases x with
  | none=>rw[o.none];cases hb;exact rfl
  | bool i=>rw[o.bool];cases hb;exact rfl
  | int i=>rw[o.int];cases hb;exact rfl
  | str i =>
   rw[o.str];unfold ki at hb;dsimp only at hb;split at hb
   ·rename_i hl;cases hb;exact⟨hl,rfl⟩
   ·cases hb
  | list ds=>obtain⟨a,vs,rfl,h1,h2⟩:=o.list S1.fh;cases hb;exact .inl ⟨vs,h1,(fU h2).symm⟩
  | tuple ds=>obtain⟨a,vs,rfl,h1,h2⟩:=o.tuple S1.fh;cases hb;exact .inr (.inl ⟨vs,h1,(fU h2).symm⟩)
  | dict ds=>cases hb))
end
noncomputable def dP{S T:Type}:(T->D->(T->M S)->M S)->List D->T->(T->M S)->M S:=Classical.choose (⟨@dn S T,rfl⟩:∃f,f = @dn S T)
def cg{T:Type} : @dP S T = @dn S T:=Classical.choose_spec (⟨@dn S T,rfl⟩:∃f,f = @dn S T)
noncomputable def mM{S T:Type}:(T->(T->M S)->M S)->Nat->T->M S:=Classical.choose (⟨@bF S T,rfl⟩:∃f,f = @bF S T)
def hZ{T:Type} : @mM S T = @bF S T:=Classical.choose_spec (⟨@bF S T,rfl⟩:∃f,f = @bF S T)
section
noncomputable def CS(sh:List Kd)(it:Ev S (List D))(t:Tg S)(mb:SM S):SM S:=λK ρ=>it K.x (λds ρ1=>P2 sh (λs=>dP (λs d kn=>t d (λρ2=>mb (ky sh K kn) ρ2) (wr sh s)) ds s (λs'=>K.nx (wr sh s'))) ρ1) ρ
noncomputable def uv(sh:List Kd)(fuel:Nat)(c:Ev S Bool)(mb:SM S):SM S:=λK ρ=>P2 sh (λs=>mM (λs kn=>c K.x (λb ρ2=>if b then mb (ky sh K kn) ρ2 else P2 sh (λs'=>K.nx (wr sh s')) ρ2) (wr sh s)) fuel s) ρ
def CQ(sh:List Kd)(it:Ev S (List D))(t:Tg S)(mb:SM S):CS sh it t mb=HR sh it t mb:=by
 unfold CS HR;rw[cg]
def yl(sh:List Kd)(fuel:Nat)(c:Ev S Bool)(mb:SM S):uv sh fuel c mb=ym sh fuel c mb:=by
 unfold uv ym;rw[hZ]
variable {X:Cx} {mb:SM S} {c:Expr} {mt:Ev S Bool} {ml:Ev S (List D)} {pos:Pos}
theorem bJ{tg iter:Expr}{body:List Stmt}{sh:List Kd}{t:Tg S}(hp:PassesOwn (model X.prog X.w) X.A X.env X.xe)(hc:X.calm=true)(hi:YB X tg iter ml)(hg:AG X 0 tg t)(hb:RK X body mb)
  (hs:∀x,foldedSetIterable iter X.env x=pure x:=by exact λ_=>rfl):AS X (.For tg iter body [] pos) (CS sh ml t mb):=by
 rw[CQ];exact JF hp hc hi hg hb hs
def kf{body:List Stmt}{sh:List Kd}{fuel:Nat}(hp:PassesOwn (model X.prog X.w) X.A X.env X.xe)(hc:U9 X c mt)(hb:RK X body mb):AS X (.While c body [] pos) (uv sh fuel mt mb):=by
 rw[yl];exact ED hp hc hb
end
end L4
namespace HT
open PySem PySem.Spec PyProof.Rows
section
variable {prog:Program}{w:World}{A:Around}{E:Of}{s:Shared}{xs:Array (Int×Tok)}{l:Addr}
theorem SR{Q:Of}(hh:A.handled=none)(hl:s.heap.IsTuple l (intItems xs))(Ts:0<xs.size)
  (h:∀v h' tk,(intItems xs)[argBest (λi j=>decide (numAt xs i>numAt xs j)) (xs.size - 1)]? = some v->(∀b o,s.heap.get? b=some o->h'.get? b=some o)->Q v { s with heap:=h',toks:=tk }) :
  wpAny (model prog w) A (call (.builtin "max") [.ref l]) Q E s:=by
 have Oi:l<s.heap.objs.size:=by obtain⟨_,e,_⟩:=hl;exact ay e
 refine call_max_walk (ue hl ?_);refine⟨_,_,_,_,_,_,_,rfl,Walks.tuple (A:=A.in1) hh _ l (gu Oi) (intItems xs),⟨⟨_,OX _ rfl,rfl,rfl⟩,?_⟩,λb hb=>?_,by simpa[intItems]using Ts,CmpOf.ints_gt (numAt xs) (λ_ _=>intItems_at),λv h' tk hP hk=>?_⟩
 ·obtain⟨o,e,r⟩:=hl;exact⟨o,Od _ e,r⟩
 ·show b<(s.heap.push _).objs.size;rw[qu];rcases List.mem_cons.mp hb with rfl|hb
  ·exact No _
  ·rcases List.mem_cons.mp hb with rfl|hb
   ·exact NN Oi
   ·cases hb
 ·refine h v h' tk (by simpa[intItems]using hP) λb o e=>hk b o (λhm=>?_) (Od _ e)
  rcases List.mem_cons.mp hm with e1|hm
  ·exact absurd (e1▸ay e) (nu _)
  ·cases hm
end
end HT
namespace L4
open PySem PySem.Spec PyProof.Rows L2 L3
def Eb:List D->Option D
 | [.tuple ds]=>match intsOf ds with
  | some (n::r)=>some (.int (uP (n::r)))
  | _=>none
 | _=>none
def qh(K:Fg)(f:List Int->Option Int):List V->Hp->VK->Prop:=λxs H Q=>∃a ns i,xs=[.ref a]/\N_ K H a (ns.map V.int)/\f ns=some i/\Q (.int i) H
def FJ{K:Fg}:gC K (qh K BF) Eb:=by
 intro G F Z H ρ xs ds res Q S o e k;unfold Eb at e;split at e
 ·split at e
  ·rename_i Sz
   cases e
   obtain⟨v,r,rfl,ho,hr⟩:=bD o;obtain rfl:=bT hr;obtain⟨a,vs,rfl,h1,h2⟩:=ho.tuple S.fh;rw[dm Sz]at h2;rw[dk h2]at h1;exact⟨a,_,_,rfl,h1,rfl,k _ F H (f_.refl _) S (show Rep K F _ _ from .int _)⟩
  ·cases e
 ·cases e
def BX{X:Cx}(hc:X.calm=true):p_ X (.builtin "max") (qh X.K BF):=by
 intro a_ s Z H xs us Q I r h0;obtain⟨a,ns,i,rfl,hq,e,q⟩:=h0;obtain⟨u,rfl,ru⟩:=Vals.one r
 cases ru
 obtain⟨k_,rv,pl,hz⟩:=I.tuple hq;obtain⟨ps,rfl,rfl⟩:=eJ rv;have Ts:ps≠[]:=by rintro rfl;cases e
 have Se:ps.map Prod.fst≠[]:=by simpa using Ts
 have ei:i=uP (ps.map Prod.fst):=by
  cases hp:ps.map Prod.fst with
  | nil=>exact absurd hp Se
  | cons n r=>rw[hp]at e;cases e;rfl
 subst ei;have hl:s.heap.IsTuple a (intItems ps.toArray):=by
  have:s.heap.IsTuple a _:=pl;unfold intItems;simpa using this
 have SW:0<ps.length:=List.length_pos_iff.mpr Ts;refine HT.SR (I.ok.hd hc) hl (by simpa using SW) λv h' tk hv hk=>?_
 obtain⟨t,rfl⟩:=intItems_at hv;refine⟨.int _,H,I.kept hk,⟨_,rfl⟩,?_⟩;have b:=argBest_gt (numAt ps.toArray) (ps.toArray.size - 1);generalize argBest (λi j=>decide (numAt ps.toArray i>numAt ps.toArray j)) (ps.toArray.size - 1)=m at b hv;have hm:m<ps.length:=by
  have h0:=b.1;simp at h0;lia
 have RG:=tG Se;have e1:numAt ps.toArray m=uP (ps.map Prod.fst):=by
  refine Int.le_antisymm ?_ ?_
  ·refine RG.1 _ ?_;rw[fg,eg,ac (by simpa using hm)];exact oC _
  ·obtain⟨j,hj,ej⟩:=ut RG.2;have h0:=b.2 j (by simp at hj ⊢;lia);rw[fg,eg,ac hj]at h0;rw[<-ej];exact h0
 rw[e1];exact q
end L4
namespace PySem
open Sem (wp)
open AutoSeq1 (wpAny_loadPart')
variable {Q:Of}{l1 l2:Addr}{xs ys:Array Value}
section
variable {prog:Program} {w:World} {A:Around} {E:Of} {s:Shared}
theorem iV{it t:Addr}{i:Nat}{items}{x:Value}(hit:s.heap.IsTupleIter it t i)
  (ht:s.heap.IsTuple t items) (hx:items[i]? = some x)
  (hQ:∀h',h'.IsTupleIter it t (i+1)->Heap.SameBut it s.heap h'->Q x { s with heap:=h' }) :
  wpAny (model prog w) A (Builtin.SmallTypes.nextOf (.ref it)) Q E s:=by
 obtain⟨o,ho,hc,hd⟩:=id hit;obtain⟨ol,hol,_,nl,Yf⟩:=ht;unfold Builtin.SmallTypes.nextOf
 refine i_ (je (name:=Str.ofString "__next__") hit.typeIs M0
  (ou M0 hit.typeIs F.entry_tuple_iterator_next ?_ (F.args_tuple_iterator_next_1 _)))
 show wpAny _ _ (field (.ref it) 0 >>= _) _ _ s;refine i_ (ig ho hd (x:=.ref t) rfl ?_);show wpAny _ _ (if(Value.ref t==Value.none)=true then _ else _) _ _ s;rw[ar (show ¬ ((Value.ref t==Value.none)=true)from pI)];show wpAny _ _ (field (.ref it) 1 >>= _) _ _ s;refine i_ (ig ho hd (x:=.int i 0) rfl ?_);show wpAny _ _ (seqItems? (.ref t) >>= _) _ _ s;refine i_ (yi hol Yf ?_);simp only[sE,hx];refine i_ (ye ho hd (by simp) (s_ ⟨x,rfl,s_ (hQ _ ?_ (Heap.SameBut.update ..))⟩))
 exact⟨_,wa _ ho (y9 (mo hd _)),(NM ..).trans hc,by
  rw[mo hd];simp[rawInt]⟩
theorem j6{it t:Addr}{i:Nat}{items}(hh:A.handled=none)
  (hit:s.heap.IsTupleIter it t i) (ht:s.heap.IsTuple t items) (hx:items[i]? = none)
  (hE:∀h' e,Heap.ExtBut it s.heap h'->(∃o,h'.get? e=some o/\o.cls=.type "StopIteration")->E (.ref e) { s with heap:=h' }) :
  wpAny (model prog w) A (Builtin.SmallTypes.nextOf (.ref it)) Q E s:=by
 obtain⟨o,ho,hc,hd⟩:=id hit;obtain⟨ol,hol,_,nl,Yf⟩:=ht;unfold Builtin.SmallTypes.nextOf
 refine i_ (je (name:=Str.ofString "__next__") hit.typeIs M0
  (ou M0 hit.typeIs F.entry_tuple_iterator_next ?_ (F.args_tuple_iterator_next_1 _)))
 show wpAny _ _ (field (.ref it) 0 >>= _) _ _ s;refine i_ (ig ho hd (x:=.ref t) rfl ?_);show wpAny _ _ (if(Value.ref t==Value.none)=true then _ else _) _ _ s;rw[ar (show ¬ ((Value.ref t==Value.none)=true)from pI)];show wpAny _ _ (field (.ref it) 1 >>= _) _ _ s;refine i_ (ig ho hd (x:=.int i 0) rfl ?_);show wpAny _ _ (seqItems? (.ref t) >>= _) _ _ s;refine i_ (yi hol Yf ?_);simp only[sE,hx];refine i_ (NV (i_ (ye ho hd (by simp) ?_)))
 first
  | (show wpAny _ _ (newExc (.type "StopIteration") [] >>= _) _ _ _
     refine i_ ?_;simp only[newExc,newTuple];refine i_ (im ?_ (by size_fits));refine i_ (m:=firstArgMember _ _) (wpAny_of_eq (a:=Value.none) (by first|rfl|(simp only[firstArgMember];rfl)) ?_);refine im ?_ (by size_fits);simp only[raiseNew];refine i_ (wpAny_handled ?_)
     first|rw[show A.in1.handled=none from hh]|rw[hh]
     refine i_ (s_ (wpAny_throw ?_))
     exact hE _ _ (((Heap.SameBut.update ..).extBut.push _).push _) ⟨_,OX _ rfl,rfl⟩)
  | (refine i_ (NJ ?_)
     show wpAny _ _ (newExc (.type "StopIteration") [] >>= _) _ _ _;refine i_ ?_;simp only[newExc,newTuple];refine i_ (im ?_ (by size_fits));refine i_ (m:=firstArgMember _ _) (wpAny_of_eq (a:=Value.none) (by first|rfl|(simp only[firstArgMember];rfl)) ?_);refine im ?_ (by size_fits);simp only[raiseNew];refine i_ (wpAny_handled ?_)
     first|rw[show A.in1.handled=none from hh]|rw[hh]
     refine i_ (s_ (wpAny_throw ?_))
     exact hE _ _ (((Heap.SameBut.update ..).extBut.push _).push _) ⟨_,OX _ rfl,rfl⟩)
structure Zt(h:Heap)(z p q i1 i2 l1 l2:Addr)(f0 u v:Value)(k1 k2:Nat):Prop where
 z0:IsZip h z p q f0
 p0:IsPair h p (.ref i1) (.ref i2)
 q0:IsPair h q u v
 a0:h.IsTupleIter i1 l1 k1
 b0:h.IsTupleIter i2 l2 k2
theorem A0{z p q i1 i2:Addr}{k:Nat}{x y u v:Value}(D:ZipApart z p q i1 i2 l1 l2)
  (T:Zt s.heap z p q i1 i2 l1 l2 .none u v k k) (e1:s.heap.IsTuple l1 xs) (e2:s.heap.IsTuple l2 ys) (hx:xs[k]? = some x) (hy:ys[k]? = some y)
  (hQ:∀h',Zt h' z p q i1 i2 l1 l2 (rawInt s.heap.objs.size) x y (k+1) (k+1)->IsPair h' s.heap.objs.size x y ->
   (∀c o,c≠z->c≠q->c≠i1->c≠i2->s.heap.get? c=some o->h'.get? c=some o)->Q (.ref s.heap.objs.size) { s with heap:=h' }) :
  wpAny (model prog w) A (Builtin.«zip.__next__» ⟨[.ref z],[]⟩) (λfin s'=>∃r,fin=.done (.ret r)/\Q r s') E s:=by
 have z0:=T.z0;show wpAny _ _ (field (.ref z) 2 >>= _) _ _ _;refine i_ (ig z0 rfl (x:=.bool false) rfl ?_);show wpAny _ _ (field (.ref z) 3 >>= _) _ _ _;refine i_ (ig z0 rfl (x:=.ref p) rfl (i_ (yi T.p0 rfl ?_)));show wpAny _ _ (Builtin.SmallTypes.ownedTupleIsFree (.ref z) >>= _) _ _ _;refine i_ ?_;unfold Builtin.SmallTypes.ownedTupleIsFree;refine i_ (ig z0 rfl (x:=.none) rfl (s_ ?_));simp only[oP];refine i_ (NV (i_ (ig z0 rfl (x:=.ref q) rfl ?_)));refine i_ (pi z0 (by simp) λg1 (z1:IsZip g1 z p q .ellipsis) (m1:Heap.SameBut z s.heap g1)=>i_ ?_);simp only[List.zipIdx_cons,List.zipIdx_nil,Nx,List.forIn_nil];refine i_ (i_ (NP ?_));show wpAny _ _ (Builtin.SmallTypes.nextOf (.ref i1) >>= _) _ _ _;refine i_ (iV (T.a0.at λo e=>m1.extBut _ _ D.i1z e) (e1.extBut m1.extBut D.l1z) hx λg2 a2 (m2:Heap.SameBut i1 g1 g2)=>s_ ?_);have q2:IsPair g2 q u v:=m2.extBut _ _ D.TOi1 (m1.extBut _ _ D.TOz T.q0);refine i_ (yi q2 rfl (i_ (wpAny_updateSeq_pair q2 λg3 (q3:IsPair g3 q x v) (m3:Heap.SameBut q g2 g3)=>i_ (NJ (s_ ?_)))));refine i_ (i_ (NP ?_));show wpAny _ _ (Builtin.SmallTypes.nextOf (.ref i2) >>= _) _ _ _
 refine i_ (iV (T.b0.at λo e=>m3.extBut _ _ D.TOi2.symm (m2.extBut _ _ D.i12.symm (m1.extBut _ _ D.i2z e)))
  (((e2.extBut m1.extBut D.l2z).extBut m2.extBut D.l2i1).extBut m3.extBut D.l2TO) hy λg4 b4 (m4:Heap.SameBut i2 g3 g4)=>s_ ?_)
 have q4:IsPair g4 q x v:=m4.extBut _ _ D.TOi2 q3;refine i_ (yi q4 rfl (i_ (wpAny_updateSeq_pair q4 λg5 (q5:IsPair g5 q x y) (m5:Heap.SameBut q g4 g5)=>i_ (NJ (s_ (s_ ?_))))));refine i_ (yi q5 rfl (i_ (wpAny_newTuple ?_)));have sz:g5.objs.size=s.heap.objs.size:=by rw[m5.1,m4.1,m3.1,m2.1,m1.1]
 have z5:IsZip g5 z p q .ellipsis:=m5.extBut _ _ D.TOz.symm (m4.extBut _ _ D.i2z.symm (m3.extBut _ _ D.TOz.symm (m2.extBut _ _ D.i1z.symm z1)));have k5:∀c o,c≠z->c≠q->c≠i1->c≠i2->s.heap.get? c=some o->g5.get? c=some o:=λc o c1 c2 c3 c4 e =>
  m5.extBut _ _ c2 (m4.extBut _ _ c4 (m3.extBut _ _ c2 (m2.extBut _ _ c3 (m1.extBut _ _ c1 e))))
 have a5:g5.IsTupleIter i1 l1 (k+1):=a2.at λo e=>m5.extBut _ _ D.TOi1.symm (m4.extBut _ _ D.i12 (m3.extBut _ _ D.TOi1.symm e))
 have b5:g5.IsTupleIter i2 l2 (k+1):=b4.at λo e=>m5.extBut _ _ D.TOi2.symm e
 have lz:z<g5.objs.size:=ay z5;show wpAny _ _ (Builtin.SmallTypes.ownedTupleHandOut (.ref z) (.ref g5.objs.size) >>= _) _ _ _;refine i_ ?_;unfold Builtin.SmallTypes.ownedTupleHandOut;have z6:IsZip (g5.push { cls:=.type "tuple",data:=.seq #[x,y] }) z p q .ellipsis:=Od _ z5;refine i_ (pi z6 (by simp) λg7 (z7:IsZip g7 z p q (rawInt g5.objs.size)) m7=>?_);refine pi z7 (by simp) λg8 (z8:IsZip g8 z p q (rawInt g5.objs.size)) m8=>?_
 have up:∀c o,c≠z->g5.get? c=some o->g8.get? c=some o:=λc o c1 e=>m8.extBut _ _ c1 (m7.extBut _ _ c1 (Od _ e))
 have t8:IsPair g8 g5.objs.size x y:=m8.extBut _ _ (pr lz) (m7.extBut _ _ (pr lz) (OX _ rfl));rw[sz]at z8 t8;refine s_ ⟨_,rfl,?_⟩;show Q (.ref g5.objs.size) _;rw[sz];exact hQ g8 ⟨z8,up _ _ D.TIz (k5 _ _ D.TIz D.TITO D.TIi1 D.TIi2 T.p0),up _ _ D.TOz q5,a5.at λo e=>up _ o D.i1z e,b5.at λo e=>up _ o D.i2z e⟩ t8 λc o c1 c2 c3 c4 e=>up c o c1 (k5 c o c1 c2 c3 c4 e)
theorem Ci{z p q i1 i2:Addr}{k:Nat}{u v:Value}{Q:Fin->Shared->Prop}(hh:A.handled=none)(D:ZipApart z p q i1 i2 l1 l2)
  (T:Zt s.heap z p q i1 i2 l1 l2 .none u v k k) (e1:s.heap.IsTuple l1 xs) (e2:s.heap.IsTuple l2 ys) (en:xs[k]? = none\/ys[k]? = none)
  (hE:∀h' e,(∀c o,c≠z->c≠q->c≠i1->c≠i2->s.heap.get? c=some o->h'.get? c=some o)->(∃o,h'.get? e=some o/\o.cls=.type "StopIteration")->E (.ref e) { s with heap:=h' }) :
  wpAny (model prog w) A (Builtin.«zip.__next__» ⟨[.ref z],[]⟩) Q E s:=by
 have z0:=T.z0;show wpAny _ _ (field (.ref z) 2 >>= _) _ _ _;refine i_ (ig z0 rfl (x:=.bool false) rfl ?_);show wpAny _ _ (field (.ref z) 3 >>= _) _ _ _;refine i_ (ig z0 rfl (x:=.ref p) rfl (i_ (yi T.p0 rfl ?_)));show wpAny _ _ (Builtin.SmallTypes.ownedTupleIsFree (.ref z) >>= _) _ _ _;refine i_ ?_;unfold Builtin.SmallTypes.ownedTupleIsFree;refine i_ (ig z0 rfl (x:=.none) rfl (s_ ?_));simp only[oP];refine i_ (NV (i_ (ig z0 rfl (x:=.ref q) rfl ?_)));refine i_ (pi z0 (by simp) λg1 (z1:IsZip g1 z p q .ellipsis) (m1:Heap.SameBut z s.heap g1)=>i_ ?_);simp only[List.zipIdx_cons,List.zipIdx_nil,Nx,List.forIn_nil];refine i_ (i_ (NP ?_));show wpAny _ _ (Builtin.SmallTypes.nextOf (.ref i1) >>= _) _ _ _;have a1:g1.IsTupleIter i1 l1 k:=T.a0.at λo e=>m1.extBut _ _ D.i1z e
 cases hx:xs[k]? with
 | none =>
  refine i_ (j6 hh a1 (e1.extBut m1.extBut D.l1z) hx λg2 e (m2:Heap.ExtBut i1 g1 g2) ⟨oe,ho,hc⟩=>?_);have z2:IsZip g2 z p q .ellipsis:=m2 _ _ D.i1z.symm z1;have ne:e≠z:=λx=>by subst x;rw[z2]at ho;cases ho;simp at hc
  exact pi z2 (by simp) λg3 _ m3=>hE g3 e (λc o c1 _ c3 _ x=>m3.extBut _ _ c1 (m2 _ _ c3 (m1.extBut _ _ c1 x))) ⟨oe,m3.extBut _ _ ne ho,hc⟩
 | some x =>
  have hy:ys[k]? = none:=by rcases en with h|h;rw[hx]at h;cases h;exact h
  refine i_ (iV a1 (e1.extBut m1.extBut D.l1z) hx λg2 a2 (m2:Heap.SameBut i1 g1 g2)=>s_ ?_);have q2:IsPair g2 q u v:=m2.extBut _ _ D.TOi1 (m1.extBut _ _ D.TOz T.q0);refine i_ (yi q2 rfl (i_ (wpAny_updateSeq_pair q2 λg3 (q3:IsPair g3 q x v) (m3:Heap.SameBut q g2 g3)=>i_ (NJ (s_ ?_)))));refine i_ (i_ (NP ?_));show wpAny _ _ (Builtin.SmallTypes.nextOf (.ref i2) >>= _) _ _ _
  refine i_ (j6 hh (T.b0.at λo e=>m3.extBut _ _ D.TOi2.symm (m2.extBut _ _ D.i12.symm (m1.extBut _ _ D.i2z e)))
   (((e2.extBut m1.extBut D.l2z).extBut m2.extBut D.l2i1).extBut m3.extBut D.l2TO) hy λg4 e (m4:Heap.ExtBut i2 g3 g4) ⟨oe,ho,hc⟩=>?_)
  have z4:IsZip g4 z p q .ellipsis:=m4 _ _ D.i2z.symm (m3.extBut _ _ D.TOz.symm (m2.extBut _ _ D.i1z.symm z1));have ne:e≠z:=λx=>by subst x;rw[z4]at ho;cases ho;simp at hc
  exact pi z4 (by simp) λg5 _ m5=>hE g5 e (λc o c1 c2 c3 c4 x=>m5.extBut _ _ c1 (m4 _ _ c4 (m3.extBut _ _ c2 (m2.extBut _ _ c3 (m1.extBut _ _ c1 x))))) ⟨oe,m5.extBut _ _ ne ho,hc⟩
abbrev Z7(h:Heap)(l1:Addr):Heap:=h.push { cls:=.type "tuple_iterator",data:=.fields #[.ref l1,.int 0 0] }
abbrev Z6(h:Heap)(l1 l2:Addr):Heap:=(Z7 h l1).push { cls:=.type "tuple_iterator",data:=.fields #[.ref l2,.int 0 0] }
abbrev Z5(h:Heap)(l1 l2:Addr):Heap:=(Z6 h l1 l2).push { cls:=.type "tuple",data:=.seq #[.ref h.objs.size,.ref (Z7 h l1).objs.size] }
abbrev Z4(h:Heap)(l1 l2:Addr):Heap:=(Z5 h l1 l2).push { cls:=.type "tuple",data:=.seq #[.none,.none] }
abbrev X6(h:Heap)(l1 l2:Addr):Heap:=(Z4 h l1 l2).push { cls:=.type "zip",data:=.fields #[.none,.bool false,.bool false,.ref (Z6 h l1 l2).objs.size,.ref (Z5 h l1 l2).objs.size] }
def Cg(l1 l2:Addr)(xs ys:Array Value) :
  Meets (Builtin.«zip.__new__» ⟨[.type "zip",.ref l1,.ref l2],[]⟩) (λ_ R s=>s.heap.IsTuple l1 xs/\s.heap.IsTuple l2 ys /\
   R (.ok (.ret (.ref (Z4 s.heap l1 l2).objs.size))) { s with heap:=X6 s.heap l1 l2 }) :=
 .of_wp λprog w A R s h=>by
  obtain⟨hp,g,d,tk,os⟩:=s;obtain⟨e1,e2,h⟩:=h;have zas:=sub_zip;have L1:Heap.IsTuple (Shared.heap ⟨hp,g,d,tk,os⟩) l1 xs:=e1;have L2:Heap.IsTuple (Shared.heap ⟨hp.push { cls:=.type "tuple_iterator",data:=.fields #[.ref l1,.int 0 0] },g,d,tk,os⟩) l2 ys:=by
   obtain⟨o,ho,r⟩:=e2;exact⟨o,Od _ ho,r⟩
  wp_walk using ue L1,ue L2
  exact⟨_,rfl,h⟩
theorem A3(e1:s.heap.IsTuple l1 xs)(e2:s.heap.IsTuple l2 ys)
  (h:∀h',Zt h' (s.heap.objs.size+4) (s.heap.objs.size+2) (s.heap.objs.size+3) s.heap.objs.size (s.heap.objs.size+1) l1 l2 .none .none .none 0 0 ->
   (∀c o,s.heap.get? c=some o->h'.get? c=some o)->Q (.ref (s.heap.objs.size+4)) { s with heap:=h' }) :
  wpAny (model prog w) A (call (.type "zip") [.ref l1,.ref l2]) Q E s:=by
 refine callType_new F.called_zip (by decide) (F.typeCall_zip_2 _ _) (F.newCall_zip_2 _ _) (λobj=>F.args_object_init_3 obj _ _) F.entry_zip_new
  (Cg l1 l2 xs ys) ⟨e1,e2,?_⟩
 have y1:(Z7 s.heap l1).objs.size=s.heap.objs.size+1:=qu ..;have y2:(Z6 s.heap l1 l2).objs.size=s.heap.objs.size+2:=by rw[qu,y1]
 have y3:(Z5 s.heap l1 l2).objs.size=s.heap.objs.size+3:=by rw[qu,y2]
 have y4:(Z4 s.heap l1 l2).objs.size=s.heap.objs.size+4:=by rw[qu,y3]
 have g5:(X6 s.heap l1 l2).get? (Z4 s.heap l1 l2).objs.size=some _:=OX _ rfl;have g4:(X6 s.heap l1 l2).get? (Z5 s.heap l1 l2).objs.size=some _:=Od _ (OX _ rfl);have g3:(X6 s.heap l1 l2).get? (Z6 s.heap l1 l2).objs.size=some _:=Od _ (Od _ (OX _ rfl));have g2:(X6 s.heap l1 l2).get? (Z7 s.heap l1).objs.size=some _:=Od _ (Od _ (Od _ (OX _ rfl)));have g1:(X6 s.heap l1 l2).get? s.heap.objs.size=some _:=Od _ (Od _ (Od _ (Od _ (OX _ rfl))));show _/\_;rw[y2,y3,y4]at g5;rw[y1,y2]at g3;rw[y3]at g4;rw[y1]at g2;rw[y4];exact⟨⟨_,g5,rfl⟩,h _ ⟨g5,g3,g4,⟨_,g1,rfl,rfl⟩,⟨_,g2,rfl,rfl⟩⟩ λc o x=>Od _ (Od _ (Od _ (Od _ (Od _ x))))⟩
end
end PySem
namespace L4
open PySem PySem.Spec PyProof.Rows L2 L3
variable {X:Cx}{K:Fg}{H F:Hp}{pos apos A_:Pos}{a:Addr}{Z:L2.St}{a_:K_}{s:Shared}{y:V}{e:Expr}{i x1:Nat}{elts:List Expr}{x:Str}{Q:Of}
def Itz(K:Fg)(a b:Addr):It :=
 ⟨λi H=>∃xs x ys y,N_ K H a xs/\xs[i]? = some x/\N_ K H b ys/\ys[i]? = some y,
  λi H r H'=>∃p x y,(∀xs,N_ K H a xs->xs[i]? = some x)/\(∀ys,N_ K H b ys->ys[i]? = some y)/\H p=none/\r=.ref p/\H'=upd H p (.tup [x,y]),
  λi H=>∃xs ys,N_ K H a xs/\N_ K H b ys/\(xs.length<=i\/ys.length<=i)⟩
def wK{h':Heap}{t':Nat}{fp:List Addr}(I:Inv X a_ Z H s)(hf:∀b∈fp,lA X a_ H b)
  (k:∀b o,b∉fp->s.heap.get? b=some o->h'.get? b=some o):Inv X a_ Z H { s with heap:=h',toks:=t' }:=by
 have Wq:∀b u,H b=some u->b∉fp:=λb u e z=>by rw[(hf b z).1]at e;cases e
 refine I.step (g':=s.gens) (d':=s.drawn) (ch:=fp) (λb hb=>?_) (λb o _ _ hc e _=>k b o hc e) (λb o _ _ hc e _=>⟨o.slots,k b o hc e⟩) (λ_ _ _ _ n=>n)
  (λb o hc e=>⟨o,k b o hc e⟩) (λ_ _ e=>e) (λ_ _ _ e=>e) (λb ps e=>⟨#[],by rw[e];simp⟩) (λm hm=>?_) (λb u e=>?_) I.bare
 ·obtain⟨f0,f1,f2,f3,f4,f5⟩:=hf b hb;exact⟨f3,f1,f4,f5⟩
 ·obtain⟨o,es,ep,ho,r⟩:=hm;exact⟨o,es,ep,k _ o (λz=>(hf _ z).2.1 rfl) ho,r⟩
 ·refine(I.n_ b u e).QY (λc v hc q=>k c v ?_ q) (λ_ q=>q) λ_ _ q=>q
  rcases hc with z|z
  ·rw[z];exact Wq b u e
  ·exact Wq c _ z
def qv{ch:List Addr}{x:V}{x' y':Value}{t:Nat}{h2:Heap}(I:Inv X a_ Z H s)(hf:∀c∈ch,lA X a_ H c)(ru:RelV x x')(ru2:RelV y y')
  (Ox:∀c o,c∉ch->s.heap.get? c=some o->h2.get? c=some o) (Ri:h2.get? s.heap.objs.size=some { cls:=.type "tuple",data:=.seq #[x',y'] }) :
  Inv X a_ Z (upd H s.heap.objs.size (.tup [x,y])) { s with heap:=h2,toks:=t }:=by
 have fr:=I.fresh;have Wq:∀c o,H c=some o->c∉ch:=λc o e m=>by rw[(hf c m).1]at e;cases e
 have n_:O5 X.prog X.w (upd H s.heap.objs.size (.tup [x,y])) h2:=λc ob e=>by
  by_cases hb:c=s.heap.objs.size
  ·subst hb;rw[aJ]at e
   cases e
   exact⟨by show 2<=sizeLine;decide,[x',y'],.cons ru (.cons ru2 .nil),⟨_,Ri,rfl,_,rfl⟩,⟨_,Ri,rfl⟩⟩
  ·rw[aD hb]at e;refine(I.n_ c ob e).QY (λc' v' QL e'=>?_) (λc' e'=>by rw[aD (aR e' fr)];exact e') λc' ys e'=>by rw[aD (aR e' fr)];exact e'
   rcases QL with z'|z'
   ·rw[z']at e' ⊢;exact Ox c v' (Wq c ob e) e'
   ·exact Ox c' v' (Wq c' _ z') e'
 refine I.step (g':=s.gens) (d':=s.drawn) (t':=t) (h':=h2) (ch:=ch) (λc hc=>?_) (λc o _ _ RI e _=>Ox c o RI e) (λc o _ _ RI e _=>⟨o.slots,Ox c o RI e⟩)
  (λc o _ e n=>by rw[aD (gu (ay e))];exact n) (λc o RI e=>⟨o,Ox c o RI e⟩)
  (λc ys e=>by rw[aD (aR e fr)];exact e) (λc o u' e=>by rw[aD (aR e fr)];exact e) (λc ps e=>⟨#[],by rw[aD (aR e fr),e];simp⟩) (λm hm=>?_) n_ I.bare
 ·obtain⟨f0,f1,f2,f3,f4,f5⟩:=hf c hc;exact⟨f3,f1,f4,f5⟩
 ·obtain⟨o,es,ep,TX,r⟩:=hm;exact⟨o,es,ep,Ox _ o (λm=>(hf _ m).2.1 rfl) TX,r⟩
theorem Cq{P:Program}{w:World}(a b z p q i1 i2:Addr)(D:ZipApart z p q i1 i2 a b) :
  Turn P w K (.Tuple elts x1 pos) (Itz K a b) [z,p,q,i1,i2] z (λi h=>∃u v,Zt h z p q i1 i2 a b .none u v i i) where
 mem:=by simp
 obj:=λi h ⟨u,v,T⟩ c hc=>by
  simp only[oR,si,Li]at hc;rcases hc with rfl|rfl|rfl|rfl|rfl
  ·exact⟨_,T.z0,λv z=>nomatch z⟩
  ·exact⟨_,T.p0,λv z=>nomatch z⟩
  ·exact⟨_,T.q0,λv z=>nomatch z⟩
  ·obtain⟨o,e1,c,d⟩:=T.a0;exact⟨o,e1,λv z=>by rw[d]at z;cases z⟩
  ·obtain⟨o,e1,c,d⟩:=T.b0;exact⟨o,e1,λv z=>by rw[d]at z;cases z⟩
 keep:=λi h h' ⟨u,v,T⟩ k=>⟨u,v,k z (by simp) _ T.z0,k p (by simp) _ T.p0,k q (by simp) _ T.q0,T.a0.at λo e=>k i1 (by simp) o e,T.b0.at λo e=>k i2 (by simp) o e⟩
 item:=by
  intro X hP hw hK hc i a_ s Z H E I hf ⟨u,v,T⟩ hg;subst hP hw hK;obtain⟨xs,x,ys,y,hq,hx,Yc,hy⟩:=hg;obtain⟨k_,rv,pa,hz⟩:=I.tuple hq;obtain⟨Zd,Wl,pb,hz2⟩:=I.tuple Yc;obtain⟨x',hu,ru⟩:=rv.get hx;obtain⟨y',hu2,ru2⟩:=Wl.get hy;have hT:s.TypeIs (.ref z) "zip":=⟨_,T.z0,rfl⟩;unfold pyNext
  refine i_ (M4 (je (name:=Str.ofString "__next__") hT Oa
   (ou Oa hT F.entry_zip_next (A0 D T (show s.heap.IsTuple a k_.toArray from pa) (show s.heap.IsTuple b Zd.toArray from pb) (x:=x') (y:=y') (by simpa using hu) (by simpa using hu2) λh1 T1 t1 k1=>s_ ?_) (F.args_zip_next_1 _))))
  refine⟨_,rfl,wpAny_letOwnedTupleGo_zip T1.z0 λh2 z2 (m2:Heap.SameBut z h1 h2)=>?_⟩;have lt:∀{c o},s.heap.get? c=some o->s.heap.objs.size≠c:=λe=>pr (ay e)
  have ltz:=lt T.z0;have ltp:=lt T.p0;have ltq:=lt T.q0;have lt1:s.heap.objs.size≠i1:=by obtain⟨_,e,_⟩:=T.a0;exact lt e
  have lt2:s.heap.objs.size≠i2:=by obtain⟨_,e,_⟩:=T.b0;exact lt e
  have Ox:∀c o,c∉[z,p,q,i1,i2]->s.heap.get? c=some o->h2.get? c=some o:=λc o hc e=>by
   simp only[oR,si,Li,not_or]at hc;exact m2.extBut _ _ hc.1 (k1 c o hc.1 hc.2.2.1 hc.2.2.2.1 hc.2.2.2.2 e)
  have Ri:h2.get? s.heap.objs.size=some { cls:=.type "tuple",data:=.seq #[x',y'] }:=m2.extBut _ _ ltz t1;have I1:Inv X a_ Z (upd H s.heap.objs.size (.tup [x,y])) { s with heap:=h2,toks:=s.toks }:=qv I hf ru ru2 Ox Ri
  refine⟨.ref s.heap.objs.size,_,I1,rfl,⟨_,x,y,λys' VG=>by rw[I.Pg VG hq];exact hx,λys' VG=>by rw[I.Pg VG Yc];exact hy,I.fresh,rfl,rfl⟩,
   ⟨x',y',z2,m2.extBut _ _ D.TIz T1.p0,m2.extBut _ _ D.TOz T1.q0,T1.a0.at λo e=>m2.extBut _ _ D.i1z e,T1.b0.at λo e=>m2.extBut _ _ D.i2z e⟩,λc hc=>?_⟩
  have nc:c≠s.heap.objs.size:=by
   simp only[oR,si,Li]at hc;rcases hc with rfl|rfl|rfl|rfl|rfl
   ·exact ltz.symm
   ·exact ltp.symm
   ·exact ltq.symm
   ·exact lt1.symm
   ·exact lt2.symm
  rw[aD nc];exact(hf c hc).1
 done:=by
  intro X hP hw hK hc i a_ s Z H E I hf ⟨u,v,T⟩ hg;subst hP hw hK;obtain⟨xs,ys,hq,Yc,hl⟩:=hg;obtain⟨k_,rv,pa,hz⟩:=I.tuple hq;obtain⟨Zd,Wl,pb,hz2⟩:=I.tuple Yc;have l1:=rv.length;have l2:=Wl.length;have hT:s.TypeIs (.ref z) "zip":=⟨_,T.z0,rfl⟩;unfold pyNext
  refine i_ (M4 (je (name:=Str.ofString "__next__") hT Oa
   (ou Oa hT F.entry_zip_next (Ci (I.ok.hd hc) D T (show s.heap.IsTuple a k_.toArray from pa) (show s.heap.IsTuple b Zd.toArray from pb)
    (hl.imp (λh=>by simp;lia) (λh=>by simp;lia)) λh' e k he=>?_) (F.args_zip_next_1 _))))
  obtain⟨o,ho,Tu⟩:=he;refine i_ (Nm (T := "StopIteration") (b:=true) ⟨o,ho,Tu⟩ ND ?_)
  exact s_ ⟨rfl,wK (t':=s.toks) I hf λc o hc e=>by
   simp only[oR,si,Li,not_or]at hc
   exact k c o hc.1 hc.2.2.1 hc.2.2.2.1 hc.2.2.2.2 e⟩
 self:=λ_ _ _ _ _ ⟨u,v,T⟩ h=>wpAny_pyIter_zip T.z0 h
def rN(as bs:List D):List D:=List.zipWith (λx y=>PyData.tuple [x,y]) as bs
theorem Cm{b:Addr}{vs ws:List V}{as bs:List D}(h:N_ K F a vs)(r:h_ K F vs as)(h2:N_ K F b ws)(r2:h_ K F ws bs):Walk K (Itz K a b) (rN as bs) F where
 go:=λi G F2 Z H2 ρ s S hi=>by
  simp only[rN,List.length_zipWith]at hi;have i1:i<vs.length:=by rw[r.length];lia
  have i2:i<ws.length:=by rw[r2.length];lia
  exact⟨vs,vs[i],ws,ws[i],bt S.fh (bt s h),by simp[i1],bt S.fh (bt s h2),by simp[i2]⟩
 Sw:=λi G F2 Z H2 ρ x H3 d s S hd ⟨p,y,y',hy,VG,hp,hx,hH⟩=>by
  subst hx hH;unfold rN at hd;rw[List.getElem?_zipWith]at hd
  cases e:as[i]? with
  | none=>rw[e]at hd;cases hd
  | some d1 =>
   cases e':bs[i]? with
   | none=>rw[e,e']at hd;cases hd
   | some d2 =>
    rw[e,e']at hd;simp at hd;subst hd;obtain⟨v,g1,g2⟩:=r.get e;obtain⟨v',g3,g4⟩:=r2.get e';have z1:=hy vs (bt S.fh (bt s h));have z2:=VG ws (bt S.fh (bt s h2));rw[g1]at z1;rw[g3]at z2
    cases z1
    cases z2
    obtain⟨s2,S2,r2⟩:=S.O7 hp (h_.cons (g2.mono s) (h_.cons (g4.mono s) h_.nil));exact⟨_,s2,S2,r2⟩
 stop:=λG F2 Z H2 ρ s S=>⟨vs,ws,bt S.fh (bt s h),bt S.fh (bt s h2),by
  rw[r.length,r2.length];simp only[rN,List.length_zipWith];lia⟩
def MC(K:Fg)(tl:TA):TI:=λZ H R=>tl Z H λxs H1=>∃a b,xs=[.ref a,.ref b]/\(∃ys,N_ K H1 a ys)/\(∃ys,N_ K H1 b ys)/\R (Itz K a b) H1
def Ig{e1 e2:Expr}{tl:TA}{tp p:Pos}(hg:Gl X "zip")(hm:X.mg "zip"=none)(ha:PA X [e1,e2] tl)
  (hs:starEach [e1,e2] X.env=[(false,eval e1 X.env),(false,eval e2 X.env)]) (Rn:starEach [e2] X.env=[(false,eval e2 X.env)]) :
  PI X (.Tuple elts x1 tp) (.Call (.Name "zip" p) [e1,e2] [] pos) (MC X.K tl):=by
 intro a_ s Z H R I h;refine Call_ (i3 I hg hm (show bootBuiltins "zip"=some (.type "zip") by decide +kernel) (re (u_ (ha pos a_ s Z H _ I h) λus s1 ⟨vs,H1,I1,r1,q1⟩=>?_) (by rw[hs,Rn]) (by rw[Rn];rfl)) (by decide) (by decide));obtain⟨a,b,rfl,⟨ys,hq⟩,⟨zs,Yc⟩,q⟩:=q1
 cases r1 with
 | cons r rr =>
  cases rr with
  | cons r' rr =>
   cases rr
   cases r
   cases r'
   obtain⟨k_,rv,pt,hz⟩:=I1.tuple hq;obtain⟨Zd,Wl,pt2,hz2⟩:=I1.tuple Yc;have la:a<s1.heap.objs.size:=by obtain⟨o,e1,_⟩:=pt;exact ay e1
   have lb:b<s1.heap.objs.size:=by obtain⟨o,e1,_⟩:=pt2;exact ay e1
   refine A3 (show s1.heap.IsTuple a k_.toArray from pt) (show s1.heap.IsTuple b Zd.toArray from pt2) λh' T hk=>?_
   refine wpAny_pyIter_zip (s:={ s1 with heap:=h' }) T.z0 ?_;refine⟨s1.heap.objs.size+4,[s1.heap.objs.size+4,s1.heap.objs.size+2,s1.heap.objs.size+3,s1.heap.objs.size,s1.heap.objs.size+1],_,_,H1,rfl,I1.kept (t':=s1.toks) hk,Cq a b _ _ _ _ _ (zipApart_new la lb),⟨_,_,T⟩,λc hc=>?_,q⟩;have:s1.heap.objs.size<=c:=by
    simp only[oR,si,Li]at hc;rcases hc with rfl|rfl|rfl|rfl|rfl<;>simp
   exact I1.Pm this (I1.n_.fresh this)
def BI:List D->Option (List D)
 | [.tuple as,.tuple bs]=>some (rN as bs)
 | _=>none
section
variable {tg e1 e2:Expr} {ps:(List D->M (List D))->Pu (List D)} {p tp:Pos}
def Hy{vs:List V}{ds out:List D}{R:It->Hp->Prop}(s:f_ F H)(r:h_ X.K F vs ds)(h:BI ds=some out)(k:∀J,Walk X.K J out F->R J H) :
  ∃a b,vs=[.ref a,.ref b]/\(∃ys,N_ X.K H a ys)/\(∃ys,N_ X.K H b ys)/\R (Itz X.K a b) H:=by
 unfold BI at h;split at h
 ·cases h
  obtain⟨v,u,rfl,r1,r2⟩:=r.Th;obtain⟨a,as,rfl,a1,a2⟩:=r1.OZ;obtain⟨b,bs,rfl,b1,b2⟩:=r2.OZ;exact⟨_,_,rfl,⟨_,N_.of (s _ _ a1)⟩,⟨_,N_.of (s _ _ b1)⟩,k _ (Cm (N_.of a1) a2 (N_.of b1) b2)⟩
 ·cases h
def EH{ps:Pa (List D)}(hg:Gl X "zip")(hm:X.mg "zip"=none)(ha:AA X [e1,e2] ps)(hs:starEach [e1,e2] X.env=[(false,eval e1 X.env),(false,eval e2 X.env)])(Rn:starEach [e2] X.env=[(false,eval e2 X.env)]):AI X (.Tuple elts x1 tp) (.Call (.Name "zip" p) [e1,e2] [] pos) (kU BI ps) :=
 λG F Z H ρ R S w=>vR (Ig hg hm cC hs Rn) (ha G F Z H ρ _ _ _ S w λds vs F1 H1 s1 S1 _ r1 w1=>by
  obtain⟨out,hd,k⟩:=w1.opt
  exact Hy S1.fh r1 hd (k F1 H1 (f_.refl _) S1))
end
def FQ(ds es:List D):Option (List D):=if decide (ds.length+es.length<=sizeLine)then some (ds++es)else none
section
variable {S:Type} {c:Expr} {ml:Ev S (List D)} {pos':Pos} {m:SM S}
def GE(hN:X.N[i]? = some x)(hv:RY X.env.scope x)(he:YA X e ml)
  (O9:attributeBase (.Name x pos') "extend" X.env (eval (.Name x pos') X.env)=eval (.Name x pos') X.env)
  (UL:((backTo A_ (starEach [e] X.env)).all (λx=>!x.1)&&(backToKw A_ (keywordEach [] X.env)).all (λx=>x.1.isSome)
   && decide ([e].length+([]:List Keyword).length+(if([]:List Keyword).isEmpty then 0 else 1)<30))=true)
  (O8:(apos.endLine==A_.line)=true) (hs:starEach [e] X.env=(false,eval e X.env)::starEach [] X.env) (Q5:(backTo A_ (starEach [] X.env)).any (·.1)=false)
  (UC:swapsWith (.Call (.Attribute (.Name x pos') "extend" apos) [e] [] A_) none pos.line X.env=pure false) (hd:(x==("__debug__" : Str))=false:=by decide) (O2:(x==("__classdict__" : Str))=false:=by decide) :
  AS X (.Expr (.Call (.Attribute (.Name x pos') "extend" apos) [e] [] A_) pos) (E9 i FQ ml):=λOK K G F Z H ρ E hO hX St ok eo =>
 ik (o8 (Dl M7 PySem.F.slot_list_extend PySem.F.type_list_extend Bs (cO hN hv hd O2) (dR aN iQ hs) O9 UL O8 hs Q5) UC) (by
  unfold E9 at ok;split at ok
  case h_2=>exact(hO ok).elim
  ·rename_i XM h0;obtain⟨a,Vb,ea,hh,_⟩:=dS St h0;refine⟨_,ea,.inl ⟨rfl,Vb,.inl (.inl hh)⟩,he OK K.x _ G F Z H ρ _ hO hX St ok λes v F1 H1 ρ1 s1 S1 fr o1=>?_⟩;split at o1
   ·rename_i ds RT;obtain⟨Tb,hf,o2⟩:=dA hO o1;obtain⟨a',vs,OM,hh',rv⟩:=dS S1 RT;rw[ea]at OM;injection OM with OM;injection OM with OM;injection OM with OM;subst OM;obtain⟨b,rfl,ob,_⟩:=fr;obtain⟨ws,g1,g2⟩:=ob.he;unfold FQ at hf;split at hf
    ·rename_i hz
     cases hf
     refine⟨a,b,vs,ws,rfl,rfl,hh',g1,by rw[rv.length,g2.length];simpa using hz,?_⟩;exact eo.nx F1 Z _ _ s1 (lI S1 RT ea (rv.append g2)) o2
    ·cases hf
   ·exact(hO o1).elim)
end
def eQ:D->Bool
 | .int _=>true
 | .str _=>true
 | _=>false
def cZ:D->Bool
 | .tuple ds=>ds.all eQ
 | _=>false
def wQ:D->D->Bool
 | .int i,.int j=>decide (i=j)
 | .str i,.str j=>decide (i=j)
 | _,_=>false
def qI:List D->List D->Bool
 | [],[]=>true
 | a::r,b::t=>wQ a b&&qI r t
 | _,_=>false
def fG:D->D->Bool
 | .tuple a,.tuple b=>qI a b
 | a,b=>wQ a b
def keyOk(es:List (D×D))(k:D):Bool:=(cZ k&&es.all λp=>cZ p.1)||(eQ k&&es.all λp=>eQ p.1)
def pg{es:List (D×D)}{k:D}(h:keyOk es k=true):nC es=false:=by
 unfold nC;split
 ·simp[keyOk,cZ,eQ]at h
 ·simp[keyOk,cZ,eQ]at h
 ·rfl
def g6(es:List (D×D))(k:D):Option D:=(es.find? λp=>fG p.1 k).map (·.2)
def mV(es:List (D×D))(k d:D):List (D×D):=if es.any (λp=>fG p.1 k)then es.map (λp=>if fG p.1 k then(p.1,d)else p)else es++[(k,d)]
def wO(a b:Key):wQ (Ow a) (Ow b)=decide (a=b):=by
 cases a<;>cases b<;>simp[wQ,Ow]
def wN:∀(a b:List Key),qI (a.map Ow) (b.map Ow)=decide (a=b)
 | [],[]=>by simp[qI]
 | [],_::_=>by simp[qI]
 | _::_,[]=>by simp[qI]
 | x::xs,y::ys=>by
  simp only[aw,qI,wO,wN xs ys];by_cases h:x=y<;>by_cases g:xs=ys<;>simp[h,g]
def lc(a b:List Key):fG (cE a) (cE b)=decide (a=b):=wN a b
def yJ(a b:Key):fG (Ow a) (Ow b)=decide (a=b):=by
 have h:fG (Ow a) (Ow b)=wQ (Ow a) (Ow b):=by cases a<;>cases b<;>rfl
 rw[h];exact wO a b
def iC{d:D}(h:eQ d=true):∃k,d=Ow k:=by
 cases d<;>first|exact⟨.inl _,rfl⟩|exact⟨.inr _,rfl⟩|cases h
def qL:∀{ds:List D},ds.all eQ=true->∃k:List Key,ds=k.map Ow
 | [],_=>⟨[],rfl⟩
 | d::ds,h=>by
  rw[Nr,am]at h;obtain⟨k,rfl⟩:=iC h.1;obtain⟨ks,rfl⟩:=qL h.2;exact⟨k::ks,rfl⟩
def eP{d:D}(h:cZ d=true):∃k,d=cE k:=by
 cases d<;>first|cases h|skip
 obtain⟨k,rfl⟩:=qL h;exact⟨k,rfl⟩
def DW(k:Key):eQ (Ow k)=true:=by cases k<;>rfl
def DS(k:List Key):cZ (cE k)=true:=by
 unfold cE cZ;simp[DW]
def DU(k:Key):cZ (Ow k)=false:=by cases k<;>rfl
def DV(k:List Key):eQ (cE k)=false:=rfl
section
variable {v:V}
def jz{k:Key}(r:Rep K F v (Ow k)):v=kV k:=by
 cases k with
 | inl i=>cases (show Rep K F v (.int i)from r);rfl
 | inr i=>cases (show Rep K F v (.str i)from r);rfl
def sR:∀{vs:List V} {k:List Key},h_ K F vs (k.map Ow)->vs=k.map kV
 | _,[],r=>by rw[N3]at r;cases r;rfl
 | _,k::ks,r=>by
  rw[aw]at r
  cases r with
  | cons a b=>rw[jz a,sR b];rfl
def gg{k:List Key}(r:Rep K F v (cE k)):∃b,v=.ref b/\F b=some (.tup (k.map kV)):=by
 unfold cE at r
 cases r with
 | tup h1 h2=>rw[sR h2]at h1;exact⟨_,rfl,h1⟩
def DT(K:Fg)(F H:Hp)(a:Addr)(es:List (D×D)):Prop:=∃kvs,Rd H a (.dT kvs)/\es.map (·.1)=kvs.map (λp=>cE p.1)/\h_ K F (kvs.map (·.2)) (es.map (·.2))
def DK(K:Fg)(F H:Hp)(a:Addr)(es:List (D×D)):Prop:=∃kvs,H a=some (.dK kvs)/\es.map (·.1)=kvs.map (λp=>Ow p.1)/\h_ K F (kvs.map (·.2)) (es.map (·.2))
def OR.dict{es:List (D×D)}(s:f_ F H)(h:OR K F H v (.dict es))(hx:nC es=false):∃a,v=.ref a/\(DT K F H a es\/DK K F H a es):=by
 rcases h with h|⟨a,c,e,e2,h1,hI⟩
 ·cases h with
  | Sl h1 h2 h3=>exact⟨_,rfl,.inl ⟨_,.inr ⟨_,s _ _ h1⟩,h2,h3⟩⟩
  | V2 h1 h2 h3=>exact⟨_,rfl,.inr ⟨_,s _ _ h1,h2,h3⟩⟩
  | exc _ _ _ _ _=>cases hx
  | fn _=>cases hx
 ·cases c<;>cases e2
  ·obtain⟨kvs,q1,q2,q3⟩:=h1;exact⟨a,e,.inl ⟨kvs,.inl q1,q2,q3⟩⟩
  ·exact⟨a,e,.inr h1⟩
def uW{κ:Type}[DecidableEq κ]{kd:κ->D}(inj:∀a b,fG (kd a) (kd b)=decide (a=b))(k:κ):∀{kvs:List (κ×V)} {es:List (D×D)},es.map (·.1)=kvs.map (λp=>kd p.1)->h_ K F (kvs.map (·.2)) (es.map (·.2)) ->
  (∃d v,g6 es (kd k)=some d/\kh kvs k=some v/\Rep K F v d)\/(g6 es (kd k)=none/\kh kvs k=none)
 | [],[],_,_=>.inr ⟨rfl,rfl⟩
 | [],_::_,e,_=>by simp at e
 | _::_,[],e,_=>by simp at e
 | p::kvs,q::es,e,r=>by
  simp only[aw,List.cons.injEq]at e
  cases r with
  | cons r1 r2 =>
   unfold g6 kh;rw[ni,ni,e.1,inj];by_cases h:p.1=k
   ·simp only[h,decide_true];exact .inl ⟨_,_,rfl,rfl,r1⟩
   ·simp only[h,Er];exact uW inj k e.2 r2
def o7{κ:Type}[DecidableEq κ]{kd:κ->D}(inj:∀a b,fG (kd a) (kd b)=decide (a=b))(k:κ){d:D}(rv:Rep K F v d):∀{kvs:List (κ×V)} {es:List (D×D)},es.map (·.1)=kvs.map (λp=>kd p.1)->h_ K F (kvs.map (·.2)) (es.map (·.2)) ->
  (mV es (kd k) d).map (·.1)=(putK kvs k v).map (λp=>kd p.1)/\h_ K F ((putK kvs k v).map (·.2)) ((mV es (kd k) d).map (·.2)):=by
 intro kvs es e r;have any:∀{kvs:List (κ×V)} {es:List (D×D)},es.map (·.1)=kvs.map (λp=>kd p.1)->(es.any λp=>fG p.1 (kd k))=kvs.any λp=>decide (p.1=k):=by
  intro kvs
  induction kvs with
  | nil=>intro es e;cases es with
   | nil=>rfl
   | cons _ _=>simp at e
  | cons p kvs ih=>intro es e;cases es with
   | nil=>simp at e
   | cons q es =>
    simp only[aw,List.cons.injEq]at e;rw[wo,wo,ih e.2,e.1,inj]
 have mp:∀{kvs:List (κ×V)} {es:List (D×D)},es.map (·.1)=kvs.map (λp=>kd p.1)->h_ K F (kvs.map (·.2)) (es.map (·.2)) ->
   (es.map λp=>if fG p.1 (kd k)then(p.1,d)else p).map (·.1)=(kvs.map λp=>if p.1=k then(p.1,v)else p).map (λp=>kd p.1) /\
   h_ K F ((kvs.map λp=>if p.1=k then(p.1,v)else p).map (·.2)) ((es.map λp=>if fG p.1 (kd k)then(p.1,d)else p).map (·.2)):=by
  intro kvs
  induction kvs with
  | nil=>intro es e r;cases es with
   | nil=>exact⟨rfl,.nil⟩
   | cons _ _=>simp at e
  | cons p kvs ih=>intro es e r;cases es with
   | nil=>simp at e
   | cons q es =>
    simp only[aw,List.cons.injEq]at e
    cases r with
    | cons r1 r2 =>
     obtain⟨i1,i2⟩:=ih e.2 r2;simp only[aw,e.1,inj];by_cases h:p.1=k
     ·simp only[h,decide_true,oP,List.cons.injEq];exact⟨⟨trivial,i1⟩,.cons rv i2⟩
     ·simp only[h,Er,Ma,List.cons.injEq];exact⟨⟨by simpa using e.1,i1⟩,.cons r1 i2⟩
 unfold mV putK;rw[any e];by_cases h:(kvs.any λp=>decide (p.1=k))=true
 ·rw[al h,al h];exact mp e r
 ·rw[ar h,ar h];refine⟨by simp[e],?_⟩;rw[ib,ib];exact r.append (.cons rv .nil)
end
def vD(H:Hp)(a:Addr):Prop:=Rd H a (.dT [])\/H a=some (.dK [])
def lm(I:Inv X a_ Z H s)(h:vD H a) :
  s.heap.DictOfH (tupleKind (bL X.prog X.w)) a []/\s.heap.DictOf (bL X.prog X.w) a []/\(a==sysModules)=false:=by
 rcases h with h|h
 ·obtain⟨z,y,xs,kt,o,es,ep,h1,h2,h3,h4,h5,h6⟩:=mE I.n_ h
  cases kt
  have e0:es = #[]:=by
   have:es.toList=[]:=h4;exact Array.toList_inj.mp this
  subst e0;exact⟨⟨o,_,ep,h1,h2,h3,rfl,(λx hx=>by simp at hx),Ng⟩,⟨o,_,ep,h1,h2,h3,λe he=>by simp at he,.nil,Ng⟩,y⟩
 ·obtain⟨z,y,vs,kv,o,es,ep,h1,h2,h3,h4,h5,h6⟩:=Ej I.n_ h
  cases kv
  have e0:es = #[]:=by
   have:es.toList=[]:=by
    generalize es.toList=l at h5
    cases h5
    rfl
   exact Array.toList_inj.mp this
  subst e0;exact⟨⟨o,_,ep,h1,h2,h3,rfl,(λx hx=>by simp at hx),Ng⟩,⟨o,_,ep,h1,h2,h3,λe he=>by simp at he,.nil,Ng⟩,y⟩
def DT.empty(h:DT K F H a []):vD H a:=by
 obtain⟨kvs,h1,h2,_⟩:=h
 cases kvs with
 | nil=>exact .inl h1
 | cons _ _=>simp at h2
def DK.empty(h:DK K F H a []):vD H a:=by
 obtain⟨kvs,h1,h2,_⟩:=h
 cases kvs with
 | nil=>exact .inr h1
 | cons _ _=>simp at h2
def JW(H:Hp)(y:V):Prop:=(∃k,y=kV k)\/∃(b:Addr) (ks:List Key),y=.ref b/\H b=some (.tup (ks.map kV))
def zx(H:Hp)(a:Addr)(y:V)(o:Option V):Prop:=Ra H a y o\/(vD H a/\JW H y/\o=none)
def vj{es:List (D×D)}{k:D}(s:f_ F H)(h:DT K F H a es\/DK K F H a es)(r:Rep K F y k)(hk:keyOk es k=true) :
  (∃d v,g6 es k=some d/\zx H a y (some v)/\Rep K F v d)\/(g6 es k=none/\zx H a y none):=by
 unfold keyOk at hk;rw[ua,am,am]at hk;have kT:cZ k=true->JW H y:=λh=>by
  obtain⟨ks,rfl⟩:=eP h;obtain⟨b,rfl,hb⟩:=gg r;exact .inr ⟨b,ks,rfl,s _ _ hb⟩
 have kK:eQ k=true->JW H y:=λh=>by
  obtain⟨ks,rfl⟩:=iC h;exact .inl ⟨ks,jz r⟩
 cases es with
 | nil =>
  refine .inr ⟨rfl,.inr ⟨?_,?_,rfl⟩⟩
  ·rcases h with h|h
   ·exact h.empty
   ·exact h.empty
  ·rcases hk with hk|hk
   ·exact kT hk.1
   ·exact kK hk.1
 | cons p es =>
  rcases h with ⟨kvs,h1,h2,h3⟩|⟨kvs,h1,h2,h3⟩
  ·rcases hk with ⟨hk,_⟩|⟨_,hk⟩
   ·obtain⟨ks,rfl⟩:=eP hk;obtain⟨b,rfl,hb⟩:=gg r;rcases uW lc ks h2 h3 with ⟨d,v,e1,e2,e3⟩|⟨e1,e2⟩
    ·exact .inl ⟨d,v,e1,.inl (e2▸.inr ⟨kvs,ks,b,h1,rfl,s _ _ hb,rfl⟩),e3⟩
    ·exact .inr ⟨e1,.inl (e2▸.inr ⟨kvs,ks,b,h1,rfl,s _ _ hb,rfl⟩)⟩
   ·exfalso
    cases kvs with
    | nil=>simp at h2
    | cons q kvs =>
     simp only[aw,List.cons.injEq]at h2;rw[Nr,h2.1,DV,NH]at hk
     cases hk
  ·rcases hk with ⟨_,hk⟩|⟨hk,_⟩
   ·exfalso
    cases kvs with
    | nil=>simp at h2
    | cons q kvs =>
     simp only[aw,List.cons.injEq]at h2;rw[Nr,h2.1,DU,NH]at hk
     cases hk
   ·obtain⟨ks,rfl⟩:=iC hk;obtain rfl:=jz r;rcases uW yJ ks h2 h3 with ⟨d,v,e1,e2,e3⟩|⟨e1,e2⟩
    ·exact .inl ⟨d,v,e1,.inl (e2▸Ra.k h1),e3⟩
    ·exact .inr ⟨e1,.inl (e2▸Ra.k h1)⟩
section
variable {d:V} {u r:Value} {o:Option V} {A:Around} {E:Of}
def MN(hu:A.units+1<cLine)(I:Inv X a_ Z H s)(g:zx H a y o)(ry:RelV y u)(h:∀s',Inv X a_ Z H s'->Q (.bool o.isSome) s') :
  wpAny (model X.prog X.w) A (compareOp .In u (.ref a)) Q E s:=by
 rcases g with g|⟨e,k,rfl⟩
 ·exact MK hu I g ry h
 ·obtain⟨h1,h2,hd⟩:=lm I e;rcases k with ⟨k,rfl⟩|⟨b,ks,rfl,hb⟩
  ·exact wpAny_in_of (kz ry) hd h2.mapOf (h _ (I.tok _))
  ·cases (show u=Value.ref b from ry)
   exact wpAny_in_heap (we hu) (gk I.n_ hb) hd h1 (h _ (I.tok _))
def GL(hu:A.units+1<cLine)(I:Inv X a_ Z H s)(g:zx H a y o)(ry:RelV y u)(h:∀s',Inv X a_ Z H s'->Q (.bool (!o.isSome)) s') :
  wpAny (model X.prog X.w) A (compareOp .NotIn u (.ref a)) Q E s:=by
 rcases g with g|⟨e,k,rfl⟩
 ·exact Gp hu I g ry h
 ·obtain⟨h1,h2,hd⟩:=lm I e;rcases k with ⟨k,rfl⟩|⟨b,ks,rfl,hb⟩
  ·exact wpAny_notIn_of (kz ry) hd h2.mapOf (h _ (I.tok _))
  ·cases (show u=Value.ref b from ry)
   exact wpAny_notIn_heap (we hu) (gk I.n_ hb) hd h1 (h _ (I.tok _))
def JR(hu:A.units+1<cLine)(I:Inv X a_ Z H s)(g:zx H a y o)(ry:RelV y u)(h:∀w' s',Inv X a_ Z H s'->RelV (o.getD .OU) w'->Q w' s') :
  wpAny (model X.prog X.w) A (call (.builtin "dict.get") [.ref a,u]) Q E s:=by
 rcases g with g|⟨e,k,rfl⟩
 ·exact Jr hu I g ry h
 ·obtain⟨h1,h2,hd⟩:=lm I e;rcases k with ⟨k,rfl⟩|⟨b,ks,rfl,hb⟩
  ·exact NY Is h2.typeIs Nd (M8 _ _) (meets_dict_get (bL X.prog X.w) a (kz ry) hd) ⟨_,h2.mapOf,h _ _ (I.tok _) rfl⟩
  ·cases (show u=Value.ref b from ry)
   exact NY Is h1.typeIs Nd (M8 _ _) (meetsH_dict_get (tupleKind (bL X.prog X.w)) a b hd) ⟨we hu,ks,[],gk I.n_ hb,h1,h _ _ (I.tok _) rfl⟩
def DT.isD{es:List (D×D)}(h:DT K F H a es\/DK K F H a es):IsD H a:=by
 rcases h with ⟨kvs,h1,_⟩|⟨kvs,h1,_⟩
 ·exact .inr ⟨_,h1⟩
 ·exact .inl ⟨_,.inl h1⟩
end
def xC:D->D->Option D
 | .dict es,k=>if keyOk es k then some ((g6 es k).getD .none)else none
 | _,_=>none
def cf(d c:D):Option Bool:=match c with
 | .dict es=>if keyOk es d then some (g6 es d).isSome else none
 | _=>wm d c
def bE(d c:D):Option Bool:=match c with
 | .dict es=>if keyOk es d then some (!(g6 es d).isSome)else none
 | _=>gH d c
def aH(x y:D):Option D:=match x with
 | .dict es=>if keyOk es y then g6 es y else none
 | _=>dC x y
def kB:List D->Option D
 | [.dict es]=>if nC es then none else some (.int es.length)
 | l=>fm l
def Iu(po pe:Pu D):Pu D:=λρ=>bd (po ρ) λd=>bd (Wo (pe ρ)) λk=>oM (xC d k)
def W.nx{G:Gh}{ρ:En}{α:Type}{m:M α}{C:α->Hp->Hp->Prop}(h:W X G F Z ρ (Wo m) C):W X G F Z ρ m C:=by
 cases m with
 | ret a=>exact h
 | exc x=>exact h.elim
 | bad=>exact h.elim
def HJ(td ty:TE):TE:=λZ H Q=>td Z H λx H1=>∃a,x=.ref a/\IsD H1 a/\ty Z H1 λy H2=>∃o,zx H2 a y o/\Q (o.getD .OU) H2
section
variable {o f:Expr} {td ty tx:TE}
def Dm(hu:X.A.units+1<cLine)(ho:PE X o td)(he:PE X e ty)(m:M1 X o "get" apos e A_):PE X (.Call (.Attribute o "get" apos) [e] [] A_) (HJ td ty):=by
 intro a_ s Z H Q I h;refine wpAny_Call_method m.base m.Ue m.line PySem.F.plainAttrs_dict Is PySem.F.type_dict_get (u_ (ho a_ s Z H _ I h) λu s1 ⟨x,H1,I1,rx,a,ex,d,q1⟩=>?_);subst ex;obtain rfl:u=Value.ref a:=rx;obtain⟨t1,t2,_⟩:=IZ I1 d;refine⟨t1,t2,?_⟩;rw[m.trees];refine Nh rfl (Calls.evalArgs_plain (Calls.spliced_cons (u_ (he a_ s1 Z H1 _ I1 q1) λiv s2 ⟨y,H2,I2,ry,ov,g,q2⟩=>Calls.spliced_nil ?_)));exact JR hu I2 g ry λw' s3 I3 QJ=>⟨_,H2,I3,QJ,q2⟩
end
section
variable {o f:Expr} {po pe pf:Pu D}
theorem EF(hu:X.A.units+1100<cLine)(ho:AO X o po)(he:AP X e pe)(m:M1 X o "get" apos e A_):AP X (.Call (.Attribute o "get" apos) [e] [] A_) (Iu po pe) :=
 λG F Z H ρ Q S w=>Po (Dm (by lia) aN aN m) (ho G F Z H ρ _ S (w.bind.imp λd F1 H1 s1 S1 w1 v hv=>by
  have hd:∃es,d=.dict es/\nC es=false:=by
   cases hk:pe ρ with
   | ret k =>
    rw[hk]at w1;simp only[iU,jY]at w1;obtain⟨res,e,_⟩:=w1.opt
    cases d with
    | dict es =>
     dsimp only[xC]at e;split at e
     ·rename_i hk;exact⟨es,rfl,pg hk⟩
     ·cases e
    | _=>cases e
   | exc x=>rw[hk]at w1;exact w1.elim
   | bad=>rw[hk]at w1;exact w1.elim
  obtain⟨es,rfl,hnx⟩:=hd;obtain⟨a,rfl,hh⟩:=(hv.or S1).dict S1.fh hnx;refine⟨a,rfl,DT.isD hh,he G F1 Z H1 ρ _ S1 (w1.bind.nx.imp λk F2 H2 s2 S2 w2 y hy=>?_)⟩;obtain⟨res,e,kk⟩:=w2.opt;dsimp only[xC]at e;split at e
  case isFalse=>cases e
  rename_i hk
  cases e
  obtain⟨a',ea,hh3⟩:=((hv.mono s2).or S2).dict S2.fh hnx
  cases ea
  rcases vj S2.fh hh3 hy hk with ⟨d,v,e1,g,r⟩|⟨e1,g⟩
  ·refine⟨some v,g,?_⟩;rw[e1]at kk;exact kk F2 H2 (f_.refl _) S2 v r
  ·refine⟨none,g,?_⟩;rw[e1]at kk
   exact kk F2 H2 (f_.refl _) S2 .OU .OU))
end
def KN(neg:Bool):R2:=λx y H Q=>∃a o,y=.ref a/\zx H a x o/\Q (.bl (if neg then !o.isSome else o.isSome)) H
def KM(K:Fg):R2:=λx y H Q=>Vp K wm x y H Q\/KN false x y H Q
def zH(K:Fg):R2:=λx y H Q=>Vp K gH x y H Q\/KN true x y H Q
def Ia:R2:=λx y H Q=>∃a v,x=.ref a/\Ra H a y (some v)/\Q v H
def KJ(K:Fg):R2:=λx y H Q=>rIx K x y H Q\/Ia x y H Q
section
theorem gF(hu:X.A.units+1100<cLine):OA X (compareOp .In) (KM X.K):=OA.or (Iw hu) (by
 intro a_ s Z H x y v u Q I rx ry ⟨a,o,e,g,q⟩;subst e;obtain rfl:u=Value.ref a:=ry
 exact MN (by lia) I g rx λs' I'=>⟨.bl _,H,I',rfl,q⟩)
theorem cb(hu:X.A.units+1100<cLine):OA X (compareOp .NotIn) (zH X.K):=OA.or (Bn hu) (by
 intro a_ s Z H x y v u Q I rx ry ⟨a,o,e,g,q⟩;subst e;obtain rfl:u=Value.ref a:=ry
 exact GL (by lia) I g rx λs' I'=>⟨.bl _,H,I',rfl,q⟩)
theorem Ah(hu:X.A.units+1100<cLine):TJ X Ia:=by
 intro value slice a_ s Z H x y v u Q I rx ry ⟨a,w,e,g,q⟩ hs;subst e;obtain rfl:v=Value.ref a:=rx;have hT:s.TypeIs (.ref a) "dict":=xB I g;unfold subscriptTail;refine i_ ?_;rw[getitemInPython_of_ne hT.not_modules];refine i_ (wpAny_specialOf hT PySem.F.slot_dict_getitem.lookup ?_);have h₂:wpAny (model X.prog X.w) X.A (getItem (.ref a) u) (EP X a_ Z Q) X.xe s:=BM (by lia) I g ry λw' s3 I3 QJ=>⟨w,H,I3,QJ,q⟩
 have fin:wpAny (model X.prog X.w) X.A (subscripted slice false (.ref a) u) (λr s₃=>wpAny (model X.prog X.w) X.A (letTemporaryGo value (.ref a) r >>= λ_=>pure r) (EP X a_ Z Q) X.xe s₃) X.xe s:=by
  rw[hs];exact wpAny_operating (se h₂ (λr s₃ h₃=>i_ (wpAny_letTemporaryGo (s_ h₃))) λ_ _ x=>x)
 first
  | exact s_ (i_ fin)
  | exact i_ (s_ (i_ fin))
  | exact i_ fin
def aF(hu:X.A.units+1100<cLine):TJ X (KJ X.K):=TJ.or IY (Ah hu)
def nB{es:List (D×D)}{k:D}(h:OR K F H y k)(hk:keyOk es k=true):Rep K F y k:=by
 rcases h with h|⟨a,c,e,e2,h1,hI⟩
 ·exact h
 ·exfalso;subst e2;unfold keyOk at hk
  cases c<;>simp[OC.d,cZ,eQ]at hk
def jE:Uh K (KM K) cf:=by
 intro G F Z H ρ x y dx dy res Q S ox oy e k;unfold cf at e;split at e
 ·rename_i es;split at e
  case isFalse=>cases e
  rename_i hk
  cases e
  obtain⟨a,rfl,hh⟩:=oy.dict S.fh (pg hk);rcases vj S.fh hh (nB ox hk) hk with ⟨d,v,e1,g,r⟩|⟨e1,g⟩
  ·exact .inr ⟨a,_,rfl,g,by rw[e1]at k;exact k⟩
  ·exact .inr ⟨a,_,rfl,g,by rw[e1]at k;exact k⟩
 ·exact .inl (bw G F Z H ρ x y dx dy res Q S ox oy e k)
def cD:Uh K (zH K) bE:=by
 intro G F Z H ρ x y dx dy res Q S ox oy e k;unfold bE at e;split at e
 ·rename_i es;split at e
  case isFalse=>cases e
  rename_i hk
  cases e
  obtain⟨a,rfl,hh⟩:=oy.dict S.fh (pg hk);rcases vj S.fh hh (nB ox hk) hk with ⟨d,v,e1,g,r⟩|⟨e1,g⟩
  ·exact .inr ⟨a,_,rfl,g,by rw[e1]at k;exact k⟩
  ·exact .inr ⟨a,_,rfl,g,by rw[e1]at k;exact k⟩
 ·exact .inl (bw G F Z H ρ x y dx dy res Q S ox oy e k)
def aE:T9 K (KJ K) aH:=by
 intro G F Z H ρ x y dx dy res Q S ox oy e k;unfold aH at e;split at e
 ·rename_i es;split at e
  case isFalse=>cases e
  rename_i hk;obtain⟨a,rfl,hh⟩:=ox.dict S.fh (pg hk);rcases vj S.fh hh (nB oy hk) hk with ⟨d,v,e1,g,r⟩|⟨e1,g⟩
  ·rw[e1]at e
   cases e
   rcases g with g|⟨_,_,z⟩
   ·exact .inr ⟨a,v,rfl,g,k v F H (f_.refl _) S r⟩
   ·cases z
  ·rw[e1]at e;cases e
 ·exact .inl (Ld G F Z H ρ x y dx dy res Q S ox oy e k)
end
def FA(ρ:En)(i:Nat):Option (Bool×List (D×D)):=match ρ[i]? with
 | some (some (.ol (.t es)))=>some (true,es)
 | some (some (.ol (.k es)))=>some (false,es)
 | _=>none
def Vs(t:Bool)(es:List (D×D)):OC:=if t then .t es else .k es
def wg{ρ:En}{t:Bool}{es:List (D×D)}(h:FA ρ i=some (t,es)):ρ[i]? = some (some (.ol (Vs t es))):=by
 unfold FA at h;split at h
 ·rename_i q;cases h;exact q
 ·rename_i q;cases h;exact q
 ·cases h
def keyOf(t:Bool)(k:D):Bool:=if t then cZ k else eQ k
def iE(t:Bool)(es:List (D×D))(k d:D):Option (List (D×D)):=if keyOf t k&&decide (es.length<sizeLine)then some (mV es k d)else none
section
variable {S:Type}
def G1(t:Bool)(i:Nat):SM S:=λK ρ=>match gJ ρ i with
 | true=>K.nx (ρ.set i (some (.ol (Vs t []))))
 | false=>.bad
def HS(i:Nat)(mi me:Ev S D):SM S:=λK ρ=>me K.x (λd ρ1=>match FA ρ1 i with
 | some _=>mi K.x (λj ρ2=>match FA ρ2 i with
  | some (t,es)=>(oM (iE t es j d)).on (λe=>K.x e ρ2) (λT6=>K.nx (ρ2.set i (some (.ol (Vs t T6)))))
  | none=>.bad) ρ1
 | none=>.bad) ρ
variable {b:Expr} {mi me:Ev S D} {pos' Ov:Pos}
def pF(t:Bool)(hN:X.N.Nodup)(hi:X.N[i]? = some x)(hx:Loc X.env.scope x)(hs:swapsWith (.Dict [] [] Ov) (some (.Name x pos')) pos.line X.env=pure false)(hf:X.fn x=true\/X.env.scope.names.lookup x=some .local) :
  AS (S:=S) X (.Assign [.Name x pos'] (.Dict [] [] Ov) pos) (G1 t i):=λOK K G F Z H ρ E hO hX St ok eo=>by
 unfold G1 at ok;split at ok
 case h_2=>exact(hO ok).elim
 rename_i ho;obtain⟨hl,Rt⟩:=dD ho
 cases t with
 | true=>exact ik (jC hN hi hx v6 hs hf) λp hp=>eo.nx F _ _ _ (f_.refl _) ((St.lay (o:=.dT []) hp).store Rt hl (.inr ⟨.t [],rfl,p,rfl,⟨St.fh.free hp,St.oh.free hp,[],aJ,rfl,.nil⟩,St.fresh_ne hp⟩)) ok
 | false=>exact ik (jC hN hi hx Dk hs hf) λp hp=>eo.nx F _ _ _ (f_.refl _) ((St.lay (o:=.dK []) hp).store Rt hl (.inr ⟨.k [],rfl,p,rfl,⟨St.fh.free hp,St.oh.free hp,[],aJ,rfl,.nil⟩,St.fresh_ne hp⟩)) ok
theorem jb(hu:X.A.units+1100<cLine)(hN:X.N[i]? = some x)(hv:RY X.env.scope x)(hi:AE X b mi)(he:AE X e me)
  (hs:swapsWith e (some (.Subscript (.Name x pos') b Ov)) pos.line X.env=pure false)
  (hd:(x==("__debug__" : Str))=false:=by decide) (O2:(x==("__classdict__" : Str))=false:=by decide):AS X (.Assign [.Subscript (.Name x pos') b Ov] e pos) (HS i mi me):=λOK K G F Z H ρ E hO hX St ok eo =>
 ik (zO (by lia) (cO hN hv hd O2) aN aN hs) (he OK K.x _ G F Z H ρ _ hO hX St ok λd v F1 H1 ρ1 s1 S1 r1 o1=>by
  split at o1
  case h_2=>exact(hO o1).elim
  rename_i te0 Xy;obtain⟨t0,es0⟩:=te0;obtain⟨a,ea,_⟩:=S1.ow i _ (.inl (wg Xy));refine⟨_,ea,hi OK K.x _ G F1 Z H1 ρ1 _ hO hX S1 o1 λj u F2 H2 ρ2 s2 S2 r2 o2=>?_⟩;split at o2
  case h_2=>exact(hO o2).elim
  rename_i t es RT;obtain⟨T6,hp,o3⟩:=dA hO o2;have UD:=wg RT;obtain⟨a',OM,oa⟩:=S2.ow i _ (.inl UD);rw[ea]at OM;injection OM with OM;injection OM with OM;injection OM with OM;subst OM;unfold iE at hp;split at hp
  case isFalse=>cases hp
  rename_i hc
  cases hp
  rw[am,OB]at hc
  cases t with
  | true =>
   obtain⟨ks,rfl⟩:=eP hc.1;obtain⟨b,rfl,hb⟩:=gg r2;obtain⟨kvs,h1,h2,h3⟩:=(show OH X.K F2 H2 a (.t es)from oa.he);obtain⟨p1,p2⟩:=o7 lc ks (r1.mono s2) h2 h3;have hlen:kvs.length=es.length:=by have:=congrArg List.length h2;simpa using this.symm
   refine⟨a,_,rfl,PJ.t h1 (S2.fh _ _ hb) (by lia),eo.nx F2 Z _ _ (s1.trans s2) ?_ o3⟩;have:=S2.change (.inl UD) ea (c':=.t (mV es (cE ks) d)) (o:=.dT (putK kvs ks v)) ⟨_,aJ,p1,p2⟩;rw[UD]at this;exact this
  | false =>
   obtain⟨ks,rfl⟩:=iC hc.1;obtain rfl:=jz r2;obtain⟨kvs,h1,h2,h3⟩:=(show OH X.K F2 H2 a (.k es)from oa.he);obtain⟨p1,p2⟩:=o7 yJ ks (r1.mono s2) h2 h3;have hlen:kvs.length=es.length:=by have:=congrArg List.length h2;simpa using this.symm
   refine⟨a,_,rfl,PJ.k h1 (by lia),eo.nx F2 Z _ _ (s1.trans s2) ?_ o3⟩;have:=S2.change (.inl UD) ea (c':=.k (mV es (Ow ks) d)) (o:=.dK (putK kvs ks v)) ⟨_,aJ,p1,p2⟩;rw[UD]at this
   exact this)
end
end L4
namespace HT
open PySem PyProof.Rows
end HT
namespace L4
open PySem PySem.Spec PyProof.Rows L2 L3
def gI(x y:D):Option Bool:=match x,y with
 | .tuple a,.tuple b=>match intsOf a,intsOf b with
  | some m,some n=>some (HT.lexLt m n)
  | _,_=>none
 | x,y=>wj x y
def KE(K:Fg):R2:=λx y H Q=>Tn (λi j=>.bl (decide (i<j))) x y H Q\/KA K x y H Q
def mX{X:Cx}(hu:X.A.units+1100<cLine):OA X (compareOp .Lt) (KE X.K):=OA.or La (IA (by lia))
def mZ{K:Fg}:Uh K (KE K) gI:=by
 intro G F Z H ρ x y dx dy res Q S ox oy e k;unfold gI at e;split at e
 ·rename_i a b;split at e
  ·rename_i m n hm hn
   cases e
   obtain⟨p,vs,rfl,h1,h2⟩:=ox.tuple S.fh;obtain⟨q,us,rfl,g1,g2⟩:=oy.tuple S.fh;rw[dm hm]at h2;rw[dm hn]at g2;rw[dk h2]at h1;rw[dk g2]at g1;exact .inr ⟨p,q,m,n,rfl,rfl,h1,g1,k⟩
  ·cases e
 ·exact .inl (Lc G F Z H ρ x y dx dy res Q S ox oy e k)
end L4
namespace PySem
open Sem (wp)
open AutoSeq1 (wpAny_loadPart')
def tR{prog:Program}{w:World}{A:Around}(hh:A.handled=none)(it l:Addr)(Ts:l≠it)(items:Array Value) :
  Draws prog w A it [it,l] items.size (λi v=>items[i]? = some v) (λi h=>h.IsTupleIter it l i/\h.IsTuple l items) where
 live:=λ_ _ st=>let ⟨o,ho,_⟩:=st.1;⟨o,ho⟩
 frame:=λ_ _ _ st hk=>⟨st.1.at λo e=>hk it (by simp) o e,by obtain⟨o,e,r⟩:=st.2;exact⟨o,hk l (by simp) o e,r⟩⟩
 item:=λi s Q E hi st hQ=>by
  refine iV st.1 st.2 (x:=items[i]) (by simp[hi]) λh' VM RQ=>?_
  exact hQ _ h' s.toks (by simp[hi]) ⟨VM,st.2.extBut RQ.extBut Ts⟩ RQ
 done:=λs Q E st hE=>j6 hh st.1 st.2 (by simp) hE
set_option maxHeartbeats 1000000 in
def oH(l:Addr)(items:Array Value)(n:Nat)(Sl:Option Addr)(sl:Array (Option Value)) :
  Meets (Builtin.«enumerate.__new__» ⟨[.type "enumerate",.ref l],[]⟩) (λ_ R s=>s.heap.get? l=some { cls:=.type "tuple",dict:=Sl,data:=.seq items n,slots:=sl } /\
   R (.ok (.ret (.ref (s.heap.push { cls:=.type "tuple_iterator",data:=.fields #[.ref l,.int 0 0] }).objs.size)))
    { s with heap:=(s.heap.push { cls:=.type "tuple_iterator",data:=.fields #[.ref l,.int 0 0] }).push { cls:=.type "enumerate",data:=.fields #[.none,.bool false,.ref s.heap.objs.size,rawInt 0,.none,.none] } }) :=
 .of_wp λprog w A R s h=>by
  obtain⟨hp,g,d,tk,os⟩:=s;obtain⟨hl,h⟩:=h;have zas:=sub_enumerate;have hL:Heap.IsTuple (Shared.heap ⟨hp,g,d,tk,os⟩) l items:=⟨_,hl,rfl,n,rfl⟩
  wp_walk using wpAny_loadPart' hl
  refine wpAny_stack_any λst=>s_ ?_
  split
  ·rename_i c _ _ _ _ _
   cases (c==Value.type "enumerate")
   ·wp_walk using wpAny_loadPart' hl,ue hL
    exact⟨_,rfl,h⟩
   ·wp_walk using wpAny_loadPart' hl,ue hL
    exact⟨_,rfl,h⟩
  ·wp_walk using wpAny_loadPart' hl,ue hL
   exact⟨_,rfl,h⟩
section
variable {prog:Program}{w:World}{A:Around}{E:Of}{s:Shared}
theorem oN{l:Addr}{items:Array Value}{Q:Of}(hL:s.heap.IsTuple l items)
  (h:∀h',IsEnum h' (s.heap.objs.size+1) s.heap.objs.size 0 .none->h'.IsTupleIter s.heap.objs.size l 0->h'.objs.size=s.heap.objs.size+2 ->
   (∀b o,s.heap.get? b=some o->h'.get? b=some o)->Q (.ref (s.heap.objs.size+1)) { s with heap:=h' }) :
  wpAny (model prog w) A (call (.type "enumerate") [.ref l]) Q E s:=by
 obtain⟨⟨c,Sl,dt,sl⟩,hl,hc,n,hd⟩:=hL;replace hc:c=.type "tuple":=hc;replace hd:dt=.seq items n:=hd;subst hc hd;refine callType_new F.called_enumerate (by decide) (F.typeCall_enumerate_1 _) (F.newCall_enumerate_1 _) (λobj=>F.args_object_init_2 obj _) F.entry_enumerate_new
  (oH l items n Sl sl) ⟨hl,?_⟩
 have hz:(s.heap.push { cls:=.type "tuple_iterator",data:=.fields #[.ref l,.int 0 0] }).objs.size=s.heap.objs.size+1:=qu ..;show _/\_;rw[hz]
 have he:IsEnum ((s.heap.push { cls:=.type "tuple_iterator",data:=.fields #[.ref l,.int 0 0] }).push
   { cls:=.type "enumerate",data:=.fields #[.none,.bool false,.ref s.heap.objs.size,rawInt 0,.none,.none] }) (s.heap.objs.size+1) s.heap.objs.size 0 .none:=by
  have:=OX (s.heap.push { cls:=.type "tuple_iterator",data:=.fields #[.ref l,.int 0 0] })
   (o:={ cls:=.type "enumerate",data:=.fields #[.none,.bool false,.ref s.heap.objs.size,rawInt 0,.none,.none] }) rfl
  rw[hz]at this;exact this
 refine⟨⟨_,he,rfl⟩,h _ he ⟨_,Od _ (OX _ rfl),rfl,rfl⟩ (by rw[qu,hz]) λb o x=>Od _ (Od _ x)⟩
end
end PySem
namespace L3
open PySem PySem.Spec PyProof.Rows L2 L4
def Ite(K:Fg)(a:Addr):It :=
 ⟨λi H=>∃xs x,N_ K H a xs/\xs[i]? = some x,λi H y H'=>∃p x,(∀xs,N_ K H a xs->xs[i]? = some x)/\H p=none/\y=.ref p/\H'=upd H p (.tup [.int i,x]),λi H=>∃xs,N_ K H a xs/\xs.length<=i⟩
def xy{X:Cx}{a_:K_}{Z:L2.St}{H:Hp}{s:Shared}{e it:Addr}{i:Nat}{x:V}{x':Value}{tk:Nat}{h2:Heap}(I:Inv X a_ Z H s)(fe:lA X a_ H e)(ft:lA X a_ H it)(ru:RelV x x')
  (Ox:∀b o,b≠e->b≠it->s.heap.get? b=some o->h2.get? b=some o) (Ri:h2.get? s.heap.objs.size=some { cls:=.type "tuple",data:=.seq #[.int i tk,x'] }) :
  Inv X a_ Z (upd H s.heap.objs.size (.tup [.int i,x])) { s with heap:=h2,toks:=tk+1 }:=by
 refine qv (ch:=[e,it]) I (λc hc=>?_) (⟨tk,rfl⟩:RelV (.int i) (.int i tk)) ru (λb o RI q=>Ox b o (λz=>RI (by rw[z];exact du)) (λz=>RI (by rw[z];exact QC _ du)) q) Ri;rcases List.mem_cons.mp hc with rfl|hb
 ·exact fe
 ·rw[List.mem_singleton.mp hb];exact ft
def A9{P:Program}{w:World}{K:Fg}{elts:List Expr}{x1:Nat}{pos:Pos}(a it e:Addr)(ZA:a≠it)(Xx:e≠it)(hea:e≠a) :
  Turn P w K (.Tuple elts x1 pos) (Ite K a) [e,it] e (λi h=>(∃old,IsEnum h e it i old)/\h.IsTupleIter it a i) where
 mem:=by simp
 obj:=λi h st b hb=>by
  obtain⟨⟨old,he⟩,o,e1,c,d⟩:=st;rcases List.mem_cons.mp hb with rfl|hb
  ·exact⟨_,he,λv z=>nomatch z⟩
  ·rw[List.mem_singleton.mp hb];exact⟨o,e1,λv z=>by rw[d]at z;cases z⟩
 keep:=λi h h' st k=>by
  obtain⟨⟨old,he⟩,ht⟩:=st;exact⟨⟨old,k e (by simp) _ he⟩,ht.at λo e=>k it (by simp) o e⟩
 item:=by
  intro X hP hw hK hc i a_ s Z H E I hf st hg;subst hP hw hK;obtain⟨xs,x,hq,hx⟩:=hg;obtain⟨k_,rv,p,hz⟩:=I.tuple hq;obtain⟨u,hu,ru⟩:=rv.get hx;obtain⟨⟨old,he⟩,ht⟩:=st;have D:=tR (prog:=X.prog) (w:=X.w) (A:=X.A.in1) (I.ok.hd hc) it a ZA k_.toArray;have hi:i<k_.toArray.size:=by simpa using(List.getElem?_eq_some_iff.mp hu).1
  have fe:=hf e (by simp);have ft:=hf it (by simp);refine wpAny_pyNext_enum_itemD D he ⟨ht,show s.heap.IsTuple a k_.toArray from p⟩ hi Xx (by simp[Xx,hea]) λx' h' tk hP ho RQ hT hsz hk=>?_
  have ex:x'=u:=by
   have:k_.toArray[i]? = some x':=hP;rw[Nj,hu]at this;exact(Option.some.inj this).symm
  subst ex;refine⟨_,rfl,wpAny_letOwnedTupleGo_enum ho λh2 he2 W3=>?_⟩;have Xq:s.heap.objs.size≠e:=pr (ay he);have hpi:s.heap.objs.size≠it:=by obtain⟨o,e1,_⟩:=ht;exact pr (ay e1)
  have Ox:∀b o,b≠e->b≠it->s.heap.get? b=some o->h2.get? b=some o:=λb o h1 XB q=>(W3.2 b h1).trans (hk b o h1 XB q)
  have Ri:h2.get? s.heap.objs.size=some { cls:=.type "tuple",data:=.seq #[.int i tk,x'] }:=(W3.2 _ Xq).trans hT;have I1:Inv X a_ Z (upd H s.heap.objs.size (.tup [.int i,x])) { s with heap:=h2,toks:=tk+1 }:=xy I fe ft ru Ox Ri;refine⟨.ref s.heap.objs.size,_,I1,rfl,⟨_,x,λys hy=>by rw[I.Pg hy hq];exact hx,I.fresh,rfl,rfl⟩,⟨⟨_,by simpa using he2⟩,?_⟩,λb hb=>?_⟩
  ·obtain⟨o,e1,r⟩:=RQ.1;exact⟨o,(W3.2 it (Ne.symm Xx)).trans e1,r⟩
  ·rcases List.mem_cons.mp hb with rfl|hb
   ·rw[aD (Ne.symm Xq)];exact fe.1
   ·rw[List.mem_singleton.mp hb,aD (Ne.symm hpi)];exact ft.1
 done:=by
  intro X hP hw hK hc i a_ s Z H E I hf st hg;subst hP hw hK;obtain⟨xs,hq,hx⟩:=hg;obtain⟨k_,rv,p,hz⟩:=I.tuple hq;obtain⟨⟨old,he⟩,ht⟩:=st;obtain⟨g0,g1,g2,g3,g4,g5⟩:=hf it (by simp);have hl:=rv.length;have D:=tR (prog:=X.prog) (w:=X.w) (A:=X.A.in1) (I.ok.hd hc) it a ZA k_.toArray;have hT:s.TypeIs (.ref e) "enumerate":=⟨_,he,rfl⟩;unfold pyNext
  refine i_ (M4 (je (name:=Str.ofString "__next__") hT Nk
   (ou Nk hT F.entry_enumerate_next ?_ (F.args_enumerate_next_1 _))))
  show wpAny _ _ (field (.ref e) 2 >>= _) _ _ _;refine i_ (ig he rfl (x:=.ref it) rfl ?_);refine i_ (j6 (I.ok.hd hc) ht (show s.heap.IsTuple a k_.toArray from p) (by simp;lia) λh' x Zs Rr=>?_);obtain⟨o,ho,Tu⟩:=Rr;refine i_ (Nm (T := "StopIteration") (b:=true) ⟨o,ho,Tu⟩ ND ?_);exact s_ ⟨rfl,I.turned (t':=s.toks) (λb o hb e=>Zs b o hb e) g0 g1 g3 g4 g5⟩
 self:=λ_ _ _ _ _ st h=>by
  obtain⟨⟨old,he⟩,ht⟩:=st;exact NI he h
def gv(ds:List D):List D:=ds.zipIdx.map λp=>PyData.tuple [.int (p.2:Int),p.1]
def fV(ds:List D):(gv ds).length=ds.length:=by simp[gv]
def A7{K:Fg}{F:Hp}{a:Addr}{vs:List V}{ds:List D}(h:N_ K F a vs)(r:h_ K F vs ds):Walk K (Ite K a) (gv ds) F where
 go:=λi G F2 Z H2 ρ s S hi=>by
  have Sf:i<vs.length:=by rw[r.length];rw[fV]at hi;exact hi
  exact⟨vs,vs[i],bt S.fh (bt s h),by simp[Sf]⟩
 Sw:=λi G F2 Z H2 ρ x H3 d s S hd ⟨p,y,hy,hp,hx,hH⟩=>by
  subst hx hH;unfold gv at hd;rw[fu,List.getElem?_zipIdx]at hd
  cases q:ds[i]? with
  | none=>rw[q]at hd;cases hd
  | some d' =>
   rw[q]at hd;simp at hd;subst hd;obtain⟨v,e1,e2⟩:=r.get q;have:=hy vs (bt S.fh (bt s h));rw[e1]at this
   cases this
   obtain⟨s2,S2,r2⟩:=S.O7 hp (h_.cons (Rep.int (i:Int)) (h_.cons (e2.mono s) h_.nil));exact⟨_,s2,S2,r2⟩
 stop:=λG F2 Z H2 ρ s S=>⟨vs,bt S.fh (bt s h),by rw[r.length,fV];exact ai _⟩
def Lw(K:Fg)(tl:TA):TI:=λZ H R=>tl Z H λxs H1=>∃a,xs=[.ref a]/\(∃ys,N_ K H1 a ys)/\R (Ite K a) H1
def Ft{X:Cx}{e:Expr}{tl:TA}{elts:List Expr}{x1:Nat}{tp p pos:Pos}(hg:Gl X "enumerate")(hm:X.mg "enumerate"=none)(ha:PA X [e] tl)(hs:starEach [e] X.env=[(false,eval e X.env)]) :
  PI X (.Tuple elts x1 tp) (.Call (.Name "enumerate" p) [e] [] pos) (Lw X.K tl):=by
 intro a_ s Z H R I h;refine ug (i3 I hg hm (show bootBuiltins "enumerate"=some (.type "enumerate") by decide +kernel) ?_ (by decide) (by decide));refine re (u_ (ha pos a_ s Z H _ I h) λus s1 ⟨vs,H1,I1,r1,q1⟩=>?_) hs rfl;obtain⟨a,rfl,⟨ys,hq⟩,q⟩:=q1;obtain⟨u,rfl,ru⟩:=L2.Vals.one r1
 cases ru
 obtain⟨k_,rv,pt,hz⟩:=I1.tuple hq;have alt:a<s1.heap.objs.size:=by obtain⟨o,e1,_⟩:=pt;exact ay e1
 refine oN (show s1.heap.IsTuple a k_.toArray from pt) λh' he ht hsz hk=>?_
 refine NI (s:={ s1 with heap:=h' }) he ?_;refine⟨s1.heap.objs.size+1,[s1.heap.objs.size+1,s1.heap.objs.size],_,_,H1,rfl,I1.kept (t':=s1.toks) hk,A9 a s1.heap.objs.size (s1.heap.objs.size+1) (gu alt) (Nat.succ_ne_self _) (pr (NN alt)),⟨⟨_,he⟩,ht⟩,λb hb=>?_,q⟩;rcases List.mem_cons.mp hb with rfl|hb
 ·exact I1.Pm (MZ _) (I1.n_.fresh (MZ _))
 ·rw[List.mem_singleton.mp hb];exact I1.Pm (ai _) (I1.n_.fresh (ai _))
end L3
namespace L4
open PySem PySem.Spec PyProof.Rows L2 L3
variable {X:Cx}{F H:Hp}{pos:Pos}{K:Fg}{G:Gh}{Z:L2.St}{ρ:En}{p:Addr}{o:HO}
def kC:List D->Option (List D)
 | [.tuple ds]=>some (gv ds)
 | _=>none
section
variable {tg e:Expr} {p tp:Pos} {elts:List Expr} {x1:Nat}
def Gn{vs:List V}{ds out:List D}{R:It->Hp->Prop}(s:f_ F H)(r:h_ X.K F vs ds)(h:kC ds=some out)(k:∀J,Walk X.K J out F->R J H) :
  ∃a,vs=[.ref a]/\(∃ys,N_ X.K H a ys)/\R (Ite X.K a) H:=by
 unfold kC at h;split at h
 ·cases h
  obtain⟨v,rfl,r1⟩:=r.QT;obtain⟨a,vs,rfl,a1,a2⟩:=r1.OZ;exact⟨_,rfl,⟨_,N_.of (s _ _ a1)⟩,k _ (A7 (N_.of a1) a2)⟩
 ·cases h
def vp{ps:Pa (List D)}(hg:Gl X "enumerate")(hm:X.mg "enumerate"=none)(ha:AA X [e] ps)(hs:starEach [e] X.env=[(false,eval e X.env)]):AI X (.Tuple elts x1 tp) (.Call (.Name "enumerate" p) [e] [] pos) (kU kC ps) :=
 λG F Z H ρ R S w=>vR (Ft hg hm cC hs) (ha G F Z H ρ _ _ _ S w λds vs F1 H1 s1 S1 _ r1 w1=>by
  obtain⟨out,hd,k⟩:=w1.opt
  exact Gn S1.fh r1 hd (k F1 H1 (f_.refl _) S1))
end
def Gh.add(G:Gh)(p:Addr)(o:HO):Gh:={ G with O:=upd G.O p o }
def _root_.L3.c_.hold(S:c_ K G F Z H ρ)(hp:H p=some o)(fp:F p=none)(ne:∀(i:Nat) (e:OC),own ρ i e->Z[i]? ≠ some (some (V.ref p)))(nt:Cd o:=by exact True.intro):c_ K (Gh.add G p o) F Z H ρ:=by
 refine⟨S.fh,λb u e=>?_,λb u e=>?_,S.ln,S.fz,λi c h=>?_,S.dj,S.pp,S.pq,S.fb⟩
 ·by_cases hb:b=p
  ·subst hb;rw[show(Gh.add G b o).O b=some o from aJ]at e
   cases e;exact hp
  ·rw[show(Gh.add G p o).O b=G.O b from aD hb]at e;exact S.oh b u e
 ·by_cases hb:b=p
  ·subst hb;rw[show(Gh.add G b o).O b=some o from aJ]at e
   cases e
   exact⟨fp,nt⟩
  ·rw[show(Gh.add G p o).O b=G.O b from aD hb]at e;exact S.fo b u e
 ·obtain⟨a,e,oa⟩:=S.ow i c h;refine⟨a,e,oa.nf,?_,oa.he⟩;have:a≠p:=λz=>ne i c h (by rw[e,z])
  exact(show(Gh.add G p o).O a=G.O a from aD this).trans oa.no
def _root_.L3.c_.SH(hn:G.O p=none)(S:c_ K (Gh.add G p o) F Z H ρ) :
  c_ K G F Z H ρ/\H p=some o/\F p=none/\∀(i:Nat) (e:OC),own ρ i e->Z[i]? ≠ some (some (V.ref p)):=by
 have V_:(Gh.add G p o).O p=some o:=aJ;have vg:∀b,b≠p->(Gh.add G p o).O b=G.O b:=λb hb=>aD hb
 have nb:∀b u,G.O b=some u->b≠p:=λb u e z=>by rw[z,hn]at e;cases e
 refine⟨⟨S.fh,λb u e=>S.oh b u ((vg b (nb b u e)).trans e),λb u e=>S.fo b u ((vg b (nb b u e)).trans e),S.ln,S.fz,λi c h=>?_,S.dj,S.pp,S.pq,S.fb⟩,S.oh p o V_,(S.fo p o V_).1,λi c h e=>?_⟩
 ·obtain⟨a,e,oa⟩:=S.ow i c h;have:a≠p:=λz=>by have:=oa.no;rw[z,V_]at this;cases this
  exact⟨a,e,oa.nf,(vg a this).symm.trans oa.no,oa.he⟩
 ·obtain⟨a,e',oa⟩:=S.ow i c h;rw[e]at e';injection e' with e';injection e' with e';injection e' with e';have:=oa.no;rw[<-e',V_]at this
  cases this
def W.held{α:Type}{m:M α}{C:α->Hp->Hp->Prop}(hn:G.O p=none)(h:W X G F Z ρ m C) :
  W X (Gh.add G p o) F Z ρ m λa F' H'=>C a F' H':=by
 cases m with
 | ret a=>exact λF2 H2 s2 S2=>h F2 H2 s2 (S2.SH hn).1
 | exc x =>
  have nb:∀b u,G.O b=some u->b≠p:=λb u e z=>by rw[z,hn]at e;cases e
  have vg:∀b u,G.O b=some u->(Gh.add G p o).O b=some u:=λb u e=>(show(Gh.add G p o).O b=G.O b from aD (nb b u e)).trans e
  exact λF' H' s' a C dd a_ Z g fz I xs hp xr=>h F' H' s' a C dd a_ Z ⟨g.fh,λb u e=>g.oh b u (vg b u e),λb u e=>g.fo b u (vg b u e),g.fb⟩ fz I xs hp xr
 | bad=>exact h
def K3(pa:Pu (List D))(pb:Pu D):Pu (List D):=λρ=>bd (pa ρ) λds=>bd (pb ρ) λy=>oM (qx (.list ds) y)
def JO{a b:Expr}{pa:Pu (List D)}{pb:Pu D}(ha:AL X a pa)(hb:AO X b pb):AL X (.BinOp a .Mult b pos) (K3 pa pb) :=
 λG F Z H ρ Q S w=>Po (Dh Iy aN aN) (ha G F Z H ρ _ S (w.bind.imp λds F1 H1 s1 S1 w1 v fr=>by
  obtain⟨p,rfl,oa,ne⟩:=fr;obtain⟨vs,h1,h2⟩:=oa.he;have S1':=S1.hold h1 oa.nf ne;refine hb (Gh.add G p (.lst vs)) F1 Z H1 ρ _ S1' ((W.held oa.no w1.bind).imp λy F2 H2 s2 S2 w2 u hu=>?_);obtain⟨S2',g1,g2,g3⟩:=S2.SH oa.no;obtain⟨res,e,kk⟩:=w2.opt
  cases y<;>try (cases e)
  rename_i k';dsimp only[qx]at e;split at e
  case isFalse=>cases e
  rename_i hc
  cases e
  simp only[am,OB]at hc;have hi:u=.int k':=(hu.or S2).int;subst hi;refine⟨p,k',vs,rfl,rfl,g1,hc.1.1,hc.1.2,by rw[h2.length];exact hc.2,λq hq=>?_⟩;obtain⟨S3,r3⟩:=S2'.OO hq (h_.rep (h2.mono s2) k'.toNat)
  exact kk F2 _ (f_.refl _) S3 _ r3))
def insI(x:Int):List Int->List Int
 | []=>[x]
 | y::r=>if x<=y then x::y::r else y::insI x r
def UT:List Int->List Int
 | []=>[]
 | x::r=>insI x (UT r)
def insI_perm(x:Int):∀l,(insI x l).Perm (x::l)
 | []=>.refl _
 | y::r=>by
  unfold insI;split
  ·exact .refl _
  ·exact((insI_perm x r).cons y).trans (.swap x y r)
def pX:∀l,(UT l).Perm l
 | []=>.refl _
 | x::r=>(insI_perm x (UT r)).trans ((pX r).cons x)
def n6(x:Int):∀l:List Int,l.Pairwise (· <= ·)->(insI x l).Pairwise (· <= ·)
 | [],_=>List.pairwise_singleton _ _
 | y::r,h=>by
  unfold insI;rw[M5]at h;split
  ·rename_i hxy;rw[M5,M5];refine⟨λz hz=>?_,h⟩;rcases List.mem_cons.mp hz with rfl|hz
   ·exact hxy
   ·exact Int.le_trans hxy (h.1 z hz)
  ·rename_i hxy;rw[M5];refine⟨λz hz=>?_,n6 x r h.2⟩;rcases List.mem_cons.mp ((insI_perm x r).mem_iff.mp hz)with rfl|hz
   ·lia
   ·exact h.1 z hz
def pW:∀l:List Int,(UT l).Pairwise (· <= ·)
 | []=>.nil
 | x::r=>n6 x _ (pW r)
theorem nO:∀{a b:List Int},a.Perm b->a.Pairwise (· <= ·)->b.Pairwise (· <= ·)->a=b
 | [],b,hp,_,_=>by simpa using hp.symm.eq_nil
 | x::r,b,hp,ha,hb=>by
  cases b with
  | nil=>exact absurd hp.length_eq (by simp)
  | cons y t =>
   rw[M5]at ha hb;have hx:x∈y::t:=hp.mem_iff.mp du;have hy:y∈x::r:=hp.mem_iff.mpr du;have e:x=y:=by
    rcases List.mem_cons.mp hx with e|hx
    ·exact e
    ·rcases List.mem_cons.mp hy with e|hy
     ·exact e.symm
     ·have:=ha.1 y hy;have:=hb.1 x hx;lia
   subst e;rw[nO (List.Perm.cons_inv hp) ha.2 hb.2]
def HK{a l:List Int}(hp:a.Perm l)(ha:a.Pairwise (· <= ·)):a=UT l:=nO (hp.trans (pX l).symm) ha (pW l)
def yc(l:List Int):(UT l).length=l.length:=(pX l).length_eq
def qP:List D->Option (List D)
 | [.list ds]=>match intsOf ds with
  | some ns=>if ns.length<64 then some ((UT ns).map PyData.int)else none
  | none=>none
 | _=>none
def C3(K:Fg):List V->Hp->VK->Prop:=λxs H Q=>∃p ns,xs=[.ref p]/\Ot K H p (ns.map V.int)/\ns.length<64/\∀l,H l=none->Q (.ref l) (upd H l (.lst ((UT ns).map V.int)))
def zb:p_ X (.builtin "sorted") (C3 X.K):=by
 intro a_ s Z H xs us Q I r h0;obtain⟨p,ns,rfl,hq,h64,k⟩:=h0;obtain⟨u,rfl,ru⟩:=L2.Vals.one r
 cases ru
 obtain⟨k_,rv,pl,hz⟩:=I.list hq;have hI:IntsAre k_ ns:=by simpa using intsAre_of rv
 have hlen:k_.length<64:=by rw[hI.length];exact h64
 refine sorted_ints (vs:=k_) pl.isList hI hlen λout Xc h1 h2 h3=>?_
 have e:=HK h2 h3;subst e;obtain⟨ep,he⟩:=sortedAll_at s.heap k_ out;refine⟨.ref (s.heap.objs.size+1),upd H (s.heap.objs.size+1) (.lst ((UT ns).map V.int)),I.laid (t':=s.toks) (λb o q=>sortedAll_old q) (MZ _) ⟨?_,out.toList,ep,mN h1,?_⟩,rfl,k _ (I.n_.fresh (MZ _))⟩
 ·rw[L_,yc];exact di (Nf h64) (by decide)
 ·exact he
def Dt:AZ K (C3 K) qP:=by
 intro G F Z H ρ xs ds res Q S o e k;unfold qP at e;split at e
 ·rename_i es;split at e
  ·rename_i ns Sz;split at e
   ·rename_i h64
    cases e
    obtain⟨v,r,rfl,ho,hr⟩:=bD o;obtain rfl:=bT hr;obtain⟨a,vs,rfl,h1,h2⟩:=ho.list S.fh;rw[dm Sz]at h2;rw[dk h2]at h1;refine⟨a,ns,rfl,h1,h64,λl hl=>?_⟩;obtain⟨S2,r2⟩:=S.OO hl (h_.ints (K:=K) (F:=F) (UT ns));exact k _ F _ (f_.refl _) S2 r2
   ·cases e
  ·cases e
 ·cases e
theorem D3:LQ X MF:=by
 intro a_ s Z H x y v u Q I rx ry h;obtain⟨p,xs,i,z,rfl,rfl,hq,he,q⟩:=h
 cases rx
 obtain⟨t,rfl⟩:=ry;obtain⟨k_,r,pl,hz⟩:=I.list (Ot.of hq);obtain⟨j,h1,h2,h3,h4,h5⟩:=pE he;obtain⟨w,ew,QJ⟩:=r.get h2;have hl:=r.length;have hn:=jK;have fin:EP X a_ Z Q w s:=⟨z,H,I,QJ,q⟩;by_cases h0:0<=i
 ·have hj:i.toNat=j:=by
   rw[seqIndex_of h0 h5]at h1;exact Option.some.inj h1
  exact wpAny_getItem_list pl.isList h0 (by lia) (by rw[hj];simpa using ew) fin
 ·have hj:(i+(k_.toArray.size:Int)).toNat=j:=by
   rw[seqIndex_neg (by lia) h4]at h1;rw[ax,<-hl];exact Option.some.inj h1
  exact wpAny_getItem_list_neg pl.isList (by lia) (by rw[ax]<;>lia) (by lia) (by rw[hj];simpa using ew) fin
section
variable {S:Type} {b e:Expr} {mj me:Ev S D} {pos' Ov:Pos}
theorem vk{i:Nat}{x:Str}{op:Operator}{t:Wa}{f:D->D->Option D}(hN:X.N[i]? = some x)(hv:RY X.env.scope x)(ho:Yu X op t)(hf:ipD f X.K t)(hj:AE X b mj)(he:AE X e me)
  (ha:∀ov iv new,augStore b ov iv new=(do holding [new,ov,iv] (setItem ov iv new);release [new,ov,iv] [];pure .next))
  (hd:(x==("__debug__" : Str))=false:=by decide) (O2:(x==("__classdict__" : Str))=false:=by decide):AS X (.AugAssign (.Subscript (.Name x pos') b Ov) op e pos) (G3 i f mj me):=λOK K G F Z H ρ E hO hX St ok eo =>
 ik (Fo (cO hN hv hd O2) aN D3 aN ho set_list ha) (by
  unfold G3 at ok;split at ok
  case h_2=>exact(hO ok).elim
  rename_i XM Xy;obtain⟨a,Vb,ea,_,_⟩:=dS St Xy;refine⟨_,ea,hj OK K.x _ G F Z H ρ _ hO hX St ok λj u F1 H1 ρ1 s1 S1 r1 o1=>?_⟩;split at o1
  case h_2=>exact(hO o1).elim
  rename_i ds RT;obtain⟨a',vs,OM,hh,rv⟩:=dS S1 RT;rw[ea]at OM;injection OM with OM;injection OM with OM;injection OM with OM;subst OM;obtain⟨dx,hx,o2⟩:=dA hO o1;have hint:∃k,j=.int k:=by
   cases j<;>first|exact⟨_,rfl⟩|cases hx
  obtain⟨k,rfl⟩:=hint
  cases r1
  obtain⟨v,ev,rvv⟩:=vh rv (show Sr ds k=some dx from hx);refine⟨a,vs,k,v,rfl,rfl,hh,ev,?_⟩;refine he OK K.x _ G F1 Z H1 ρ1 _ hO hX S1 o2 λd w F2 H2 ρ2 s2 S2 r2 o3=>?_
  obtain⟨r,er,o4⟩:=dA hO o3;refine hf v w dx d r F2 H2 _ (rvv.mono s2) r2 er λz rz=>?_
  split at o4
  case h_2=>exact(hO o4).elim
  rename_i ds2 Zv;obtain⟨a2,vs2,WJ,Yd,Wl⟩:=dS S2 Zv;rw[ea]at WJ;injection WJ with WJ;injection WJ with WJ;injection WJ with WJ;subst WJ;obtain⟨Tb,hp,o5⟩:=dA hO o4;unfold putD at hp;obtain⟨q,hq,rfl⟩:=Option.map_eq_some_iff.mp hp;refine⟨a,vs2,k,q,rfl,rfl,Yd,by rw[Wl.length];exact hq,?_⟩
  exact eo.nx F2 Z _ _ (s1.trans s2) (lI S2 Zv ea (h_.set rz q Wl)) o5)
end
end L4
namespace HT
open PySem PySem.Spec PyProof.Rows
section
variable {prog:Program}{w:World}{A:Around}{E:Of}{s:Shared}{xs:Array (Int×Tok)}{l:Addr}
theorem SI{Q:Of}(hh:A.handled=none)(hl:s.heap.IsTuple l (intItems xs))(Sg:∀j,j<xs.size->InLong (numAt xs j)/\InLong (preSum (numAt xs) (j+1)))
  (h:∀h' tk t',(∀b o,s.heap.get? b=some o->h'.get? b=some o)->Q (.int (preSum (numAt xs) xs.size) t') { s with heap:=h',toks:=tk }) :
  wpAny (model prog w) A (call (.builtin "sum") [.ref l]) Q E s:=by
 have Oi:l<s.heap.objs.size:=by obtain⟨_,e,_⟩:=hl;exact ay e
 refine call_sum_walk (ue hl ?_);refine⟨_,_,_,_,_,_,numAt xs,rfl,Walks.tuple (A:=A.in1) hh _ l (gu Oi) (intItems xs),⟨⟨_,OX _ rfl,rfl,rfl⟩,?_⟩,λb hb=>?_,(λ_ _=>intItems_at),(λj hj=>Sg j (by simpa[intItems]using hj)),λh' tk t' hk=>?_⟩
 ·obtain⟨o,e,r⟩:=hl;exact⟨o,Od _ e,r⟩
 ·show b<(s.heap.push _).objs.size;rw[qu];rcases List.mem_cons.mp hb with rfl|hb
  ·exact No _
  ·rcases List.mem_cons.mp hb with rfl|hb
   ·exact NN Oi
   ·cases hb
 ·have:=h h' tk t' λb o e=>hk b o (λhm=>by
   rcases List.mem_cons.mp hm with e1|hm
   ·exact absurd (e1▸ay e) (nu _)
   ·cases hm) (Od _ e)
  simpa[intItems]using this
end
end HT
namespace L4
open PySem PySem.Spec PyProof.Rows L2 L3
variable {X:Cx}
def my:List D->Option D
 | [.tuple ds]=>match intsOf ds with
  | some ns=>if pT ns then some (.int ns.sum)else none
  | none=>none
 | l=>Gj l
def qQ:List D->Option D
 | [.tuple ds]=>Eb [.tuple ds]
 | l=>Jk l
theorem BQ(hc:X.calm=true):p_ X (.builtin "sum") (qh X.K uX):=by
 intro a_ s Z H xs us Q I r h0;obtain⟨a,ns,i,rfl,hq,e,q⟩:=h0;obtain⟨u,rfl,ru⟩:=L2.Vals.one r
 cases ru
 unfold uX at e;split at e
 case isFalse=>cases e
 rename_i n_
 cases e
 obtain⟨k_,rv,pl,hz⟩:=I.tuple hq;obtain⟨ps,rfl,rfl⟩:=eJ rv;have Xu:∀j,numAt ps.toArray j=(ps.map Prod.fst).getD j 0:=λj=>fg
 have UJ:numAt ps.toArray=λj=>(ps.map Prod.fst).getD j 0:=funext Xu
 unfold pT at n_;simp only[am,xz,OB]at n_;have hl:s.heap.IsTuple a (intItems ps.toArray):=by
  have:s.heap.IsTuple a _:=pl;unfold intItems;simpa using this
 have bnd:∀j,j<=ps.length->((ps.map Prod.fst).take j).sum.natAbs<=2^60:=λj hj=>by
  have h1:=sum_bound (2^40) ((ps.map Prod.fst).take j) λi hi=>n_.1 i (List.mem_of_mem_take hi)
  have h2:((ps.map Prod.fst).take j).length<=2^20:=by rw[ss];have:=n_.2;lia
  calc _<=_:=h1
   _<=2^20*2^40:=Me _ h2
 refine HT.SI (I.ok.hd hc) hl (λj hj=>?_) λh' tk t' hk=>?_
 ·have UI:j<ps.length:=by simpa using hj
  rw[UJ,iq _ _ (by simp;lia)];have h1:=bnd (j+1) UI;have h2:((ps.map Prod.fst).getD j 0).natAbs<=2^40:=by
   rw[eg,ac (by simpa using UI)];exact n_.1 _ (oC _)
  unfold InLong;dsimp only;constructor<;>constructor<;>lia
 ·refine⟨.int _,H,I.kept hk,⟨_,rfl⟩,?_⟩;rw[UJ,iq _ _ (by simp),wT (by simp)];exact q
def G7(K:Fg):List V->Hp->VK->Prop:=λxs H Q=>qh K uX xs H Q\/nQ K uX xs H Q
def nG(hc:X.calm=true):p_ X (.builtin "sum") (G7 X.K):=p_.or (BQ hc) (BR hc)
def Ha(K:Fg):List V->Hp->VK->Prop:=λxs H Q=>qh K BF xs H Q\/(nQ K BF xs H Q\/∃i j,xs=[.int i,.int j]/\Q (.int (if j>i then j else i)) H)
def tX(hc:X.calm=true):p_ X (.builtin "max") (Ha X.K):=p_.or (BX hc) ((BY hc).or (BZ hc))
def uB{K:Fg}:gC K (G7 K) my:=by
 intro G F Z H ρ xs ds res Q S o e k;unfold my at e;split at e
 ·rename_i es;split at e
  case h_2=>cases e
  rename_i ns Sz;split at e
  case isFalse=>cases e
  rename_i hc
  cases e
  obtain⟨v,r,rfl,ho,hr⟩:=bD o;obtain rfl:=bT hr;obtain⟨a,vs,rfl,h1,h2⟩:=ho.tuple S.fh;rw[dm Sz]at h2;rw[dk h2]at h1;exact .inl ⟨a,ns,_,rfl,h1,by unfold uX;rw[al hc],k _ F H (f_.refl _) S (show Rep K F _ _ from .int _)⟩
 ·exact .inr (IE G F Z H ρ xs ds res Q S o e k)
def zZ{K:Fg}:gC K (Ha K) qQ:=by
 intro G F Z H ρ xs ds res Q S o e k;unfold qQ at e;split at e
 ·exact .inl (FJ G F Z H ρ xs _ res Q S o e k)
 ·exact .inr (IH G F Z H ρ xs ds res Q S o e k)
end L4
namespace L4
open PySem PySem.Spec PyProof.Rows L2 L3 PySem.W
section
variable {prog:Program}{w:World}{A:Around}{E:Of}{K:Frag}{C D fI:Addr}{h:Heap}{g:Array GenState}{d:Drawn}{t:Nat}{os:OsState}{rest:List Value}
abbrev yw(h:Heap)(C:Addr)(rest:List Value):Heap:=(h.push { cls:=.type "tuple",data:=.seq rest.toArray }).push { cls:=.ref C,data:=.fields #[.ref h.objs.size,.none,.none,.none,.bool false,.none] }
def tw{b:Addr}{o:Obj}(q:h.get? b=some o):(yw h C rest).get? b=some o:=Od _ (Od _ q)
def z9:(yw h C rest).get? (h.objs.size+1)=some { cls:=.ref C,data:=.fields #[.ref h.objs.size,.none,.none,.none,.bool false,.none] }:=by
 have z:=OX (h.push { cls:=.type "tuple",data:=.seq rest.toArray }) (o:={ cls:=.ref C,data:=.fields #[.ref h.objs.size,.none,.none,.none,.bool false,.none] }) rfl
 rwa [qu]at z
def uQ(X:K.In h)(c:XC K C D fI){Q:Fin->Shared->Prop}(hz:rest.length<=sizeLine)
  (hq:wpAny (model prog w) A (call (.ref fI) (.ref (h.objs.size+1)::rest)) (λr s'=>r=.none/\Q (.done (.ret (.ref (h.objs.size+1)))) s') E ⟨yw h C rest,g,d,t,os⟩) :
  wpAny (model prog w) A (Builtin.«type.__call__» ⟨.ref C::rest,[]⟩) Q E ⟨h,g,d,t,os⟩:=by
 obtain⟨nm,q,N,bs,sn,sub,ab,col,dd,k0,k1,k2,k3,k5,lk⟩:=c.obj;have hC:=X _ _ lk;have T:OwnTail h UQ (.ref D::UQ):=tail_of_in X c.tl;have B:=F.excBase_ValueError
 repeat (first|with_reducible refine Nb hC ?_|with_reducible refine wpAny_madeBy_exc hC ?_|wp_step)
 refine codeAny_call_builtin_code (Code.quiet_builtin _ B.quiet) (wpAny_check_new_subT B T hC (codeAny_exc_new_subT B T hC ?_ hz));show wpAny _ _ _ _ _ _;have X1:K.In (yw h C rest):=X.keeps λb o z=>tw z
 have LI:=looks_findIn (M:=model prog w) X1 c.ini;have LB:=bind_fn (M:=model prog w) X1 (.ref (h.objs.size+1)) c.fn;have hC1:=tw (rest:=rest) (C:=C) hC;have yes:(Value.ref C::.ref D::UQ).contains (.ref C)=true:=by simp
 unfold isInstance
 repeat (first|with_reducible refine Nb z9 ?_|(with_reducible refine wpAny_isSubtype_exc hC1 ?_;rw[yes])|wp_step)
 show wpAny _ _ (typeLookup (.ref C) _) _ _ _;refine LI.at ?_;refine um (i_ (LB.at ?_));refine i_ (se hq (λr s' z=>?_) λ_ _ z=>z);obtain⟨rfl,z⟩:=z
 wp_walk
 exact z
def call_exc(X:K.In h)(c:XC K C D fI){Q:Of}(hz:rest.length<=sizeLine)
  (hq:wpAny (model prog w) (A.under (.builtin "type.__call__" ⟨.ref C::rest,[]⟩)) (call (.ref fI) (.ref (h.objs.size+1)::rest)) (λr s'=>r=.none/\Q (.ref (h.objs.size+1)) s') E ⟨yw h C rest,g,d,t,os⟩) :
  wpAny (model prog w) A (call (.ref C) rest) Q E ⟨h,g,d,t,os⟩:=by
 obtain⟨nm,q,N,bs,sn,sub,ab,col,dd,k0,k1,k2,k3,k5,lk⟩:=c.obj;have hC:=X _ _ lk;have f1:=tc_lookup;have f2:=tc_bind (.ref C);have ty:(⟨h,g,d,t,os⟩:Shared).TypeIs (.ref C) "type":=⟨_,hC,rfl⟩;refine wpAny_call (codeAny_of_tree ?_);show wpAny _ _ (callAny (.ref C) _) _ _ _
 repeat (any_goals (first|assumption|with_reducible refine Nb hC ?_|wp_step))
 refine⟨rfl,codeAny_call_builtin_at (Code.quiet_builtin _ (by decide +kernel)) entry_typeCall (wpAny_check_type_call_sub hC (uQ X c hz ?_))⟩;exact hq
end
end L4
namespace L4
open PySem PySem.Spec PyProof.Rows L2 L3
variable {C e:Addr}{H F:Hp}{s:Shared}{K:Fg}{E:Of}{X:Cx}{pos:Pos}{A:Around}{Z:L2.St}{w:World}{dd:Option Addr}{a_:K_}{x n:Str}{Q:Unit->Shared->Prop}
def XN(e C:Addr)(dd:Option Addr):Heap->Prop:=λh=>∃oe vs,h.get? e=some oe/\oe.cls=.ref C/\oe.dict=dd/\oe.data=.fields vs/\1<vs.size/\vs[1]? = some .none
section
variable {P:Program} {h h':Heap} {dx:Addr} {fs:List (Str×V)}
def XN.ok{H':Hp}(x:XN e C dd h):v_ P w H' h e (.ext (XN e C dd)):=by
 obtain⟨oe,vs,q,r⟩:=x;exact⟨⟨oe,vs,q,r⟩,⟨oe,q⟩,λh1 h2 ⟨o,vs,z,r⟩ k=>⟨o,vs,k o z,r⟩⟩
end
def spI(C:Addr)(fl:List Str):Sp:=λvs H Q _=>∃e args,vs=.ref e::args/\args.length=fl.length/\H e=some (.ext (XN e C none)) /\
 ((fl=[]/\Q .OU H)\/(fl≠[]/\∀dx,H dx=none->dx≠e->Q .OU (upd (upd H dx (.ext (XD dx (fl.zip args)))) e (.ext (XN e C (some dx))))))
section
variable {P:Program} {mg:Pn} {base:Heap} {qual:Str} {st:Stmt} {f:Addr} {fd:FuncData} {k:Nat} {D:Addr} {f1 f2 q1 q2 self:Str} {a1 a2 a3 a4 b1 b2 b3 b4:Pos}
def Lp(Fn:Oy K "__init__" qual st f fd)(Sc:l_ [self] [self] (aB st))(hb:bO st=[.Pass a1]):Oz P w K mg base (PF P w) (k+1) f fd [self] (spI C []):=by
 refine Gf Fn Sc (λvs H Q E h=>?_) (λr_ A outer s H vs Q E hr h=>?_)
 ·obtain⟨e,args,rfl,hl,_⟩:=h;simp at hl ⊢;exact hl
 ·obtain⟨e,args,rfl,hl,he,h⟩:=h;rcases h with ⟨_,h⟩|⟨h,_⟩
  ·rw[hb];exact⟨_,jB Fm zN,h⟩
  ·exact absurd rfl h
end
section
variable {M:Model} {env:Env} {D fI:Addr}
def vY{x:Sem Value}{Q:Flow->Shared->Prop}(c:XC K C D fI)(hh:A.handled=none)
  (h:wpAny M A x (λv s1=>∃e oe vs,v=.ref e/\K.In s1.heap/\s1.heap.get? e=some oe/\oe.cls=.ref C/\oe.data=.fields vs/\vs[1]? = some .none/\E (.ref e) s1) E s) :
  wpAny M A (raiseStmt env (some x) none) Q E s:=by
 obtain⟨nm,q,N,bs,sn,sub,ab,col,dd,k0,k1,k2,k3,k5,lk⟩:=c.obj;have isB:(Value.ref C::.ref D::UQ).contains (.type "BaseException")=true:=by rfl
 unfold raiseStmt;refine i_ (se h (λv s1 z=>?_) λ_ _ z=>z);obtain⟨e,oe,vs,rfl,X,he,hc,hd,h1,hE⟩:=z;obtain⟨hp,g,d,t,os⟩:=s1;have hC:=X _ _ lk
 repeat (first|(with_reducible refine Nb he ?_;rw[hc])|with_reducible refine Nb hC ?_|(with_reducible refine wpAny_isSubtype_exc hC ?_;rw[isB])|with_reducible refine ig he hd h1 ?_|wp_step)
 exact wpAny_raiseNew_none hh hE
end
def MadeX(H H':Hp)(e C:Addr)(fl:List Str)(vs:List V)(dd:Option Addr):Prop :=
 (fl=[]/\dd=none/\H'=upd H e (.ext (XN e C none)))\/(fl≠[]/\∃dx,dd=some dx/\H dx=none/\dx≠e/\H'=upd (upd (upd H e (.ext (XN e C none))) dx (.ext (XD dx (fl.zip vs)))) e (.ext (XN e C (some dx))))
section
variable {D fI:Addr} {fd:FuncData} {ps fl:List Str} {k:Nat} {us:List Value} {vs:List V} {Q:Of}
def DX(I:Inv X a_ Z H s):Inv X a_ Z (upd H (s.heap.objs.size+1) (.ext (XN (s.heap.objs.size+1) C none))) { s with heap:=yw s.heap C us }:=by
 have I1:=I.kept (h':=s.heap.push { cls:=.type "tuple",data:=.seq us.toArray }) (t':=s.toks) λb u q=>Od _ q
 refine I1.laid (a:=s.heap.objs.size+1) (t':=s.toks) (h':=yw s.heap C us) (λb u q=>Od _ q) (Nat.le_of_eq (qu _ _)) ?_;exact XN.ok ⟨_,_,z9,rfl,rfl,rfl,(show 1<6 from by decide),rfl⟩
def Bf(c:XC X.K C D fI)(Fn:Oz X.prog X.w X.K X.mg X.base (PF X.prog X.w) k fI fd ps (spI C fl))(hr:I_ (k+1) X.A)(hb:L2.Binds X.K fd ps [])(I:Inv X a_ Z H s)(r:Vals vs us)(hl:vs.length=fl.length)(hz:us.length<=sizeLine)
  (h:∀e dd H' s',s.heap.objs.size<=e->Inv X a_ Z H' s'->MadeX H H' e C fl vs dd->H' e=some (.ext (XN e C dd))->Q (.ref e) s'):wpAny (model X.prog X.w) X.A (call (.ref C) us) Q E s:=by
 have I2:=DX (C:=C) (us:=us) I;have hn:H (s.heap.objs.size+1)=none:=I.n_.fresh (MZ _);obtain⟨hp,g,d,t,os⟩:=s;have sp:∀E',spI C fl (V.ref (hp.objs.size+1)::vs) (upd H (hp.objs.size+1) (.ext (XN (hp.objs.size+1) C none))) (λv H'=>v=.OU/\∃dd,MadeX H H' (hp.objs.size+1) C fl vs dd/\H' (hp.objs.size+1)=some (.ext (XN (hp.objs.size+1) C dd))) E':=by
  intro E';refine⟨_,vs,rfl,hl,aJ,?_⟩;by_cases z:fl=[]
  ·exact .inl ⟨z,rfl,none,.inl ⟨z,rfl,rfl⟩,aJ⟩
  ·exact .inr ⟨z,λdx q ne=>⟨rfl,some dx,.inr ⟨z,dx,rfl,by rw[aD ne]at q;exact q,ne,rfl⟩,aJ⟩⟩
 have r2:Vals (V.ref (hp.objs.size+1)::vs) (Value.ref (hp.objs.size+1)::us):=.cons rfl r;have hl2:((Value.ref (hp.objs.size+1)::us)++[]).length=ps.length:=by
  have e:=r2.length;rw[Fn.len _ _ _ _ (sp λ_ _ _=>False)]at e;rw[li];exact e.symm
 refine call_exc I.Sa c hz (wpAny_call (NX (Fn.run _ X.stack _ _ ⟨Value.ref (hp.objs.size+1)::us,[]⟩ (Value.ref (hp.objs.size+1)::us) _ _ (λ_ _ _=>False) (hr.make C us []) (I2.XJ.make C us []) (by
  have:=hb _ (Value.ref (hp.objs.size+1)::us) I2.Sa hl2;rw[li]at this
  exact this) r2 (sp _)) λr s' q=>?_))
 cases r with
 | error e=>obtain⟨_,_,_,_,_,_,_,_,_,_,z⟩:=q;exact z.elim
 | ok fl' =>
  cases fl' with
  | ret u =>
   obtain⟨v,H',I3,rv,ev,dd,mk,he⟩:=I2.after q;subst ev;exact⟨rv,h _ dd H' s' (MZ _) I3 mk he⟩
  | next=>exact False.elim q
  | brk=>exact False.elim q
  | cont=>exact False.elim q
end
structure CCl(P:Program)(w:World)(K:Fg)(mg:Pn)(base:Heap)(x:Str)(k:Nat)(fl:List Str):Prop where
 ex:∃C D fI fd ps,XC K C D fI/\Oz P w K mg base (PF P w) k fI fd ps (spI C fl)/\L2.Binds K fd ps []/\mg x=some (.ref C)/\XQ K C x/\PySem.W.keepIn K (.ref C)=true/\(∀f∈fl,rM K C f)/\PySem.W.exmOne K (.ref C) (.ref C)=some true
def E8{S:Type}(x:Str):SM S:=λK ρ=>K.x ⟨x,[]⟩ ρ
def ES:∀{fl:List Str} {vs:List V} {ds:List D},h_ K F vs ds->fl.length=vs.length->Paired (λ(p:Str×V) (q:Str×D)=>p.1=q.1/\Rep K F p.2 q.2) (fl.zip vs) (fl.zip ds)
:=by
 intro fl vs ds r h
 induction vs generalizing fl ds with
 | nil=>cases r;rw[List.zip_nil_right,List.zip_nil_right];exact .nil
 | cons v vs ih=>cases r with
  | cons a b=>cases fl with
   | nil=>cases h
   | cons f fl=>exact .cons ⟨rfl,a⟩ (ih b (Nat.succ.inj h))
section
variable {H':Hp} {fl:List Str} {vs:List V} {ds:List D} {G:Gh} {ρ:En}
def C2(I:Inv X a_ Z H' s)(hs:X.s₀.heap.objs.size<=e)(hn:H e=none)(mk:MadeX H H' e C fl vs dd)(he:H' e=some (.ext (XN e C dd)))(St:c_ X.K G F Z H ρ)(r:h_ X.K F vs ds)(hl:fl.length=vs.length)
  (hc:XQ X.K C x) (xw:XW X G F ρ ⟨x,fl.zip ds⟩):X.xe (.ref e) s:=by
 obtain⟨⟨oe,ws,q1,q2,q3,q4,q5,q6⟩,_⟩:=I.n_ e _ he;have I2:Inv X a_ Z (upd H' e (.ext (XO e C dd))) s:=by
  have:=I.write (x:=e) (e:=e) (o:=.ext (XO e C dd)) (h':=s.heap) (t':=s.toks) (by rw[he];exact True.intro) (.inl rfl) (λb u _ z=>z) ⟨_,q1⟩ (XO.ok ⟨oe,q1,q2,q3,by unfold PySem.W.notCls;rw[q4]⟩);exact this
 have low:∀b u,b≠e->H b=some u->upd H' e (.ext (XO e C dd)) b=some u:=λb u ne z=>by
  rw[aD ne];rcases mk with ⟨_,_,rfl⟩|⟨_,dx,_,hd,_,rfl⟩
  ·rw[aD ne];exact z
  ·rw[aD ne,aD (λy=>by subst y;rw[hd]at z;cases z),aD ne];exact z
 have ne:∀b u,H b=some u->b≠e:=λb u z y=>by subst y;rw[hn]at z;cases z
 have xs:XS (upd H' e (.ext (XO e C dd))) s.heap X.s₀.heap.objs.size e C dd:=⟨hs,aJ,oe,ws,q1,q2,q3,q4,q5,.inl q6⟩;have nt:∀b,¬ ko s.heap e b:=λb ⟨Y1,Vc,z1,z2,z3⟩=>by
  rw[q1]at z1;cases z1;rw[q4]at z2;cases z2;rw[q6]at z3;cases z3
 have fh0:f_ F (upd H' e (.ext (XO e C dd))):=λb u z=>low b u (ne b u (St.fh b u z)) (St.fh b u z)
 have oh0:f_ G.O (upd H' e (.ext (XO e C dd))):=λb u z=>low b u (ne b u (St.oh b u z)) (St.oh b u z)
 rcases mk with ⟨z,rfl,_⟩|⟨z,dx,rfl,hd,nx,rfl⟩
 ·subst z;refine xw F _ s e C none a_ Z ⟨fh0,oh0,St.fo,St.fb⟩ (St.XI (f_.refl _)) I2 xs (λp _=>nt p.1) ⟨hc,[],.inl ⟨rfl,rfl⟩,.nil⟩
 ·have fd:F dx=none:=St.fh.free hd;have od:G.O dx=none:=St.oh.free hd;have sm:f_ F (upd F dx (.ext (XD dx (fl.zip vs)))):=cu fd;refine xw (upd F dx (.ext (XD dx (fl.zip vs)))) _ s e C (some dx) a_ Z ⟨λb u z=>?_,oh0,λb u z=>?_,St.fb.trans sm⟩ (St.XI sm) I2 xs (λp _=>nt p.1) ⟨hc,_,.inr ⟨dx,rfl,aJ⟩,ES (r.mono sm) hl⟩
  ·by_cases y:b=dx
   ·subst y;rw[aJ]at z
    cases z
    rw[aD nx,aD nx,aJ]
   ·rw[aD y]at z;exact fh0 b u z
  ·rw[aD (aR z od)];exact St.fo b u z
end
section
variable {S:Type} {k:Nat} {fl:List Str} {p A_:Pos} {e:Expr} {es:List Expr} {ms:Ev S (List D)}
theorem B9(C:CCl X.prog X.w X.K X.mg X.base x k [])(hr:I_ (k+1) X.A)(hg:Gl X x)(P8:(x==("__debug__" : Str))=false) :
  AS (S:=S) X (.Raise (some (.Call (.Name x p) [] [] A_)) none pos) (E8 x):=by
 obtain⟨Cl,D,fI,fd,ps,c,Fn,hb,hm,hc,kp,_⟩:=C.ex;intro OK K G F Z H ρ E hO hX St ok eo;unfold jg;intro a_ s I;rw[arm_exec_Raise];refine i_ (Np (vY c hr.hd ?_));refine i_ (se (ug (lY I hg hm (PySem.W.callWith_K0 I.Sa kp (Q:=λv s1=>∃e oe vs,v=.ref e/\X.K.In s1.heap/\s1.heap.get? e=some oe/\oe.cls=.ref Cl/\oe.data=.fields vs/\vs[1]? = some .none/\X.xe (.ref e) s1) ?_) P8)) (λv s3 z=>i_ (Np (s_ z))) λ_ _ z=>z);refine Bf (vs:=[]) (us:=[]) c Fn hr hb I .nil rfl (be _) λa dd H2 s2 hs I2 mk hh=>?_
 obtain⟨⟨oe,ws,q1,q2,q3,q4,q5,q6⟩,_⟩:=I2.n_ a _ hh;exact⟨a,oe,ws,rfl,I2.Sa,q1,q2,q4,q6,C2 (fl:=[]) (ds:=[]) I2 (di I.sz hs) (I.n_.fresh hs) mk hh St .nil rfl hc (hX F ρ _ ok)⟩
end
section
variable {prog:Program} {env:Env}
def BE{t:Expr}{b0:Stmt}{PU:List Stmt}{rest:List ExceptHandler}{Q:Flow->Shared->Prop}
  (h:wpAny (model prog w) (A.mark (some (.ref e))) (eval t env) (λc s1=>K.In s1.heap/\PySem.W.exmOne K (.ref C) c=some true/\(∃oe,s1.heap.get? e=some oe/\oe.cls=.ref C) /\
   wpAny (model prog w) (A.mark (some (.ref e))) (setFlight (.ref e) none) (λ_ s2=>wpAny (model prog w) (A.mark (some (.ref e))) (storeName env n (.ref e)) (λ_ s3 =>
    wpAny (model prog w) (A.mark (some (.ref e))) (execs (b0::PU) env) (λf s4=>wpAny (model prog w) A (do bindName env n .none;unbindBehindTheSuite env n pos) (λ_ s5=>Q f s5) E s4) (λ_ _=>False) s3) (λ_ _=>False) s2) (λ_ _=>False) s1) (λ_ _=>False) s) :
  wpAny (model prog w) A (handleBy (.ref e) env (.ExceptHandler (some t) (some n) (b0::PU) pos::rest)) Q E s:=by
 refine wpAny_handleBy_cons (codeAny_handlers_test (se h (λc s1 z=>?_) λ_ _ z=>z.elim)) (λz=>nomatch z);obtain⟨X,hx,⟨oe,he,hc⟩,k⟩:=z;have LT:PySem.W.Looks (model prog w) s1.heap (typeOf (.ref e)) (.ref C):=hc▸(PySem.W.Looks.ld he).andThen .now;obtain⟨hp,g,d,tk,os⟩:=s1;refine(PySem.W.exm_one (M:=model prog w) X LT hx).at ?_;refine codeAny_handlers_suite_as (se k (λ_ s2 k2=>se k2 (λ_ s3 k3=>se k3 (λf s4 k4=>k4) λ_ _ z=>z.elim) λ_ _ z=>z.elim) λ_ _ z=>z.elim)
theorem name_goes{m:Pn}(hl:env.kindOf n=some .local)(hn:s.heap.Ns env.locals m)(hk:env.scope.kind=.function)
  (k:∀h' v t',h'.Ns env.locals (λy=>if y=n then v else m y)->Heap.SameBut env.locals s.heap h'->Q () { s with heap:=h',toks:=t' }):wpAny (model prog w) A (do bindName env n .none;unbindBehindTheSuite env n pos) Q E s:=by
 have hc:(env.scope.kind==.class||(env.scope.kind==.module&&env.locals != env.globals))=false:=by rw[hk];rfl
 refine i_ (wpAny_bindName (wpAny_storeName_local hl hn (λh1 n1 b1=>?_) hc));simp only[unbindBehindTheSuite,unbindName];refine NP (i_ (wpAny_point (i_ ?_)));unfold deleteName;simp only[hl,hc];rw[ar (by decide)];refine i_ (wpAny_nsDel_keeps n1 λh2 v n2 b2=>?_);simp only[oP,Option.isSome_some,Bool.not_true,M6,Ma];refine s_ (wpAny_point (k h2 v _ ?_ (b1.trans b2)));refine(show(λy=>if y=n then v else if y=n then some Value.none else m y)=(λy=>if y=n then v else m y)from ?_)▸n2;funext y;by_cases q:y=n
 ·rw[al q,al q]
 ·rw[ar q,ar q,ar q]
end
section
variable {j:Nat}
def Gb(I:Inv X a_ Z H s)(hN:X.N.Nodup)(hj:X.N[j]? = some n)(hl:X.env.kindOf n=some .local)
  (k:∀s',Inv X a_ (Z.set j none) H s'->Q () s'):wpAny (model X.prog X.w) A (do bindName X.env n .none;unbindBehindTheSuite X.env n pos) Q E s:=by
 obtain⟨m,hn,hv⟩:=id I.loc;refine name_goes hl hn I.ok.kind λh' v t' n1 b1=>k _ ?_
 have X_:∀b o,X.s₀.heap.get? b=some o->b≠X.env.locals:=λb o q=>gu (bo (ay q) I.ok.above)
 refine⟨I.ok,I.os,I.bare,⟨λb o q z hb hx=>?_,λb o q z hb hx=>?_,I.base.free,λb o q hx=>?_,I.base.Qm,I.base.Qb,I.base.Qn⟩,⟨_,n1,λi x u q1 q2 q3=>?_⟩,λx c q=>?_,I.free,I.OL,λp hp=>?_,λb o q=>?_,by simpa using I.len⟩
 ·exact(b1.2 b (X_ b o q)).trans (I.base.keep b o q z hb hx)
 ·obtain⟨sl,r⟩:=I.base.slot b o q z hb hx;exact⟨sl,(b1.2 b (X_ b o q)).trans r⟩
 ·obtain⟨o',r⟩:=I.base.there b o q hx;exact⟨o',(b1.2 b (X_ b o q)).trans r⟩
 ·have ne:i≠j:=λz=>by
   subst z;have hi:i<Z.length:=by rw[I.len];exact(List.getElem?_eq_some_iff.mp q1).1
   rw[eE hi]at q2
   cases q2
  rw[ba (Ne.symm ne)]at q2;obtain⟨w',r,l⟩:=hv i x u q1 q2 q3;refine⟨w',r,?_⟩;rcases l with ⟨l1,l2⟩|⟨l1,c,l2,l3⟩
  ·refine .inl ⟨l1,?_⟩;have nx:x≠n:=λz=>by subst z;exact ne (qC hN q1 hj)
   show(if x=n then v else m x)=_;rw[ar nx];exact l2
  ·refine .inr ⟨l1,c,l2,?_⟩;obtain⟨oc,g1,g2⟩:=l3;exact⟨oc,(b1.2 c (I.V5 x c l2)).trans g1,g2⟩
 ·obtain⟨v',oc,g1,g2⟩:=I.cell x c q;exact⟨v',oc,(b1.2 c (I.V5 x c q)).trans g1,g2⟩
 ·obtain⟨g1,g2,g3,g4⟩:=I.pin p hp;exact⟨(b1.2 p.1 g3).trans g1,g2,g3,g4⟩
 ·refine(I.n_ b o q).QY (λc u hc r=>(b1.2 c ?_).trans r) (λ_ r=>r) λ_ _ r=>r
  rintro rfl;rcases hc with z|z
  ·rw[<-z,I.free]at q;cases q
  ·rw[I.free]at z;cases z
abbrev ZP(X:Cx)(e:Addr):Cx:={ X with A:=X.A.mark (some (.ref e)),calm:=false,xe:=λ_ _=>False }
def tU(I:Inv X a_ Z H s):Inv (ZP X e) a_ Z H s :=
 ⟨⟨I.ok.mod,I.ok.kind,I.ok.glob,I.ok.blt,I.ok.above,I.ok.inj,I.ok.has,I.ok.XU,(λz=>nomatch z),I.ok.frames,I.ok.Ua,I.ok.exf,I.ok.bs,I.ok.U8,I.ok.SO,I.ok.S_,I.ok.Qa,I.ok.VZ⟩,I.os,I.bare,I.base,I.loc,I.cell,I.free,I.OL,I.pin,I.n_,I.len⟩
def za(h:X.calm=true->X.A.handled=none)(I:Inv (ZP X e) a_ Z H s):Inv X a_ Z H s :=
 ⟨⟨I.ok.mod,I.ok.kind,I.ok.glob,I.ok.blt,I.ok.above,I.ok.inj,I.ok.has,I.ok.XU,h,I.ok.frames,I.ok.Ua,I.ok.exf,I.ok.bs,I.ok.U8,I.ok.SO,I.ok.S_,I.ok.Qa,I.ok.VZ⟩,I.os,I.bare,I.base,I.loc,I.cell,I.free,I.OL,I.pin,I.n_,I.len⟩
end
section
variable {M:Model} {lo:Nat}
theorem flight_again(fs:List Addr)(xs:XS H s.heap lo e C dd)(k:∀h',Mv fs s.heap h' e->XS H h' lo e C dd->Q () { s with heap:=h' }):wpAny M A (setFlight (.ref e) none) Q E s:=by
 obtain⟨oe,vs,he,hc,hdd,hd,hz,tb⟩:=xs.obj;simp only[setFlight];rcases tb with tb|⟨T,oT,ts,tb,hTe,hTl,hTn,hT,Wt,t3⟩
 ·refine i_ (ig he hd tb ?_);rw[ar (by decide)];exact s_ (k s.heap ⟨λ_ _ q _ _ _=>q,λb o q _ _=>⟨o.slots,q⟩,λb o q=>⟨o,q⟩⟩ xs)
 ·refine i_ (ig he hd tb ?_);rw[al (by simp)];have z3:3<ts.size:=(Array.getElem?_eq_some_iff.mp t3).1;have VF:ko s.heap e T:=⟨oe,vs,he,hd,tb⟩;have off:∀b,b≠T->(s.heap.update T (Obj.mapFields (·.setIfInBounds 3 ((none:Option Addr).elim Value.none λf=>rawInt f)))).get? b=s.heap.get? b:=λb hb=>xt _ _ (Ne.symm hb)
  have T0:(s.heap.update T (Obj.mapFields (·.setIfInBounds 3 ((none:Option Addr).elim Value.none λf=>rawInt f)))).get? T=some (oT.mapFields (·.setIfInBounds 3 ((none:Option Addr).elim Value.none λf=>rawInt f))):=wa _ hT (y9 (mo Wt _));have nt:∀b,¬ ko s.heap e b->b≠T:=λb z q=>z (q▸VF)
  refine ye hT Wt z3 (k _ ⟨λb o q _ _ z=>(off b (nt b z)).trans q,λb o q _ z=>⟨o.slots,(off b (nt b z)).trans q⟩,λb o q=>?_⟩ ⟨xs.yg,xs.Sy,oe,vs,(off e (Ne.symm hTe)).trans he,hc,hdd,hd,hz,.inr ⟨T,_,_,tb,hTe,hTl,hTn,T0,mo Wt _,by simp[z3]⟩⟩);by_cases z:b=T
  ·subst z;exact⟨_,T0⟩
  ·exact⟨o,(off b z).trans q⟩
end
def _root_.L3.c_.Vm{G:Gh}{ρ:En}(S:c_ K G F Z H ρ){j:Nat}(hj:∀av,ρ[j]? ≠ some (some av))(u:Option V):c_ K G F (Z.set j u) H ρ:=by
 have ne:∀i av,ρ[i]? = some (some av)->i≠j:=λi av q z=>by subst z;exact hj av q
 have at_:∀i av,ρ[i]? = some (some av)->(Z.set j u)[i]? = Z[i]?:=λi av q=>ba (Ne.symm (ne i av q))
 have ao:∀i c,own ρ i c->(Z.set j u)[i]? = Z[i]?:=λi c q=>by rcases q with q|q<;>exact at_ i _ q
 refine⟨S.fh,S.oh,S.fo,by simpa using S.ln,λi d q=>by rw[at_ i _ q];exact S.fz i d q,λi c q=>by rw[ao i c q];exact S.ow i c q,λi k c e a q1 q2 z1 z2=>?_,λi a q=>?_,S.pq,S.fb⟩
 ·rw[ao i c q1]at z1;rw[ao k e q2]at z2;exact S.dj i k c e a q1 q2 z1 z2
 ·obtain⟨z1,c,z2⟩:=S.pp i a q;exact⟨by rw[at_ i _ z2];exact z1,c,z2⟩
theorem av(i:Nat)(hN:X.N[i]? = some x:=by rfl)(hv:RY X.env.scope x:=by exact vi rfl)
  (hd:(x==("__debug__" : Str))=false:=by decide) (O2:(x==("__classdict__" : Str))=false:=by decide):AP X (.Name x pos) (Iq i):=JJ hN hv hd O2
theorem j_(i:Nat)(hN:X.N[i]? = some x:=by rfl)(hv:RY X.env.scope x:=by exact vi rfl)
  (hd:(x==("__debug__" : Str))=false:=by decide) (O2:(x==("__classdict__" : Str))=false:=by decide):AO X (.Name x pos) (Iq i):=ao (av i hN hv hd O2)
end L4
namespace L3
open PySem PySem.Spec PyProof.Rows L2 L4
variable {K:Fg}
def ii{F F':Hp}{a:Addr}{vs:List V}(s:f_ F F')(h:Ot K F a vs):Ot K F' a vs:=s.seq h
def GP(K:Fg)(a:Addr):It :=
 ⟨λi H=>∃xs x,Ot K H a xs/\xs[i]? = some x,λi H y H'=>∃p x,(∀xs,Ot K H a xs->xs[i]? = some x)/\H p=none/\y=.ref p/\H'=upd H p (.tup [.int i,x]),λi H=>∃xs,Ot K H a xs/\xs.length<=i⟩
theorem ya{P:Program}{w:World}{elts:List Expr}{x1:Nat}{pos:Pos}(a it e:Addr)(ZA:a≠it)(Xx:e≠it)(hea:e≠a) :
  Turn P w K (.Tuple elts x1 pos) (GP K a) [e,it] e (λi h=>(∃old,IsEnum h e it i old)/\h.IsListIter it a i) where
 mem:=by simp
 obj:=λi h st b hb=>by
  obtain⟨⟨old,he⟩,o,e1,c,d⟩:=st;rcases List.mem_cons.mp hb with rfl|hb
  ·exact⟨_,he,λv z=>nomatch z⟩
  ·rw[List.mem_singleton.mp hb];exact⟨o,e1,λv z=>by rw[d]at z;cases z⟩
 keep:=λi h h' st k=>by
  obtain⟨⟨old,he⟩,ht⟩:=st;exact⟨⟨old,k e (by simp) _ he⟩,ht.at λo e=>k it (by simp) o e⟩
 item:=by
  intro X hP hw hK hc i a_ s Z H E I hf st hg;subst hP hw hK;obtain⟨xs,x,hq,hx⟩:=hg;obtain⟨k_,rv,p,hz⟩:=I.list hq;obtain⟨u,hu,ru⟩:=rv.get hx;obtain⟨⟨old,he⟩,ht⟩:=st;have D:=Draws.list (prog:=X.prog) (w:=X.w) (A:=X.A.in1) (I.ok.hd hc) it a ZA k_.toArray;have hi:i<k_.toArray.size:=by simpa using(List.getElem?_eq_some_iff.mp hu).1
  have fe:=hf e (by simp);have ft:=hf it (by simp);refine wpAny_pyNext_enum_itemD D he ⟨ht,p.isList⟩ hi Xx (by simp[Xx,hea]) λx' h' tk hP ho RQ hT hsz hk=>?_
  have ex:x'=u:=by
   have:k_.toArray[i]? = some x':=hP;rw[Nj,hu]at this;exact(Option.some.inj this).symm
  subst ex;refine⟨_,rfl,wpAny_letOwnedTupleGo_enum ho λh2 he2 W3=>?_⟩;have Xq:s.heap.objs.size≠e:=pr (ay he);have hpi:s.heap.objs.size≠it:=by obtain⟨o,e1,_⟩:=ht;exact pr (ay e1)
  have Ox:∀b o,b≠e->b≠it->s.heap.get? b=some o->h2.get? b=some o:=λb o h1 XB q=>(W3.2 b h1).trans (hk b o h1 XB q)
  have Ri:h2.get? s.heap.objs.size=some { cls:=.type "tuple",data:=.seq #[.int i tk,x'] }:=(W3.2 _ Xq).trans hT;have I1:Inv X a_ Z (upd H s.heap.objs.size (.tup [.int i,x])) { s with heap:=h2,toks:=tk+1 }:=xy I fe ft ru Ox Ri;refine⟨.ref s.heap.objs.size,_,I1,rfl,⟨_,x,λys hy=>by rw[I.R9 hy hq];exact hx,I.fresh,rfl,rfl⟩,⟨⟨_,by simpa using he2⟩,?_⟩,λb hb=>?_⟩
  ·obtain⟨o,e1,r⟩:=RQ.1;exact⟨o,(W3.2 it (Ne.symm Xx)).trans e1,r⟩
  ·rcases List.mem_cons.mp hb with rfl|hb
   ·rw[aD (Ne.symm Xq)];exact fe.1
   ·rw[List.mem_singleton.mp hb,aD (Ne.symm hpi)];exact ft.1
 done:=by
  intro X hP hw hK hc i a_ s Z H E I hf st hg;subst hP hw hK;obtain⟨xs,hq,hx⟩:=hg;obtain⟨k_,rv,p,hz⟩:=I.list hq;obtain⟨⟨old,he⟩,ht⟩:=st;obtain⟨g0,g1,g2,g3,g4,g5⟩:=hf it (by simp);have hl:=rv.length;have D:=Draws.list (prog:=X.prog) (w:=X.w) (A:=X.A.in1) (I.ok.hd hc) it a ZA k_.toArray;have hT:s.TypeIs (.ref e) "enumerate":=⟨_,he,rfl⟩;unfold pyNext
  refine i_ (M4 (je (name:=Str.ofString "__next__") hT Nk
   (ou Nk hT F.entry_enumerate_next ?_ (F.args_enumerate_next_1 _))))
  show wpAny _ _ (field (.ref e) 2 >>= _) _ _ _;refine i_ (ig he rfl (x:=.ref it) rfl ?_);refine i_ (wpAny_nextOf_list_end (I.ok.hd hc) ht p.isList (by simp;lia) λh' x Zs Rr=>?_);obtain⟨o,ho,Tu⟩:=Rr;refine i_ (Nm (T := "StopIteration") (b:=true) ⟨o,ho,Tu⟩ ND ?_);exact s_ ⟨rfl,I.turned (t':=s.toks) (λb o hb e=>Zs b o hb e) g0 g1 g3 g4 g5⟩
 self:=λ_ _ _ _ _ st h=>by
  obtain⟨⟨old,he⟩,ht⟩:=st;exact NI he h
def xX{F:Hp}{a:Addr}{vs:List V}{ds:List D}(h:Ot K F a vs)(r:h_ K F vs ds):Walk K (GP K a) (gv ds) F where
 go:=λi G F2 Z H2 ρ s S hi=>by
  have Sf:i<vs.length:=by rw[r.length];rw[fV]at hi;exact hi
  exact⟨vs,vs[i],ii S.fh (ii s h),by simp[Sf]⟩
 Sw:=λi G F2 Z H2 ρ x H3 d s S hd ⟨p,y,hy,hp,hx,hH⟩=>by
  subst hx hH;unfold gv at hd;rw[fu,List.getElem?_zipIdx]at hd
  cases q:ds[i]? with
  | none=>rw[q]at hd;cases hd
  | some d' =>
   rw[q]at hd;simp at hd;subst hd;obtain⟨v,e1,e2⟩:=r.get q;have:=hy vs (ii S.fh (ii s h));rw[e1]at this
   cases this
   obtain⟨s2,S2,r2⟩:=S.O7 hp (h_.cons (Rep.int (i:Int)) (h_.cons (e2.mono s) h_.nil));exact⟨_,s2,S2,r2⟩
 stop:=λG F2 Z H2 ρ s S=>⟨vs,ii S.fh (ii s h),by rw[r.length,fV];exact ai _⟩
def Ja(K:Fg)(tl:TA):TI:=λZ H R=>tl Z H λxs H1=>∃a,xs=[.ref a]/\(∃ys,Ot K H1 a ys)/\R (GP K a) H1
def Df{X:Cx}{e:Expr}{tl:TA}{elts:List Expr}{x1:Nat}{tp p pos:Pos}(hg:Gl X "enumerate")(hm:X.mg "enumerate"=none)(ha:PA X [e] tl)(hs:starEach [e] X.env=[(false,eval e X.env)]) :
  PI X (.Tuple elts x1 tp) (.Call (.Name "enumerate" p) [e] [] pos) (Ja X.K tl):=by
 intro a_ s Z H R I h;refine ug (i3 I hg hm (show bootBuiltins "enumerate"=some (.type "enumerate") by decide +kernel) ?_ (by decide) (by decide));refine re (u_ (ha pos a_ s Z H _ I h) λus s1 ⟨vs,H1,I1,r1,q1⟩=>?_) hs rfl;obtain⟨a,rfl,⟨ys,hq⟩,q⟩:=q1;obtain⟨u,rfl,ru⟩:=L2.Vals.one r1
 cases ru
 obtain⟨k_,rv,pt,hz⟩:=I1.list hq;have alt:a<s1.heap.objs.size:=by obtain⟨o,e1,_⟩:=pt.isList;exact ay e1
 refine call_enumerate_list pt.isList λh' he ht hsz hk=>?_
 refine NI (s:={ s1 with heap:=h' }) he ?_;refine⟨s1.heap.objs.size+1,[s1.heap.objs.size+1,s1.heap.objs.size],_,_,H1,rfl,I1.kept (t':=s1.toks) hk,ya a s1.heap.objs.size (s1.heap.objs.size+1) (gu alt) (Nat.succ_ne_self _) (pr (NN alt)),⟨⟨_,he⟩,ht⟩,λb hb=>?_,q⟩;rcases List.mem_cons.mp hb with rfl|hb
 ·exact I1.Pm (MZ _) (I1.n_.fresh (MZ _))
 ·rw[List.mem_singleton.mp hb];exact I1.Pm (ai _) (I1.n_.fresh (ai _))
end L3
namespace L4
open PySem PySem.Spec PyProof.Rows L2 L3
variable {X:Cx}{K:Fg}{pos p1 p2:Pos}{F H:Hp}{x c qual p0:Str}{e:Expr}{α:Type}{ts:List Expr}{Z:L2.St}{cs:List Str}{st:Stmt}{f:Addr}{fd:FuncData}
def qR:List D->Option (List D)
 | [.list ds]=>some (gv ds)
 | _=>none
section
variable {tg:Expr} {p tp:Pos} {elts:List Expr} {x1:Nat}
def Ef{vs:List V}{ds out:List D}{R:It->Hp->Prop}(s:f_ F H)(r:h_ X.K F vs ds)(h:qR ds=some out)(k:∀J,Walk X.K J out F->R J H) :
  ∃a,vs=[.ref a]/\(∃ys,Ot X.K H a ys)/\R (GP X.K a) H:=by
 unfold qR at h;split at h
 ·cases h
  obtain⟨v,rfl,r1⟩:=r.QT;obtain⟨a,vs,rfl,a1,a2⟩:=r1.lst_inv;exact⟨_,rfl,⟨_,s.seq a1⟩,k _ (xX a1 a2)⟩
 ·cases h
def EI{ps:Pa (List D)}(hg:Gl X "enumerate")(hm:X.mg "enumerate"=none)(ha:AA X [e] ps)(hs:starEach [e] X.env=[(false,eval e X.env)]):AI X (.Tuple elts x1 tp) (.Call (.Name "enumerate" p) [e] [] pos) (kU qR ps) :=
 λG F Z H ρ R S w=>vR (Df hg hm cC hs) (ha G F Z H ρ _ _ _ S w λds vs F1 H1 s1 S1 _ r1 w1=>by
  obtain⟨out,hd,k⟩:=w1.opt
  exact Ef S1.fh r1 hd (k F1 H1 (f_.refl _) S1))
end
def gm(tb:List (Str×Bool)):D->Option Bool
 | .dict ((.none,.str c)::_)=>tb.lookup c
 | _=>none
def v9(tb:List (Str×Bool))(p:Pu D):Pu Bool:=λρ=>bd (p ρ) λd=>oM (gm tb d)
def PD(K:Fg)(cv:Value):List (Str×Bool)->Prop
 | []=>True
 | (c,b)::r=>(∃C,PySem.W.nsIn K mainGlobals c=some (some (.ref C))/\PySem.W.kitOne K (.ref C) cv=some b)/\PD K cv r
def QH(K:Fg)(k_:List Value):List (Str×Bool)->Prop
 | []=>True
 | (c,b)::r=>(∃C,PySem.W.nsIn K mainGlobals c=some (some (.ref C))/\PySem.W.kitAny K (.ref C) k_=some b)/\QH K k_ r
def PD.at{K:Fg}{cv:Value}:∀{tb:List (Str×Bool)} {c:Str} {b:Bool} {C:Addr},PD K cv tb->tb.lookup c=some b->PySem.W.nsIn K mainGlobals c=some (some (.ref C))->PySem.W.kitOne K (.ref C) cv=some b
 | (d,b')::r,c,b,C,h,l,n=>by
  rw[sk]at l
  cases q:c==d with
  | true =>
   rw[q]at l
   cases l
   have:c=d:=by simpa using q
   subst this;obtain⟨⟨C',n',k⟩,_⟩:=h;rw[n]at n'
   cases n'
   exact k
  | false=>rw[q]at l;exact PD.at h.2 l n
def QH.at{K:Fg}{k_:List Value}:∀{tb:List (Str×Bool)} {c:Str} {b:Bool} {C:Addr},QH K k_ tb->tb.lookup c=some b->PySem.W.nsIn K mainGlobals c=some (some (.ref C))->PySem.W.kitAny K (.ref C) k_=some b
 | (d,b')::r,c,b,C,h,l,n=>by
  rw[sk]at l
  cases q:c==d with
  | true =>
   rw[q]at l
   cases l
   have:c=d:=by simpa using q
   subst this;obtain⟨⟨C',n',k⟩,_⟩:=h;rw[n]at n'
   cases n'
   exact k
  | false=>rw[q]at l;exact QH.at h.2 l n
def Ec{v:V}{es:List (D×D)}(r:Rep K F v (.dict ((.none,.str c)::es))):∃a C dd fv,v=.ref a/\F a=some (.ext (XO a C dd))/\XQ K C c/\FX F dd fv/\es.map (·.1)=fv.map (λp=>.str p.1)/\h_ K F (fv.map (·.2)) (es.map (·.2)):=by
 cases r with
 | Sl _ h _=>exact absurd (DP h) (by simp[nC])
 | V2 _ h _=>exact absurd (DQ h) (by simp[nC])
 | exc h1 q fx h2 h3=>exact⟨_,_,_,_,rfl,h1,q,fx,h2,h3⟩
def FX.xat{a C:Addr}{dd:Option Addr}{fv:List (Str×V)}(s:f_ F H)(h1:F a=some (.ext (XO a C dd)))(fx:FX F dd fv):XAt H a C dd:=⟨s _ _ h1,λdx z=>by
 rcases fx with ⟨z',_⟩|⟨dx',z',y⟩
 ·rw[z']at z;cases z
 ·rw[z']at z;cases z;exact⟨_,s _ _ y⟩⟩
def H9(K:Fg)(tb:List (Str×Bool))(vc:V):List V->Hp->VK->Prop:=λxs H Q=>∃v d b,xs=[v,vc]/\Rep K H v d/\gm tb d=some b/\Q (.bl b) H
def HZ(K:Fg)(tb:List (Str×Bool))(vcs:List V):List V->Hp->VK->Prop:=λxs H Q=>∃v p d b,xs=[v,.ref p]/\H p=some (.tup vcs)/\Rep K H v d/\gm tb d=some b/\Q (.bl b) H
def tO{tb:List (Str×Bool)}{d:D}{b:Bool}(h:gm tb d=some b):∃c es,d=.dict ((.none,.str c)::es)/\tb.lookup c=some b:=by
 unfold gm at h;split at h
 ·exact⟨_,_,rfl,h⟩
 ·cases h
def zg{tb:List (Str×Bool)}{vc:V}{cv:Value}(hv:RelV vc cv)(hu:∀u,RelV vc u->u=cv)(ht:PD X.K cv tb):p_ X (.builtin "isinstance") (H9 X.K tb vc):=by
 intro a_ s Z H xs us Q I r h;obtain⟨v,d,b,rfl,rp,hb,q⟩:=h;obtain⟨u,w,rfl,ru,QJ⟩:=vals2 r;have:=hu w QJ;subst this;obtain⟨c,es,rfl,hl⟩:=tO hb;obtain⟨a,C,dd,fv,rfl,h1,xq,fx,_,_⟩:=Ec rp
 cases ru
 obtain⟨D,fI,xc⟩:=xq.xc;exact yL I xc xq.kc (fx.xat (f_.refl _) h1) (ht.at hl xq.ns) λtk=>⟨.bl _,H,I.tok tk,rfl,q⟩
def zf{tb:List (Str×Bool)}{vcs:List V}{k_:List Value}(hu:∀us,Vals vcs us->us=k_)(ht:QH X.K k_ tb):p_ X (.builtin "isinstance") (HZ X.K tb vcs):=by
 intro a_ s Z H xs us Q I r h;obtain⟨v,p,d,b,rfl,hp,rp,hb,q⟩:=h;obtain⟨u,w,rfl,ru,QJ⟩:=vals2 r
 cases QJ
 obtain⟨c,es,rfl,hl⟩:=tO hb;obtain⟨a,C,dd,fv,rfl,h1,xq,fx,_,_⟩:=Ec rp
 cases ru
 obtain⟨D,fI,xc⟩:=xq.xc;obtain⟨its',rv,⟨o,e1,e2,n',e3⟩,hz⟩:=I.tuple (N_.of hp);have:=hu its' rv;subst this;obtain⟨cl,d1,da,sl⟩:=o;dsimp only at e2 e3;subst e2 e3;exact wV I xc xq.kc (fx.xat (f_.refl _) h1) e1 (ht.at hl xq.ns) λtk=>⟨.bl _,H,I.tok tk,rfl,q⟩
def YK:List V->TA
 | []=>E2
 | v::r=>CA (tC v) (YK r)
def Cz{Z:L2.St}{H:Hp}:∀{vs:List V} {Q:List V->Hp->Prop},Q vs H->YK vs Z H Q
 | [],Q,h=>h
 | v::r,Q,h=>by
  show YK r Z H λys H2=>Q (v::ys) H2
  exact Cz h
section
variable {t:Expr} {p:Pu D} {tb:List (Str×Bool)} {x1:WQ}
def xM{vc:V}{cv:Value}(hv:RelV vc cv)(hu:∀u,RelV vc u->u=cv)(Yb:PD X.K cv tb)(hg:Gl X "isinstance")(hm:X.mg "isinstance"=none)(ht:PE X t (tC vc))(ha:AP X e p)(hs:starEach [e,t] X.env=(false,eval e X.env)::starEach [t] X.env)(Rn:starEach [t] X.env=(false,eval t X.env)::starEach [] X.env)
  (OY:(backTo pos (starEach [t] X.env)).any (·.1)=false):AB X (.Call (.Name "isinstance" p1) [e,t] [] pos) (v9 tb p) :=
 λG F Z H ρ Q S w=>Po (jD (zg hv hu Yb) hg hm (by decide +kernel) (dR aN (dR ht iQ Rn) hs) (by decide) (by decide) hs OY) (ha G F Z H ρ _ S (w.bind.imp λd F1 H1 s1 S1 w1 v hv=>by
  obtain⟨b,hb,k⟩:=w1.opt
  exact⟨v,d,b,rfl,hv.mono S1.fh,hb,k F1 H1 (f_.refl _) S1⟩))
end
section
variable {p:Pu D} {tb:List (Str×Bool)}
def EM{vcs:List V}{k_:List Value}{x1}(hu:∀us,Vals vcs us->us=k_)(Yb:QH X.K k_ tb)(hg:Gl X "isinstance")(hm:X.mg "isinstance"=none)(ht:PA X ts (YK vcs))(hl:vcs.length<=1000)(ha:AP X e p)
  (hs:starEach [e,.Tuple ts x1 p2] X.env=(false,eval e X.env)::starEach [.Tuple ts x1 p2] X.env) (Rn:starEach [.Tuple ts x1 p2] X.env=(false,eval (.Tuple ts x1 p2) X.env)::starEach [] X.env)
  (OY:(backTo pos (starEach [.Tuple ts x1 p2] X.env)).any (·.1)=false):AB X (.Call (.Name "isinstance" p1) [e,.Tuple ts x1 p2] [] pos) (v9 tb p) :=
 λG F Z H ρ Q S w=>Po (jD (zf hu Yb) hg hm (by decide +kernel) (dR aN (dR (yq ht) iQ Rn) hs) (by decide) (by decide) hs OY) (ha G F Z H ρ _ S (w.bind.imp λd F1 H1 s1 S1 w1 v hv=>by
  obtain⟨b,hb,k⟩:=w1.opt;refine Cz ⟨kZ hl,λq hq=>?_⟩;have S2:=S1.lay (o:=.tup vcs) hq
  exact⟨v,q,d,b,rfl,aJ,hv.mono S2.fh,hb,k F1 _ (f_.refl _) S2⟩))
end
abbrev _root_.L2.Cx.QD(X:Cx)(E:Of)(pn:K_):Cx:={ X with xe:=E,pn:=pn }
section
variable {a_ R7:K_} {s:Shared} {E:Of}
def _root_.L2.Inv.QD(I:Inv X a_ Z H s)(E:Of):Inv (X.QD E (X.pn++a_)) [] Z H s :=
 ⟨⟨I.ok.mod,I.ok.kind,I.ok.glob,I.ok.blt,I.ok.above,I.ok.inj,I.ok.has,I.ok.XU,I.ok.hd,I.ok.frames,I.ok.Ua,I.ok.exf,I.ok.bs,I.ok.U8,I.ok.SO,I.ok.S_,I.ok.Qa,I.ok.VZ⟩,I.os,I.bare,I.base,I.loc,I.cell,I.free,I.OL,λp hp=>I.pin p (by simpa using hp),I.n_,I.len⟩
def _root_.L2.Inv.PQ(I:Inv (X.QD E (X.pn++a_)) R7 Z H s):Inv X a_ Z H s :=
 ⟨⟨I.ok.mod,I.ok.kind,I.ok.glob,I.ok.blt,I.ok.above,I.ok.inj,I.ok.has,I.ok.XU,I.ok.hd,I.ok.frames,I.ok.Ua,I.ok.exf,I.ok.bs,I.ok.U8,I.ok.SO,I.ok.S_,I.ok.Qa,I.ok.VZ⟩,I.os,I.bare,I.base,I.loc,I.cell,I.free,I.OL,λp hp=>I.pin p (pd _ hp),I.n_,I.len⟩
def yd{Dd:Ends}{f:Flow}{s':Shared}(h:SP (X.QD E (X.pn++a_)) [] Dd f s'):SP X a_ Dd f s':=by
 cases f with
 | next=>obtain⟨σ',H',I,q⟩:=h;exact⟨σ',H',I.PQ,q⟩
 | brk=>obtain⟨σ',H',I,q⟩:=h;exact⟨σ',H',I.PQ,q⟩
 | cont=>obtain⟨σ',H',I,q⟩:=h;exact⟨σ',H',I.PQ,q⟩
 | ret u=>obtain⟨v,σ',H',I,r,q⟩:=h;exact⟨v,σ',H',I.PQ,r,q⟩
end
theorem _root_.L3.c_.reB{G:Gh}{B:Hp}{ρ:En}(S:c_ K { G with B:=B } F Z H ρ)(h:f_ G.B F):c_ K G F Z H ρ :=
 ⟨S.fh,S.oh,S.fo,S.ln,S.fz,λi c q=>by obtain⟨a,e,oa⟩:=S.ow i c q;exact⟨a,e,oa.nf,oa.no,oa.he⟩,S.dj,S.pp,S.pq,h⟩
def _root_.L3.c_.toB{G:Gh}{ρ:En}(S:c_ K G F Z H ρ):c_ K { G with B:=F } F Z H ρ :=
 ⟨S.fh,S.oh,S.fo,S.ln,S.fz,λi c q=>by obtain⟨a,e,oa⟩:=S.ow i c q;exact⟨a,e,oa.nf,oa.no,oa.he⟩,S.dj,S.pp,S.pq,f_.refl _⟩
def IL(ρ:En):Bool:=ρ.all λx=>match x with
 | some (.op _)=>false
 | _=>true
def lK(sh:List Kd):Bool:=sh.all λk=>match k with
 | .f=>true
 | .z=>true
 | _=>false
def qz:∀{sh:List Kd} {s:OG sh} {i:Nat} {av:AV},lK sh=true->(wr sh s)[i]? = some (some av)->∃d,av=.fz d
 | [],s,i,av,_,q=>by simp[wr]at q
 | .f::r,s,0,av,h,q=>by simp[wr]at q;exact⟨_,q.symm⟩
 | .f::r,s,i+1,av,h,q=>qz (sh:=r) (s:=s.2) (i:=i) (by simpa[lK]using h) (by simpa[wr]using q)
 | .z::r,s,0,av,h,q=>by simp[wr]at q
 | .z::r,s,i+1,av,h,q=>qz (sh:=r) (s:=s) (i:=i) (by simpa[lK]using h) (by simpa[wr]using q)
 | .o::r,s,i,av,h,q=>by simp[lK]at h
 | .p::r,s,i,av,h,q=>by simp[lK]at h
 | .t::r,s,i,av,h,q=>by simp[lK]at h
 | .k::r,s,i,av,h,q=>by simp[lK]at h
def tf{S:Type}(cs:List Str)(c:Str)(m:M S):M S:=match cs.contains c with
 | true=>m
 | false=>.bad
def EW{S A B:Type}(m:M (A ⊕ (Ex×B)))(k:A->M S)(h:Ex->B->M S):M S:=bd m λr=>match r with
 | .inl a=>k a
 | .inr p=>h p.1 p.2
def X8{S T:Type}(h:Ex->M T)(m:M S)(k:S->M T):M T:=m.on h k
def KB(sh shx:List Kd):KS (OG sh ⊕ (Ex×OG shx)):=⟨P2 sh λs=>.ret (.inl s),λ_ _=>.bad,λ_ _=>.bad,λ_=>.bad,λ_=>.bad,λex ρ=>P2 shx (λs=>.ret (.inr (ex,s))) ρ⟩
def KH{S:Type}(j:Nat)(K:KS S):KS S:=⟨λρ=>K.nx (ρ.set j none),λ_ _=>.bad,λ_ _=>.bad,λ_=>.bad,λ_=>.bad,λ_ _=>.bad⟩
def HP{S:Type}(j:Nat)(cs:List Str)(sh shx:List Kd)(mb:SM (OG sh ⊕ (Ex×OG shx)))(mh:SM S):SM S:=λK ρ=>match IL ρ with
 | true=>EW (mb (KB sh shx) ρ) (λs=>K.nx (wr sh s)) λex s=>tf cs ex.cls (mh (KH j K) ((wr shx s).set j (some (.fz (mC ex)))))
 | false=>.bad
def Q9(K:Fg)(hv:Value):List Str->Prop
 | []=>True
 | c::r=>(∃C,PySem.W.nsIn K mainGlobals c=some (some (.ref C))/\PySem.W.exmOne K (.ref C) hv=some true)/\Q9 K hv r
def Q9.at{K:Fg}{hv:Value}:∀{cs:List Str} {c:Str} {C:Addr},Q9 K hv cs->cs.contains c=true->PySem.W.nsIn K mainGlobals c=some (some (.ref C))->PySem.W.exmOne K (.ref C) hv=some true
 | d::r,c,C,h,l,n=>by
  rw[List.contains_cons,ua]at l;rcases l with q|q
  ·have:c=d:=by simpa using q
   subst this;obtain⟨⟨C',n',k⟩,_⟩:=h;rw[n]at n'
   cases n'
   exact k
  ·exact Q9.at h.2 q n
section
variable {S:Type} {j:Nat} {n:Str} {b0:Stmt} {body PU:List Stmt} {pC ph:Pos} {sh shx:List Kd} {hv:Value} {mb:SM (OG sh ⊕ (Ex×OG shx))} {mh:SM S}
theorem JE(hmx:X.mg x=some hv)(hgx:Gl X x)(Yg:Q9 X.K hv cs)(hb:∀E pn,RK (X.QD E pn) body mb)(hh:∀a,RK (ZP X a) (b0::PU) mh)(hF:lK shx=true)
  (hN:X.N.Nodup) (hj:X.N[j]? = some n) (Zl:X.env.scope.names.lookup n=some .local) (Ua:X.stack=X.env::X.outer) (frm:X.env.frame=some X.env.locals) (Zu:(x==("__debug__" : Str))=false) :
  AS X (.Try body [.ExceptHandler (some (.Name x pC)) (some n) (b0::PU) ph] [] [] pos) (HP j cs sh shx mb mh):=by
 intro OK K G F Z H ρ E hO hX St ok eo;unfold HP at ok
 cases hq:IL ρ with
 | false=>rw[hq]at ok;exact(hO ok).elim
 | true =>
 rw[hq]at ok;dsimp only at ok;have noP:∀i a,G.P i≠some a:=λi a z=>by
  obtain⟨_,c,q⟩:=St.pp i a z;unfold IL at hq;have:=List.all_eq_true.mp hq _ (wE q)
  cases this
 unfold jg;intro a_ s I;rw[arm_exec_Try];refine i_ (Np (wpAny_tryStmt_except ?_));generalize hXE:(λ(e:Value) (s1:Shared)=>wpAny (model X.prog X.w) X.A (noteFrame e X.env) (λ_ s2=>wpAny (model X.prog X.w) X.A (setFlight e none) (λ_ s3=>wpAny (model X.prog X.w) X.A (handleBy e X.env [.ExceptHandler (some (.Name x pC)) (some n) (b0::PU) ph]) (SP X a_ E) X.xe s3) X.xe s2) X.xe s1)=XE
 let E1:Ends:={ nx:=E.nx,rt:=λ_ _=>False,bk:=λ_ _=>False,ct:=λ_ _=>False }
 let OK1:M (OG sh ⊕ (Ex×OG shx))->Prop:=λm=>OK (EW m (λs=>K.nx (wr sh s)) λex s=>tf cs ex.cls (mh (KH j K) ((wr shx s).set j (some (.fz (mC ex))))))
 have XA:Ro OK1:=λz=>hO z
 have ZR:h7 (X.QD XE (X.pn++a_)) body E1 Z H:=by
  refine hb XE (X.pn++a_) OK1 (KB sh shx) { G with B:=F } F Z H ρ E1 XA ?_ St.toB ok ⟨?_,λF' σ' H' ρ' d v s S' r o=>(XA o).elim,λF' σ' H' ρ' d v s S' r o=>(XA o).elim,λF' σ' H' ρ' s S' o=>(XA o).elim,λF' σ' H' ρ' s S' o=>(XA o).elim⟩
  ·
   intro F1 ρ1 ex o1;intro F' H' s' a C dd R7 σ' g fz I' xs hp xr;have o2:OK1 (P2 shx (λs=>.ret (.inr (ex,s))) ρ1):=o1;unfold P2 at o2
   cases hr:rd shx ρ1 with
   | none=>rw[hr]at o2;exact(XA o2).elim
   | some sx =>
   rw[hr]at o2;have o3:OK (tf cs ex.cls (mh (KH j K) ((wr shx sx).set j (some (.fz (mC ex)))))):=o2;unfold tf at o3
   cases hc:cs.contains ex.cls with
   | false=>rw[hc]at o3;exact(hO o3).elim
   | true =>
   rw[hc]at o3;dsimp only at o3;have I2:Inv X a_ σ' H' s':=I'.PQ;have Wr:X.s₀.heap.objs.size<=X.s₀.heap.objs.size:=ai _;have Zk:∀p∈X.pn++a_,¬ ko s'.heap a p.1:=λp q=>hp p (pd _ q)
   show XE (.ref a) s';subst hXE;refine wB (lo:=X.s₀.heap.objs.size) (base:=X.base) (env:=X.env) (outer:=X.outer) (L:=X.env.locals) (P:=X.prog) (w:=X.w) (I2.ok.frames.trans (congrArg some Ua)) (Ua▸I2.stack) frm I2.n_ xs λh3 m3 Z8 tn=>?_
   have I3:Inv X a_ σ' H' { s' with heap:=h3 }:=Inv.mv I2 (by rw[Ua];exact m3) xs Z8 Wr Zk s'.toks;have hp3:∀p∈X.pn++a_,¬ ko h3 a p.1:=λp q z=>absurd (bo (ay (I2.pin p q).1) (tn _ z)) (nu _)
   refine BE (K:=X.K) (C:=C) (lY (X:=ZP X a) (tU I3) hgx hmx ⟨I3.Sa,Yg.at hc xr.1.ns,?_,?_⟩ Zu)
   ·obtain⟨oe,_,q1,q2,_⟩:=Z8.obj;exact⟨oe,q1,q2⟩
   refine flight_again (s:={ s' with heap:=h3 }) (Q8 X.stack) Z8 λh4 m4 xs4=>?_
   have I4:Inv X a_ σ' H' { s' with heap:=h4 }:=Inv.mv (s:={ s' with heap:=h3 }) I3 m4 Z8 xs4 Wr hp3 s'.toks;refine lE I4 hN hj (.inl Zl) (v:=.ref a) rfl (λs5 I5=>?_) (.inr Zl);have oa:G.O a=none:=by
    cases q:G.O a with
    | none=>rfl
    | some o =>
     have h1:=g.oh a o q;rw[xs.Sy]at h1
     cases h1
     exact((g.fo a _ q).2:False).elim
   obtain⟨F2,sm2,fh2,fo2,ra⟩:∃F2,f_ F' F2/\f_ F2 H'/\(∀b o,G.O b=some o->F2 b=none/\Cd o)/\Rep X.K F2 (.ref a) (mC ex):=by
    cases q:F' a with
    | some o =>
     have h1:=g.fh a o q;rw[xs.Sy]at h1
     cases h1
     exact⟨F',f_.refl _,g.fh,g.fo,xr.rep q⟩
    | none =>
     have sm:=cu (F:=F') (o:=.ext (XO a C dd)) q;refine⟨upd F' a (.ext (XO a C dd)),sm,λb u z=>?_,λb u z=>?_,(xr.mono sm).rep aJ⟩
     ·by_cases y:b=a
      ·subst y;rw[aJ]at z;cases z;exact xs.Sy
      ·rw[aD y]at z;exact g.fh b u z
     ·rw[aD (aR z oa)];exact g.fo b u z
   have FB:f_ F F':=g.fb;have hjl:j<σ'.length:=by rw[I2.len];exact(List.getElem?_eq_some_iff.mp hj).1
   obtain⟨wl,w1,w2⟩:=ji shx ρ1 sx hr;have hjr:j<(wr shx sx).length:=by rw[wl,<-fz.ln];exact hjl
   have only:∀i av,((wr shx sx).set j (some (.fz (mC ex))))[i]? = some (some av)->∃d,av=AV.fz d:=λi av q=>by
    by_cases y:i=j
    ·rw[y,eE hjr]at q;injection q with q;injection q with q;exact⟨_,q.symm⟩
    ·rw[ba (Ne.symm y)]at q;exact qz hF q
   have Wn:∀i c,¬ own ((wr shx sx).set j (some (.fz (mC ex)))) i c:=λi c q=>by
    rcases q with q|q<;>(obtain⟨d,z⟩:=only i _ q;cases z)
   have S3:c_ X.K G F2 (σ'.set j (some (V.ref a))) H' ((wr shx sx).set j (some (.fz (mC ex)))):=by
    refine⟨fh2,g.oh,fo2,by simp[wl,fz.ln],λi d q=>?_,λi c q=>(Wn i c q).elim,λi k c e b q=>(Wn i c q).elim,λi b z=>(noP i b z).elim,λi c q=>?_,(St.fb.trans FB).trans sm2⟩
    ·by_cases y:i=j
     ·rw[y,eE hjr]at q;injection q with q;injection q with q;injection q with q;rw[<-q,y];exact⟨_,eE hjl,ra⟩
     ·rw[ba (Ne.symm y)]at q;obtain⟨v,e1,r1⟩:=fz.fz i d (w1 i _ q);exact⟨v,by rw[ba (Ne.symm y)];exact e1,r1.mono sm2⟩
    ·obtain⟨d,z⟩:=only i _ q;cases z
   have Ul:=hh a OK (KH j K) G F2 _ H' _ { nx:=λσ6 H6=>∃F6 ρ6,f_ F2 F6/\c_ X.K G F6 σ6 H6 ρ6/\OK (K.nx (ρ6.set j none)),rt:=λ_ _=>False,bk:=λ_ _=>False,ct:=λ_ _=>False } hO (λ_ _ _ z=>(hO z).elim) S3 o3
    ⟨λF6 σ6 H6 ρ6 s6 S6 o6=>⟨F6,ρ6,s6,S6,o6⟩,λF' σ' H' ρ' d v s S' r o=>(hO o).elim,λF' σ' H' ρ' d v s S' r o=>(hO o).elim,λF' σ' H' ρ' s S' o=>(hO o).elim,λF' σ' H' ρ' s S' o=>(hO o).elim⟩
   unfold h7 at Ul;refine se (Ul a_ s5 (tU I5)) (λf s6 z=>?_) λ_ _ z=>z
   cases f with
   | next =>
    obtain⟨σ6,H6,I6,F6,ρ6,s6,S6,o6⟩:=z;refine Gb (za I2.ok.hd I6) hN hj Zl λs7 I7=>⟨σ6.set j none,H6,I7,?_⟩
    have S7:c_ X.K G F6 σ6 H6 (ρ6.set j none):=by
     refine S6.weak (by simp) (λi av q=>?_) (λi c q=>?_)
     ·by_cases y:i=j
      ·rw[y,List.getElem?_set]at q;simp at q
      ·rw[ba (Ne.symm y)]at q;exact q
     ·obtain⟨b,z⟩:=S6.pq i c q;exact(noP i b z).elim
    refine eo.nx F6 _ H6 (ρ6.set j none) ((FB.trans sm2).trans s6) (S7.Vm (λav q=>?_) none) o6;rw[List.getElem?_set]at q;simp at q
   | brk=>obtain⟨_,_,_,z⟩:=z;exact z.elim
   | cont=>obtain⟨_,_,_,z⟩:=z;exact z.elim
   | ret u=>obtain⟨_,_,_,_,_,z⟩:=z;exact z.elim
  ·intro F' σ' H' ρ' s1 S' o;have o2:OK1 (P2 sh (λs=>.ret (.inl s)) ρ'):=o;unfold P2 at o2
   cases hr:rd sh ρ' with
   | none=>rw[hr]at o2;exact(XA o2).elim
   | some sx =>
   rw[hr]at o2;have S2:c_ X.K G F' σ' H' ρ':=S'.reB (St.fb.trans s1);exact eo.nx F' σ' H' (wr sh sx) s1 (S2.rd hr) o2
 unfold h7 at ZR;refine se (ZR [] s (I.QD XE)) (λf s1 z=>?_) λe s1 z=>by subst hXE;exact z
 have z2:=yd z
 cases f with
 | next=>exact Nu z2
 | brk=>obtain⟨_,_,_,z⟩:=z2;exact z.elim
 | cont=>obtain⟨_,_,_,z⟩:=z2;exact z.elim
 | ret u=>obtain⟨_,_,_,_,_,z⟩:=z2;exact z.elim
end
def CY{a:Addr}:∀u,RelV (.ref a) u->u=.ref a:=λu h=>h
def sT:∀{Cs:List Addr} (us:List Value),Vals (Cs.map V.ref) us->us=Cs.map Value.ref
 | [],us,h=>by cases h;rfl
 | C::r,us,h=>by
  rw[aw]at h
  cases h with
  | cons a b=>rw[sT _ b];cases a;rfl
def Z0(mg:Pn):List Str->List Addr->Prop
 | [],[]=>True
 | c::r,C::t=>mg c=some (.ref C)/\Z0 mg r t
 | _,_=>False
inductive Qc(X:Cx):List Str->List Expr->Prop
 | nil:Qc X [] []
 | cons {c:Str} {p:Pos} {cs:List Str} {ts:List Expr} (hg:Gl X c) (hd:(c==("__debug__" : Str))=false) (hs:starEach (.Name c p::ts) X.env=(false,eval (.Name c p) X.env)::starEach ts X.env) (r:Qc X cs ts):Qc X (c::cs) (.Name c p::ts)
def v8{X:Cx}:∀{cs:List Str} {ts:List Expr} {Cs:List Addr},Qc X cs ts->Z0 X.mg cs Cs->PA X ts (YK (Cs.map V.ref))
 | _,_,[],.nil,_=>iQ
 | _,_,C::Cs,.nil,h=>h.elim
 | _,_,[],.cons _ _ _ _,h=>h.elim
 | _,_,C::Cs,.cons hg hd hs r,h=>dR (ux hg h.1 (show RelV (.ref C) (.ref C)from rfl) hd) (v8 r h.2) hs
def Ac{mg:Pn}:∀{cs:List Str} {Cs:List Addr},Z0 mg cs Cs->Cs.length=cs.length
 | [],[],_=>rfl
 | [],_::_,h=>h.elim
 | _::_,[],h=>h.elim
 | _::_,_::_,h=>by simp[Ac h.2]
section
variable {p:Pu D} {tb:List (Str×Bool)}
def EN(h:∃C,X.mg c=some (.ref C)/\PD X.K (.ref C) tb)(hgc:Gl X c)(hm:X.mg "isinstance"=none)(hg:Gl X "isinstance")(ha:AP X e p)(hs:starEach [e,.Name c p2] X.env=(false,eval e X.env)::starEach [.Name c p2] X.env)(Rn:starEach [.Name c p2] X.env=(false,eval (.Name c p2) X.env)::starEach [] X.env)
  (OY:(backTo pos (starEach [.Name c p2] X.env)).any (·.1)=false) (hd:(c==("__debug__" : Str))=false):AB X (.Call (.Name "isinstance" p1) [e,.Name c p2] [] pos) (v9 tb p):=by
 obtain⟨C,h1,h2⟩:=h;exact xM (vc:=.ref C) rfl CY h2 hg hm (ux hgc h1 rfl hd) ha hs Rn OY
def EL{T:String}(h:PD X.K (.type T) tb)(hgc:Gl X c)(hmc:X.mg c=none)(hb:bootBuiltins c=some (.type T))(hm:X.mg "isinstance"=none)(hg:Gl X "isinstance")(ha:AP X e p)(hs:starEach [e,.Name c p2] X.env=(false,eval e X.env)::starEach [.Name c p2] X.env)(Rn:starEach [.Name c p2] X.env=(false,eval (.Name c p2) X.env)::starEach [] X.env)
  (OY:(backTo pos (starEach [.Name c p2] X.env)).any (·.1)=false) (hn:c ≠ "__name__") (hd:(c==("__debug__" : Str))=false):AB X (.Call (.Name "isinstance" p1) [e,.Name c p2] [] pos) (v9 tb p) :=
 xM (vc:=.ty T) rfl (λu h=>h) h hg hm (Fx hgc hmc hb rfl hn hd) ha hs Rn OY
def Cc{x1}(h:∃Cs,Z0 X.mg cs Cs/\QH X.K (Cs.map Value.ref) tb)(hn:Qc X cs ts)(hl:cs.length<=1000)(hm:X.mg "isinstance"=none)(hg:Gl X "isinstance")(ha:AP X e p)
  (hs:starEach [e,.Tuple ts x1 p2] X.env=(false,eval e X.env)::starEach [.Tuple ts x1 p2] X.env) (Rn:starEach [.Tuple ts x1 p2] X.env=(false,eval (.Tuple ts x1 p2) X.env)::starEach [] X.env)
  (OY:(backTo pos (starEach [.Tuple ts x1 p2] X.env)).any (·.1)=false):AB X (.Call (.Name "isinstance" p1) [e,.Tuple ts x1 p2] [] pos) (v9 tb p):=by
 obtain⟨Cs,h1,h2⟩:=h;exact EM (vcs:=Cs.map V.ref) sT h2 hg hm (v8 hn h1) (by rw[L_,Ac h1];exact hl) ha hs Rn OY
end
section
variable {S:Type} {j:Nat} {n:Str} {b0:Stmt} {body PU:List Stmt} {pC ph:Pos} {sh shx:List Kd} {mb:SM (OG sh ⊕ (Ex×OG shx))} {mh:SM S}
def GB(h:∃hv,X.mg x=some hv/\Q9 X.K hv cs)(hgx:Gl X x)(hb:∀E pn,RK (X.QD E pn) body mb)(hh:∀a,RK (ZP X a) (b0::PU) mh)(hF:lK shx=true)
  (hN:X.N.Nodup) (hj:X.N[j]? = some n) (Zl:X.env.scope.names.lookup n=some .local) (Ua:X.stack=X.env::X.outer) (frm:X.env.frame=some X.env.locals) (Zu:(x==("__debug__" : Str))=false) :
  AS X (.Try body [.ExceptHandler (some (.Name x pC)) (some n) (b0::PU) ph] [] [] pos) (HP j cs sh shx mb mh):=by
 obtain⟨hv,h1,h2⟩:=h;exact JE h1 hgx h2 hb hh hF hN hj Zl Ua frm Zu
end
def JY{C:Addr}(h:(["bool","int","str","list","tuple","dict"].all λT=>PySem.W.kitOne K (.ref C) (.type T)==some false)=true):∀T,HD T=true->PySem.W.kitOne K (.ref C) (.type T)=some false:=λT hT=>by
 have h':∀T∈["bool","int","str","list","tuple","dict"],PySem.W.kitOne K (.ref C) (.type T)=some false:=λT q=>by
  have:=List.all_eq_true.mp h T q;simpa using this
 apply h';simp only[HD,ua,beq_iff_eq]at hT;rcases hT with ((((rfl|rfl)|rfl)|rfl)|rfl)|rfl<;>simp
def IQ{us:List α}{n:Nat}(h:us.length=n+1):∃a r,us=a::r/\r.length=n:=by
 cases us with
 | nil=>exact absurd h (Nat.succ_ne_zero n).symm
 | cons a r=>exact⟨a,r,rfl,Nat.succ.inj h⟩
def Lk{us:List α}(h:us.length=1):∃a0,us=[a0]:=by
 obtain⟨a0,r,rfl,h0⟩:=IQ h;obtain rfl:=List.eq_nil_of_length_eq_zero h0;exact⟨a0,rfl⟩
def Lj{us:List α}(h:us.length=2):∃a0 a1,us=[a0,a1]:=by
 obtain⟨a0,r,rfl,h0⟩:=IQ h;obtain⟨a1,rfl⟩:=Lk h0;exact⟨a0,a1,rfl⟩
def Mz{us:List α}(h:us.length=3):∃a0 a1 a2,us=[a0,a1,a2]:=by
 obtain⟨a0,r,rfl,h0⟩:=IQ h;obtain⟨a1,a2,rfl⟩:=Lj h0;exact⟨a0,a1,a2,rfl⟩
def Gw(F:Oy K x qual st f fd)
  (h:∀(kV doc pm:Value) (an:Option Addr) (r_ ct:Value) (u0:Value),bindArgs (PySem.W.fnOf x qual (cQ st) (bO st) (aB st) .none kV doc pm an r_ ct) ⟨[u0],[]⟩=pure (List.zip [p0] [u0])):Binds K fd [p0] [] :=
 F.binds λa b c d e g us hl=>by obtain⟨u0,rfl⟩:=Lk hl;exact h a b c d e g u0
def gA{p1:Str}(F:Oy K x qual st f fd)
  (h:∀(kV doc pm:Value) (an:Option Addr) (r_ ct:Value) (u0 u1:Value),bindArgs (PySem.W.fnOf x qual (cQ st) (bO st) (aB st) .none kV doc pm an r_ ct) ⟨[u0,u1],[]⟩=pure (List.zip [p0,p1] [u0,u1])):Binds K fd [p0,p1] [] :=
 F.binds λa b c d e g us hl=>by obtain⟨u0,u1,rfl⟩:=Lj hl;exact h a b c d e g u0 u1
def xJ{p1 p2:Str}(F:Oy K x qual st f fd)
  (h:∀(kV doc pm:Value) (an:Option Addr) (r_ ct:Value) (u0 u1 u2:Value),bindArgs (PySem.W.fnOf x qual (cQ st) (bO st) (aB st) .none kV doc pm an r_ ct) ⟨[u0,u1,u2],[]⟩=pure (List.zip [p0,p1,p2] [u0,u1,u2])):Binds K fd [p0,p1,p2] [] :=
 F.binds λa b c d e g us hl=>by obtain⟨u0,u1,u2,rfl⟩:=Mz hl;exact h a b c d e g u0 u1 u2
def kq{K:Fg}{F:Hp}:∀{vs:List V} {ds:List D},h_ K F vs ds->h_ K F vs.dropLast ds.dropLast
 | _,_,.nil=>.nil
 | _,_,.cons h .nil=>.nil
 | _,_,.cons h (.cons h2 t)=>by
  rw[List.dropLast_cons₂,List.dropLast_cons₂];exact .cons h (kq (.cons h2 t))
end L4
namespace TS
end TS
namespace TS
end TS
namespace TS
end TS
namespace TS
end TS
namespace TS
end TS
namespace TS
end TS
namespace TS
end TS
namespace TS
end TS
namespace TS
end TS
namespace TS
end TS
namespace TS
end TS
namespace TS
open PySem PyProof.Rows
def DR(h:Heap)(d:Addr)(es:Array DictEntry)(ep:Nat):Prop:=∃o,h.get? d=some o/\o.ExactDict/\o.data=.dict es ep
def DR.ty{s:Shared}{d:Addr}{es:Array DictEntry}{ep:Nat}(x:DR s.heap d es ep):s.TypeIs (.ref d) "dict":=let ⟨o,e,c,_⟩:=x;⟨o,e,c.1⟩
section
variable {prog:Program}{w:World}{A:Around}{E:Of}{s:Shared}{d it:Addr}{es:Array DictEntry}{ep i:Nat}
theorem VE{Q:Of}(lo:(d==sysModules)=false)(x:DR s.heap d es ep)(q:Q (.ref s.heap.objs.size) { s with heap:=s.heap.push { cls:=.type "dict_keyiterator",data:=.fields #[.ref d,.int 0 0,.int es.size 0,.int ep 0] } }) :
  wpAny (model prog w) A (pyIter (.ref d)) Q E s:=by
 obtain⟨o,e1,e2,e3⟩:=id x;refine wpAny_pyIter_slot x.ty F.slot_dict_iter (ou F.slot_dict_iter x.ty F.entry_dict_iter ?_ (F.args_dict_iter_1 _));unfold Builtin.«dict.__iter__»;refine i_ ?_;unfold Builtin.Dict.dictSlotNone;refine i_ (Ob x.ty (show wpAny (model prog w) _ (pure (Value.ref d)) _ _ s from s_ ?_));refine(show wpAny (model prog w) _ (Builtin.Dict.showsAll d >>= _) _ _ s from ?_);unfold Builtin.Dict.showsAll;rw[ar (by rw[lo];decide)];refine i_ (s_ (i_ (Nc e1 e3 (i_ (N5 e1 e3 (i_ (im (s_ ⟨_,rfl, "dict_keyiterator",_,⟨_,OX _ rfl,rfl⟩,F.slot_dict_keyiterator_next.lookup,?_⟩))))))));simpa[rawInt]using q
def Tp{n:Nat}{Q:Option Value->Shared->Prop}(hit:s.heap.IsKeyIter it d i es.size ep)(x:DR s.heap d es ep)
  (q1:∀(hi:i<es.size) (h':Heap),h'.IsKeyIter it d (i+1) es.size ep->Heap.SameBut it s.heap h'->Q (some es[i].key) { s with heap:=h' })
  (q2:es.size<=i->A.handled=none/\∀h',Heap.ExtBut it s.heap h'->Q none { s with heap:=h' }):wpAny (model prog w) A (pyNext (.ref it)) Q E s:=by
 obtain⟨o,ho,hc,hd⟩:=id hit;obtain⟨od,f1,f2,f3⟩:=id x;have T:=hit.typeIs;have no:Builtin.Dict_items.ownsTuple "dict_keyiterator" = false:=by decide
 have pos:¬ ((i:Int)<0):=by omega
 unfold pyNext;refine i_ (M4 (je (name:=Str.ofString "__next__") T F.slot_dict_keyiterator_next (ou F.slot_dict_keyiterator_next T F.entry_dict_keyiterator_next ?_ (F.args_dict_keyiterator_next_1 _))));refine i_ (s_ (i_ (i_ (i_ (Nt T (s_ (i_ (wpAny_fieldsOf ho hd ?_))))))));simp only[no,M6,Ma];refine(show wpAny (model prog w) _ (if(Value.ref d==Value.none)=true then _ else _) _ _ s from ?_);rw[ar (show ¬ ((Value.ref d==Value.none)=true)from λz=>Bool.noConfusion z)];refine i_ (s_ (i_ (Nc f1 f3 ?_)));rw[ar (by simp)];refine i_ (s_ (i_ (N5 f1 f3 ?_)));rw[ar (by simp)];refine s_ ?_;by_cases hi:i<es.size
 ·simp only[pos,Ma,sE,Array.getElem?_eq_getElem hi];refine i_ (i_ (Nt T (s_ (i_ (wpAny_isOneOf_keyiter T ?_)))));refine(show wpAny (model prog w) _ (setField (.ref it) 1 (rawInt ((i:Int)+1)) >>= _) _ _ s from i_ (ye ho hd (by simp) ?_));have VM:(s.heap.update it (Obj.mapFields (·.setIfInBounds 1 (rawInt ((i:Int)+1))))).IsKeyIter it d (i+1) es.size ep :=
   ⟨_,wa _ ho (y9 (mo hd _)),(NM ..).trans hc,by rw[mo hd];simp[rawInt]⟩
  refine i_ (um (i_ (wpAny_isOneOf_keyiter (s:={ s with heap:=s.heap.update it (Obj.mapFields (·.setIfInBounds 1 (rawInt ((i:Int)+1)))) }) VM.typeIs ?_)));refine(show wpAny (model prog w) _ (pure es[i].key) _ _ _ from s_ (s_ ⟨_,rfl,s_ (q1 hi _ VM (Heap.SameBut.update ..))⟩))
 ·obtain⟨hh,q⟩:=q2 (by omega);simp only[pos,Ma,sE,Array.getElem?_eq_none (show es.size<=i by omega)];refine i_ (i_ (Nt T (s_ ?_)));refine(show wpAny (model prog w) _ (setField (.ref it) 0 .none >>= _) _ _ s from i_ (ye ho hd (by simp) ?_));refine(show wpAny (model prog w) _ (newExc (.type "StopIteration") [] >>= _) _ _ _ from i_ ?_);simp only[newExc,newTuple];refine i_ (im ?_ (by size_fits));refine i_ (m:=firstArgMember _ _) (wpAny_of_eq (a:=Value.none) (by first|rfl|(simp only[firstArgMember];rfl)) ?_);refine im ?_ (by size_fits);simp only[raiseNew];refine i_ (wpAny_handled ?_);rw[show A.in1.handled=none from hh];refine i_ (s_ (wpAny_throw ?_));refine i_ (Nm (T := "StopIteration") (b:=true) (by exact⟨_,OX _ rfl,rfl⟩) ND ?_);exact s_ (q _ (((Heap.SameBut.update ..).extBut.push _).push _))
end
end TS
namespace L4
open PySem PySem.Spec PyProof.Rows L2 L3 TS
variable {K:Fg}
def _root_.L3.c_.YQ{G:Gh}{F H:Hp}{Z:L2.St}{ρ:En}(S:c_ K G F Z H ρ){b:Addr}{vs:List V}{ds:List D}(hb:H b=some (.tup vs))(r:h_ K F vs ds):∃F',f_ F F'/\c_ K G F' Z H ρ/\Rep K F' (.ref b) (.tuple ds):=by
 cases e:F b with
 | some o =>
  have:=S.fh b o e;rw[hb]at this
  cases this
  exact⟨F,f_.refl _,S,.tup e r⟩
 | none =>
  have og:G.O b=none:=by
   cases q:G.O b with
   | none=>rfl
   | some o =>
    have:=S.oh b o q;rw[hb]at this
    cases this
    exact((S.fo b _ q).2:False).elim
  refine⟨upd F b (.tup vs),cu e,S.freeze hb e og (λi c ho z=>?_),.tup aJ (r.mono (cu e))⟩;obtain⟨a,e1,oa⟩:=S.ow i c ho;rw[z]at e1;injection e1 with e1;injection e1 with e1;injection e1 with e1;subst e1;exact(oa.he.Up hb:False)
def Fc{F:Hp}:∀k:Key,Rep K F (kV k) (L3.Ow k)
 | .inl i=>.int i
 | .inr x=>.str x
def jy{K:Fg}{F:Hp}:∀ks:List Key,h_ K F (ks.map kV) (ks.map L3.Ow)
 | []=>.nil
 | k::ks=>.cons (Fc k) (jy ks)
def CN{G:Gh}{H:Hp}{Z:L2.St}{ρ:En}:∀{kvs:List (List Key×V)} {xs:List (List Key×Addr×Value)} {F:Hp},KT H kvs xs->c_ K G F Z H ρ ->
  ∃F',f_ F F'/\c_ K G F' Z H ρ/\h_ K F' (xs.map λq=>V.ref q.2.1) (kvs.map λp=>cE p.1)/\Vals (xs.map λq=>V.ref q.2.1) (xs.map λq=>Value.ref q.2.1):=by
 intro kvs xs F r S
 induction r generalizing F with
 | nil=>exact⟨F,f_.refl _,S,.nil,.nil⟩
 | @cons p q ps qs h t ih =>
  obtain⟨h1,h2,h3⟩:=h;obtain⟨F1,s1,S1,r1⟩:=S.YQ h2 (jy p.1);obtain⟨F2,s2,S2,r2,v2⟩:=ih S1;exact⟨F2,s1.trans s2,S2,.cons (r1.mono s2) r2,.cons rfl v2⟩
end L4
namespace L4
open PySem PySem.Spec PyProof.Rows L2 L3
variable {X:Cx}{x f qual:Str}{K:Fg}{pos p:Pos}{i:Int}{n:Nat}{S:Type}{e:Expr}{es:List Expr}{st:Stmt}{T C:Addr}{fd:FuncData}{ps:List Str}{u:Value}
def yR:List Int->Option Int
 | []=>none
 | n::r=>some (r.foldl min n)
def Av:List D->Option D
 | [.list ds]=>match intsOf ds with
  | some ns=>(yR ns).map PyData.int
  | none=>none
 | l=>Ea l
theorem BG(r:List Int):∀n:Int,r.foldl min n<=n/\(∀i∈r,r.foldl min n<=i)/\(r.foldl min n=n\/r.foldl min n∈r):=by
 induction r with
 | nil=>intro n;exact⟨Int.le_refl _,λi hi=>(nomatch hi),.inl rfl⟩
 | cons a r ih =>
  intro n;obtain⟨h1,h2,h3⟩:=ih (min n a);rw[lf];refine⟨by lia,λi hi=>?_,?_⟩
  ·rcases List.mem_cons.mp hi with rfl|hi
   ·lia
   ·exact h2 i hi
  ·rcases h3 with h3|h3
   ·rw[h3];by_cases hna:a<=n
    ·right;rw[show min n a=a by lia];exact du
    ·left;lia
   ·right;exact QC _ h3
def tP{ns:List Int}(h:yR ns=some i):(∀j∈ns,i<=j)/\i∈ns:=by
 cases ns with
 | nil=>cases h
 | cons n r =>
  cases h
  obtain⟨h1,h2,h3⟩:=BG r n;refine⟨λi hi=>?_,?_⟩
  ·rcases List.mem_cons.mp hi with rfl|hi
   ·exact h1
   ·exact h2 i hi
  ·rcases h3 with h3|h3
   ·rw[h3];exact du
   ·exact QC _ h3
theorem BU(hc:X.calm=true):p_ X (.builtin "min") (nQ X.K yR):=by
 intro a_ s Z H xs us Q I r h0;obtain⟨a,ns,i,rfl,hq,e,q⟩:=h0;obtain⟨u,rfl,ru⟩:=Vals.one r
 cases ru
 obtain⟨k_,rv,pl,hz⟩:=I.list hq;obtain⟨ps,rfl,rfl⟩:=eJ rv;have Ts:ps≠[]:=by rintro rfl;cases e
 have hl:s.heap.IsList a (intItems ps.toArray):=by
  have:=pl.isList;unfold intItems;simpa using this
 have SW:0<ps.length:=List.length_pos_iff.mpr Ts;refine min_intList (I.ok.hd hc) hl (by simpa using SW) λv h' tk hv hk=>?_
 obtain⟨t,rfl⟩:=intItems_at hv;refine⟨.int _,H,I.kept hk,⟨_,rfl⟩,?_⟩;have b:=argBest_lt (numAt ps.toArray) (ps.toArray.size - 1);generalize argBest (λi j=>decide (numAt ps.toArray i<numAt ps.toArray j)) (ps.toArray.size - 1)=m at b hv;have hm:m<ps.length:=by
  have h0:=b.1;simp at h0;lia
 have RG:=tP e;have e1:numAt ps.toArray m=i:=by
  refine Int.le_antisymm ?_ ?_
  ·obtain⟨j,hj,ej⟩:=ut RG.2;have h0:=b.2 j (by simp at hj ⊢;lia);rw[fg (i:=j),eg,ac hj]at h0;rw[<-ej];exact h0
  ·refine RG.1 _ ?_;rw[fg,eg,ac (by simpa using hm)];exact oC _
 rw[e1];exact q
def G9(K:Fg):List V->Hp->VK->Prop:=λxs H Q=>nQ K yR xs H Q\/∃i j,xs=[.int i,.int j]/\Q (.int (if j<i then j else i)) H
def BV(hc:X.calm=true):p_ X (.builtin "min") (G9 X.K):=(BU hc).or (BW hc)
def FH:gC K (G9 K) Av:=by
 intro G F Z H ρ xs ds res Q S o e k;unfold Av at e;split at e
 ·rename_i es;split at e
  case h_2=>cases e
  rename_i ns Sz;obtain⟨i,hi,rfl⟩:=Option.map_eq_some_iff.mp e;obtain⟨v,r,rfl,ho,hr⟩:=bD o;obtain rfl:=bT hr;obtain⟨a,vs,rfl,h1,h2⟩:=ho.list S.fh;rw[dm Sz]at h2;rw[dk h2]at h1;exact .inl ⟨a,ns,_,rfl,h1,hi,k _ F H (f_.refl _) S (show Rep K F _ _ from .int _)⟩
 ·exact .inr (FI G F Z H ρ xs ds res Q S o e k)
section
variable {prog:Program} {w:World} {A:Around} {E:Of} {s:Shared}
def yy(d:Addr)(hd:(d==sysModules)=false) :
  MeetsIn prog w (Builtin.«dict.__len__» ⟨[.ref d],[]⟩) (λ_ R s=>∃o es ep,s.heap.get? d=some o/\o.data=.dict es ep/\R (.ok (.ret (.int es.size s.toks))) { s with toks:=s.toks+1 }) :=
 .of_wp λA R s ⟨o,es,ep,ho,Sh,h⟩=>by
  show wpAny _ _ (dictSize d >>= _) _ _ s;unfold dictSize;refine i_ (i_ (Nc ho Sh (s_ ?_)));show wpAny _ _ (Builtin.Dict.pendingCount d >>= _) _ _ s;refine i_ (wpAny_pendingCount_other hd ?_);refine wpAny_ret_mkInt ?_;rw[Nat.add_zero];exact h
theorem zd{d:Addr}{o:Obj}{es:Array DictEntry}{ep:Nat}{Q:Of}(hd:(d==sysModules)=false)(ho:s.heap.get? d=some o)(hc:o.cls=.type "dict")(Sh:o.data=.dict es ep)(Sg:(es.size:Int)<2^63)
  (h:Q (.int es.size (s.toks+1)) { s with toks:=s.toks+1+1 }):wpAny (model prog w) A (call (.builtin "len") [.ref d]) Q E s:=by
 have ty:s.TypeIs (.ref d) "dict":=⟨o,ho,hc⟩;refine Calls.call_function_entry kind_len plain_len entry_len (args_len1 _) ?_;unfold Builtin.«len»;refine i_ (m:=oneArg "len" _) (s_ ?_)
 refine i_ (m:=callSpecial? (.ref d) (Str.ofString "__len__")) (je (name:=Str.ofString "__len__") ty F.slot_dict_len
  (NY F.slot_dict_len ty F.entry_dict_len (F.args_dict_len_1 _) (yy d hd) ⟨o,es,ep,ho,Sh,?_⟩))
 show wpAny _ _ _ _ _ { s with toks:=s.toks+1 };refine i_ (um (s_ ?_));refine i_ (NJ ?_);show wpAny _ _ (if((es.size:Nat):Int)<0 then _ else _) _ _ _;rw[ar (by lia)];show wpAny _ _ (if((es.size:Nat):Int)>=2^63 then _ else _) _ _ _;rw[ar (by lia)];exact i_ (wpAny_mkInt (s_ ⟨_,rfl,h⟩))
end
def Hb:List V->Hp->VK->Prop:=λxs H Q=>∃a n,xs=[.ref a]/\((∃kvs,Rd H a (.dT kvs)/\n=kvs.length)\/∃kvs,H a=some (.dK kvs)/\n=kvs.length)/\Q (.int (n:Nat)) H
theorem B0:p_ X (.builtin "len") Hb:=by
 intro a_ s Z H xs us Q I r h0;obtain⟨a,n,rfl,hd,q⟩:=h0;obtain⟨u,rfl,ru⟩:=L2.Vals.one r
 cases ru
 rcases hd with ⟨kvs,e,rfl⟩|⟨kvs,e,rfl⟩
 ·obtain⟨z,lo,xs,kt,o,es,ep,h1,h2,h3,h4,_⟩:=mE I.n_ e;have el:es.size=kvs.length:=by
   rw[<-Cn,h4,L_];exact(Paired.length kt).symm
  refine zd lo h1 h2.1 h3 (by rw[el];rw[NL]at z;lia) ?_;rw[el];exact⟨.int _,H,I.tok _,⟨_,rfl⟩,q⟩
 ·exact LG I (.inl e) λt s' I'=>⟨.int _,H,I',⟨_,rfl⟩,q⟩
def Hc(K:Fg):List V->Hp->VK->Prop:=λxs H Q=>HX K xs H Q\/Hb xs H Q
def gb:p_ X (.builtin "len") (Hc X.K):=p_.or cq B0
def j5:gC K (Hc K) kB:=by
 intro G F Z H ρ xs ds res Q S o e k;unfold kB at e;split at e
 ·rename_i es;split at e
  ·cases e
  ·rename_i nx
   cases e
   obtain⟨v,r,rfl,ho,hr⟩:=bD o;obtain rfl:=bT hr;obtain⟨a,rfl,hh⟩:=ho.dict S.fh (by simpa using nx);refine .inr ⟨a,es.length,rfl,?_,k _ F H (f_.refl _) S (.int _)⟩;rcases hh with ⟨kvs,h1,h2,_⟩|⟨kvs,h1,h2,_⟩
   ·exact .inl ⟨kvs,h1,by have:=congrArg List.length h2;simpa using this⟩
   ·exact .inr ⟨kvs,h1,by have:=congrArg List.length h2;simpa using this⟩
 ·exact .inl (fE G F Z H ρ xs ds res Q S o e k)
def GX{S:Type}(i j:Nat):SM S:=λK ρ=>match gW ρ i with
 | some ds=>match ds.getLast? with
  | some d=>match gJ (oE ρ i ds.dropLast) j with
   | true=>K.nx ((oE ρ i ds.dropLast).set j (some (.fz d)))
   | false=>.bad
  | none=>.bad
 | none=>.bad
section
variable {pos' apos A_ YD:Pos}
theorem GD{i j:Nat}{y:Str}(hN:X.N[i]? = some x)(hv:RY X.env.scope x)(hnd:X.N.Nodup)(hj:X.N[j]? = some y)(hy:Loc X.env.scope y)(hij:i≠j)
  (O9:attributeBase (.Name x pos') "pop" X.env (eval (.Name x pos') X.env)=eval (.Name x pos') X.env) (O8:(apos.endLine==A_.line)=true)
  (UC:swapsWith (.Call (.Attribute (.Name x pos') "pop" apos) [] [] A_) (some (.Name y YD)) pos.line X.env=pure false) (hf:X.fn y=true\/X.env.scope.names.lookup y=some .local) (hd:(x==("__debug__" : Str))=false:=by decide) (O2:(x==("__classdict__" : Str))=false:=by decide) :
  AS X (.Assign [.Name y YD] (.Call (.Attribute (.Name x pos') "pop" apos) [] [] A_) pos) (GX (S:=S) i j):=λOK K G F Z H ρ E hO hX St ok eo =>
 ik (jC hnd hj hy (Im M7 PySem.F.slot_list_pop PySem.F.type_list_pop IM (cO hN hv hd O2) O9 O8) UC hf) (by
  unfold GX at ok;split at ok
  case h_2=>exact(hO ok).elim
  rename_i XM h0;split at ok
  case h_2=>exact(hO ok).elim
  rename_i d Yf;split at ok
  case h_2=>exact(hO ok).elim
  rename_i Xp;obtain⟨hl,Rt⟩:=dD Xp;obtain⟨a,Vb,ea,hh,rv⟩:=dS St h0;have hlen:Vb.length=XM.length:=rv.length;rw[List.getLast?_eq_getElem?]at Yf;obtain⟨u,hu,ru⟩:=rv.get Yf;refine⟨_,ea,.inl ⟨rfl,Vb,.inl (.inl hh)⟩,a,Vb,u,rfl,rfl,hh,by rw[hlen];exact hu,?_⟩
  exact eo.nx F _ _ _ (f_.refl _) ((lI St h0 ea (kq rv)).store Rt hl (.inl ⟨d,rfl,ru⟩)) ok)
end
def WH(f:Str):D:=.dict [(.bool true,.str f)]
def ZJ(d:D)(f:Str):Bool:=match d with
 | .dict [(.bool true,.str g)]=>g==f
 | _=>false
def Jg{d:D}(h:ZJ d f=true):d=WH f:=by
 unfold ZJ at h;split at h
 ·rename_i g;have:g=f:=by simpa using h
  subst this;rfl
 ·cases h
def LC{F:Hp}{v:V}(r:Rep K F v (WH f)):∃a,v=.ref a/\PySem.W.nsIn K mainGlobals f=some (some (.ref a)):=by
 unfold WH at r
 cases r with
 | Sl _ h _=>exact absurd (DP h) (by simp[nC])
 | V2 _ h _=>exact absurd (DQ h) (by simp[nC])
 | fn h=>exact⟨_,rfl,h⟩
def EE(h:∃a,X.mg f=some (.ref a)/\PySem.W.nsIn X.K mainGlobals f=some (some (.ref a)))(hg:Gl X f)(hd:(f==("__debug__" : Str))=false):AP X (.Name f p) (Bm (WH f)):=by
 obtain⟨a,h1,h2⟩:=h;exact λG F Z H ρ Q S w=>Po (ux (v:=.ref a) hg h1 rfl hd) (w F H (f_.refl _) S _ (.fn h2))
def K6(i:Nat)(f:Str)(mf:List D->M D)(ps:Pa D):Pu D:=λρ=>match ρ[i]? with
 | some (some (.fz d))=>match ZJ d f with
  | true=>ps (λds=>mf ds) ρ
  | false=>.bad
 | _=>.bad
theorem JM{k i:Nat}{mf:List D->M D}{ps:Pa D}(C:CF X.prog X.w X.K X.mg X.base f k (C_ X.K n mf))(hr:I_ k X.A)(hN:X.N[i]? = some x)(hv:RY X.env.scope x)(ha:AA X (e::es) ps)(hn:(e::es).length=n)
  (he:starEach (e::es) X.env=(false,eval e X.env)::starEach es X.env) (OY:(backTo pos (starEach es X.env)).any (·.1)=false) (hd:(x==("__debug__" : Str))=false:=by decide) (O2:(x==("__classdict__" : Str))=false:=by decide):AP X (.Call (.Name x p) (e::es) [] pos) (K6 i f mf ps):=by
 obtain⟨fa,fd,pl,Fn,h1,h2,h3⟩:=C.ex;intro G F Z H ρ Q St w;unfold K6 at w;split at w
 case h_2=>exact w.elim
 rename_i d Xy;split at w
 case h_2=>exact w.elim
 rename_i hq;obtain rfl:=Jg hq;obtain⟨v,hv0,rv⟩:=St.fz i _ Xy;obtain⟨a,ea,Sz⟩:=LC rv;subst ea;unfold fR;intro a_ s I;have hm:=bj I.Sa (I.mod.glob.keeps I.bk) Sz;rw[hm]at h1
 cases h1
 have arg:gc X (e::es) Z H λvs H1=>C_ X.K n mf vs H1 Q (EX X G Z):=by
  refine ha G F Z H ρ _ _ _ St w λds vs F1 H1 s1 S1 hl r1 w1=>?_
  cases Zw:mf ds with
  | bad=>rw[Zw]at w1;exact w1.elim
  | exc e =>
   rw[Zw]at w1;exact⟨_,F1,ds,hl.trans hn,dJ S1 r1,by rw[Zw];exact λF' H' Cl dd g xr=>EX.of S1 w1 g xr⟩
  | ret d =>
   rw[Zw]at w1;refine⟨_,F1,ds,hl.trans hn,dJ S1 r1,?_⟩;rw[Zw];intro v F2 H2 s2 S2 r2;obtain⟨S3,t3⟩:=i5 (avs':=ds.map AV.fz) S1 s2 S2;exact w1 F2 H2 s2 S3 v r2
 unfold gc at arg;refine ug (u_ (cO (X:=X) hN hv hd O2 a_ s Z H (λu H'=>u=.ref fa/\H'=H) I ⟨_,hv0,rfl,rfl⟩) λu s1 ⟨y,H1,I1,ry,e1,e2⟩=>?_);subst e1 e2
 cases ry
 refine PySem.W.callWith_K (h₀:=X.base) I1.ok.mod.Zc h2 (u_ (arg pos a_ s1 I1) λus s2 ⟨vs,H2,I2,r,q⟩=>⟨I2.Sa,?_⟩) he OY;exact CV Fn hr h3 v7 I2 r q
structure Q_(K:Fg)(x qual:Str)(st:Stmt)(f:Addr)(fd:FuncData)(T:Addr):Prop where
 ex:∃(oc:Value) (od:Option Addr) (kV doc pm:Value) (an:Option Addr) (r_ ct:Value) (Rq:Array (Option Value)),
  fd=PySem.W.fnOf x qual (cQ st) (bO st) (aB st) (.ref T) kV doc pm an r_ ct/\K.lookup f=some ⟨oc,od,.func fd,Rq⟩/\PySem.W.codeIn K r_ qual=true
 kp:PySem.W.keepIn K (.ref f)=true
section
variable {P:Program} {w:World} {mg:Pn} {base:Heap} {f:Addr} {N:List Str} {k:Nat}
def Gc{oc:Value}{od an:Option Addr}{Rq:Array (Option Value)}{kV doc pm r_ ct:Value}(l:K.lookup f=some ⟨oc,od,.func (PySem.W.fnOf x qual (cQ st) (bO st) (aB st) (.ref T) kV doc pm an r_ ct),Rq⟩)
  (c:PySem.W.codeIn K r_ qual=true) (k:PySem.W.keepIn K (.ref f)=true):Q_ K x qual st f (PySem.W.fnOf x qual (cQ st) (bO st) (aB st) (.ref T) kV doc pm an r_ ct) T:=⟨⟨oc,od,kV,doc,pm,an,r_,ct,Rq,rfl,l,c⟩,k⟩
def LA{sp:Sp}(Fn:Q_ K x qual st f fd T)(S:l_ N ps (aB st))(len:∀vs H Q E,sp vs H Q E->vs.length=ps.length)
  (Si:∀(r_:Value) (A:Around) (outer:List Env) (s:Shared) (H:Hp) (vs:List V) (Q:VK) (E:XK),I_ k (A.deeper (envOfC qual (aB st) s.heap.objs.size f r_))->sp vs H Q E ->
   ∃t,SF (mG (PF P w) P w K mg base N qual (aB st) f r_ A outer s H E) (bO st) t/\t { nx:=λ_ H'=>Q .OU H',rt:=Q } (start N vs) H):Oz P w K mg base (PF P w) (k+1) f fd ps sp:=by
 obtain⟨oc,od,kV,doc,pm,an,r_,ct,Rq,rfl,lk,O2⟩:=Fn.ex;exact Hr lk O2 S len λA outer s H vs Q E hr RG=>Si r_ A outer s H vs Q E hr RG
theorem Gg{mb:SM D}{mf:List D->M D}(Fn:Q_ K x qual st f fd T)(Sc:l_ N ps (aB st))
  (hb:∀(r_:Value) (A:Around) (outer:List Env) (s:Shared) (H:Hp) (E:XK),I_ k (A.deeper (envOfC qual (aB st) s.heap.objs.size f r_)) ->
   RK (mG (PF P w) P w K mg base N qual (aB st) f r_ A outer s H E) (bO st) mb)
  (hm:∀ds,ds.length=ps.length->mf ds=mb KD (Q7 ds++List.replicate (N.length - ps.length) none)):Oz P w K mg base (PF P w) (k+1) f fd ps (C_ K ps.length mf):=by
 refine LA Fn Sc (λvs H Q E h=>?_) (λr_ A outer s H vs Q E hr h=>?_)
 ·obtain⟨_,_,_,h1,_⟩:=h;exact h1
 ·obtain⟨G,F0,ds,h1,S0,e⟩:=h;have hl:ds.length=ps.length:=by have:=S0.ln;simp at this;lia
  rw[hm ds hl]at e;refine⟨_,eX,hb r_ A outer s H E hr (λm=>oV K G E m _) KD G F0 _ H _ _ (λz=>z) (λF ρ e z=>Aw z) (pV h1 S0) e ?_⟩;exact⟨λF' σ' H' ρ' s S' o=>(by exact o .OU F' H' s (rE S0 s S') .OU),λF' σ' H' ρ' d' v s S' r o=>(by exact o v F' H' s (rE S0 s S') r),λF' σ' H' ρ' d' v s S' r o=>(o:False).elim,λF' σ' H' ρ' s S' o=>(o:False).elim,λF' σ' H' ρ' s S' o=>(o:False).elim⟩
end
structure CFd(P:Program)(w:World)(K:Fg)(mg:Pn)(base:Heap)(x:Str)(k:Nat)(sp:Sp)(i:Int):Prop where
 ex:∃(f:Addr) (fd:FuncData) (ps:List Str) (u:Value),Oz P w K mg base (PF P w) k f fd ps sp/\mg x=some (.ref f)/\PySem.W.keepIn K (.ref f)=true/\L2.Binds K fd ps [u]/\RelV (.int i) u
def K7(mf:List D->M D)(i:Int)(ps:Pa D):Pu D:=λρ=>ps (λds=>mf (ds++[.int i])) ρ
section
variable {k:Nat} {f:Addr} {sp:Sp} {E:XK} {Z:L2.St} {H:Hp} {Q:VK}
theorem Bc(F:Oz X.prog X.w X.K X.mg X.base (PF X.prog X.w) k f fd ps sp)(hr:I_ k X.A)(hg:Gl X x)(hm:X.mg x=some (.ref f))(hk:PySem.W.keepIn X.K (.ref f)=true)(hb:L2.Binds X.K fd ps [u])(hu:RelV (.int i) u)(hx:mL X Z E)
  (P8:(x==("__debug__" : Str))=false) (he:starEach (e::es) X.env=(false,eval e X.env)::starEach es X.env) (OY:(backTo pos (starEach es X.env)).any (·.1)=false)
  (h:gc X (e::es) Z H λvs H1=>sp (vs++[.int i]) H1 Q E):fR X (.Call (.Name x p) (e::es) [] pos) Z H Q:=by
 unfold fR;intro a_ s I;unfold gc at h;refine ug (lY I hg hm ?_ P8);refine PySem.W.callWith_K (h₀:=X.base) I.ok.mod.Zc hk (u_ (h pos a_ s I) λus s1 ⟨vs,H1,I1,r,q⟩=>⟨I1.Sa,?_⟩) he OY;have r2:Vals (vs++[.int i]) (us++[u]):=r.append (.cons hu .nil);have hl:(us++[u]).length=ps.length:=by rw[<-r2.length];exact F.len _ _ _ _ q
 refine wpAny_call (NX (F.run X.A X.stack s1 H1 ⟨us,[]⟩ (us++[u]) (vs++[.int i]) Q E hr I1.XJ (hb s1 us I1.Sa hl) r2 q) λr s' hq=>?_)
 cases r with
 | error e=>exact hx a_ H1 s1 e s' I1 hq
 | ok fl =>
  cases fl with
  | ret u=>exact I1.after hq
  | next=>exact False.elim hq
  | brk=>exact False.elim hq
  | cont=>exact False.elim hq
end
section
variable {k:Nat} {mf:List D->M D} {ml:List D->M (List D)} {ps:Pa D} {pl:Pa (List D)}
def sQ{F:Hp}{vs:List V}{ds:List D}(r:h_ K F vs ds):h_ K F (vs++[.int i]) (ds++[.int i]):=r.append (.cons (.int i) .nil)
theorem JL(C:CFd X.prog X.w X.K X.mg X.base x k (C_ X.K n mf) i)(hr:I_ k X.A)(ha:AA X (e::es) ps)(hg:Gl X x:=by rfl)(hn:(e::es).length+1=n:=by rfl)
  (P8:(x==("__debug__" : Str))=false:=by decide) (he:starEach (e::es) X.env=(false,eval e X.env)::starEach es X.env:=by rfl) (OY:(backTo pos (starEach es X.env)).any (·.1)=false:=by rfl):AP X (.Call (.Name x p) (e::es) [] pos) (K7 mf i ps):=by
 obtain⟨f,fd,pz,u,Fn,h1,h2,h3,hu⟩:=C.ex;intro G F Z H ρ Q St w;refine Bc Fn hr hg h1 h2 h3 hu (v7 (G:=G)) P8 he OY ?_;refine ha G F Z H ρ _ _ _ St w λds vs F1 H1 s1 S1 hl r1 w1=>?_
 show C_ X.K n mf (vs++[.int i]) H1 Q (EX X G Z);have hz:(vs++[V.int i]).length=n:=by rw[Qh,hl];exact hn
 cases hd:mf (ds++[.int i])with
 | bad=>rw[hd]at w1;exact w1.elim
 | exc e =>
  rw[hd]at w1;exact⟨_,F1,ds++[.int i],hz,dJ S1 (sQ r1),by rw[hd];exact λF' H' Cl dd g xr=>EX.of S1 w1 g xr⟩
 | ret d =>
  rw[hd]at w1;refine⟨_,F1,ds++[.int i],hz,dJ S1 (sQ r1),?_⟩;rw[hd];intro v F2 H2 s2 S2 r2;obtain⟨S3,t3⟩:=i5 (avs':=(ds++[PyData.int i]).map AV.fz) S1 s2 S2;exact w1 F2 H2 s2 S3 v r2
end
section
variable {a_:K_} {Z:L2.St} {H:Hp} {s:Shared} {a b:Addr} {v:V} {r:Value} {A:Around} {E:Of} {k:List Key}
theorem BO{kvs:List (List Key×V)}{Q:Unit->Shared->Prop}(hu:A.units+1<cLine)(I:Inv X a_ Z H s)(e:H a=some (.dT kvs))(eb:H b=some (.tup (k.map kV)))(rv:RelV v r)(l:kvs.length<sizeLine)
  (h:∀s',Inv X a_ Z (upd H a (.dT (putK kvs k v))) s'->Q () s'):wpAny (model X.prog X.w) A (dictSet a (.ref b) r) Q E s:=by
 obtain⟨z,hd,xs,rel,dd⟩:=Eh I.n_ e;have hz:xs.length<=sizeLine:=by rw[<-Paired.length rel];exact z
 have hl:(putK kvs k v).length<=sizeLine:=by have:=fj kvs k v;lia
 refine wpAny_dictSet_heap (hsz:=hz) (show(tupleKind (bL X.prog X.w)).room A from by first|exact hu|exact wn (ai _) hu|(show A.units<cLine;lia)) (gk I.n_ eb) dd λh' Ug hs=>h _ ?_
 obtain⟨q,es,ep,hq,h2,h3,h4,_,h5⟩:=Ug;refine mF I (by rw[e];exact True.intro) hs ⟨q,hq⟩ ⟨hl,hd,_,(rel.put k eb rv).keeps λc ys ec=>?_,q,es,ep,hq,h2,h3,h4,h5⟩;rw[aD (wD ec e (λz=>nomatch z))];exact ec
end
def Kf(tk tv:TE):TE:=λZ H Q=>∀p,H p=none->tk Z (upd H p (.dT [])) λx H1=>tv Z H1 λy H2=>∃b k,x=.ref b/\H2 b=some (.tup (k.map kV))/\H2 p=some (.dT [])/\Q (.ref p) (upd H2 p (.dT [(k,y)]))
def Fv{ke ve:Expr}{tk tv:TE}(hu:X.A.units+1<cLine)(hk:PE X ke tk)(hv:PE X ve tv):PE X (.Dict [some ke] [ve] pos) (Kf tk tv):=by
 intro a_ s Z H Q I q;have hn:=I.n_.fresh (ai s.heap.objs.size);have I1:=I.laid (a:=s.heap.objs.size) (o:=.dT []) (h':=s.heap.push { cls:=.type "dict",data:=.dict #[] }) (t':=s.toks) (λ_ _ q=>Od _ q) (ai _) (qU s.heap I.big);refine wpAny_Dict_any rfl rfl (by simp) (by simp) ?_;have pp:=C9 (pos:=pos) hk hv (Fp (X:=X) (pos:=pos))
 let R:List (V×V)->Hp->Prop:=λps H2=>match ps with
  | [(x,y)]=>∃b k,x=.ref b/\H2 b=some (.tup (k.map kV))/\H2 s.heap.objs.size=some (.dT [])/\Q (.ref s.heap.objs.size) (upd H2 s.heap.objs.size (.dT [(k,y)]))
  | _=>False
 refine u_ (pp a_ _ Z _ R I1 (q _ hn)) λws s2 ⟨ps,H2,I2,rel,hR⟩=>?_
 rcases ps with _|⟨⟨x,y⟩,_|⟨p2,r2⟩⟩
 ·exact(show False from hR).elim
 ·obtain⟨b,k,ex,hb,hp,q2⟩:=hR;subst ex
  cases rel with
  | @cons _ wq _ _ h t =>
   cases t
   obtain⟨w1,w2⟩:=wq;obtain⟨rx,ry⟩:=h;dsimp only at rx ry
   cases rx
   show wpAny _ _ (storeAll s.heap.objs.size [(Value.ref b,w2)]) _ _ _;unfold storeAll;simp only[Nx,List.forIn_nil];refine i_ (i_ (BO hu I2 hp hb ry (by decide) λs3 I3=>s_ (s_ ⟨.ref s.heap.objs.size,_,I3,rfl,q2⟩)))
 ·exact(show False from hR).elim
def sZ{S:Type}(d:D)(m:M S):M S:=match cZ d with
 | true=>m
 | false=>.bad
def GY{S:Type}(i:Nat)(pk pv:Pu D):SM S:=λK ρ=>bd (Wo (pk ρ)) λkd=>bd (Wo (pv ρ)) λd=>match gJ ρ i with
 | true=>sZ kd (K.nx (ρ.set i (some (.ol (.t [(kd,d)])))))
 | false=>.bad
theorem GG{i:Nat}{ke ve:Expr}{pk pv:Pu D}{pos' Ov:Pos}(hu:X.A.units+1100<cLine)(hN:X.N.Nodup)(hi:X.N[i]? = some x)(hx:Loc X.env.scope x)(hk:AP X ke pk)(hv:AP X ve pv)(hs:swapsWith (.Dict [some ke] [ve] Ov) (some (.Name x pos')) pos.line X.env=pure false)(hf:X.fn x=true\/X.env.scope.names.lookup x=some .local) :
  AS (S:=S) X (.Assign [.Name x pos'] (.Dict [some ke] [ve] Ov) pos) (GY i pk pv):=λOK K G F Z H ρ E hO hX St ok eo=>by
 unfold GY at ok
 cases e1:pk ρ with
 | bad=>rw[e1]at ok;exact(hO ok).elim
 | exc e=>rw[e1]at ok;exact(hO ok).elim
 | ret kd =>
 cases e2:pv ρ with
 | bad=>rw[e1,e2]at ok;exact(hO ok).elim
 | exc e=>rw[e1,e2]at ok;exact(hO ok).elim
 | ret d =>
 rw[e1,e2]at ok;have ok:OK (match gJ ρ i with|true=>sZ kd (K.nx (ρ.set i (some (.ol (.t [(kd,d)])))))|false=>.bad):=ok
 cases hq:gJ ρ i with
 | false=>rw[hq]at ok;exact(hO ok).elim
 | true =>
 rw[hq]at ok;have ok:OK (sZ kd (K.nx (ρ.set i (some (.ol (.t [(kd,d)])))))):=ok;unfold sZ at ok
 cases hq1:cZ kd with
 | false=>rw[hq1]at ok;exact(hO ok).elim
 | true =>
 rw[hq1]at ok;obtain⟨hl,Rt⟩:=dD hq;obtain⟨ks,rfl⟩:=eP hq1;refine ik (jC hN hi hx (Fv (by lia) aN aN) hs hf) λp hp=>?_
 have fp:=St.fh.free hp;have op:=St.oh.free hp;have S1:=(St.lay (o:=.dT []) hp).hold (p:=p) (o:=.dT []) aJ fp (St.fresh_ne hp);refine hk _ F Z _ ρ _ S1 ?_;rw[e1];intro F1 H1 s1 S2 kx rx;refine hv _ F1 Z H1 ρ _ S2 ?_;rw[e2];intro F2 H2 s2 S3 y ry;obtain⟨S4,Zk,fp2,ne2⟩:=S3.SH op;obtain⟨b,rfl,hb⟩:=gg (rx.mono s2);refine⟨b,ks,rfl,S4.fh _ _ hb,Zk,?_⟩;refine eo.nx F2 _ _ _ (s1.trans s2) ((S4.R6 (o:=.dT [(ks,y)]) fp2 op ne2).store Rt hl (.inr ⟨.t [(cE ks,d)],rfl,p,rfl,⟨fp2,op,[(ks,y)],aJ,rfl,.cons ry .nil⟩,ne2⟩)) ok
def ID{S:Type}(d:D)(f:Str)(m:M S):M S:=match ZJ d f with
 | true=>m
 | false=>.bad
def Ds{S:Type}(ds:List D)(k:D->M S):M S:=match ds.getLast? with
 | some d=>k d
 | none=>.bad
def Yy(K:Fg)(T:Addr)(i:Int):Prop:=∃(o:Obj) (n:Nat) (u:Value),K.lookup T=some o/\o.data=.seq #[u] n/\RelV (.int i) u
section
variable {f:Addr}
def Q_.XY(F:Q_ K x qual st f fd T)(hT:Yy K T i)(h:∀(kV doc pm:Value) (an:Option Addr) (r_ ct:Value) (us:List Value) (u:Value),us.length=ps.length->∃k:Option (Array Value)->Sem (List (Str×Value)),bindArgs (PySem.W.fnOf x qual (cQ st) (bO st) (aB st) (.ref T) kV doc pm an r_ ct) ⟨us,[]⟩=seqItems? (.ref T) >>= k/\k (some #[u])=pure (ps.zip us)):L2.Binds K fd ps []:=by
 obtain⟨oc,od,kV,doc,pm,an,r_,ct,Rq,rfl,lk,O2⟩:=F.ex;obtain⟨o,n,u,h1,h2,h3⟩:=hT;intro s us X hl;rw[li]at hl ⊢;obtain⟨k,e1,e2⟩:=h kV doc pm an r_ ct us u hl;exact PySem.W.binds_K X rfl h1 h2 e1 e2
def Q_.XX(F:Q_ K x qual st f fd T)(hT:Yy K T i)(h:∀(kV doc pm:Value) (an:Option Addr) (r_ ct:Value) (us:List Value) (u:Value),us.length+1=ps.length->∃k:Option (Array Value)->Sem (List (Str×Value)),bindArgs (PySem.W.fnOf x qual (cQ st) (bO st) (aB st) (.ref T) kV doc pm an r_ ct) ⟨us,[]⟩=seqItems? (.ref T) >>= k/\k (some #[u])=pure (ps.zip (us++[u]))):L2.Binds K fd ps [hT.choose_spec.choose_spec.choose]:=by
 obtain⟨oc,od,kV,doc,pm,an,r_,ct,Rq,rfl,lk,O2⟩:=F.ex;have h1:=hT.choose_spec.choose_spec.choose_spec.1;have h2:=hT.choose_spec.choose_spec.choose_spec.2.1;intro s us X hl;obtain⟨k,e1,e2⟩:=h kV doc pm an r_ ct us hT.choose_spec.choose_spec.choose (by simpa using hl);exact PySem.W.binds_K X rfl h1 h2 e1 e2
end
section
variable {α:Type} {l:List α}
def ln0(h:l.length=0):l=[]:=List.eq_nil_of_length_eq_zero h
def lnS(h:l.length=n+1):∃a t,l=a::t/\t.length=n :=
 List.recOn (motive:=λl=>l.length=n+1->∃a t,l=a::t/\t.length=n) l (λh=>(Nat.succ_ne_zero n h.symm).elim) (λa t _ h=>⟨a,t,rfl,Nat.succ.inj h⟩) h
def UZ(h:l.length=1):∃a,l=[a]:=by obtain⟨a,t,e,q⟩:=lnS h;exact⟨a,by rw[e,ln0 q]⟩
def ln2(h:l.length=2):∃a b,l=[a,b]:=by obtain⟨a,t,rfl,q⟩:=lnS h;obtain⟨b,rfl⟩:=UZ q;exact⟨a,b,rfl⟩
def Xj(h:l.length=3):∃a b c,l=[a,b,c]:=by obtain⟨a,t,rfl,q⟩:=lnS h;obtain⟨b,c,rfl⟩:=ln2 q;exact⟨a,b,c,rfl⟩
def ln4(h:l.length=4):∃a b c d,l=[a,b,c,d]:=by obtain⟨a,t,rfl,q⟩:=lnS h;obtain⟨b,c,d,rfl⟩:=Xj q;exact⟨a,b,c,d,rfl⟩
end
section
variable {h:Heap} {mg:Pn} {f:Addr} {oc:Value} {od an:Option Addr} {Rq:Array (Option Value)} {kV doc pm r_ ct:Value}
def Fa(K:Fg)(x:Str)(st:Stmt):Prop:=∃f fd,PySem.W.nsIn K mainGlobals x=some (some (.ref f))/\Oy K x x st f fd
def bY(a:PySem.W.nsIn K mainGlobals x=some (some (.ref f)))(l:K.lookup f=some ⟨oc,od,.func (PySem.W.fnOf x x (cQ st) (bO st) (aB st) .none kV doc pm an r_ ct),Rq⟩)
  (c:PySem.W.codeIn K r_ x=true) (k:PySem.W.keepIn K (.ref f)=true):Fa K x st:=⟨f,_,a,D4 l c k⟩
def FaV(K:Fg)(x:Str)(st:Stmt)(i:Int):Prop:=∃f fd T,PySem.W.nsIn K mainGlobals x=some (some (.ref f))/\Q_ K x x st f fd T/\Yy K T i
def Jj{o:Obj}(a:PySem.W.nsIn K mainGlobals x=some (some (.ref f)))(l:K.lookup f=some ⟨oc,od,.func (PySem.W.fnOf x x (cQ st) (bO st) (aB st) (.ref T) kV doc pm an r_ ct),Rq⟩)
  (c:PySem.W.codeIn K r_ x=true) (k:PySem.W.keepIn K (.ref f)=true) (dl:K.lookup T=some o) (de:o.data=.seq #[u] n) (dr:RelV (.int i) u):FaV K x st i:=⟨f,_,T,a,Gc l c k,o,n,u,dl,de,dr⟩
def Xa(K:Fg)(x qual:Str)(st:Stmt)(fl:List Str):Prop:=∃C D f fd,PySem.W.nsIn K mainGlobals x=some (some (.ref C))/\Oy K "__init__" qual st f fd/\XC K C D f/\XQ K C x/\PySem.W.keepIn K (.ref C)=true/\(∀f∈fl,rM K C f)/\PySem.W.exmOne K (.ref C) (.ref C)=some true
def JZ{D N:Addr}{nm qn:Str}{bs sb:List Value}{sn:List Str}{ab:Bool}{co:Option Bool}{dd:Option Addr}{k0 k1 k2 k3 k5:Option Value}{fl:List Str}
  (xa:PySem.W.nsIn K mainGlobals x=some (some (.ref C))) (xb:K.lookup C=some (excClassObj nm qn C N bs (.ref D::UQ) true sn sb ab co dd k0 k1 k2 k3 k5 "ValueError.__new__")) (xc:PySem.W.findIn K (.ref C) "__init__"=some (some (.ref f)))
  (xd:K.lookup f=some ⟨oc,od,.func (PySem.W.fnOf "__init__" qual (cQ st) (bO st) (aB st) .none kV doc pm an r_ ct),Rq⟩) (xe:PySem.W.codeIn K r_ qual=true) (xf:PySem.W.keepIn K (.ref f)=true) (xg:PySem.W.keepIn K (.ref C)=true)
  (xh:PySem.W.tailIn K UQ (.ref D::UQ)=true) (xi:PySem.W.typeIn K (.ref f)=some (.type "function")) (xj:PySem.W.findIn K (.ref C) "__setattr__"=some (some (.builtin "object.__setattr__"))) (xk:PySem.W.findIn K (.ref C) "__getattribute__"=some (some (.builtin "BaseException.__getattribute__")))
  (xl:PySem.W.findIn K (.ref C) "__getattr__"=some none) (xm:PySem.W.exmOne K (.ref C) (.ref C)=some true) (xp:PySem.W.findIn K (.ref C) "__class__"=some (some (.builtin "object.__class__"))) (xq:PySem.W.specialIn K (.builtin "object.__class__") "__get__"=some (some (.builtin "getset_descriptor.__get__")))
  (xr:PySem.W.takesIn K (.builtin "object.__class__")=some true) (xo:(["bool","int","str","list","tuple","dict"].all λT=>PySem.W.kitOne K (.ref C) (.type T)==some false)=true) (xn:∀f∈fl,rM K C f):Xa K x qual st fl :=
 ⟨C,D,f,_,xa,D4 xd xe xf,⟨⟨nm,qn,N,bs,sn,sb,ab,co,dd,k0,k1,k2,k3,k5,xb⟩,xh,xc,xi,xj,xk,xl⟩,⟨xa,⟨_,_,⟨nm,qn,N,bs,sn,sb,ab,co,dd,k0,k1,k2,k3,k5,xb⟩,xh,xc,xi,xj,xk,xl⟩,⟨xp,xq,xr⟩,JY xo⟩,xg,xn,xm⟩
def na0:∀f∈([]:List Str),rM K C f:=λ_ h=>(nomatch h)
def IK{D:Addr}(a:PySem.W.nsIn K mainGlobals x=some (some (.ref C)))(b:PySem.W.nsIn K mainGlobals x=some (some (.ref D))):C=D:=by
 rw[a]at b;cases b;rfl
def Ln:Option (Option Value)->Bool
 | some none=>true
 | _=>false
def LH{l:List Str}(X:K.In h)(G:h.Ns mainGlobals mg)(z:(l.all λx=>Ln (PySem.W.nsIn K mainGlobals x))=true):∀x∈l,mg x=none:=λx hx=>by
 have q:=List.all_eq_true.mp z x hx;generalize e:PySem.W.nsIn K mainGlobals x=o at q
 match o,q with
 | some none,_=>exact PySem.W.mg_none_of X G e
end
def mB:D->D->Option D
 | .list xs,.int i=>some (.list (cutD xs (some i) none))
 | _,_=>none
def Ca{a b:Expr}{ma mb:Ev S D}{p2:Pos}(ha:AE X a ma)(hb:AE X b mb):AE X (.Subscript a (.Slice (some b) none none p2) pos) (Jp mB ma mb) :=
 λOK x k G F Z H ρ Q hO hX St ok kk=>Po (v4 zF aN (zP aN) zQ) (ha OK x _ G F Z H ρ _ hO hX St ok λd v F1 H1 ρ1 s1 S1 r1 o1=>hb OK x _ G F1 Z H1 ρ1 _ hO hX S1 o1 λd2 v2 F2 H2 ρ2 s2 S2 r2 o2=>by
  obtain⟨res,e,o'⟩:=dA hO o2;unfold mB at e;split at e
  case h_2=>cases e
  rename_i ds i
  cases e
  cases r2
  have r3:=r1.mono s2;obtain⟨a,vs,rfl,h1,h2⟩:=OR.list (H:=H2) S2.fh (Or.inl r3);refine⟨i,rfl,a,vs,rfl,h1,λq hq=>?_⟩;obtain⟨S4,r4⟩:=S2.OO hq (u3 h2 (some i) none);obtain⟨F5,s5,S5,r5⟩:=S4.settle r4
  exact kk _ _ F5 _ ρ2 (s1.trans (s2.trans s5)) S5 r5 o')
end L4
set_option maxHeartbeats 3200000
namespace WD
open PySem PyProof.Rows
section
variable {prog:Program}{w:World}{A:Around}{E:Of}
theorem FN{s:Shared}{a:Addr}{o:Obj}{xs:Array Value}{k:Nat}{name:Str}{u:Tok}{Q:Of}
  (hx:s.heap.get? a=some o) (hc:o.cls=.type "list") (Sh:o.data=.seq xs k) (hd:o.dict=none) (UG:typeLookup (.type "list") name=pure none) (UE:(["__module__","__name__","__qualname__","__doc__","__annotations__"]:List Str).contains name=false) (hA:A.handled=none) (hsz:name.length+100<=sizeLine)
  (h:∀h' tk e,Heap.NewExcOf s.heap h' e "AttributeError" -> E (.ref e) { s with heap:=h',toks:=tk }) :
  wpAny (model prog w) A (getAttrBy (.ref a) (.str name u) false) Q E s:=by
 obtain⟨c,Sl,dat,sl⟩:=o;simp only at hc Sh hd;subst hc Sh hd;obtain⟨hp,g,d,tk,os⟩:=s;have hT:∀tk',(⟨hp,g,d,tk',os⟩:Shared).TypeIs (.ref a) "list":=λ_=>⟨_,hx,rfl⟩
 have f1:=sub_AttributeError;have f3:=F.slot_list_getattribute.lookup;have f4:=F.slot_list_getattribute.bind (.ref a);have f5:=am_list_getattr_none;unfold getAttrBy
 repeat (any_goals (first|assumption|exact hT _|((with_reducible show wpAny _ _ (call (Value.builtin "list.__getattribute__") _ _) _ _ _);refine NZ F.slot_list_getattribute (hT _) am_entry_list_getattribute (F.args_list_getattribute_2 _ _) (meets_getattribute_miss_list a xs k sl name _ UG UE hsz) ⟨hx,hA,λh' tk' e Rr=>?_⟩)|wp_step))
 obtain⟨t',u',he⟩:=Rr.there;show wpAny _ _ (getattributeRaised _ _ _ _ _ _ _) _ _ _;unfold getattributeRaised
 repeat (any_goals (first|assumption|wp_step))
 exact h _ _ _ Rr.of
theorem Y7{s:Shared}{a:Addr}{o:Obj}{xs:Array Value}{k:Nat}{name:Str}{Q:Option Value->Shared->Prop}
  (hx:s.heap.get? a=some o) (hc:o.cls=.type "list") (Sh:o.data=.seq xs k) (hd:o.dict=none) (UG:typeLookup (.type "list") name=pure none) (UE:(["__module__","__name__","__qualname__","__doc__","__annotations__"]:List Str).contains name=false) (hA:A.handled=none) (hsz:name.length+100<=sizeLine)
  (h:∀h' tk e,Heap.NewExcOf s.heap h' e "AttributeError" -> Q none { s with heap:=h',toks:=tk }) :
  wpAny (model prog w) A (getAttr? (.ref a) name) Q E s:=by
 unfold getAttr? getAttrBy?;obtain⟨hp,g,d,tk,os⟩:=s
 repeat (any_goals (first|assumption|(with_reducible refine FN (s:=⟨hp,g,d,_,os⟩) hx hc Sh hd UG UE hA hsz λh' tk' e Rr=>?_)|wp_step))
 obtain⟨oe,vs,he,hec,hed,_⟩:=Rr.there;have f1:=sub_AttributeError;obtain⟨c,Sl,dat,sl⟩:=oe;simp only at hec hed;subst hec hed
 repeat (any_goals (first|assumption|wp_step))
 exact h _ _ _ Rr
end
end WD
namespace L4
open PySem PySem.Spec PyProof.Rows L2 L3
variable {X:Cx}{a_:K_}{Z:L2.St}{H F H':Hp}{a p:Addr}{s:Shared}{K:Fg}{o:Obj}{v:V}{A:Around}{e tg:Expr}
section
variable {b:Addr} {y:V} {u r:Value} {E:Of}
theorem Js{Q:Unit->Shared->Prop}(hu:A.units+1<cLine)(I:Inv X a_ Z H s)(g:PJ H a y v H')(ry:RelV y u)(rv:RelV v r)
  (h:∀s',Inv X a_ Z H' s'->(∀b o,b≠a->s.heap.get? b=some o->s'.heap.get? b=some o)->Q () s') :
  wpAny (model X.prog X.w) A (dictSet a u r) Q E s:=by
 rcases g with ⟨kvs,k,e,ey,l,eH⟩|⟨kvs,k,b,e,ey,eb,l,eH⟩
 ·subst ey eH;obtain⟨z,hd,vs,rel,dd⟩:=Ej I.n_ e;have hz:vs.length<=sizeLine:=by rw[<-rel.length];exact z
  have hl:(putK kvs k v).length<=sizeLine:=by have:=fj kvs k v;lia
  refine wpAny_dictSet_pairs (hsz:=hz) (kz ry) dd λh' Ug hs=>h _ ?_ λb o n e=>(hs.2 b n).trans e
  have he:∃q,h'.get? a=some q:=let ⟨q,_,_,hq,_⟩:=Ug;⟨q,hq⟩
  exact mF I (by rw[e];exact True.intro) hs he (Ek hl hd (rel.put k rv) Ug)
 ·subst ey eH
  cases (show u=Value.ref b from ry)
  obtain⟨z,hd,xs,rel,dd⟩:=Eh I.n_ e;have hz:xs.length<=sizeLine:=by rw[<-Paired.length rel];exact z
  have hl:(putK kvs k v).length<=sizeLine:=by have:=fj kvs k v;lia
  refine wpAny_dictSet_heap (hsz:=hz) (show(tupleKind (bL X.prog X.w)).room A from by first|exact hu|exact wn (ai _) hu|(show A.units<cLine;lia)) (gk I.n_ eb) dd λh' Ug hs=>h _ ?_ λb o n e=>(hs.2 b n).trans e
  obtain⟨q,es,ep,hq,h2,h3,h4,_,h5⟩:=Ug;refine mF I (by rw[e];exact True.intro) hs ⟨q,hq⟩ ⟨hl,hd,_,(rel.put k eb rv).keeps λc ys ec=>?_,q,es,ep,hq,h2,h3,h4,h5⟩;rw[aD (wD ec e (λz=>nomatch z))];exact ec
def px(g:PJ H a y v H'):H a≠none/\∀b,b≠a->H' b=H b:=by
 rcases g with ⟨kvs,k,e,ey,l,eH⟩|⟨kvs,k,b,e,ey,eb,l,eH⟩
 ·subst eH;exact⟨by rw[e];exact(λz=>nomatch z),λb n=>aD n⟩
 ·subst eH;exact⟨by rw[e];exact(λz=>nomatch z),λb n=>aD n⟩
end
inductive PH(K:PySem.W.Frag)(d:Addr):Hp->List V->Hp->Prop where
 | nil {H:Hp}:PH K d H [] H
 | cons {H H1 H':Hp} {t:Addr} {k v:V} {rest:List V}:N_ K H t [k,v]->PJ H d k v H1->PH K d H1 rest H'->PH K d H (.ref t::rest) H'
def tQ:entryFor table "dict.update.loop"=some Builtin.«dict.update.loop»:=entryFor_of_tree (by kernel_rfl)
def j3:plainId "dict.update.loop" = true:=by decide +kernel
section
theorem LF{R:Result->Shared->Prop}(hh:A.handled=none)(hu:A.units+2<cLine){d it:Addr}{xs:List V}(f1:it≠X.env.locals)(f3:it∈X.ex\/X.s₀.heap.objs.size<=it)
  (f4:∀x c,X.env.cells.lookup x=some c->c≠it) (f5:∀p∈X.pn++a_,p.1≠it):∀(rest:List V) (i:Nat) (j:Int) (u:Tok) (s:Shared) (H H':Hp),Inv X a_ Z H s->H it=none->s.heap.IsListIter it p i ->
  (∀H1,(∀b,b≠d->H1 b=H b)->Ot X.K H1 p xs)->xs.drop i=rest->PH X.K d H rest H'->(∀s',Inv X a_ Z H' s'->R (.ok (.ret .none)) s') ->
  codeAny (model X.prog X.w) A (.builtin "dict.update.loop" ⟨[.ref d,.ref it,.int j u,.none],[]⟩) R s:=by
 intro rest
 induction rest with
 | nil =>
  intro i j u s H H' I f0 st kp hd P hR
  cases P
  refine codeAny_builtin tQ ?_;rw[Around.under_plainId j3 _];show wpAny _ A.in1 (pyNext (.ref it) >>= _) _ _ s;obtain⟨k_,rv,pl,hz⟩:=I.list (kp H λ_ _=>rfl);have hl:=rv.length;have hl2:=congrArg List.length hd;rw[ul,At]at hl2;refine i_ (wpAny_pyNext_list_end (show A.in1.handled=none from hh) st pl.isList (by simp;lia) λh' eb=>?_);exact i_ (s_ (s_ (hR _ (I.turned (t':=s.toks) (λb o hb e=>eb b o hb e) f0 f1 f3 f4 f5))))
 | cons q rest ih =>
  intro i j u s H H' I f0 st kp hd P hR
  cases P with
  | @cons _ H1 _ t k v _ tq g P =>
  refine codeAny_builtin tQ ?_;rw[Around.under_plainId j3 _];show wpAny _ A.in1 (pyNext (.ref it) >>= _) _ _ s;obtain⟨k_,rv,pl,hz⟩:=I.list (kp H λ_ _=>rfl);have hx:xs[i]? = some (.ref t):=by
   have:=congrArg (λl=>l[0]?) hd;simpa using this
  obtain⟨w,hw,QJ⟩:=rv.get hx
  cases (show w=Value.ref t from QJ)
  refine i_ (wpAny_pyNext_list_item st pl.isList (x:=.ref t) (by simpa using hw) λh' TK sb=>?_);dsimp only;have I1:Inv X a_ Z H { s with heap:=h' }:=I.turned (t':=s.toks) (λb o hb e=>(sb.2 b hb).trans e) f0 f1 f3 f4 f5;obtain⟨tt,vt,pt,_⟩:=I1.tuple tq
  cases vt with
  | cons rk vt =>
  cases vt with
  | cons rv' vt =>
  cases vt
  obtain⟨ot,et,ct,n,dt⟩:=pt;refine i_ (um ?_);have hT:({ s with heap:=h' }:Shared).TypeIs (.ref t) "tuple":=⟨ot,et,ct⟩;obtain⟨c,Sl,dat,sl⟩:=ot;simp only at ct dt;subst ct dt;refine i_ (wpAny_tryCatch ?_);unfold Builtin.Dict.pairItems;refine i_ (NU hT ?_);rw[al (by decide)];refine i_ (yi et rfl ?_);refine s_ ?_;show wpAny _ _ (holding [_,_] (dictSet d _ _)) _ _ _;have nd:it≠d:=λz=>(px g).1 (by rw[<-z];exact f0)
  refine um (Js (by show A.units+1+1<cLine;exact hu) I1 g rk rv' λs2 I2 k2=>?_);refine s_ ⟨plainId_quiet j3 _,?_⟩;exact ih (i+1) _ _ s2 H1 H' I2 (((px g).2 it nd).trans f0) (TK.at λo e=>k2 it o nd e) (λH2 h2=>kp H2 λb n=>(h2 b n).trans ((px g).2 b n)) (by rw[<-List.drop_drop,hd];rfl) P hR
end
section
variable {E:Of}
def wL:typeLookup (.type "list") "keys" = pure none:=by rw[typeLookup_type,builtinLookup_eq_fast];kernel_rfl
theorem zh{xs:List V}{ob:HO}{Q:Of}(hh:A.handled=none)(hu:A.units+10<cLine)(I:Inv X a_ Z H s)(hob:ob=.dK []\/ob=.dT [])
  (hq:∀H1,(∀b,b≠s.heap.objs.size->H1 b=H b)->Ot X.K H1 p xs) (P:PH X.K s.heap.objs.size (upd H s.heap.objs.size ob) xs H') (h:∀s',Inv X a_ Z H' s'->Q (.ref s.heap.objs.size) s') :
  wpAny (model X.prog X.w) A (call (.type "dict") [.ref p]) Q E s:=by
 refine callType_codes (Q₁:=λobj s₁=>obj=.ref s.heap.objs.size/\s₁={ s with heap:=s.heap.push { cls:=.type "dict",data:=.dict #[] } }) F.kt_called_dict (F.kt_typeCall_dict_1 _) F.entry_dict_init (kt_code_dict_new _ ⟨rfl,rfl⟩) ?_;rintro obj s₁ ⟨rfl,rfl⟩;have I1:Inv X a_ Z (upd H s.heap.objs.size ob) { s with heap:=s.heap.push { cls:=.type "dict",data:=.dict #[] },toks:=s.toks }:=by
  rcases hob with rfl|rfl
  ·exact I.laid (λ_ _ q=>Od _ q) (ai _) (xA s.heap I.big)
  ·exact I.laid (λ_ _ q=>Od _ q) (ai _) (qU s.heap I.big)
 have hT:({ s with heap:=s.heap.push { cls:=.type "dict",data:=.dict #[] } }:Shared).TypeIs (.ref s.heap.objs.size) "dict":=⟨_,OX _ rfl,rfl⟩;refine⟨hT,F.args_dict_init_2 _ _,?_⟩;unfold Builtin.«dict.__init__»;refine i_ ?_;unfold Builtin.Dict.selfAndRest;refine i_ (Ob hT ?_);show wpAny _ _ (pure (s.heap.objs.size,[Value.ref p])) _ _ _;refine s_ ?_;show wpAny _ _ (Builtin.Dict.updateFrom "dict.__init__" s.heap.objs.size (.ref p) [] .none) _ _ _;unfold Builtin.Dict.updateFrom;have q1:=hq (upd H s.heap.objs.size ob) (λb n=>aD n);obtain⟨k_,rv,pl,hz⟩:=I1.list q1;obtain⟨o,n,e,c,d,dt⟩:=id pl;refine i_ (NU ⟨o,e,c⟩ ?_);rw[al (by decide)];refine i_ (WD.Y7 (A:=A.in1.in1) e c dt d wL (by decide) hh (by rw[NL];decide) λh2 tk2 ex ne=>?_);simp only[Option.isNone_none,oP];have I2:=I1.kept (h':=h2) (t':=tk2) ne.keeps;obtain⟨P5,Wl,pl2,_⟩:=I2.list q1;refine i_ (NV ?_);refine i_ (Na pl2.isList ?_);obtain⟨f0,f1,f2,f3,f4,f5⟩:=I2.Pm (H':=upd H s.heap.objs.size ob) (ai _) (I2.n_.fresh (ai _));refine s_ ⟨plainId_quiet j3 _,?_⟩;exact LF (A:=A.in1) hh (by show A.units+1+2<cLine;lia) f1 f3 f4 f5 xs 0 _ _ _ _ H' (I2.kept (t':=tk2) λb o e=>Od _ e) f0 ⟨_,OX _ rfl,rfl,rfl⟩ (λH2 h2=>hq H2 λb n=>(h2 b n).trans (aD n)) rfl P λs' J=>⟨rfl,h s' J⟩
end
def yW(t:Bool):HO:=if t then .dT []else .dK []
def L5(K:PySem.W.Frag)(t:Bool)(te:TE):TE:=λZ H Q=>te Z H λx H1=>∃a xs,x=.ref a/\∀p,H1 p=none->(∀H2:Hp,(∀b,b≠p->H2 b=H1 b)->Ot K H2 a xs)/\∃H',PH K p (upd H1 p (yW t)) xs H'/\Q (.ref p) H'
section
variable {te:TE} {p pos:Pos}
def Fw(t:Bool)(hc:X.calm=true)(hu:X.A.units+10<cLine)(hg:Gl X "dict")(hm:X.mg "dict"=none)(ha:PE X e te)(he:starEach [e] X.env=[(false,eval e X.env)]) :
  PE X (.Call (.Name "dict" p) [e] [] pos) (L5 X.K t te):=by
 intro a_ s Z H Q I h;refine ug (i3 I hg hm (show bootBuiltins "dict"=some (.type "dict") by decide +kernel) ?_ (by decide) (by decide));refine re (T := "dict") ?_ he rfl;rw[he];show wpAny _ _ (spliced ((false,eval e X.env)::backTo pos [])) _ _ s;refine Calls.spliced_cons (u_ (ha a_ s Z H _ I h) λv s1 ⟨x,H1,I1,r1,q1⟩=>?_);obtain⟨a,xs,rfl,k⟩:=q1
 cases r1
 refine Calls.spliced_nil ?_;obtain⟨hq,H',P,q⟩:=k s1.heap.objs.size (I1.n_.fresh (ai _));exact zh (I1.ok.hd hc) hu I1 (ob:=yW t) (by cases t;exact .inl rfl;exact .inr rfl) hq P λs' J=>⟨.ref s1.heap.objs.size,_,J,rfl,q⟩
end
def qk(t:Bool):List (D×D)->List D->Option (List (D×D))
 | es,[]=>some es
 | es,.tuple [k,d]::r=>(iE t es k d).bind λZL=>qk t ZL r
 | _,_=>none
theorem KQ{t:Bool}{es ZL:List (D×D)}{kd d:D}{x:V}(hh:OH K F H p (Vs t es))(sm:f_ F H)(rk:Rep K F x kd)(rv:Rep K F v d)(hp:iE t es kd d=some ZL) :
  ∃H1,PJ H p x v H1/\OH K F H1 p (Vs t ZL):=by
 unfold iE at hp;split at hp
 case isFalse=>cases hp
 rename_i hc
 cases hp
 rw[am,OB]at hc
 cases t with
 | true =>
  obtain⟨ks,rfl⟩:=eP hc.1;obtain⟨b,rfl,hb⟩:=gg rk;obtain⟨kvs,h1,h2,h3⟩:=(show OH K F H p (.t es)from hh);obtain⟨p1,p2⟩:=o7 lc ks rv h2 h3;have hlen:kvs.length=es.length:=by have:=congrArg List.length h2;simpa using this.symm
  exact⟨_,PJ.t h1 (sm _ _ hb) (by lia),⟨_,aJ,p1,p2⟩⟩
 | false =>
  obtain⟨ks,rfl⟩:=iC hc.1;obtain rfl:=jz rk;obtain⟨kvs,h1,h2,h3⟩:=(show OH K F H p (.k es)from hh);obtain⟨p1,p2⟩:=o7 yJ ks rv h2 h3;have hlen:kvs.length=es.length:=by have:=congrArg List.length h2;simpa using this.symm
  exact⟨_,PJ.k h1 (by lia),⟨_,aJ,p1,p2⟩⟩
def Fh{t:Bool}(fp:F p=none):∀{vs:List V} {ds:List D} {es T6:List (D×D)} {H:Hp},h_ K F vs ds->OH K F H p (Vs t es)->f_ F H->qk t es ds=some T6 ->
  ∃H',PH K p H vs H'/\OH K F H' p (Vs t T6)/\∀b,b≠p->H' b=H b:=by
 intro vs
 induction vs with
 | nil =>
  intro ds es T6 H r hh sm e
  cases r
  cases e
  exact⟨H,.nil,hh,λ_ _=>rfl⟩
 | cons x vs ih =>
  intro ds es T6 H r hh sm e
  cases r with
  | cons r1 r2 =>
  unfold qk at e;split at e
  ·rename_i q;cases q
  ·rename_i k d r q
   cases q
   obtain⟨ZL,e1,e2⟩:=Option.bind_eq_some_iff.mp e;obtain⟨a,ws,rfl,ha,QJ⟩:=r1.OZ
   cases QJ with
   | cons rk QJ =>
   cases QJ with
   | cons rv QJ =>
   cases QJ
   obtain⟨H1,g,hh1⟩:=KQ hh sm rk rv e1;have nb:=(px g).2;have sm1:f_ F H1:=λb o z=>by rw[nb b (λy=>by rw[y,fp]at z;cases z)];exact sm b o z
   obtain⟨H',P,Yd,n2⟩:=ih r2 hh1 sm1 e2;exact⟨H',.cons (N_.of (sm _ _ ha)) g P,Yd,λb n=>(n2 b n).trans (nb b n)⟩
  ·cases e
def Ay(t:Bool):D->Option (List (D×D))
 | .list ds=>qk t [] ds
 | _=>none
def Mf{S:Type}(t:Bool)(i:Nat)(me:Ev S D):SM S:=λK ρ=>me K.x (λd ρ1=>match gJ ρ1 i with
 | true=>(oM (Ay t d)).on (λe=>K.x e ρ1) (λes=>K.nx (ρ1.set i (some (.ol (Vs t es)))))
 | false=>.bad) ρ
theorem JG{S:Type}(t:Bool){i:Nat}{x:Str}{me:Ev S D}{p pos pos' Ov:Pos}(hc:X.calm=true)(hu:X.A.units+1100<cLine)(hg:Gl X "dict")(hm:X.mg "dict"=none)(hN:X.N.Nodup)(hi:X.N[i]? = some x)(hx:Loc X.env.scope x)(hk:AE X e me)(he:starEach [e] X.env=[(false,eval e X.env)])
  (hs:swapsWith (.Call (.Name "dict" p) [e] [] Ov) (some (.Name x pos')) pos.line X.env=pure false) (hf:X.fn x=true\/X.env.scope.names.lookup x=some .local) :
  AS (S:=S) X (.Assign [.Name x pos'] (.Call (.Name "dict" p) [e] [] Ov) pos) (Mf t i me):=λOK K G F Z H ρ E hO hX St ok eo =>
 ik (jC hN hi hx (Fw t hc (by lia) hg hm aN he) hs hf) (hk OK K.x _ G F Z H ρ _ hO hX St ok λd v F1 H1 ρ1 s1 S1 r1 o1=>by
  split at o1
  case h_2=>exact(hO o1).elim
  rename_i hq;obtain⟨es,hd,o3⟩:=dA hO o1;obtain⟨hl,Rt⟩:=dD hq;unfold Ay at hd;split at hd
  case h_2=>cases hd
  rename_i ds;obtain⟨a,vs,rfl,h1,h2⟩:=r1.lst_inv;refine⟨a,vs,rfl,λp hp=>?_⟩;have fp:=S1.fh.free hp;have op:=S1.oh.free hp;have smU:∀H2:Hp,(∀b,b≠p->H2 b=H1 b)->f_ F1 H2:=λH2 h b o z=>by rw[h b (λy=>by rw[y,fp]at z;cases z)];exact S1.fh b o z
  obtain⟨H',P,hh,n⟩:=Fh (t:=t) (es:=[]) (H:=upd H1 p (yW t)) fp h2 (by cases t<;>exact⟨[],aJ,rfl,.nil⟩) (smU _ λb n=>aD n) hd;refine⟨λH2 h=>(smU H2 h).seq h1,H',P,?_⟩;obtain⟨o,ho⟩:=hh.some;have eH:H'=upd H1 p o:=funext λb=>by
   by_cases z:b=p
   ·rw[z,ho,aJ]
   ·rw[n b z,aD z,aD z]
  subst eH
  exact eo.nx F1 _ _ _ s1 ((S1.lay (o:=o) hp).store Rt hl (.inr ⟨Vs t es,rfl,p,rfl,⟨fp,op,hh⟩,S1.fresh_ne hp⟩)) o3)
def Z2(a:Addr)(o:Obj)(ks:List Addr):It :=
 ⟨λi H=>(∃u,H a=some (.OQ o u))/\i<ks.length,λi H x H'=>H'=H/\∃b,ks[i]? = some b/\x=.ref b,λi H=>(∃u,H a=some (.OQ o u))/\ks.length<=i⟩
def uY(I:Inv X a_ Z H s)(h:∃u,H a=some (.OQ o u)):s.heap.get? a=some o:=let ⟨u,e⟩:=h;(show v_ X.prog X.w H s.heap a (.OQ o u)from I.n_ a _ e).1
theorem A8{P:Program}{w:World}{K:PySem.W.Frag}{it:Addr}{es:Array DictEntry}{ep:Nat}{ks:List Addr}(c:o.ExactDict)(d:o.data=.dict es ep)(hk:es.toList.map (·.key)=ks.map Value.ref):Turn P w K tg (Z2 a o ks) [it] it (λi h=>h.IsKeyIter it a i es.size ep) where
 mem:=by simp
 obj:=λi h st b hb=>by
  have e:b=it:=by simpa using hb
  subst e;obtain⟨o,e,c,d⟩:=st;exact⟨o,e,λv z=>by rw[d]at z;cases z⟩
 keep:=λi h h' st k=>st.at λo e=>k it (by simp) o e
 item:=by
  intro X hP hw hK hc i a_ s Z H E I hf st ⟨hu,hi⟩;subst hP hw hK;obtain⟨f0,f1,f2,f3,f4,f5⟩:=hf it (by simp);have hl:es.size=ks.length:=by
   have:=congrArg List.length hk;simpa using this
  refine TS.Tp (n:=0) st ⟨o,uY I hu,c,d⟩ (λSf h' TK sb=>?_) λz=>by lia
  have I1:Inv X a_ Z H { s with heap:=h' }:=I.turned (t':=s.toks) (λb o hb e=>(sb.2 b hb).trans e) f0 f1 f3 f4 f5;obtain⟨q,e,c',d'⟩:=id TK;have ek:es[i].key=.ref ks[i]:=by
   have h1:(es.toList.map (·.key))[i]? = (ks.map Value.ref)[i]?:=by rw[hk]
   rw[fu,fu,ac (show i<es.toList.length by simpa using Sf),ac hi]at h1;simpa using h1
  exact⟨_,rfl,An (s:={ s with heap:=h' }) e c' d' (by decide) ⟨.ref ks[i],H,I1,ek,⟨rfl,_,ac hi,rfl⟩,TK,λb hb=>(hf b hb).1⟩⟩
 done:=by
  intro X hP hw hK hc i a_ s Z H E I hf st ⟨hu,hi⟩;subst hP hw hK;obtain⟨f0,f1,f2,f3,f4,f5⟩:=hf it (by simp);have hl:es.size=ks.length:=by
   have:=congrArg List.length hk;simpa using this
  exact TS.Tp (n:=0) st ⟨o,uY I hu,c,d⟩ (λSf=>by lia) λ_=>⟨I.ok.hd hc,λh' eb=>⟨rfl,I.turned (t':=s.toks) (λb o hb e=>eb b o hb e) f0 f1 f3 f4 f5⟩⟩
 self:=λ_ _ _ _ _ st h=>wpAny_pyIter_keyiter st h
def DZ(tl:TE):TI:=λZ H R=>tl Z H λx H1=>∃a o kvs,x=.ref a/\H1 a=some (.OQ o (.dT kvs))/\∀xs:List (List Key×Addr×Value),KT H1 kvs xs->R (Z2 a o (xs.map (·.2.1))) H1
def tI{kvs:List (List Key×V)}{R:It->Hp->Prop}(I:Inv X a_ Z H s)(e:H a=some (.OQ o (.dT kvs)))(q:∀xs:List (List Key×Addr×Value),KT H kvs xs->R (Z2 a o (xs.map (·.2.1))) H) :
  wpAny (model X.prog X.w) X.A (pyIter (.ref a)) (PIE X a_ Z tg R) X.xe s:=by
 obtain⟨g0,z,y,xs,r,ob,es,ep,h1,h2,h3,h4,h5⟩:=(show v_ X.prog X.w H s.heap a (.OQ o (.dT kvs))from I.n_ a _ e);have eo:ob=o:=Option.some.inj (h1.symm.trans g0);subst eo;have hk:es.toList.map (·.key)=(xs.map (·.2.1)).map Value.ref:=by
  rw[h4,ic,ic];exact ng λq _=>rfl
 refine TS.VE y ⟨ob,h1,h2,h3⟩ ?_;refine⟨s.heap.objs.size,[s.heap.objs.size],_,_,H,rfl,I.kept (t':=s.toks) λb o e=>Od _ e,A8 h2 h3 hk,⟨_,OX _ rfl,rfl,rfl⟩,λb hb=>?_,q xs r⟩;have e:b=s.heap.objs.size:=by simpa using hb
 subst e;exact I.Pm (ai _) (I.n_.fresh (ai _))
theorem A6{u:HO}{ks:List Addr}{ds:List D}(h:F a=some (.OQ o u))(r:h_ K F (ks.map V.ref) ds):Walk K (Z2 a o ks) ds F where
 go:=λi G F2 Z H2 ρ s S hi=>⟨⟨u,S.fh _ _ (s _ _ h)⟩,by have:=r.length;rw[L_]at this;lia⟩
 Sw:=λi G F2 Z H2 ρ x H3 d s S hd ⟨e,b,eb,ex⟩=>by
  subst e ex;obtain⟨v,e1,e2⟩:=r.get hd;rw[fu,eb]at e1
  cases e1
  exact⟨F2,f_.refl _,S,e2.mono s⟩
 stop:=λG F2 Z H2 ρ s S=>⟨⟨u,S.fh _ _ (s _ _ h)⟩,by have:=r.length;rw[L_]at this;lia⟩
def nZ(es:List (D×D)):Option (List D):=match es with
 | (k,_)::_=>if cZ k then some (es.map (·.1))else none
 | []=>none
def uo(d:D):Option (List D):=match d with
 | .dict es=>nZ es
 | d=>dQ d
def Mr(p:Pu D):Pu (List D):=λρ=>bd (p ρ) λd=>oM (uo d)
def vW{es:List (D×D)}{ds:List D}(r:Rep K F v (.dict es))(h:nZ es=some ds):ds=es.map (·.1)/\∃a o kvs,v=.ref a/\F a=some (.OQ o (.dT kvs))/\es.map (·.1)=kvs.map (λp=>cE p.1)/\h_ K F (kvs.map (·.2)) (es.map (·.2)):=by
 unfold nZ at h;split at h
 ·rename_i k z T6;split at h
  ·rename_i hk
   cases h
   refine⟨rfl,?_⟩;obtain⟨ks,rfl⟩:=eP hk;generalize he:((cE ks,z)::T6)=el at r
   cases r with
   | Sl h1 h2 h3=>exact⟨_,_,_,rfl,h1,h2,h3⟩
   | @V2 _ kvs _ h1 h2 h3 =>
    subst he
    cases kvs with
    | nil=>simp at h2
    | cons q kvs =>
     obtain⟨q1,q2⟩:=q;simp only[aw,List.cons.injEq]at h2;have:=h2.1
     cases q1<;>cases this
   | exc _ _ _ _ _=>cases he
   | fn _=>cases he
  ·cases h
 ·cases h
theorem jd{pp:Pu D}(h:AP X e pp):AI X tg e (Mr pp):=λG F Z H ρ R S w=>by
 refine vR (t:=λZ H R=>fR X e Z H λx H1=>(∃a o kvs,x=.ref a/\H1 a=some (.OQ o (.dT kvs))/\∀xs:List (List Key×Addr×Value),KT H1 kvs xs->R (Z2 a o (xs.map (·.2.1))) H1)\/((∃a,x=.ref a/\(∃xs,Ot X.K H1 a xs)/\R (Yw X.K a) H1)\/∃a,x=.ref a/\(∃xs,N_ X.K H1 a xs)/\R (Z1 X.K a) H1)) ?_ (h G F Z H ρ _ S (w.bind.imp λd F1 H1 s1 S1 w1 v r1=>?_))
 ·intro a_ s Z H R I h;refine u_ (aN a_ s Z H _ I h) λu s1 ⟨x,H1,I1,r1,q1⟩=>?_
  rcases q1 with ⟨a,o,kvs,rfl,e,q⟩|q1
  ·cases r1
   exact tI I1 e q
  ·rcases q1 with ⟨a,e,⟨xs,hq⟩,q⟩|⟨a,e,⟨xs,hq⟩,q⟩
   ·subst e
    cases r1
    obtain⟨k_,rv,p,hz⟩:=I1.list hq;refine Na p.isList ?_;refine⟨s1.heap.objs.size,[s1.heap.objs.size],_,_,H1,rfl,I1.kept (t':=s1.toks) λb o e=>Od _ e,mO a _,⟨_,OX _ rfl,rfl,rfl⟩,λb hb=>?_,q⟩;have e:b=s1.heap.objs.size:=by simpa using hb
    subst e;exact I1.Pm (ai _) (I1.n_.fresh (ai _))
   ·subst e
    cases r1
    obtain⟨k_,rv,p,hz⟩:=I1.tuple hq;refine ue (show s1.heap.IsTuple a k_.toArray from p) ?_;refine⟨s1.heap.objs.size,[s1.heap.objs.size],_,_,H1,rfl,I1.kept (t':=s1.toks) λb o e=>Od _ e,pP a _,⟨_,OX _ rfl,rfl,rfl⟩,λb hb=>?_,q⟩;have e:b=s1.heap.objs.size:=by simpa using hb
    subst e;exact I1.Pm (ai _) (I1.n_.fresh (ai _))
 ·obtain⟨ds,hd,k⟩:=w1.opt
  cases d with
  | dict es =>
   obtain⟨rfl,a,o,kvs,rfl,h1,h2,h3⟩:=vW r1 hd;refine .inl ⟨a,o,kvs,rfl,S1.fh _ _ h1,λxs kt=>?_⟩;obtain⟨F2,s2,S2,r2,_⟩:=CN kt S1;refine k F2 H1 s2 S2 _ (A6 (s2 _ _ h1) ?_);rw[h2,ic];exact r2
  | _=>exact .inr (vQ S1.fh r1 hd (k F1 H1 (f_.refl _) S1))
end L4
namespace TS
open PySem
section
variable {prog:Program}{w:World}{A:Around}{E:Of}{s:Shared}{d it:Addr}{es:Array DictEntry}{ep i:Nat}
theorem UB{v:Addr}{Q:Of}(hv:s.heap.IsItemsView v d)(x:DR s.heap d es ep)
  (q:Q (.ref s.heap.objs.size) { s with heap:=s.heap.push { cls:=.type "dict_itemiterator",data:=.fields #[.none,.bool false,.ref d,.int 0 0,.int es.size 0,.int ep 0,.none,.none] } }):wpAny (model prog w) A (pyIter (.ref v)) Q E s:=by
 obtain⟨o,e1,e2,e3⟩:=id x;obtain⟨ov,g1,g2,g3⟩:=id hv;have own:Builtin.Dict_items.ownsTuple "dict_itemiterator" = true:=by decide
 refine wpAny_pyIter_slot hv.typeIs F.slot_dict_items_iter (ou F.slot_dict_items_iter hv.typeIs F.entry_dict_items_iter ?_ (F.args_dict_items_iter_1 _));unfold Builtin.«dict_items.__iter__»;refine i_ (s_ (i_ ?_));unfold Builtin.Dict_items.dictOf;refine i_ (ig g1 g3 (x:=.ref d) rfl (s_ (i_ ?_)));unfold Builtin.Dict_items.newIterator;refine i_ (Nc e1 e3 (i_ (N5 e1 e3 ?_)));simp only[own,oP];refine im (s_ ⟨_,rfl, "dict_itemiterator",_,⟨_,OX _ rfl,rfl⟩,F.slot_dict_itemiterator_next.lookup,by simpa[rawInt,Builtin.Dict_items.ownedTupleFields]using q⟩) (by simp only[sizeOk,Builtin.Dict_items.ownedTupleFields,ax,Qh,gs,At,NL];lia)
def R8{ok ov:Value}{Q:Option Value->Shared->Prop}(hit:IsItemIter s.heap it d i es.size ep ok ov)(x:DR s.heap d es ep)
  (q1:∀(hi:i<es.size) (h':Heap),IsItemIterOut h' it d (i+1) es.size ep es[i].key es[i].val s.heap.objs.size->h'.get? s.heap.objs.size=some { cls:=.type "tuple",data:=.seq #[es[i].key,es[i].val] } ->
   (∀b o,b≠it->s.heap.get? b=some o->h'.get? b=some o)->Q (some (.ref s.heap.objs.size)) { s with heap:=h' })
  (q2:es.size<=i->A.handled=none/\∀h',Heap.ExtBut it s.heap h'->Q none { s with heap:=h' }):wpAny (model prog w) A (pyNext (.ref it)) Q E s:=by
 obtain⟨hp,g,dr,tk,os⟩:=s;obtain⟨od,f1,f2,f3⟩:=id x;have T:Shared.TypeIs ⟨hp,g,dr,tk,os⟩ (.ref it) "dict_itemiterator":=⟨_,hit,rfl⟩;have own:Builtin.Dict_items.ownsTuple "dict_itemiterator" = true:=by decide
 have pos:¬ ((i:Int)<0):=by omega
 unfold pyNext;refine i_ (M4 (je (name:=Str.ofString "__next__") T F.slot_dict_itemiterator_next (ou F.slot_dict_itemiterator_next T F.entry_dict_itemiterator_next ?_ (F.args_dict_itemiterator_next_1 _))));refine i_ (s_ (i_ (i_ (i_ (Nl T (s_ (i_ (wpAny_fieldsOf hit rfl ?_))))))));simp only[own,oP];refine(show wpAny (model prog w) _ (if(Value.ref d==Value.none)=true then _ else _) _ _ ⟨hp,g,dr,tk,os⟩from ?_);rw[ar (show ¬ ((Value.ref d==Value.none)=true)from λz=>Bool.noConfusion z)];refine i_ (s_ (i_ (Nc f1 f3 ?_)));rw[ar (by simp)];refine i_ (s_ (i_ (N5 f1 f3 ?_)));rw[ar (by simp)];refine s_ ?_;by_cases hi:i<es.size
 ·simp only[pos,Ma,sE,Array.getElem?_eq_getElem hi];refine i_ (i_ (Nl T (s_ (i_ (NW T ?_)))));refine(show wpAny (model prog w) _ (setField (.ref it) 3 (rawInt ((i:Int)+1)) >>= _) _ _ ⟨hp,g,dr,tk,os⟩from i_ (pi hit (by simp) λh1 r1 b1=>?_));replace b1:Heap.SameBut it hp h1:=b1;replace r1:IsItemIter h1 it d (i+1) es.size ep ok ov:=by
   unfold IsItemIter;rw[show((i+1:Nat):Int)=(i:Int)+1 by omega];simpa[rawInt]using r1
  have T1:Shared.TypeIs ⟨h1,g,dr,tk,os⟩ (.ref it) "dict_itemiterator":=⟨_,r1,rfl⟩;refine i_ (um (i_ (NW T1 (i_ (NW T1 ?_)))));refine(show wpAny (model prog w) _ (Builtin.Dict_items.pairFromOwner (.ref it) 6 es[i].key es[i].val) _ _ ⟨h1,g,dr,tk,os⟩from ?_);unfold Builtin.Dict_items.pairFromOwner;refine i_ (wpAny_newTuple ?_);have z1:h1.objs.size=hp.objs.size:=b1.1;have r2:IsItemIter (h1.push { cls:=.type "tuple",data:=.seq #[es[i].key,es[i].val] }) it d (i+1) es.size ep ok ov:=Od _ r1;generalize Yd:h1.push { cls:=.type "tuple",data:=.seq #[es[i].key,es[i].val] }=h2 at r2;have lt:hp.objs.size≠it:=pr (ay hit);have t2:h2.get? hp.objs.size=some { cls:=.type "tuple",data:=.seq #[es[i].key,es[i].val] }:=by rw[<-Yd,<-z1];exact OX _ rfl
  have k2:∀b o,b≠it->hp.get? b=some o->h2.get? b=some o:=λb o hb e=>by rw[<-Yd];exact Od _ (b1.extBut b o hb e)
  refine(show wpAny (model prog w) _ (Builtin.Dict_items.ownedTupleIsFree (.ref it) >>= _) _ _ ⟨h2,g,dr,tk,os⟩from ?_);rw[z1];refine i_ ?_;unfold Builtin.Dict_items.ownedTupleIsFree;refine i_ (ig r2 rfl (x:=.none) rfl (s_ ?_));simp only[oP];refine i_ (ig r2 rfl (x:=ok) rfl (i_ (ig r2 rfl (x:=ov) rfl (i_ (pi r2 (by simp) λh3 r3 b3=>?_)))));replace b3:Heap.SameBut it h2 h3:=b3;replace r3:IsItemIter h3 it d (i+1) es.size ep es[i].key ov:=r3;refine i_ (pi r3 (by simp) λh4 r4 b4=>?_);replace b4:Heap.SameBut it h3 h4:=b4;replace r4:IsItemIter h4 it d (i+1) es.size ep es[i].key es[i].val:=r4;refine i_ (pi r4 (by simp) λh5 r5 b5=>?_);replace b5:Heap.SameBut it h4 h5:=b5;replace r5:IsItemIterOut h5 it d (i+1) es.size ep es[i].key es[i].val hp.objs.size:=r5;refine i_ (pi r5 (by simp) λh6 r6 b6=>?_);replace b6:Heap.SameBut it h5 h6:=b6;replace r6:IsItemIterOut h6 it d (i+1) es.size ep es[i].key es[i].val hp.objs.size:=r6;have k6:∀b o,b≠it->h2.get? b=some o->h6.get? b=some o:=λb o hb e=>b6.extBut b o hb (b5.extBut b o hb (b4.extBut b o hb (b3.extBut b o hb e)))
  exact i_ (NJ (s_ (s_ ⟨_,rfl,s_ (q1 hi h6 r6 (k6 _ _ lt t2) λb o hb e=>k6 b o hb (k2 b o hb e))⟩)))
 ·obtain⟨hh,q⟩:=q2 (by omega);simp only[pos,Ma,sE,Array.getElem?_eq_none (show es.size<=i by omega)];refine i_ (i_ (Nl T (s_ ?_)));refine(show wpAny (model prog w) _ (setField (.ref it) 2 .none >>= _) _ _ ⟨hp,g,dr,tk,os⟩from i_ (ye hit rfl (by simp) ?_));refine(show wpAny (model prog w) _ (newExc (.type "StopIteration") [] >>= _) _ _ _ from i_ ?_);simp only[newExc,newTuple];refine i_ (im ?_ (by size_fits));refine i_ (m:=firstArgMember _ _) (wpAny_of_eq (a:=Value.none) (by first|rfl|(simp only[firstArgMember];rfl)) ?_);refine im ?_ (by size_fits);simp only[raiseNew];refine i_ (wpAny_handled ?_);rw[show A.in1.handled=none from hh];refine i_ (s_ (wpAny_throw ?_));refine i_ (Nm (T := "StopIteration") (b:=true) (by exact⟨_,OX _ rfl,rfl⟩) ND ?_);exact s_ (q _ (((Heap.SameBut.update ..).extBut.push _).push _))
end
end TS
namespace L4
open PySem PySem.Spec PyProof.Rows L2 L3
variable {H F:Hp}{G:Gh}{Z:L2.St}{X:Cx}{K:Fg}{p a:Addr}{kx:List Key}{D' E:Ends}{o:Obj}{y:V}{n:Nat}{kvs:List (List Key×V)}{S:Type}{ret:List Stmt}
def ze{prog:Program}{w:World}{A:Around}{E:Of}{s:Shared}{d:Addr}{Q:Of}(lo:(d==sysModules)=false)(T:s.TypeIs (.ref d) "dict")(q:Q (.ref s.heap.objs.size) { s with heap:=s.heap.push { cls:=.type "dict_items",data:=.fields #[.ref d] } }) :
  wpAny (model prog w) A (call (.builtin "dict.items") [.ref d]) Q E s:=by
 refine ou PySem.F.slot_dict_items T PySem.F.entry_dict_items ?_ (PySem.F.args_dict_items_1 _);unfold Builtin.«dict.items»;refine i_ ?_;unfold Builtin.Dict.noArgs;refine i_ (Ob T (show wpAny (model prog w) _ (pure d) _ _ s from s_ ?_));refine(show wpAny (model prog w) _ (Builtin.Dict.showsAll d >>= _) _ _ s from ?_);unfold Builtin.Dict.showsAll;rw[ar (by rw[lo];decide)];exact i_ (s_ (i_ (im (s_ ⟨_,rfl,q⟩))))
def Itm(a:Addr)(o:Obj)(ks:List Addr)(vs:List V):It :=
 ⟨λi H=>(∃u,H a=some (.OQ o u))/\i<ks.length,λi H x H'=>∃p k v,ks[i]? = some k/\vs[i]? = some v/\H p=none/\x=.ref p/\H'=upd H p (.tup [.ref k,v]),λi H=>(∃u,H a=some (.OQ o u))/\ks.length<=i⟩
theorem xZ{P:Program}{w:World}{K:PySem.W.Frag}{elts:List Expr}{x1}{pos:Pos}{it:Addr}{es:Array DictEntry}{ep:Nat}{ks:List Addr}{vs:List V}(c:o.ExactDict)(d:o.data=.dict es ep)(hk:es.toList.map (·.key)=ks.map Value.ref)(hv:Vals vs (es.toList.map (·.val))):Turn P w K (.Tuple elts x1 pos) (Itm a o ks vs) [it] it (λi h=>∃ok ov,IsItemIter h it a i es.size ep ok ov) where
 mem:=by simp
 obj:=λi h st b hb=>by
  have e:b=it:=by simpa using hb
  subst e;obtain⟨ok,ov,e⟩:=st;exact⟨_,e,λv z=>by cases z⟩
 keep:=λi h h' ⟨ok,ov,st⟩ k=>⟨ok,ov,k it (by simp) _ st⟩
 item:=by
  intro X hP hw hK hc i a_ s Z H E I hf ⟨ok,ov,st⟩ ⟨hu,hi⟩;subst hP hw hK;have hl:es.size=ks.length:=by
   have:=congrArg List.length hk;simpa using this
  refine TS.R8 st ⟨o,uY I hu,c,d⟩ (λSf h1 r1 t1 k1=>?_) λz=>by lia
  have ek:es[i].key=.ref ks[i]:=by
   have h1:(es.toList.map (·.key))[i]? = (ks.map Value.ref)[i]?:=by rw[hk]
   rw[fu,fu,ac (show i<es.toList.length by simpa using Sf),ac hi]at h1;simpa using h1
  have hiv:i<vs.length:=by
   have hlv:vs.length=(es.toList.map (·.val)).length:=hv.length;rw[L_,Cn]at hlv;exact Nat.lt_of_lt_of_eq Sf hlv.symm
  obtain⟨u,hu',ru⟩:=hv.get (x:=vs[i]) (ac hiv);rw[fu,ac (show i<es.toList.length by simpa using Sf)]at hu';have ev:es[i].val=u:=by simpa using hu'
  rw[ek,ev]at t1 r1;refine⟨_,rfl,wpAny_letOwnedTupleGo_items r1 λh2 r2 (b2:Heap.SameBut it h1 h2)=>?_⟩;have ne:s.heap.objs.size≠it:=pr (ay st);have Ox:∀c o,c∉[it]->s.heap.get? c=some o->h2.get? c=some o:=λc o hc e=>by
   have hc:c≠it:=by simpa using hc
   exact b2.extBut _ _ hc (k1 c o hc e)
  have I1:Inv X a_ Z (upd H s.heap.objs.size (.tup [.ref ks[i],vs[i]])) { s with heap:=h2,toks:=s.toks }:=qv I hf (show RelV (.ref ks[i]) (.ref ks[i])from rfl) ru Ox (b2.extBut _ _ ne t1);refine⟨.ref s.heap.objs.size,_,I1,rfl,⟨_,_,_,ac hi,ac hiv,I.fresh,rfl,rfl⟩,⟨_,_,r2⟩,λc hc=>?_⟩;have e:c=it:=by simpa using hc
  rw[e,aD (Ne.symm ne)];exact(hf it (by simp)).1
 done:=by
  intro X hP hw hK hc i a_ s Z H E I hf ⟨ok,ov,st⟩ ⟨hu,hi⟩;subst hP hw hK;obtain⟨f0,f1,f2,f3,f4,f5⟩:=hf it (by simp);have hl:es.size=ks.length:=by
   have:=congrArg List.length hk;simpa using this
  exact TS.R8 st ⟨o,uY I hu,c,d⟩ (λSf=>by lia) λ_=>⟨I.ok.hd hc,λh' eb=>⟨rfl,I.turned (t':=s.toks) (λb o hb e=>eb b o hb e) f0 f1 f3 f4 f5⟩⟩
 self:=λ_ _ _ _ _ ⟨ok,ov,st⟩ h=>PySem.W.kcp_self st h
def yQ(td:TE):TI:=λZ H R=>td Z H λx H1=>∃a o kvs,x=.ref a/\H1 a=some (.OQ o (.dT kvs))/\∀xs:List (List Key×Addr×Value),KT H1 kvs xs->R (Itm a o (xs.map (·.2.1)) (kvs.map (·.2))) H1
def De{o:Expr}{td:TE}{elts:List Expr}{x1}{pos apos A_:Pos}(ho:PE X o td)(O9:attributeBase o "items" X.env (eval o X.env)=eval o X.env)(O8:(apos.endLine==A_.line)=true) :
  PI X (.Tuple elts x1 pos) (.Call (.Attribute o "items" apos) [] [] A_) (yQ td):=by
 intro a_ s Z H R I h;refine wpAny_Call_method0_late O9 O8 (u_ (ho a_ s Z H _ I h) λu s1 ⟨x,H1,I1,rx,a,ob,kvs,ex,e,q⟩=>?_);subst ex;obtain rfl:u=Value.ref a:=rx;obtain⟨g0,z,y,xs,r,UY,es,ep,h1,h2,h3,h4,h5⟩:=(show v_ X.prog X.w H1 s1.heap a (.OQ ob (.dT kvs))from I1.n_ a _ e);have eo:UY=ob:=Option.some.inj (h1.symm.trans g0);subst eo;have T:s1.TypeIs (.ref a) "dict":=⟨UY,h1,h2.1⟩;refine⟨"dict","dict.items",PySem.F.plainAttrs_dict,PySem.F.slot_dict_items,PySem.F.type_dict_items,T,λb q=>by cases q;exact⟨UY,h1,h2.2.1⟩,Nh rfl (PySem.evalArgs_none (ze y T ?_))⟩;have kp:∀b u,s1.heap.get? b=some u->(s1.heap.push { cls:=.type "dict_items",data:=.fields #[.ref a] }).get? b=some u:=λb u q=>Od _ q
 have I2:=I1.kept (t':=s1.toks) kp;have hk:es.toList.map (·.key)=(xs.map (·.2.1)).map Value.ref:=by
  rw[h4,ic,ic];exact ng λq _=>rfl
 have hvs:∀{kvs:List (List Key×V)} {xs:List (List Key×Addr×Value)},KT H1 kvs xs->Vals (kvs.map (·.2)) (xs.map (·.2.2)):=by
  intro kvs xs r
  induction r with
  | nil=>exact .nil
  | cons h t ih=>exact .cons h.2.2 ih
 have hv:Vals (kvs.map (·.2)) (es.toList.map (·.val)):=by
  rw[h4,ic];have:=hvs r
  rwa [show xs.map ((·.val)∘entryOfKey (tupleKind (bL X.prog X.w)))=xs.map (·.2.2)from ng λq _=>rfl]
 refine TS.UB (s:={ s1 with heap:=s1.heap.push { cls:=.type "dict_items",data:=.fields #[.ref a] } }) ⟨_,OX _ rfl,rfl,rfl⟩ ⟨UY,kp _ _ h1,h2,h3⟩ ?_;refine⟨_,[_],_,_,H1,rfl,I2.kept (t':=s1.toks) λb o e=>Od _ e,xZ h2 h3 hk hv,⟨.none,.none,OX _ rfl⟩,λb hb=>?_,q xs r⟩;rw[List.mem_singleton.mp hb];exact I2.Pm (ai _) (I2.n_.fresh (ai _))
def gB(acc:Option (List (D×D)))(k:D):Option (List (D×D)):=match acc with
 | some acc=>match g6 acc k with
  | none=>if decide (acc.length<1000)then some (acc++[(k,.list [])])else none
  | some _=>none
 | none=>none
def AK(acc:List (D×D))(k x:D):Option (List (D×D)):=match g6 acc x with
 | some (.list l)=>if cZ x&&decide (l.length<90000)then some (mV acc x (.list (l++[k])))else none
 | _=>none
def fQ(k:D)(acc:Option (List (D×D)))(lead:D):Option (List (D×D)):=match acc,lead with
 | some acc,.tuple (_::x::_)=>AK acc k x
 | _,_=>none
def cn(acc:Option (List (D×D)))(e:D×D):Option (List (D×D)):=match e.2 with
 | .list ls=>ls.foldl (fQ e.1) acc
 | _=>none
def vf(es:List (D×D)):Option (List (D×D)):=es.foldl cn ((es.map (·.1)).foldl gB (some []))
def bZ{α β:Type}{f:Option α->β->Option α}(h:∀b,f none b=none):∀l:List β,l.foldl f none=none
 | []=>rfl
 | b::l=>by rw[lf,h,bZ h l]
def rD(k:D):gB none k=none:=rfl
def oz(k x:D):fQ k none x=none:=rfl
def cN(e:D×D):cn none e=none:=by
 unfold cn;split
 ·exact bZ (oz _) _
 ·rfl
def uN{α β:Type}{f:α->β}:∀{l:List α} {a b:α},(l.map f).Nodup->a∈l->b∈l->f a=f b->a=b
 | [],_,_,_,h,_,_=>nomatch h
 | x::l,a,b,n,h1,h2,e=>by
  rw[aw,List.nodup_cons]at n;rcases List.mem_cons.mp h1 with e1|h1
  ·rcases List.mem_cons.mp h2 with e2|h2
   ·rw[e1,e2]
   ·exact absurd (List.mem_map.mpr ⟨b,h2,by rw[<-e,e1]⟩) n.1
  ·rcases List.mem_cons.mp h2 with e2|h2
   ·exact absurd (List.mem_map.mpr ⟨a,h1,by rw[e,e2]⟩) n.1
   ·exact uN n.2 h1 h2 e
structure Cell where
 k:List Key
 b:Addr
 vs:List V
 ds:List D
def cp(cs:List Cell):List (D×D):=cs.map λc=>(cE c.k,.list c.ds)
def Rk(cs:List Cell):List (List Key×V):=cs.map λc=>(c.k,.ref c.b)
structure Bk(K:Fg)(G:Gh)(F H:Hp)(p:Addr)(cs:List Cell):Prop where
 hp:H p=some (.dT (Rk cs))
 fp:F p=none
 op:G.O p=none
 ce:∀c∈cs,H c.b=some (.lst c.vs)/\F c.b=none/\G.O c.b=none/\h_ K F c.vs c.ds
 nb:(cs.map (·.b)).Nodup
 nk:(cs.map (·.k)).Nodup
 sz:cs.length<=1000
def Bk.at{H':Hp}{cs:List Cell}(h:Bk K G F H p cs)(e:∀b o,H b=some o->H' b=some o):Bk K G F H' p cs:=⟨e _ _ h.hp,h.fp,h.op,λc hc=>⟨e _ _ (h.ce c hc).1,(h.ce c hc).2⟩,h.nb,h.nk,h.sz⟩
def mq{kx:List Key}:∀cs:List Cell,g6 (cp cs) (cE kx)=(cs.find? λc=>decide (c.k=kx)).map λc=>.list c.ds
 | []=>rfl
 | c::cs=>by
  have ih:=mq (kx:=kx) cs;unfold g6 cp at ih ⊢;rw[aw,ni,ni,lc];by_cases q:c.k=kx
  ·simp[q]
  ·simp only[q,Er];exact ih
def zB{kx:List Key}:∀cs:List Cell,kh (Rk cs) kx=(cs.find? λc=>decide (c.k=kx)).map λc=>.ref c.b
 | []=>rfl
 | c::cs=>by
  have ih:=zB (kx:=kx) cs;unfold kh Rk at ih ⊢;rw[aw,ni,ni];by_cases q:c.k=kx
  ·simp[q]
  ·simp only[q,Er];exact ih
def Fi{v:V}{cs:List Cell}(h:cs.find? (λc=>decide (c.k=kx))=none):putK (Rk cs) kx v=Rk cs++[(kx,v)]:=by
 unfold putK Rk;rw[ar];rw[N4];intro z;obtain⟨c,hc,e⟩:=List.any_eq_true.mp z;exact absurd e (List.find?_eq_none.mp h c hc)
def RM(kx:List Key)(y:V)(d:D)(c:Cell):Cell:=if c.k=kx then { c with vs:=c.vs++[y],ds:=c.ds++[d] }else c
def Fk{d:D}{cs:List Cell}{c:Cell}(nk:(cs.map (·.k)).Nodup)(hc:cs.find? (λc=>decide (c.k=kx))=some c):mV (cp cs) (cE kx) (.list (c.ds++[d]))=cp (cs.map (RM kx y d)):=by
 have hm:=zi hc;have hk:c.k=kx:=by simpa using N8 hc
 unfold mV cp;rw[al]
 ·rw[ic,ic];refine ng λc' QL=>?_
  show(if fG (cE c'.k) (cE kx)=true then(cE c'.k,PyData.list (c.ds++[d]))else(cE c'.k,PyData.list c'.ds))=(cE (RM kx y d c').k,PyData.list (RM kx y d c').ds);rw[lc];unfold RM;by_cases q:c'.k=kx
  ·have e:c'=c:=uN nk QL hm (q.trans hk.symm);simp[q,e,hk]
  ·simp[q]
 ·rw[N4];exact List.any_eq_true.mpr ⟨c,hm,by show fG (cE c.k) (cE kx)=true;rw[lc];simp[hk]⟩
def Ll{d:D}(cs:List Cell):Rk (cs.map (RM kx y d))=Rk cs:=by
 unfold Rk;rw[ic];refine ng λc _=>?_
 show((RM kx y d c).k,V.ref (RM kx y d c).b)=_;unfold RM;split<;>rfl
section
variable {cs:List Cell}
def Bk.neP(B:Bk K G F H p cs){c:Cell}(hc:c∈cs):c.b≠p:=wD (B.ce c hc).1 B.hp (by intro z;cases z)
def Bk.key(B:Bk K G F H p cs){q:Addr}(hq:H q=none)(hn:cs.find? (λc=>decide (c.k=kx))=none)(hl:cs.length<1000)(fq:F q=none)(oq:G.O q=none):Bk K G F (upd (upd H q (.lst [])) p (.dT (Rk cs++[(kx,.ref q)]))) p (cs++[⟨kx,q,[],[]⟩]):=by
 have pq:q≠p:=(aR B.hp hq).symm;refine⟨by rw[aJ];simp[Rk],B.fp,B.op,λc hc=>?_,?_,?_,by rw[Qh];exact hl⟩
 ·rcases List.mem_append.mp hc with hc|hc
  ·rw[aD (B.neP hc),aD (aR (B.ce c hc).1 hq)];exact B.ce c hc
  ·rw[List.mem_singleton.mp hc];exact⟨by rw[aD pq,aJ],fq,oq,.nil⟩
 ·rw[ib];refine List.nodup_append.mpr ⟨B.nb,by simp,λx hx y hy=>?_⟩;obtain⟨c,hc,rfl⟩:=List.mem_map.mp hx;have hy:y=q:=by simpa using hy
  rw[hy];exact aR (B.ce c hc).1 hq
 ·rw[ib];refine List.nodup_append.mpr ⟨B.nk,by simp,λx hx y hy z=>?_⟩;obtain⟨c,hc,rfl⟩:=List.mem_map.mp hx;have hy:y=kx:=by simpa using hy
  exact absurd (cr (z.trans hy)) (List.find?_eq_none.mp hn c hc)
def Bk.add(B:Bk K G F H p cs){c:Cell}{d:D}(hc:cs.find? (λc=>decide (c.k=kx))=some c)(r:Rep K F y d):Bk K G F (upd H c.b (.lst (c.vs++[y]))) p (cs.map (RM kx y d)):=by
 have hm:=zi hc;have hk:c.k=kx:=by simpa using N8 hc
 have ub:∀c':Cell,(RM kx y d c').b=c'.b:=λc'=>by unfold RM;split<;>rfl
 have uk:∀c':Cell,(RM kx y d c').k=c'.k:=λc'=>by unfold RM;split<;>rfl
 refine⟨by rw[aD (B.neP hm).symm,Ll];exact B.hp,B.fp,B.op,λc0 Tv=>?_,?_,?_,by rw[L_];exact B.sz⟩
 ·obtain⟨c',QL,rfl⟩:=List.mem_map.mp Tv;obtain⟨h1,h2,h3,h4⟩:=B.ce c' QL;rw[ub];by_cases q:c'.k=kx
  ·have e:c'=c:=uN B.nk QL hm (q.trans hk.symm);subst e;unfold RM;rw[al q,aJ];exact⟨rfl,h2,h3,h4.append (.cons r .nil)⟩
  ·have ne:c'.b≠c.b:=λz=>q (by rw[uN B.nb QL hm z];exact hk)
   unfold RM;rw[ar q,aD ne];exact⟨h1,h2,h3,h4⟩
 ·rw[ic];exact(show cs.map ((·.b)∘RM kx y d)=cs.map (·.b)from ng λc' _=>ub c')▸B.nb
 ·rw[ic];exact(show cs.map ((·.k)∘RM kx y d)=cs.map (·.k)from ng λc' _=>uk c')▸B.nk
end
abbrev r1(d:D)(n:Nat):En:=some (.fz d)::List.replicate n none
def gK{d:D}{i:Nat}{c:OC}(h:own (r1 d n) i c):False:=by
 have e:∀i:Nat,(r1 d n)[i]? = some (some (.fz d))\/(r1 d n)[i]? = some none\/(r1 d n)[i]? = none:=λi=>by
  cases i with
  | zero=>exact .inl rfl
  | succ i =>
   rw[List.getElem?_cons_succ,Cr];split
   ·exact .inr (.inl rfl)
   ·exact .inr (.inr rfl)
 rcases h with h|h<;>(rcases e i with q|q|q<;>(rw[q]at h;cases h))
def AY{σ':L2.St}{d:D}(S:c_ K G F Z H (r1 d n))(hl:σ'.length=Z.length)(h0:σ'[0]? = Z[0]?):c_ K G F σ' H (r1 d n):=by
 have np:∀i a,G.P i=some a->False:=λi a h=>by
  obtain⟨_,c,e⟩:=S.pp i a h;exact gK (.inr e)
 refine⟨S.fh,S.oh,S.fo,by rw[hl];exact S.ln,λi x h=>?_,λi c h=>(gK h).elim,λi j c e a h=>(gK h).elim,λi a h=>(np i a h).elim,λi c h=>(gK (.inr h)).elim,S.fb⟩;have hi:i=0:=by
  cases i with
  | zero=>rfl
  | succ i =>
   rw[List.getElem?_cons_succ,Cr]at h;split at h<;>cases h
 subst hi;obtain⟨v,e,r⟩:=S.fz 0 x h;exact⟨v,by rw[h0];exact e,r⟩
def Ao{K:Fg}{G:Gh}{H:Hp}{Z:L2.St}{d:D}{n:Nat}:∀(cs:List Cell) (F:Hp),c_ K G F Z H (r1 d n)->(∀c∈cs,H c.b=some (.lst c.vs)/\F c.b=none/\G.O c.b=none)->(cs.map (·.b)).Nodup ->
  ∃F',f_ F F'/\c_ K G F' Z H (r1 d n)/\(∀c∈cs,F' c.b=some (.lst c.vs))/\∀x,x∉cs.map (·.b)->F' x=F x
 | [],F,S,_,_=>⟨F,f_.refl _,S,(λ_ h=>nomatch h),λ_ _=>rfl⟩
 | c::cs,F,S,h,n=>by
  rw[aw,List.nodup_cons]at n;obtain⟨h1,h2,h3⟩:=h c (by simp);have S1:=S.freeze h1 h2 h3 λi e q=>(gK q).elim
  have ne:∀c'∈cs,c'.b≠c.b:=λc' QL z=>n.1 (List.mem_map.mpr ⟨c',QL,z⟩)
  obtain⟨F2,s2,S2,f2,k2⟩:=Ao cs _ S1 (λc' QL=>by obtain⟨g1,g2,g3⟩:=h c' (by simp[QL]);exact⟨g1,by rw[aD (ne c' QL)];exact g2,g3⟩) n.2;refine⟨F2,(cu h2).trans s2,S2,λc' QL=>?_,λx hx=>?_⟩
  ·rcases List.mem_cons.mp QL with e|QL
   ·rw[e];exact s2 _ _ aJ
   ·exact f2 c' QL
  ·rw[aw,oR,not_or]at hx;rw[k2 x hx.2,aD hx.1]
def Bk.settle{d:D}{cs:List Cell}(B:Bk K G F H p cs)(S:c_ K G F Z H (r1 d n))(o:Obj):∃F',f_ F F'/\c_ K G F' Z (upd H p (.OQ o (.dT (Rk cs)))) (r1 d n)/\Rep K F' (.ref p) (.dict (cp cs)):=by
 obtain⟨F1,s1,S1,f1,k1⟩:=Ao cs F S (λc hc=>⟨(B.ce c hc).1,(B.ce c hc).2.1,(B.ce c hc).2.2.1⟩) B.nb;have pn:F1 p=none:=by
  rw[k1 p λh=>by obtain⟨c,hc,e⟩:=List.mem_map.mp h;exact B.neP hc e];exact B.fp
 have no:∀(i:Nat) (e:OC),own (r1 d n) i e->Z[i]? ≠ some (some (V.ref p)):=λi e q=>(gK q).elim
 have S2:=(S1.R6 (o:=.OQ o (.dT (Rk cs))) pn B.op no).freeze (a:=p) aJ pn B.op no;have sm:f_ F1 (upd F1 p (.OQ o (.dT (Rk cs)))):=cu pn;refine⟨_,s1.trans sm,S2,.Sl aJ ?_ ?_⟩
 ·unfold cp Rk;rw[ic,ic];rfl
 ·have all:∀l:List Cell,(∀c∈l,c∈cs)->h_ K (upd F1 p (.OQ o (.dT (Rk cs)))) ((Rk l).map (·.2)) ((cp l).map (·.2)):=by
   intro l
   induction l with
   | nil=>intro _;exact .nil
   | cons c l ih =>
    intro h;refine .cons (.lst (.inl (.inl (sm _ _ (f1 c (h c (by simp)))))) ((B.ce c (h c (by simp))).2.2.2.mono (s1.trans sm))) (ih λc' QL=>h c' (by simp[QL]))
  exact all cs λ_ h=>h
def sN{ρ:En}:∀{kvs:List (List Key×V)} {xs:List (List Key×Addr×Value)} {F:Hp},KT H kvs xs->c_ K G F Z H ρ ->
  ∃F',f_ F F'/\c_ K G F' Z H ρ/\h_ K F' (xs.map λq=>V.ref q.2.1) (kvs.map λp=>cE p.1)/\∀b o,F' b=some o->F b=some o\/∃vs,H b=some (.tup vs):=by
 intro kvs xs F r S
 induction r generalizing F with
 | nil=>exact⟨F,f_.refl _,S,.nil,λb o e=>.inl e⟩
 | @cons p q ps qs h t ih =>
  obtain⟨h1,h2,h3⟩:=h;obtain⟨F1,s1,S1,r1,k1⟩:∃F1,f_ F F1/\c_ K G F1 Z H ρ/\Rep K F1 (.ref q.2.1) (cE p.1)/\∀b o,F1 b=some o->F b=some o\/∃vs,H b=some (.tup vs):=by
   cases e:F q.2.1 with
   | some o =>
    have:=S.fh _ o e;rw[h2]at this
    cases this
    exact⟨F,f_.refl _,S,.tup e (jy p.1),λb o e=>.inl e⟩
   | none =>
    obtain⟨F1,s1,S1,r1⟩:=S.YQ h2 (jy p.1);have og:G.O q.2.1=none:=by
     cases g:G.O q.2.1 with
     | none=>rfl
     | some o =>
      have:=S.oh _ o g;rw[h2]at this
      cases this
      exact((S.fo _ _ g).2:False).elim
    refine⟨upd F q.2.1 (.tup (p.1.map kV)),cu e,S.freeze h2 e og (λi c ho z=>?_),.tup aJ (jy p.1),λb o eb=>?_⟩
    ·obtain⟨a,e1,oa⟩:=S.ow i c ho;rw[z]at e1;injection e1 with e1;injection e1 with e1;injection e1 with e1;subst e1;exact(oa.he.Up h2:False)
    ·by_cases hb:b=q.2.1
     ·exact .inr ⟨_,by rw[hb];exact h2⟩
     ·rw[aD hb]at eb;exact .inl eb
  obtain⟨F2,s2,S2,r2,k2⟩:=ih S1;exact⟨F2,s1.trans s2,S2,.cons (r1.mono s2) r2,λb o e=>(k2 b o e).elim (k1 b o) .inr⟩
def Bk.seen{F':Hp}{cs:List Cell}(B:Bk K G F H p cs)(s:f_ F F')(k:∀b o,F' b=some o->F b=some o\/∃vs,H b=some (.tup vs)):Bk K G F' H p cs:=by
 have nf:∀b u,H b=some u->(∀vs,u≠.tup vs)->F b=none->F' b=none:=λb u hb hu hf=>by
  cases e:F' b with
  | none=>rfl
  | some o =>
   rcases k b o e with q|⟨vs,q⟩
   ·rw[hf]at q;cases q
   ·rw[hb]at q;exact absurd (Option.some.inj q) (hu vs)
 exact⟨B.hp,nf _ _ B.hp (λvs z=>by cases z) B.fp,B.op,λc hc=>let ⟨g1,g2,g3,g4⟩:=B.ce c hc;⟨g1,nf _ _ g1 (λvs z=>by cases z) g2,g3,g4.mono s⟩,B.nb,B.nk,B.sz⟩
theorem CL{QI:List Stmt}(e:H a=some (.dT kvs))(k:∀o,h7 X QI E Z (upd H a (.OQ o (.dT kvs)))):h7 X QI E Z H:=by
 unfold h7 at *;exact λa_ s I=>let ⟨o,I'⟩:=I.OQ e;k o a_ s I'
abbrev CB:TS:=GZ (kj 1) (kj 2) (Ke E2)
abbrev pS(K:Fg):TS:=GS (tBM K "list" zI (Wj Ia (kj 1) (Wj (HY K) (kj 4) (tC (.int 1)))) (CA (kj 2) E2))
abbrev HI(X:Cx)(ret:List Stmt):TS:=EZ (E3 Cy (gn 1)) (EZ (vK (DZ (kj 0)) (gn 2) CB) (EZ (vK (yQ (kj 0)) (Jc X.K 2 (wY (gn 2) (wY (gn 3) Jd))) (vK (Al X.K (kj 3)) (gn 4) (pS X.K))) (h7 X ret)))
def vd(d:D):Option D:=match d with
 | .dict es=>match nZ es with
  | some _=>(vf es).map .dict
  | none=>none
 | _=>none
def CT{S:Type}:SM S:=λK ρ=>match ρ with
 | [some (.fz d),none,none,none,none]=>match vd d with
  | some r=>K.rt r (r1 d 4)
  | none=>.bad
 | _=>.bad
section
variable {OK:M S->Prop} {K:KS S} {cs:List Cell} {d:D}
def B6(hr:SF X ret (HG (kj 1)))(St:c_ X.K G F Z H (r1 d 4))(s1:Z[1]? = some (some (.ref p)))(B:Bk X.K G F H p cs)(eo:Yx X OK K G F E)(ok:OK (K.rt (.dict (cp cs)) (r1 d 4))):h7 X ret E Z H :=
 CL B.hp λo=>by
  obtain⟨F',s,S',r⟩:=B.settle St o;exact CM hr ⟨.ref p,s1,eo.rt F' Z _ (r1 d 4) _ _ s S' r ok⟩
def Bv{k:V}{kd lead:D}{v:V}{Pr:List (D×D)}(St:c_ X.K G F Z H (r1 d 4))(s1:Z[1]? = some (some (.ref p)))(s2:Z[2]? = some (some k))(rk:Rep X.K F k kd)(s4:Z[4]? = some (some v))(rl:Rep X.K F v lead)(B:Bk X.K G F H p cs)(e:fQ kd (some (cp cs)) lead=some Pr)
  (go:∀H' SE,Pr=cp SE->c_ X.K G F Z H' (r1 d 4)->Bk X.K G F H' p SE->D'.nx Z H'):pS X.K D' Z H:=by
 unfold fQ at e;split at e
 case h_2=>cases e
 rename_i acc n x rest ea
 cases ea
 unfold AK at e;split at e
 case h_2=>cases e
 rename_i l hl;split at e
 case isFalse=>cases e
 rename_i hc
 cases e
 rw[am,OB]at hc;obtain⟨kx,rfl⟩:=eP hc.1;obtain⟨a',Vc,rfl,h1,h2⟩:=rl.OZ
 cases h2 with
 | @cons v1 _ vr _ q1 q2 =>
 cases q2 with
 | @cons v2 _ vr _ q2 q3 =>
 obtain⟨b,rfl,hb⟩:=gg q2;rw[mq]at hl
 cases ef:cs.find? (λc=>decide (c.k=kx))with
 | none=>rw[ef]at hl;cases hl
 | some c =>
 rw[ef]at hl;have hl:c.ds=l:=by simpa using hl
 have hm:=zi ef;obtain⟨g1,g2,g3,g4⟩:=B.ce c hm;have hv:=zB (kx:=kx) cs;rw[ef]at hv;refine⟨.ref p,s1,.ref a',s4,a',_,1,.ref b,rfl,rfl,N_.of (St.fh _ _ h1),by simp[Sr,Tq];rw[al (by omega)];rfl,p,.ref c.b,rfl,.inr ⟨Rk cs,kx,b,.inl B.hp,rfl,St.fh _ _ hb,hv.symm⟩,.inl ⟨rfl,c.vs,.inl (.inl g1)⟩,k,s2,c.b,c.vs,k,rfl,rfl,g1,?_,?_⟩
 ·have:=g4.length;exact bo (by rw[this,hl];exact hc.2) (show 90000<=sizeLine by decide)
 ·refine go _ (cs.map (RM kx k kd)) ?_ (St.R6 g2 g3 λi e q=>(gK q).elim) (B.add ef rk);rw[<-hl,Fk B.nk ef]
def yF{k:V}{kd:D}{vs:List V}{ls:List D}{mid:List (D×D)}(St:c_ X.K G F Z H (r1 d 4))(s1:Z[1]? = some (some (.ref p)))(s2:Z[2]? = some (some k))(rk:Rep X.K F k kd)(s3:Z[3]? = some (some (.ref a)))(h1:Ot X.K F a vs)(h2:h_ X.K F vs ls)(h5:Z.length=5)(B:Bk X.K G F H p cs)(e:ls.foldl (fQ kd) (some (cp cs))=some mid)
  (go:∀σ' H' SE,mid=cp SE->σ'.length=5->c_ X.K G F σ' H' (r1 d 4)->σ'[1]? = some (some (.ref p))->Bk X.K G F H' p SE->D'.nx σ' H'):vK (Al X.K (kj 3)) (gn 4) (pS X.K) D' Z H:=by
 have hl:=h2.length;refine⟨.ref a,s3,a,rfl,⟨vs,St.fh.seq h1⟩,λi m σ' H'=>m=ls.length - i/\i<=ls.length/\σ'.length=5/\c_ X.K G F σ' H' (r1 d 4)/\σ'[1]? = some (some (.ref p))/\σ'[2]? = some (some k)/\∃cs,Bk X.K G F H' p cs/\(ls.drop i).foldl (fQ kd) (some (cp cs))=some mid,⟨_,rfl,be _,h5,St,s1,s2,cs,B,e⟩,?_⟩;rintro i m σ' H' ⟨rfl,hi,l5,S',t1,t2,Pr,B',e'⟩;by_cases Oi:i<ls.length
 ·rw[u8 Oi,lf]at e';have hv:i<vs.length:=by rw[hl];exact Oi
  obtain⟨v,e1,e2⟩:=h2.get (ac Oi);refine .inr ⟨⟨vs,vs[i],S'.fh.seq h1,ac hv⟩,λσ4 H4=>∃m',m'<ls.length - i/\m'=ls.length - (i+1)/\i+1<=ls.length/\σ4.length=5/\c_ X.K G F σ4 H4 (r1 d 4)/\σ4[1]? = some (some (.ref p))/\σ4[2]? = some (some k)/\∃cs,Bk X.K G F H4 p cs/\(ls.drop (i+1)).foldl (fQ kd) (some (cp cs))=some mid,λσ4 H4 h=>h,?_⟩;rintro x H2 ⟨rfl,hx⟩;have hx:=hx vs (S'.fh.seq h1);rw[e1]at hx
  cases hx
  show pS X.K _ (σ'.set 4 (some v)) H2
  cases eb:fQ kd (some (cp Pr)) ls[i]with
  | none=>rw[eb,bZ (oz kd)]at e';cases e'
  | some zbl =>
  rw[eb]at e';have g0:(σ'.set 4 (some v))[0]? = σ'[0]?:=ba (by decide);have g1:(σ'.set 4 (some v))[1]? = σ'[1]?:=ba (by decide);have g2:(σ'.set 4 (some v))[2]? = σ'[2]?:=ba (by decide);have g4:(σ'.set 4 (some v))[4]? = some (some v):=eE (by rw[l5];decide);have S4:=AY (σ':=σ'.set 4 (some v)) S' (by simp) g0;refine Bv S4 (g1.trans t1) (g2.trans t2) rk g4 e2 B' eb λH5 SE ec S5 B5=>?_
  exact⟨_,by omega,rfl,Oi,by simpa using l5,S5,g1.trans t1,g2.trans t2,SE,B5,by rw[<-ec];exact e'⟩
 ·have ei:i=ls.length:=by omega
  subst ei;rw[M3]at e';have ec:cp Pr=mid:=Option.some.inj e';exact .inl ⟨⟨vs,S'.fh.seq h1,by omega⟩,go σ' H' Pr ec.symm l5 S' t1 B'⟩
end
section
variable {OK:M S->Prop} {K:KS S} {cs:List Cell} {d:D}
def yK{es:List (D×D)}{fin:List (D×D)}(St:c_ X.K G F Z H (r1 d 4))(s0:Z[0]? = some (some (.ref a)))(s1:Z[1]? = some (some (.ref p)))(ha:F a=some (.OQ o (.dT kvs)))(hk:es.map (·.1)=kvs.map (λp=>cE p.1))(hv:h_ X.K F (kvs.map (·.2)) (es.map (·.2)))(h5:Z.length=5)(B:Bk X.K G F H p cs)(e:es.foldl cn (some (cp cs))=some fin)
  (go:∀F' σ' H' SE,f_ F F'->fin=cp SE->c_ X.K G F' σ' H' (r1 d 4)->σ'[1]? = some (some (.ref p))->Bk X.K G F' H' p SE->D'.nx σ' H'):vK (yQ (kj 0)) (Jc X.K 2 (wY (gn 2) (wY (gn 3) Jd))) (vK (Al X.K (kj 3)) (gn 4) (pS X.K)) D' Z H:=by
 refine⟨.ref a,s0,a,o,kvs,rfl,St.fh _ _ ha,λxs kt=>?_⟩;obtain⟨F2,sF,S2,rk,kk⟩:=sN kt St;have B2:=B.seen sF kk;have ZD:=sF _ _ ha;have lx:(xs.map (·.2.1)).length=es.length:=by
  have h1:=rk.length;have h2:=congrArg List.length hk;simp only[L_]at h1 h2 ⊢;omega
 have hv2:=hv.mono sF;refine⟨λi m σ' H'=>m=es.length - i/\i<=es.length/\σ'.length=5/\c_ X.K G F2 σ' H' (r1 d 4)/\σ'[1]? = some (some (.ref p))/\∃cs,Bk X.K G F2 H' p cs/\(es.drop i).foldl cn (some (cp cs))=some fin,⟨_,rfl,be _,h5,S2,s1,cs,B2,e⟩,?_⟩;rintro i m σ' H' ⟨rfl,hi,l5,S',t1,Pr,B',e'⟩;by_cases Oi:i<es.length
 ·rw[u8 Oi,lf]at e';refine .inr ⟨⟨⟨_,S'.fh _ _ ZD⟩,by rw[lx];exact Oi⟩,λσ4 H4=>∃m',m'<es.length - i/\m'=es.length - (i+1)/\i+1<=es.length/\σ4.length=5/\c_ X.K G F2 σ4 H4 (r1 d 4)/\σ4[1]? = some (some (.ref p))/\∃cs,Bk X.K G F2 H4 p cs/\(es.drop (i+1)).foldl cn (some (cp cs))=some fin,λσ4 H4 h=>h,?_⟩;rintro x H2 ⟨q,k,v,ek,ev,hq,rfl,rfl⟩;have ed:(es.map (·.1))[i]? = some es[i].1:=by rw[fu,ac Oi];rfl
  rw[hk]at ed;obtain⟨v1,f1,f2⟩:=rk.get ed;have f1:some (V.ref k)=some v1:=by
   rw[<-f1];rw[fu]at ek ⊢
   cases hx:xs[i]? with
   | none=>rw[hx]at ek;cases ek
   | some z =>
    rw[hx]at ek
    cases ek
    rfl
  cases f1
  have WI:(es.map (·.2))[i]? = some es[i].2:=by rw[fu,ac Oi];rfl
  obtain⟨v2,f3,f4⟩:=hv2.get WI;rw[ev]at f3
  cases f3
  refine⟨q,[.ref k,v],rfl,N_.of aJ,rfl,_,_,rfl,_,_,rfl,rfl,?_⟩;have S3:=S'.lay (o:=.tup [.ref k,v]) hq;have B3:=B'.at (H':=upd H' q (.tup [.ref k,v])) λb u e=>by rw[aD (aR e hq)];exact e
  cases el:es[i].2 with
  | list ls =>
   rw[el]at f4;obtain⟨a2,vs,rfl,h1,h2⟩:=f4.lst_inv;have g0:((σ'.set 2 (some (.ref k))).set 3 (some (.ref a2)))[0]? = σ'[0]?:=by rw[ba (by decide),ba (by decide)]
   have g1:((σ'.set 2 (some (.ref k))).set 3 (some (.ref a2)))[1]? = σ'[1]?:=by rw[ba (by decide),ba (by decide)]
   have g2:((σ'.set 2 (some (.ref k))).set 3 (some (.ref a2)))[2]? = some (some (.ref k)):=by rw[ba (by decide),eE (by rw[l5];decide)]
   have g3:((σ'.set 2 (some (.ref k))).set 3 (some (.ref a2)))[3]? = some (some (.ref a2)):=by rw[eE (by rw[N7,l5];decide)]
   have S4:=AY (σ':=(σ'.set 2 (some (.ref k))).set 3 (some (.ref a2))) S3 (by simp) g0;have eb:cn (some (cp Pr)) es[i]=ls.foldl (fQ es[i].1) (some (cp Pr)):=by unfold cn;rw[el]
   cases em:ls.foldl (fQ es[i].1) (some (cp Pr))with
   | none=>rw[eb,em,bZ cN]at e';cases e'
   | some mid =>
   rw[eb,em]at e';refine yF S4 (g1.trans t1) g2 f2 g3 h1 h2 (by simp[l5]) B3 em λσ5 H5 SE ec l5' S5 t5 B5=>?_
   exact⟨_,by omega,rfl,Oi,l5',S5,t5,SE,B5,by rw[<-ec];exact e'⟩
  | none=>rw[show cn (some (cp Pr)) es[i]=none by unfold cn;rw[el],bZ cN]at e';cases e'
  | bool _=>rw[show cn (some (cp Pr)) es[i]=none by unfold cn;rw[el],bZ cN]at e';cases e'
  | int _=>rw[show cn (some (cp Pr)) es[i]=none by unfold cn;rw[el],bZ cN]at e';cases e'
  | str _=>rw[show cn (some (cp Pr)) es[i]=none by unfold cn;rw[el],bZ cN]at e';cases e'
  | tuple _=>rw[show cn (some (cp Pr)) es[i]=none by unfold cn;rw[el],bZ cN]at e';cases e'
  | dict _=>rw[show cn (some (cp Pr)) es[i]=none by unfold cn;rw[el],bZ cN]at e';cases e'
 ·have ei:i=es.length:=by omega
  subst ei;rw[M3]at e';have ec:cp Pr=fin:=Option.some.inj e';exact .inl ⟨⟨⟨_,S'.fh _ _ ZD⟩,by rw[lx];exact ai _⟩,go F2 σ' H' Pr sF ec.symm S' t1 B'⟩
def Bx{ks:List D}{fin:List (D×D)}(St:c_ X.K G F Z H (r1 d 4))(s0:Z[0]? = some (some (.ref a)))(s1:Z[1]? = some (some (.ref p)))(ha:F a=some (.OQ o (.dT kvs)))(hk:ks=kvs.map (λp=>cE p.1))(h5:Z.length=5)(B:Bk X.K G F H p cs)(e:ks.foldl gB (some (cp cs))=some fin)
  (go:∀F' σ' H' SE,f_ F F'->fin=cp SE->σ'.length=5->σ'[0]? = some (some (.ref a))->c_ X.K G F' σ' H' (r1 d 4)->σ'[1]? = some (some (.ref p))->Bk X.K G F' H' p SE->D'.nx σ' H'):vK (DZ (kj 0)) (gn 2) CB D' Z H:=by
 refine⟨.ref a,s0,a,o,kvs,rfl,St.fh _ _ ha,λxs kt=>?_⟩;obtain⟨F2,sF,S2,rk,kk⟩:=sN kt St;have B2:=B.seen sF kk;have ZD:=sF _ _ ha;have lx:(xs.map (·.2.1)).length=ks.length:=by
  have h1:=rk.length;rw[hk];simp only[L_]at h1 ⊢;omega
 refine⟨λi m σ' H'=>m=ks.length - i/\i<=ks.length/\σ'.length=5/\σ'[0]? = some (some (.ref a))/\c_ X.K G F2 σ' H' (r1 d 4)/\σ'[1]? = some (some (.ref p))/\∃cs,Bk X.K G F2 H' p cs/\(ks.drop i).foldl gB (some (cp cs))=some fin,⟨_,rfl,be _,h5,s0,S2,s1,cs,B2,e⟩,?_⟩;rintro i m σ' H' ⟨rfl,hi,l5,t0,S',t1,Pr,B',e'⟩;by_cases Oi:i<ks.length
 ·rw[u8 Oi,lf]at e';refine .inr ⟨⟨⟨_,S'.fh _ _ ZD⟩,by rw[lx];exact Oi⟩,λσ4 H4=>∃m',m'<ks.length - i/\m'=ks.length - (i+1)/\i+1<=ks.length/\σ4.length=5/\σ4[0]? = some (some (.ref a))/\c_ X.K G F2 σ4 H4 (r1 d 4)/\σ4[1]? = some (some (.ref p))/\∃cs,Bk X.K G F2 H4 p cs/\(ks.drop (i+1)).foldl gB (some (cp cs))=some fin,λσ4 H4 h=>h,?_⟩;rintro x H2 ⟨rfl,k,ek,rfl⟩;have ed:ks[i]? = some ks[i]:=ac Oi;have WI:(kvs.map (λp=>cE p.1))[i]? = some ks[i]:=by rw[<-hk];exact ed
  obtain⟨v1,f1,f2⟩:=rk.get WI;have f1:some (V.ref k)=some v1:=by
   rw[<-f1];rw[fu]at ek ⊢
   cases hx:xs[i]? with
   | none=>rw[hx]at ek;cases ek
   | some z =>
    rw[hx]at ek
    cases ek
    rfl
  cases f1
  obtain⟨kx,ekx⟩:∃kx,ks[i]=cE kx:=by
   rw[fu]at WI
   cases hx:kvs[i]? with
   | none=>rw[hx]at WI;cases WI
   | some z=>rw[hx]at WI;exact⟨z.1,(Option.some.inj WI).symm⟩
  rw[ekx]at f2 e';obtain⟨b,eb,hb⟩:=gg f2
  cases eb
  cases ef:Pr.find? (λc=>decide (c.k=kx))with
  | some c =>
   have:gB (some (cp Pr)) (cE kx)=none:=by
    unfold gB;dsimp only;rw[mq,ef];rfl
   rw[this,bZ rD]at e'
   cases e'
  | none =>
  by_cases hz:(cp Pr).length<1000
  ·have hz':Pr.length<1000:=by simpa[cp]using hz
   have ek2:gB (some (cp Pr)) (cE kx)=some (cp Pr++[(cE kx,.list [])]):=by
    unfold gB;dsimp only;rw[mq,ef];dsimp only[Option.map];rw[al (cr hz)]
   rw[ek2]at e';have g0:(σ'.set 2 (some (.ref k)))[0]? = σ'[0]?:=ba (by decide);have g1:(σ'.set 2 (some (.ref k)))[1]? = σ'[1]?:=ba (by decide);have g2:(σ'.set 2 (some (.ref k)))[2]? = some (some (.ref k)):=eE (by rw[l5];decide);have S4:=AY (σ':=σ'.set 2 (some (.ref k))) S' (by simp) g0;refine⟨be _,λq hq=>⟨.ref p,g1.trans t1,.ref k,g2,p,_,rfl,PJ.t (kvs:=Rk Pr) (by rw[aD (aR B'.hp hq)];exact B'.hp) (by rw[aD (aR (S'.fh _ _ hb) hq)];exact S'.fh _ _ hb) (bo (by simpa[Rk]using hz') (kZ (ai 1000))),?_⟩⟩;have fq:=S'.fh.free hq;have oq:=S'.oh.free hq;have B5:=B'.key hq ef hz' fq oq;rw[Fi ef];have S5:=(S4.lay (o:=.lst []) hq).R6 (p:=p) (o:=.dT (Rk Pr++[(kx,.ref q)])) B'.fp B'.op λi e q=>(gK q).elim
   refine⟨_,by omega,rfl,Oi,by simpa using l5,g0.trans t0,S5,g1.trans t1,_,B5,?_⟩;rw[show cp (Pr++[⟨kx,q,[],[]⟩])=cp Pr++[(cE kx,.list [])] by simp[cp]];exact e'
  ·have:gB (some (cp Pr)) (cE kx)=none:=by
    unfold gB;dsimp only;rw[mq,ef];dsimp only[Option.map];rw[ar (by simpa using hz)]
   rw[this,bZ rD]at e'
   cases e'
 ·have ei:i=ks.length:=by omega
  subst ei;rw[M3]at e';have ec:cp Pr=fin:=Option.some.inj e';exact .inl ⟨⟨⟨_,S'.fh _ _ ZD⟩,by rw[lx];exact ai _⟩,go F2 σ' H' Pr sF ec.symm l5 t0 S' t1 B'⟩
end
def Fs{tg l:Expr}{tl:TE}(hl:PE X l tl):PI X tg l (DZ tl):=by
 intro a_ s Z H R I h;refine u_ (hl a_ s Z H _ I h) λu s1 ⟨x,H1,I1,r1,a,o,kvs,e,ea,q⟩=>?_
 subst e
 cases r1
 exact tI I1 ea q
def B8{QI:List Stmt}(h:SF X QI (HI X ret))(hr:SF X ret (HG (kj 1))):RK (S:=S) X QI CT:=λOK K G F Z H ρ E hO hX St ok eo=>by
 unfold CT at ok;split at ok
 case h_2=>exact(hO ok).elim
 rename_i d;split at ok
 case h_2=>exact(hO ok).elim
 rename_i r hb;unfold vd at hb;split at hb
 case h_2=>cases hb
 rename_i es;split at hb
 case h_2=>cases hb
 rename_i ds Xv;obtain⟨fin,TZ,er⟩:=Option.map_eq_some_iff.mp hb;subst er;have St:c_ X.K G F Z H (r1 (.dict es) 4):=St;have h5:Z.length=5:=St.ln;obtain⟨v,e0,r0⟩:=St.fz 0 (.dict es) rfl;obtain⟨_,a,o,kvs,rfl,ha,hk,hv⟩:=vW r0 Xv;unfold vf at TZ
 cases e1:(es.map (·.1)).foldl gB (some [])with
 | none=>rw[e1,bZ cN]at TZ;cases TZ
 | some ini =>
 rw[e1]at TZ;refine CM h λp hp=>?_
 have g0:(Z.set 1 (some (.ref p)))[0]? = Z[0]?:=ba (by decide);have g1:(Z.set 1 (some (.ref p)))[1]? = some (some (.ref p)):=eE (by rw[h5];decide);have S1:=AY (σ':=Z.set 1 (some (.ref p))) (St.lay (o:=.dT []) hp) (by simp) g0;have B1:Bk X.K G F (upd H p (.dT [])) p []:=⟨aJ,St.fh.free hp,St.oh.free hp,(λ_ h=>nomatch h),.nil,.nil,by decide⟩;refine Bx S1 (g0.trans e0) g1 ha hk (by simpa using h5) B1 e1 λF2 σ2 H2 SE s2 ec l2 t0 S2 t1 B2=>?_
 rw[ec]at TZ;refine yK S2 t0 t1 (s2 _ _ ha) hk (hv.mono s2) l2 B2 TZ λF3 σ3 H3 cs3 s3 ec3 S3 t3 B3=>?_
 rw[ec3]at ok;exact B6 hr S3 t3 B3 (eo.up (s2.trans s3)) ok
end L4
set_option maxHeartbeats 8000000
namespace WO
open PySem PySem.Spec PyProof.Rows L2 L3 L4
variable {f T:Addr}{fd:FuncData}{mg:Pn}
noncomputable section
def top(i:Nat):Stmt:=PySem.Challenge.pw_passersby_k33_answers.main.body.getD i (.Pass ⟨0,0,0,0⟩)
abbrev BL:List Str:=["range","len","tuple","list","max","min","sum","repr","enumerate","isinstance","all","any","int","zip","sorted","dict","ValueError"]
def BN(mg:Pn):Prop:=∀x∈BL,mg x=none
def BN.range(B:BN mg):mg "range"=none:=B _ (by decide)
def BN.len(B:BN mg):mg "len"=none:=B _ (by decide)
def BN.tuple(B:BN mg):mg "tuple"=none:=B _ (by decide)
def BN.list(B:BN mg):mg "list"=none:=B _ (by decide)
def BN.max(B:BN mg):mg "max"=none:=B _ (by decide)
def BN.min(B:BN mg):mg "min"=none:=B _ (by decide)
def BN.sum(B:BN mg):mg "sum"=none:=B _ (by decide)
def BN.repr(B:BN mg):mg "repr"=none:=B _ (by decide)
def BN.enumerate(B:BN mg):mg "enumerate"=none:=B _ (by decide)
def BN.isinstance(B:BN mg):mg "isinstance"=none:=B _ (by decide)
def BN.all(B:BN mg):mg "all"=none:=B _ (by decide)
def BN.any(B:BN mg):mg "any"=none:=B _ (by decide)
def BN.int(B:BN mg):mg "int"=none:=B _ (by decide)
def BN.zip(B:BN mg):mg "zip"=none:=B _ (by decide)
def BN.sorted(B:BN mg):mg "sorted"=none:=B _ (by decide)
def BN.dict(B:BN mg):mg "dict"=none:=B _ (by decide)
def BN.ValueError(B:BN mg):mg "ValueError"=none:=B _ (by decide)
theorem z_{X:Cx}{k:Nat}{a b:Expr}{pos:Pos}{pa pb:Pu D}(hr:I_ k X.A)(ha:AO X a pa)(hb:AO X b pb)(hs:vx b:=by exact λ_ _=>rfl):AP X (.Subscript a b pos) (K8 aH pa pb):=aQ (aF (aj hr)) aE ha hb hs
structure KX(K:Fg)(mg:Pn):Prop where
 w_:∃Cs,Z0 mg ["NoCrowd","NoLine","NoMeeting","NoPaper","NoRule","NoText"] Cs/\QH K (Cs.map Value.ref) [("TooMany",false)]
 TU:∃C,mg "TooMany"=some (.ref C)/\PD K (.ref C) [("TooMany",true)]
 RF:PD K (.type "ValueError") [("TooMany",true)]
 h_PassError:∃hv,mg "PassError"=some hv/\Q9 K hv ["TooMany"]
 T5:∃a,mg "_law_ask"=some (.ref a)/\PySem.W.nsIn K mainGlobals "_law_ask"=some (some (.ref a))
section
variable {P:Program} {w:World} {K:Fg} {base:Heap}
def Gr(s:Stmt):List Stmt:=match s with
 | .ClassDef _ _ _ b _ _ _ _ _ _ _=>b
 | _=>[]
abbrev gf:Stmt:=(Gr (top 5)).getD 0 (.Pass ⟨0,0,0,0⟩)
def oF:l_ ["self"] ["self"] (aB gf):=Pl rfl rfl rfl rfl (by kernel_rfl)
def yZ{Cl D:Addr}(Fn:Oy K "__init__" "TooMany.__init__" gf f fd)(c:XC K Cl D f)(hm:mg "TooMany"=some (.ref Cl))(hc:XQ K Cl "TooMany")(kp:PySem.W.keepIn K (.ref Cl)=true)(na:∀f∈([]:List Str),rM K Cl f)(ex:PySem.W.exmOne K (.ref Cl) (.ref Cl)=some true):CCl P w K mg base "TooMany" 1 [] :=
 ⟨Cl,D,f,fd,["self"],c,Lp (k:=0) Fn oF rfl,(Gw Fn λ_ _ _ _ _ _ _=>rfl),hm,hc,kp,na,ex⟩
abbrev uu:Stmt:=top 10
abbrev GO:List Str:=["rule","counts","numbers","start","many"]
def PX:l_ GO ["rule","counts"] (aB uu):=Pl rfl rfl rfl rfl (by kernel_rfl)
def rf(Tz:List D):M D :=
 bd (oM (cj [(PyData.list Tz)])) λx5=>.ret x5
def rc(Tz:List D)(d_:D)(kn6:List D×Unit->M D):M D :=
 QQ d_ λy7 y8=>bd (oM (dC (PyData.list Tz) y7)) λx9=>bd (oM (mY x9 y8)) λQP=>bd (oM (putD Tz y7 QP)) λU0=>kn6 (U0,())
def py(Qq gap:D):M D :=
 bd (bd (oM (aH Qq (.int 0))) λx1=>oM (qx (PyData.list [(.int 0)]) x1)) λl2=>bd (bd (oM (aH Qq (.int 1))) λx3=>oM (BI [x3,gap])) λl4=>dP (λs12 Ys kn=>rc s12.1 Ys kn) l4 (l2,()) (λs12=>rf s12.1)
def Vv(f:D->M D):List D->M D:=λl=>match l with
 | [a]=>f a
 | _=>.bad
def Qp(f:D->D->M D):List D->M D:=λl=>match l with
 | [a,b]=>f a b
 | _=>.bad
def Ur(f:D->D->D->M D):List D->M D:=λl=>match l with
 | [a,b,c]=>f a b c
 | _=>.bad
def zac(f:D->D->D->D->M D):List D->M D:=λl=>match l with
 | [a,b,c,d]=>f a b c d
 | _=>.bad
def lQ:=Qp py
def Dv(Fn:Oy K "begun" "begun" uu f fd)(H_:mg "begun"=some (.ref f))(B:BN mg)(Kx:KX K mg):CF P w K mg base "begun" 1 (C_ K 2 lQ) :=
 ⟨f,fd,["rule","counts"],bW (k:=0) Fn PX (λr_ A outer s H E hr =>
  (af (aI (sh:=[.f,.f,.o,.z,.z]) (eF (i:=2) PX.nd (eW (JO (dB (aa ag au)) (ao (z_ hr (j_ 0) (ao ag)))))))
  (af (bJ (sh:=[.z,.z,.o,.z,.z]) PassesOwn.leaving rfl (bS (EH rfl B.zip (aa (z_ hr (j_ 0) (ao ag)) (aa (av 1) au)) rfl rfl)) (e9 rfl (bi (aC (i:=3) (be _) PX.nd) (bi (aC (i:=4) (be _) PX.nd) dH rfl) rfl) rfl rfl)
  (aq (vk (i:=2) rfl (vi rfl) yN uU (ak (av 3)) (ak (av 4)) (λ_ _ _=>rfl))))
  (aq (aS (ak (bC aY bV B.tuple (by decide +kernel) (aG (bm (i:=2)) aM))))))))
 (λds hl=>(by obtain⟨Qq,gap,rfl⟩:=ln2 hl;kernel_rfl)),H_,Fn.kp,(gA Fn λ_ _ _ _ _ _ _ _=>rfl)⟩
abbrev qc:Stmt:=top 11
abbrev ER:List Str:=["crowd","meeting","wanted"]
def Rp:l_ ER ["crowd","meeting"] (aB qc):=Pl rfl rfl rfl rfl (by kernel_rfl)
def jU(RW VY:D):M D :=
 bd (bd (bd (oM (aH VY (.int 0))) λx1=>bd (oM (aH VY (.int 1))) λx2=>oM (aZ x1 x2)) λb3=>if b3 then .ret (.int 2)else .ret (.int 1)) λx4=>bd (bd (bd (bd (bd (oM (aH VY (.int 0))) λx5=>oM (aH RW x5)) λx6=>oM (uA x6 x4)) λb9=>if b9 then bd (bd (oM (aH VY (.int 1))) λx7=>oM (aH RW x7)) λx8=>oM (uA x8 x4)else .ret false) λTd=>.ret (.bool Td)) λPN=>.ret PN
def tE:=Qp jU
def Bq(Fn:Oy K "can_be" "can_be" qc f fd)(H_:mg "can_be"=some (.ref f))(B:BN mg)(Kx:KX K mg):CF P w K mg base "can_be" 1 (C_ K 2 tE) :=
 ⟨f,fd,["crowd","meeting"],bW (k:=0) Fn Rp (λr_ A outer s H E hr =>
  (af (aI (sh:=[.f,.f,.f]) (aK (i:=2) Rp.nd (ak (rH (aO (bA (aj hr)) bw (ao (z_ hr (j_ 1) (ao ag))) (ao (z_ hr (j_ 1) (ao ag)))) ag ag))))
  (aq (aS (ak (fA (vv (cM sY tj (ao (z_ hr (j_ 0) (ao (z_ hr (j_ 1) (ao ag))))) (j_ 2)) (vq (cM sY tj (ao (z_ hr (j_ 0) (ao (z_ hr (j_ 1) (ao ag))))) (j_ 2))))))))))
 (λds hl=>(by obtain⟨RW,VY,rfl⟩:=ln2 hl;kernel_rfl)),H_,Fn.kp,(gA Fn λ_ _ _ _ _ _ _ _=>rfl)⟩
abbrev qb:Stmt:=top 12
abbrev EQ:List Str:=["crowd","meeting","numbers","room"]
def Pj:l_ EQ ["crowd","meeting"] (aB qb):=Pl rfl rfl rfl rfl (by kernel_rfl)
def jR(Tz:List D):M D :=
 bd (oM (cj [(PyData.list Tz)])) λx8=>.ret x8
def jP(Tz:List D)(d_:D)(kn9:List D×Unit->M D):M D :=
 bd (oM (dC (PyData.list Tz) d_)) λQP=>bd (oM (mY QP (.int 1))) λPN=>bd (oM (putD Tz d_ PN)) λTR=>kn9 (TR,())
def jS(gbO:D)(Tz:List D):M D :=
 bd (bd (bd (QG (.int 2)) λlo5=>oM (fJ gbO lo5 none)) λx6=>oM (dQ x6)) λl7=>dP (λRA UP kn=>jP RA.1 UP kn) l7 (Tz,()) (λRA=>jR RA.1)
def jQ(gbO:D)(Tz:List D)(d_:D)(zao:D×List D×Unit->M D):M D :=
 bd (oM (dC (PyData.list Tz) d_)) λR0=>bd (oM (gG R0 (.int 1))) λSx=>bd (oM (putD Tz d_ Sx)) λVz=>zao (gbO,Vz,())
def jT(RW VY:D):M D :=
 bd (oM (n8 [RW])) λl1=>bd (bd (bd (QG (.int 2)) λhi2=>oM (fJ VY none hi2)) λx3=>oM (dQ x3)) λl4=>dP (λYS d20 kn=>jQ YS.1 YS.2.1 d20 kn) l4 (VY,l1,()) (λYS=>jS YS.1 YS.2.1)
def tD:=Qp jT
def Bp(Fn:Oy K "led_to" "led_to" qb f fd)(H_:mg "led_to"=some (.ref f))(B:BN mg)(Kx:KX K mg):CF P w K mg base "led_to" 1 (C_ K 2 tD) :=
 ⟨f,fd,["crowd","meeting"],bW (k:=0) Fn Pj (λr_ A outer s H E hr =>
  (af (aI (sh:=[.z,.f,.o,.z]) (eF (i:=2) Pj.nd (eW (nK i6 uC B.list (by decide +kernel) (aG (j_ 0) aM)))))
  (af (bJ (sh:=[.z,.f,.o,.z]) PassesOwn.leaving rfl (bS (dg (cL (j_ 1) cK (cJ ag)))) (aC (i:=3) (be _) Pj.nd)
  (aq (vk (i:=2) rfl (vi rfl) I9 FZ (ak (av 3)) (ak ag) (λ_ _ _=>rfl))))
  (af (bJ (sh:=[.z,.z,.o,.z]) PassesOwn.leaving rfl (bS (dg (cL (j_ 1) (cJ ag) cK))) (aC (i:=3) (be _) Pj.nd)
  (aq (vk (i:=2) rfl (vi rfl) yN uU (ak (av 3)) (ak ag) (λ_ _ _=>rfl))))
  (aq (aS (ak (bC aY bV B.tuple (by decide +kernel) (aG (bm (i:=2)) aM)))))))))
 (λds hl=>(by obtain⟨RW,VY,rfl⟩:=ln2 hl;kernel_rfl)),H_,Fn.kp,(gA Fn λ_ _ _ _ _ _ _ _=>rfl)⟩
abbrev kJ:Stmt:=top 13
abbrev zo:List Str:=["rule","pairs","number","meeting"]
def OI:l_ zo ["rule"] (aB kJ):=Pl rfl rfl rfl rfl (by kernel_rfl)
def sj(Rh:List (D×D)):M D :=
 .ret (PyData.dict Rh)
def kD(Rh:List (D×D))(d_:D)(kn3:List (D×D)×Unit->M D):M D :=
 QQ d_ λy4 y5=>bd (bd (QG (.int 2)) λhi6=>oM (fJ y5 none hi6)) λx7=>bd (oM (iE true Rh x7 y4)) λl8=>kn3 (l8,())
def i7(Qq:D):M D :=
 bd (bd (oM (aH Qq (.int 2))) λx1=>oM (kC [x1])) λl2=>dP (λs9 d10 kn=>kD s9.1 d10 kn) l2 ([],()) (λs9=>sj s9.1)
def nS:=Vv i7
def wt(Fn:Oy K "pairs_of" "pairs_of" kJ f fd)(H_:mg "pairs_of"=some (.ref f))(B:BN mg)(Kx:KX K mg):CF P w K mg base "pairs_of" 1 (C_ K 1 nS) :=
 ⟨f,fd,["rule"],bW (k:=0) Fn OI (λr_ A outer s H E hr =>
  (af (aI (sh:=[.f,.t,.z,.z]) (pF true (i:=1) OI.nd rfl (lo rfl) rfl (.inl rfl)))
  (af (bJ (sh:=[.z,.t,.z,.z]) PassesOwn.leaving rfl (bS (vp rfl B.enumerate (aa (z_ hr (j_ 0) (ao ag)) au) rfl)) (e9 rfl (bi (aC (i:=2) (be _) OI.nd) (bi (aC (i:=3) (be _) OI.nd) dH rfl) rfl) rfl rfl)
  (aq (jb (aj hr) (i:=1) rfl (vi rfl) (ak (cL (j_ 3) cK (cJ ag))) (ak (av 2)) rfl)))
  (aq (lw (i:=1) (aS (ak (av 1))))))))
 (λds hl=>(by obtain⟨Qq,rfl⟩:=UZ hl;kernel_rfl)),H_,Fn.kp,(Gw Fn λ_ _ _ _ _ _ _=>rfl)⟩
abbrev kL:Stmt:=top 14
abbrev zp:List Str:=["rule","pairs","crowd","meets","rooms","leads","place","a","b","number"]
def D_:l_ zp ["rule","pairs","crowd"] (aB kL):=Pl rfl rfl rfl rfl (by kernel_rfl)
abbrev Qd:List Str:=["rule","pairs","crowd","meets","rooms","leads","place","a","b","number","room","many"]
def jj:Qd.Nodup:=by decide +kernel
def sq(Rh VS:D)(VR Wx:D)(Rw:List D):M D :=
 .ret (PyData.list Rw)
def kG(Rm:D×D×D×D×List D×Unit->M D)(Rh VS:D)(VR Wx:D)(Rw:List D)(Z9:D):M D :=
 Rm (Rh,VS,VR,Wx,Rw,())
def g9(Rm:D×D×D×D×List D×Unit->M D)(Rh VS:D)(VR Wx:D)(Rw:List D)(Z9 d_:D)(Uz:D×D×D×D×List D×D×Unit->M D):M D :=
 bd (oM (xC Rh (.tuple [Z9,d_]))) λSx=>bd (bd (oM (kW Sx .none)) λZU=>if ZU then bd (bd (oM (aH VR Sx)) λU_=>jU VS U_) λQW=>oM (ki QW)else .ret false) λZT=>if ZT then
  bd (bd (bd (oM (aH VR Sx)) λUk=>jT VS Uk) λRL=>.ret (.tuple [Sx,RL])) λRb=>bd (oM (oI Rw [Rb])) λl25=>Uz (Rh,VS,VR,Wx,l25,Z9,())
  else
  Uz (Rh,VS,VR,Wx,Rw,Z9,())
def kF(Rh VS:D)(VR Wx:D)(Rw:List D)(d_:D)(Rm:D×D×D×D×List D×Unit->M D):M D :=
 QQ d_ λy11 y12=>bd (bd (bd (QG y11) λXi=>oM (fJ Wx Xi none)) λR1=>oM (dQ R1)) λXl=>dP (λTM d27 kn=>g9 Rm TM.1 TM.2.1 TM.2.2.1 TM.2.2.2.1 TM.2.2.2.2.1 TM.2.2.2.2.2.1 d27 kn) Xl (Rh,VS,VR,Wx,Rw,y12,()) (λTM=>kG Rm TM.1 TM.2.1 TM.2.2.1 TM.2.2.2.1 TM.2.2.2.2.1 TM.2.2.2.2.2.1)
def i8(Qq gbT RW:D):M D :=
 bd (oM (aH Qq (.int 2))) λx1=>bd (bd (bd (oM (kC [RW])) λl6=>bd (aV (λd2=>QQ d2 λy3 y4=>bd (oM (dX y4 (.int 0))) λb5=>if b5 then .ret (some y3)else .ret none) l6) cA) λl7=>.ret (PyData.list l7)) λx8=>bd (oM (qR [x8])) λl9=>dP (λQ1 d29 kn=>kF Q1.1 Q1.2.1 Q1.2.2.1 Q1.2.2.2.1 Q1.2.2.2.2.1 d29 kn) l9 (gbT,RW,x1,x8,[],()) (λQ1=>sq Q1.1 Q1.2.1 Q1.2.2.1 Q1.2.2.2.1 Q1.2.2.2.2.1)
def nU:=Ur i8
def wu(Fn:Oy K "leads_at" "leads_at" kL f fd)(H_:mg "leads_at"=some (.ref f))(B:BN mg)(Kx:KX K mg)(gbU:CF P w K mg base "can_be" 1 (C_ K 2 tE))(gbV:CF P w K mg base "led_to" 1 (C_ K 2 tD)):CF P w K mg base "leads_at" 2 (C_ K 3 nU) :=
 ⟨f,fd,["rule","pairs","crowd"],bW (k:=1) Fn D_ (λr_ A outer s H E hr =>
  (af (aI (sh:=[.z,.f,.f,.f,.z,.z,.z,.z,.z,.z]) (aK (i:=3) D_.nd (ak (z_ hr (j_ 0) (ao ag)))))
  (af (aI (sh:=[.z,.f,.f,.f,.f,.z,.z,.z,.z,.z]) (cU (i:=4) D_.nd rfl (lo rfl) (.inl rfl) (N':=Qd) (k:=2) rfl (aW (by kernel_rfl) rfl rfl) (vp rfl B.enumerate (aa (av 2) au) rfl) (λ_ _ _ _ _=>(e9 rfl (bi (aC (i:=10) (show 10<=10 by decide) jj) (bi (aC (i:=11) (show 10<=11 by decide) jj) dH rfl) rfl) rfl rfl)) (λ_ _ _ _ _=>(eD (aO iu iw (j_ 11) (ao ag)))) (λ_ _ _ _ _=>(av 10)) rfl (λ_=>rfl)))
  (af (aI (sh:=[.z,.f,.f,.f,.f,.o,.z,.z,.z,.z]) (eF (i:=5) D_.nd (eW (dB au))))
  (af (bJ (sh:=[.z,.f,.f,.f,.f,.o,.z,.z,.z,.z]) PassesOwn.leaving rfl (bS (EI rfl B.enumerate (aa (av 4) au) rfl)) (e9 rfl (bi (aC (i:=6) (be _) D_.nd) (bi (aC (i:=7) (be _) D_.nd) dH rfl) rfl) rfl rfl)
  (aq (bJ (sh:=[.z,.f,.f,.f,.f,.o,.z,.f,.z,.z]) PassesOwn.leaving rfl (bS (dg (cL (j_ 4) (cJ (av 6)) cK))) (aC (i:=8) (be _) D_.nd)
  (af (aI (sh:=[.z,.f,.f,.f,.f,.o,.z,.f,.z,.f]) (aK (i:=9) D_.nd (ak (EF (aj hr) (j_ 1) (bp (aa (av 7) (aa (av 8) au))) ⟨rfl,rfl,rfl,rfl⟩))))
  (aq (bK (bf (oA (lv (aO Dp bw (j_ 9) (ao JK)) (ja (zl (ao (bQ gbU hr.m (aa (av 2) (aa (z_ hr (j_ 3) (j_ 9)) au)))) (λ_=>rfl))))))
  (aq (jc (i:=5) rfl (vi rfl) (aA (ak (bp (aa (av 9) (aa (bQ gbV hr.m (aa (av 2) (aa (z_ hr (j_ 3) (j_ 9)) au))) au)))) aL) rfl rfl rfl rfl rfl rfl))
  aU))))))
  (aq (lw (i:=5) (aS (ak (av 5))))))))))
 (λds hl=>(by obtain⟨Qq,gbT,RW,rfl⟩:=Xj hl;kernel_rfl)),H_,Fn.kp,(xJ Fn λ_ _ _ _ _ _ _ _ _=>rfl)⟩
abbrev yk:Stmt:=top 15
abbrev JV:List Str:=["rule","crowd","truths"]
def Ti:l_ JV ["rule","crowd"] (aB yk):=Pl rfl rfl rfl rfl (by kernel_rfl)
abbrev Sv:List Str:=["rule","crowd","truths","truth","many"]
def nR:Sv.Nodup:=by decide +kernel
def nH(Qq RW:D):M D :=
 bd (bd (bd (bd (oM (aH Qq (.int 3))) λx1=>oM (BI [x1,RW])) λl6=>bd (aV (λd2=>QQ d2 λy3 y4=>bd (oM (dX y4 (.int 0))) λb5=>if b5 then .ret (some y3)else .ret none) l6) cA) λl7=>.ret (PyData.list l7)) λx8=>bd (oM (Gm [x8])) λb9=>if b9 then
  .ret (.str "yes")
  else
  bd (bd (oM (Gk [x8])) λTd=>if Td then .ret (.str "both")else .ret (.str "no")) λPN=>.ret PN
def Ad:=Qp nH
def FG(Fn:Oy K "said" "said" yk f fd)(H_:mg "said"=some (.ref f))(B:BN mg)(Kx:KX K mg):CF P w K mg base "said" 1 (C_ K 2 Ad) :=
 ⟨f,fd,["rule","crowd"],bW (k:=0) Fn Ti (λr_ A outer s H E hr =>
  (af (aI (sh:=[.z,.z,.f]) (cU (i:=2) Ti.nd rfl (lo rfl) (.inl rfl) (N':=Sv) (k:=2) rfl (aW (by kernel_rfl) rfl rfl) (EH rfl B.zip (aa (z_ hr (j_ 0) (ao ag)) (aa (av 1) au)) rfl rfl) (λ_ _ _ _ _=>(e9 rfl (bi (aC (i:=3) (show 3<=3 by decide) nR) (bi (aC (i:=4) (show 3<=4 by decide) nR) dH rfl) rfl) rfl rfl)) (λ_ _ _ _ _=>(eD (aO iu iw (j_ 4) (ao ag)))) (λ_ _ _ _ _=>(av 3)) rfl (λ_=>rfl)))
  (af (bK (bf (vg (xN (Eu rfl) IJ rfl B.all (by decide +kernel) (aG (j_ 2) aM) (by decide) (by decide) rfl rfl) (λ_=>rfl)))
  (aq (aS (ak br)))
  aU)
  (aq (aS (ak (rH (vg (xN (Et rfl) II rfl B.any (by decide +kernel) (aG (j_ 2) aM) (by decide) (by decide) rfl rfl) (λ_=>rfl)) br br)))))))
 (λds hl=>(by obtain⟨Qq,RW,rfl⟩:=ln2 hl;kernel_rfl)),H_,Fn.kp,(gA Fn λ_ _ _ _ _ _ _ _=>rfl)⟩
abbrev iK:Stmt:=top 17
abbrev vy:List Str:=["rule","crowd","limit","pairs","leads","known","found","here","lead"]
def x_:l_ vy ["rule","crowd","limit"] (aB iK):=Pl rfl rfl rfl rfl (by kernel_rfl)
def jl(VT VQ Rh:D)(Rw:List (D×D))(VP:List (D×D))(Rg:List D):M D :=
 .ret (PyData.dict Rw)
def oO(Pq:D×D×D×List (D×D)×List (D×D)×List D×Unit->M D)(VT VQ Rh:D)(Rw:List (D×D))(VP:List (D×D))(Rg:List D):M D :=
 Pq (VT,VQ,Rh,Rw,VP,Rg,())
def fK(Pq:D×D×D×List (D×D)×List (D×D)×List D×Unit->M D)(VT VQ Rh:D)(Rw:List (D×D))(VP:List (D×D))(Rg:List D)(d_:D)(Za:D×D×D×List (D×D)×List (D×D)×List D×Unit->M D):M D :=
 bd (bd (oM (aH d_ (.int 1))) λQi=>oM (bE Qi (PyData.dict VP))) λT7=>if T7 then
  bd (oM (aH d_ (.int 1))) λSx=>bd (oM (iE true VP Sx (.bool true))) λVz=>bd (oM (aH d_ (.int 1))) λQW=>bd (oM (oI Rg [QW])) λVy=>Za (VT,VQ,Rh,Rw,Vz,Vy,())
  else
  Za (VT,VQ,Rh,Rw,VP,Rg,())
def bN(VT VQ Rh:D)(Rw:List (D×D))(VP:List (D×D))(Rg:List D)(Pq:D×D×D×List (D×D)×List (D×D)×List D×Unit->M D):M D :=
 bd (bd (oM (kB [(PyData.dict Rw)])) λx3=>bd (oM (fm [(PyData.list Rg)])) λx4=>oM (gI x3 x4)) λb5=>if b5 then
  bd (bd (oM (fm [(PyData.list Rg)])) λx6=>oM (dX x6 VQ)) λb7=>if b7 then
  .exc ⟨"TooMany",[]⟩
  else
  bd (bd (oM (kB [(PyData.dict Rw)])) λx8=>oM (aH (PyData.list Rg) x8)) λx9=>bd (i8 VT Rh x9) λQP=>bd (oM (iE true Rw x9 QP)) λU0=>bd (bd (oM (aH (PyData.dict U0) x9)) λPM=>oM (dQ PM)) λUv=>dP (λP0 ZN kn=>fK Pq P0.1 P0.2.1 P0.2.2.1 P0.2.2.2.1 P0.2.2.2.2.1 P0.2.2.2.2.2.1 ZN kn) Uv (VT,VQ,Rh,U0,VP,Rg,()) (λP0=>oO Pq P0.1 P0.2.1 P0.2.2.1 P0.2.2.2.1 P0.2.2.2.2.1 P0.2.2.2.2.2.1)
  else jl VT VQ Rh Rw VP Rg
def dq(Qq RW ZF:D):M D :=
 bd (i7 Qq) λx1=>sZ RW (mM (λTN kn=>bN TN.1 TN.2.1 TN.2.2.1 TN.2.2.2.1 TN.2.2.2.2.1 TN.2.2.2.2.2.1 kn) 10000 (Qq,ZF,x1,[],[(RW,(.bool true))],[RW],()))
def eY:=Ur dq
def rQ(Fn:Oy K "leads_from" "leads_from" iK f fd)(H_:mg "leads_from"=some (.ref f))(B:BN mg)(Kx:KX K mg)(gbG:CF P w K mg base "pairs_of" 1 (C_ K 1 nS))(gbH:CF P w K mg base "leads_at" 2 (C_ K 3 nU))(Qw:CCl P w K mg base "TooMany" 1 []):CF P w K mg base "leads_from" 3 (C_ K 3 eY) :=
 ⟨f,fd,["rule","crowd","limit"],bW (k:=2) Fn x_ (λr_ A outer s H E hr =>
  (af (aI (sh:=[.f,.f,.f,.f,.z,.z,.z,.z,.z]) (aK (i:=3) x_.nd (ak (bQ gbG hr.m (aa (av 0) au)))))
  (af (aI (sh:=[.f,.f,.f,.f,.t,.z,.z,.z,.z]) (pF true (i:=4) x_.nd rfl (lo rfl) rfl (.inl rfl)))
  (af (aI (sh:=[.f,.f,.f,.f,.t,.t,.z,.z,.z]) (GG (i:=5) (aj hr) x_.nd rfl (lo rfl) (av 1) eI rfl (.inl rfl)))
  (af (aI (sh:=[.f,.z,.f,.f,.t,.t,.o,.z,.z]) (eF (i:=6) x_.nd (eW (dB (aa (av 1) au)))))
  (af (kf (sh:=[.f,.z,.f,.f,.t,.t,.o,.z,.z]) (fuel:=10000) PassesOwn.leaving (bf (aO (mX (aj hr)) mZ (ao (bc gb j5 B.len lu (aG (bm (i:=4)) aM))) (ao (bc cq fE B.len lu (aG (bm (i:=6)) aM)))))
  (af (bK (bf (aO iu iw (ao (bc cq fE B.len lu (aG (bm (i:=6)) aM))) (j_ 2)))
  (aq (B9 Qw hr.m rfl (by decide)))
  aU)
  (af (aI (sh:=[.f,.z,.f,.f,.t,.t,.o,.f,.z]) (aK (i:=7) x_.nd (ak (z_ hr (bm (i:=6)) (ao (bc gb j5 B.len lu (aG (bm (i:=4)) aM)))))))
  (af (aI (sh:=[.f,.z,.f,.f,.t,.t,.o,.f,.z]) (jb (aj hr) (i:=4) rfl (vi rfl) (ak (av 7)) (ak (bQ gbH hr.m (aa (av 0) (aa (av 3) (aa (av 7) au))))) rfl))
  (aq (bJ (sh:=[.f,.z,.f,.f,.t,.t,.o,.z,.z]) PassesOwn.leaving rfl (bS (dg (z_ hr (bm (i:=4)) (j_ 7)))) (aC (i:=8) (be _) x_.nd)
  (aq (bK (bf (aO (cb (aj hr)) cD (ao (z_ hr (j_ 8) (ao ag))) (bm (i:=5))))
  (af (aI (sh:=[.f,.z,.f,.f,.t,.t,.o,.z,.f]) (jb (aj hr) (i:=5) rfl (vi rfl) (ak (z_ hr (j_ 8) (ao ag))) (ak eI) rfl))
  (aq (jc (i:=6) rfl (vi rfl) (aA (ak (z_ hr (j_ 8) (ao ag))) aL) rfl rfl rfl rfl rfl rfl)))
  aU))))))))
  (aq (lw (i:=4) (aS (ak (av 4)))))))))))
 (λds hl=>(by obtain⟨Qq,RW,ZF,rfl⟩:=Xj hl;kernel_rfl)),H_,Fn.kp,(xJ Fn λ_ _ _ _ _ _ _ _ _=>rfl)⟩
abbrev kO:Stmt:=top 18
abbrev zt:List Str:=["leads","backs","crowd","led","lead"]
def Oe:l_ zt ["leads"] (aB kO):=Pl rfl rfl rfl rfl (by kernel_rfl)
def i9(UO:D):M D :=
 oM (vd UO)
def nW:=Vv i9
def wy(Fn:Oy K "backs_of" "backs_of" kO f fd)(H_:mg "backs_of"=some (.ref f))(B:BN mg)(Kx:KX K mg):CF P w K mg base "backs_of" 1 (C_ K 1 nW) :=
 ⟨f,fd,["leads"],bW (k:=0) Fn Oe (λr_ A outer s H E hr =>
  (B8 (jB (jC (i:=1) Oe.nd rfl (lo rfl) v6) (jB (uw PassesOwn.leaving rfl (Fs (cO (i:=0) rfl (vi rfl))) (lH (i:=2) Oe.nd rfl (lo rfl)) (lG (zO (wn (Nat.add_le_add_left (show 1<=1100 by decide) _) (aj hr)) (cO (i:=1) rfl (vi rfl)) (cO (i:=2) rfl (vi rfl)) (Di iQ) rfl)))
  (jB (uw PassesOwn.leaving rfl (De (cO (i:=0) rfl (vi rfl)) rfl rfl) (Dg rfl (qq (lH (i:=2) Oe.nd rfl (lo rfl)) (qq (lH (i:=3) Oe.nd rfl (lo rfl)) zS))) (lG (uw PassesOwn.leaving rfl (Fq (cO (i:=3) rfl (vi rfl))) (lH (i:=4) Oe.nd rfl (lo rfl)) (lG (o8 (Dl M7 PySem.F.slot_list_append PySem.F.type_list_append tB (zT (Ah (aj hr)) (cO (i:=1) rfl (vi rfl)) (zT UA (cO (i:=4) rfl (vi rfl)) Dj (λ_ _=>rfl)) (λ_ _=>rfl)) (dR (cO (i:=2) rfl (vi rfl)) iQ)))))))
  eX))) (lG (yn (cO (i:=1) rfl (vi rfl))))))
 (λds hl=>(by obtain⟨UO,rfl⟩:=UZ hl;kernel_rfl)),H_,Fn.kp,(Gw Fn λ_ _ _ _ _ _ _=>rfl)⟩
abbrev kN:Stmt:=top 19
abbrev zr:List Str:=["backs","goals","far","goal","found","place","here","crowd"]
def E_:l_ zr ["backs","goals"] (aB kN):=Pl rfl rfl rfl rfl (by kernel_rfl)
def sr(T4:D)(SY:List (D×D))(Rg:List D)(U3:D):M D :=
 .ret (PyData.dict SY)
def hV(kn3:D×List (D×D)×List D×D×Unit->M D)(T4:D)(SY:List (D×D))(Rg:List D)(U3 gbY:D):M D :=
 bd (oM (mY U3 (.int 1))) λx9=>kn3 (T4,SY,Rg,x9,())
def hG(kn3:D×List (D×D)×List D×D×Unit->M D)(T4:D)(SY:List (D×D))(Rg:List D)(U3 gbY d_:D)(Rm:D×List (D×D)×List D×D×D×Unit->M D):M D :=
 bd (oM (bE d_ (PyData.dict SY))) λV8=>if V8 then
  bd (bd (oM (aH (PyData.dict SY) gbY)) λPM=>oM (bn PM (.int 1))) λR3=>bd (oM (iE true SY d_ R3)) λVA=>bd (oM (oI Rg [d_])) λXl=>Rm (T4,VA,Xl,U3,gbY,())
  else
  Rm (T4,SY,Rg,U3,gbY,())
def cW(T4:D)(SY:List (D×D))(Rg:List D)(U3:D)(kn3:D×List (D×D)×List D×D×Unit->M D):M D :=
 bd (bd (oM (fm [(PyData.list Rg)])) λx4=>oM (gI U3 x4)) λb5=>if b5 then
  bd (oM (aH (PyData.list Rg) U3)) λx6=>bd (bd (oM (aH T4 x6)) λx7=>oM (dQ x7)) λl8=>dP (λQ2 V4 kn=>hG kn3 Q2.1 Q2.2.1 Q2.2.2.1 Q2.2.2.2.1 Q2.2.2.2.2.1 V4 kn) l8 (T4,SY,Rg,U3,x6,()) (λQ2=>hV kn3 Q2.1 Q2.2.1 Q2.2.2.1 Q2.2.2.2.1 Q2.2.2.2.2.1)
  else sr T4 SY Rg U3
def e6(T4 gbX:D)(SY:List (D×D)):M D :=
 bd (oM (n8 [gbX])) λl2=>mM (λVo kn=>cW Vo.1 Vo.2.1 Vo.2.2.1 Vo.2.2.2.1 kn) 10000 (T4,SY,l2,(.int 0),())
def hJ(T4 gbX:D)(SY:List (D×D))(d_:D)(RE:D×D×List (D×D)×Unit->M D):M D :=
 bd (oM (iE true SY d_ (.int 0))) λVy=>RE (T4,gbX,Vy,())
def gx(gbW gbP:D):M D :=
 bd (oM (dQ gbP)) λl1=>dP (λP0 ZN kn=>hJ P0.1 P0.2.1 P0.2.2.1 ZN kn) l1 (gbW,gbP,[],()) (λP0=>e6 P0.1 P0.2.1 P0.2.2.1)
def nV:=Qp gx
def ww(Fn:Oy K "far_from" "far_from" kN f fd)(H_:mg "far_from"=some (.ref f))(B:BN mg)(Kx:KX K mg):CF P w K mg base "far_from" 1 (C_ K 2 nV) :=
 ⟨f,fd,["backs","goals"],bW (k:=0) Fn E_ (λr_ A outer s H E hr =>
  (af (aI (sh:=[.f,.f,.t,.z,.z,.z,.z,.z]) (pF true (i:=2) E_.nd rfl (lo rfl) rfl (.inl rfl)))
  (af (bJ (sh:=[.f,.f,.t,.z,.z,.z,.z,.z]) PassesOwn.leaving rfl (bS (dg (av 1))) (aC (i:=3) (be _) E_.nd)
  (aq (jb (aj hr) (i:=2) rfl (vi rfl) (ak (av 3)) (ak ag) rfl)))
  (af (aI (sh:=[.f,.z,.t,.z,.o,.z,.z,.z]) (eF (i:=4) E_.nd (eW (nK i6 uC B.list (by decide +kernel) (aG (j_ 1) aM)))))
  (af (aI (sh:=[.f,.z,.t,.z,.o,.f,.z,.z]) (aK (i:=5) E_.nd (ak ag)))
  (af (kf (sh:=[.f,.z,.t,.z,.o,.f,.z,.z]) (fuel:=10000) PassesOwn.leaving (bf (aO (mX (aj hr)) mZ (j_ 5) (ao (bc cq fE B.len lu (aG (bm (i:=4)) aM)))))
  (af (aI (sh:=[.f,.z,.t,.z,.o,.f,.f,.z]) (aK (i:=6) E_.nd (ak (z_ hr (bm (i:=4)) (j_ 5)))))
  (af (bJ (sh:=[.f,.z,.t,.z,.o,.f,.f,.z]) PassesOwn.leaving rfl (bS (dg (z_ hr (j_ 0) (j_ 6)))) (aC (i:=7) (be _) E_.nd)
  (aq (bK (bf (aO (cb (aj hr)) cD (j_ 7) (bm (i:=2))))
  (af (aI (sh:=[.f,.z,.t,.z,.o,.f,.f,.f]) (jb (aj hr) (i:=2) rfl (vi rfl) (ak (av 7)) (ak (aP aX bq (ao (z_ hr (bm (i:=2)) (j_ 6))) (ao ag))) rfl))
  (aq (jc (i:=4) rfl (vi rfl) (aA (ak (av 7)) aL) rfl rfl rfl rfl rfl rfl)))
  aU)))
  (aq (JH (i:=5) E_.nd rfl (lo rfl) yN uU (ak ag) (.inl rfl))))))
  (aq (lw (i:=2) (aS (ak (av 2)))))))))))
 (λds hl=>(by obtain⟨gbW,gbP,rfl⟩:=ln2 hl;kernel_rfl)),H_,Fn.kp,(gA Fn λ_ _ _ _ _ _ _ _=>rfl)⟩
abbrev kM:Stmt:=top 22
abbrev zq:List Str:=["some","counts"]
def vV:l_ zq ["some","counts"] (aB kM):=Pl rfl rfl rfl rfl (by kernel_rfl)
abbrev Qe:List Str:=["some","counts","sort"]
def oG:Qe.Nodup:=by decide +kernel
def eT(gbZ gap:D):M D :=
 bd (bd (bd (bd (oM (dQ gbZ)) λl3=>bd (aV (λd1=>bd (oM (aH gap d1)) λx2=>.ret (some x2)) l3) cA) λl4=>.ret (PyData.list l4)) λx5=>oM (my [x5])) λx6=>.ret x6
def jH:=Qp eT
def wv(Fn:Oy K "hands_of" "hands_of" kM f fd)(H_:mg "hands_of"=some (.ref f))(B:BN mg)(Kx:KX K mg):CF P w K mg base "hands_of" 1 (C_ K 2 jH) :=
 ⟨f,fd,["some","counts"],bW (k:=0) Fn vV (λr_ A outer s H E hr =>
  (aq (aS (ak (bc (nG rfl) uB B.sum (by decide +kernel) (aG (ao (hW (dz (N':=Qe) (k:=1) rfl (aW (by kernel_rfl) rfl rfl) (dg (av 0)) (λ_ _ _ _ _=>(aC (i:=2) (show 2<=2 by decide) oG)) (λ_ _ _ _ _=>cS) (λ_ _ _ _ _=>(z_ hr (j_ 1) (j_ 2)))))) aM))))))
 (λds hl=>(by obtain⟨gbZ,gap,rfl⟩:=ln2 hl;kernel_rfl)),H_,Fn.kp,(gA Fn λ_ _ _ _ _ _ _ _=>rfl)⟩
abbrev oZ:Stmt:=top 21
abbrev GN:List Str:=["question","counts","word","many"]
def QZ:l_ GN ["question","counts"] (aB oZ):=Pl rfl rfl rfl rfl (by kernel_rfl)
def nI(self:D->D->M D)(Sj gap:D):M D :=
 bd (oM (aH Sj (.int 0))) λx1=>bd (oM (aZ x1 (.str "not"))) λb2=>if b2 then
  bd (bd (bd (bd (bd (oM (aH Sj (.int 1))) λx3=>self x3 gap) λx4=>oM (ki x4)) λb5=>.ret (!b5)) λb6=>.ret (.bool b6)) λx7=>.ret x7
  else
  bd (oM (aZ x1 (.str "both"))) λb8=>if b8 then
  bd (bd (bd (bd (bd (oM (aH Sj (.int 1))) λx9=>self x9 gap) λQP=>X2 QP) λV7=>if V7 then bd (bd (oM (aH Sj (.int 2))) λPN=>self PN gap) λPM=>X2 PM else .ret false) λb14=>.ret (.bool b14)) λQi=>.ret Qi
  else
  bd (oM (aZ x1 (.str "either"))) λT7=>if T7 then
  bd (bd (bd (bd (bd (oM (aH Sj (.int 1))) λSx=>self Sx gap) λU_=>X2 U_) λZT=>if ZT then .ret true else bd (bd (oM (aH Sj (.int 2))) λQW=>self QW gap) λRx=>X2 Rx) λb22=>.ret (.bool b22)) λRL=>.ret RL
  else
  bd (bd (oM (aH Sj (.int 1))) λRb=>eT Rb gap) λSG=>bd (oM (aZ x1 (.str "least"))) λb26=>if b26 then
  bd (bd (bd (oM (aH Sj (.int 2))) λUS=>oM (uA SG US)) λb28=>.ret (.bool b28)) λWh=>.ret Wh
  else
  bd (oM (aZ x1 (.str "more"))) λb30=>if b30 then
  bd (bd (bd (bd (oM (aH Sj (.int 2))) λWW=>eT WW gap) λWV=>oM (dX SG WV)) λb33=>.ret (.bool b33)) λWU=>.ret WU
  else
  bd (bd (bd (bd (oM (aH Sj (.int 2))) λWT=>oM (cY SG WT)) λYH=>bd (oM (aH Sj (.int 3))) λx37=>oM (aZ YH x37)) λb38=>.ret (.bool b38)) λYF=>.ret YF
def mK:Nat->D->D->M D
 | 0=>λ_ _=>.bad
 | i+1=>nI (mK i)
def fi(i:Nat):List D->M D:=λl=>match l with
 | [Sj,gap]=>mK i Sj gap
 | _=>.bad
def D5(Fn:Oy K "holds" "holds" oZ f fd)(B:BN mg)(Kx:KX K mg)(Yp:CF P w K mg base "hands_of" 1 (C_ K 2 jH))(i:Nat)(Pe:CF P w K mg base "holds" (2+i) (C_ K 2 (fi i))):Oz P w K mg base (PF P w) (2+i+1) f fd ["question","counts"] (C_ K 2 (fi (i+1))) :=
 bW (k:=2+i) Fn QZ (λr_ A outer s H E hr =>
  (af (aI (sh:=[.f,.f,.f,.z]) (aK (i:=2) QZ.nd (ak (z_ hr (j_ 0) (ao ag)))))
  (af (bK (bf (aO (bA (aj hr)) bw (j_ 2) (ao br)))
  (aq (aS (ak (fA (pH (ao (bQ Pe (hr.mono (by omega)) (aa (z_ hr (j_ 0) (ao ag)) (aa (av 1) au)))))))))
  aU)
  (af (bK (bf (aO (bA (aj hr)) bw (j_ 2) (ao br)))
  (aq (aS (ak (fA (vv (AX (bQ Pe (hr.mono (by omega)) (aa (z_ hr (j_ 0) (ao ag)) (aa (av 1) au)))) (vq (AX (bQ Pe (hr.mono (by omega)) (aa (z_ hr (j_ 0) (ao ag)) (aa (av 1) au))))))))))
  aU)
  (af (bK (bf (aO (bA (aj hr)) bw (j_ 2) (ao br)))
  (aq (aS (ak (fA (LP (AX (bQ Pe (hr.mono (by omega)) (aa (z_ hr (j_ 0) (ao ag)) (aa (av 1) au)))) (vq (AX (bQ Pe (hr.mono (by omega)) (aa (z_ hr (j_ 0) (ao ag)) (aa (av 1) au))))))))))
  aU)
  (af (aI (sh:=[.f,.f,.f,.f]) (aK (i:=3) QZ.nd (ak (bQ Yp (hr.mono (by omega)) (aa (z_ hr (j_ 0) (ao ag)) (aa (av 1) au))))))
  (af (bK (bf (aO (bA (aj hr)) bw (j_ 2) (ao br)))
  (aq (aS (ak (fA (cM sY tj (j_ 3) (ao (z_ hr (j_ 0) (ao ag))))))))
  aU)
  (af (bK (bf (aO (bA (aj hr)) bw (j_ 2) (ao br)))
  (aq (aS (ak (fA (cM iu iw (j_ 3) (ao (bQ Yp (hr.mono (by omega)) (aa (z_ hr (j_ 0) (ao ag)) (aa (av 1) au)))))))))
  aU)
  (aq (aS (ak (fA (cM (bA (aj hr)) bw (ao (aP dU dY (j_ 3) (ao (z_ hr (j_ 0) (ao ag))))) (ao (z_ hr (j_ 0) (ao ag))))))))))))))))
 (λds hl=>(by obtain⟨Sj,gap,rfl⟩:=ln2 hl;kernel_rfl))
def Du(Fn:Oy K "holds" "holds" oZ f fd)(H_:mg "holds"=some (.ref f))(B:BN mg)(Kx:KX K mg)(Yp:CF P w K mg base "hands_of" 1 (C_ K 2 jH))(i:Nat):CF P w K mg base "holds" (2+i) (C_ K 2 (fi i)):=by
 induction i with
 | zero =>
  have e:fi 0=λ_=>.bad:=by
   funext l;unfold fi;split<;>rfl
  rw[e];exact CF.zero (ps:=["question","counts"]) _ _ H_ Fn.kp (gA Fn λ_ _ _ _ _ _ _ _=>rfl)
 | succ i ih=>exact⟨f,fd,["question","counts"],D5 Fn B Kx Yp i ih,H_,Fn.kp,(gA Fn λ_ _ _ _ _ _ _ _=>rfl)⟩
abbrev jp:Stmt:=top 25
abbrev xO:List Str:=["rule","leads","truth","word"]
def PY:l_ xO ["rule","leads","truth"] (aB jp):=Pl rfl rfl rfl rfl (by kernel_rfl)
abbrev Pw:List Str:=["rule","leads","truth","word","crowd"]
def nh:Pw.Nodup:=by decide +kernel
def gQ(Qq UO ZE:D):M D :=
 bd (bd (oM (ki ZE)) λb1=>if b1 then .ret (.str "yes")else .ret (.str "no")) λx2=>bd (bd (bd (oM (uo UO)) λl6=>bd (aV (λd3=>bd (bd (nH Qq d3) λx4=>oM (dO x4 x2)) λb5=>if b5 then .ret (some d3)else .ret none) l6) cA) λl7=>.ret (PyData.list l7)) λx8=>.ret x8
def lR:=Ur gQ
def uE(Fn:Oy K "astray_in" "astray_in" jp f fd)(H_:mg "astray_in"=some (.ref f))(B:BN mg)(Kx:KX K mg)(gb0:CF P w K mg base "said" 1 (C_ K 2 Ad)):CF P w K mg base "astray_in" 2 (C_ K 3 lR) :=
 ⟨f,fd,["rule","leads","truth"],bW (k:=1) Fn PY (λr_ A outer s H E hr =>
  (af (aI (sh:=[.f,.f,.z,.f]) (aK (i:=3) PY.nd (ak (rH (zl (j_ 2) (λ_=>rfl)) br br))))
  (aq (aS (ak (hW (dz (N':=Pw) (k:=1) rfl (aW (by kernel_rfl) rfl rfl) (jd (av 1)) (λ_ _ _ _ _=>(aC (i:=4) (show 4<=4 by decide) nh)) (λ_ _ _ _ _=>(eD (aO (gX (aj hr)) bw (ao (bQ gb0 hr.m (aa (av 0) (aa (av 4) au)))) (j_ 3)))) (λ_ _ _ _ _=>(av 4)))))))))
 (λds hl=>(by obtain⟨Qq,UO,ZE,rfl⟩:=Xj hl;kernel_rfl)),H_,Fn.kp,(xJ Fn λ_ _ _ _ _ _ _ _ _=>rfl)⟩
abbrev mS:Stmt:=top 26
abbrev Ce:List Str:=["rule","leads","truth","backs","unsettled","hopeful"]
def O0:l_ Ce ["rule","leads","truth"] (aB mS):=Pl rfl rfl rfl rfl (by kernel_rfl)
abbrev O_:List Str:=["rule","leads","truth","backs","unsettled","hopeful","crowd"]
def jF:O_.Nodup:=by decide +kernel
def kb(Qq UO ZE:D):M D :=
 bd (i9 UO) λx1=>bd (bd (gQ Qq UO ZE) λx2=>gx x1 x2) λx3=>bd (bd (bd (bd (oM (uo UO)) λl6=>bd (aV (λd4=>bd (oM (bE d4 x3)) λb5=>if b5 then .ret (some d4)else .ret none) l6) cA) λl7=>.ret (PyData.list l7)) λx8=>gx x1 x8) λx9=>bd (bd (bd (oM (uo UO)) λTR=>bd (aV (λd10=>bd (oM (bE d10 x9)) λV8=>if V8 then .ret (some d10)else .ret none) TR) cA) λUv=>.ret (PyData.list Uv)) λR1=>.ret R1
def iW:=Ur kb
def yt(Fn:Oy K "lost_in" "lost_in" mS f fd)(H_:mg "lost_in"=some (.ref f))(B:BN mg)(Kx:KX K mg)(gbI:CF P w K mg base "backs_of" 1 (C_ K 1 nW))(gbw:CF P w K mg base "far_from" 1 (C_ K 2 nV))(gbz:CF P w K mg base "astray_in" 2 (C_ K 3 lR)):CF P w K mg base "lost_in" 3 (C_ K 3 iW) :=
 ⟨f,fd,["rule","leads","truth"],bW (k:=2) Fn O0 (λr_ A outer s H E hr =>
  (af (aI (sh:=[.f,.f,.f,.f,.z,.z]) (aK (i:=3) O0.nd (ak (bQ gbI hr.m (aa (av 1) au)))))
  (af (aI (sh:=[.z,.f,.z,.f,.f,.z]) (aK (i:=4) O0.nd (ak (bQ gbw hr.m (aa (av 3) (aa (bQ gbz hr.m (aa (av 0) (aa (av 1) (aa (av 2) au)))) au))))))
  (af (aI (sh:=[.z,.f,.z,.z,.z,.f]) (aK (i:=5) O0.nd (ak (bQ gbw hr.m (aa (av 3) (aa (hW (dz (N':=O_) (k:=1) rfl (aW (by kernel_rfl) rfl rfl) (jd (av 1)) (λ_ _ _ _ _=>(aC (i:=6) (show 6<=6 by decide) jF)) (λ_ _ _ _ _=>(eD (aO (cb (aj hr)) cD (j_ 6) (j_ 4)))) (λ_ _ _ _ _=>(av 6)))) au))))))
  (aq (aS (ak (hW (dz (N':=O_) (k:=1) rfl (aW (by kernel_rfl) rfl rfl) (jd (av 1)) (λ_ _ _ _ _=>(aC (i:=6) (show 6<=6 by decide) jF)) (λ_ _ _ _ _=>(eD (aO (cb (aj hr)) cD (j_ 6) (j_ 5)))) (λ_ _ _ _ _=>(av 6)))))))))))
 (λds hl=>(by obtain⟨Qq,UO,ZE,rfl⟩:=Xj hl;kernel_rfl)),H_,Fn.kp,(xJ Fn λ_ _ _ _ _ _ _ _ _=>rfl)⟩
abbrev il:Stmt:=top 24
abbrev Cf:List Str:=["rule","question","counts","limit","leads"]
def Q0:l_ Cf ["rule","question","counts","limit"] (aB il):=Pl rfl rfl rfl rfl (by kernel_rfl)
def cF(Qq Sj:D)(gap ZF:D):M D :=
 bd (bd (py Qq gap) λx1=>dq Qq x1 ZF) λx2=>bd (bd (bd (bd (bd (mK 8 Sj gap) λx3=>kb Qq x2 x3) λx4=>oM (kB [x4])) λx5=>oM (aZ x5 (.int 0))) λb6=>.ret (.bool b6)) λx7=>.ret x7
def eO:=zac cF
def qN(Fn:Q_ K "answers" "answers" il f fd T)(hT:Yy K T 1000)(B:BN mg)(Kx:KX K mg)(WE:CF P w K mg base "leads_from" 3 (C_ K 3 eY))(Ww:CF P w K mg base "begun" 1 (C_ K 2 lQ))(WG:CF P w K mg base "lost_in" 3 (C_ K 3 iW))(Wv:CF P w K mg base "holds" 10 (C_ K 2 (fi 8))):Oz P w K mg base (PF P w) 11 f fd ["rule","question","counts","limit"] (C_ K 4 eO) :=
 Gg (k:=10) Fn Q0 (λr_ A outer s H E hr =>
  (af (aI (sh:=[.f,.f,.f,.z,.f]) (aK (i:=4) Q0.nd (ak (bQ WE hr.m (aa (av 0) (aa (bQ Ww hr.m (aa (av 0) (aa (av 2) au))) (aa (av 3) au)))))))
  (aq (aS (ak (fA (cM (bA (aj hr)) bw (ao (bc gb j5 B.len lu (aG (ao (bQ WG hr.m (aa (av 0) (aa (av 4) (aa (bQ Wv hr.m (aa (av 1) (aa (av 2) au))) au))))) aM))) (ao ag))))))))
 (λds hl=>(by obtain⟨Qq,Sj,gap,ZF,rfl⟩:=ln4 hl;kernel_rfl))
def yu(Fn:Q_ K "answers" "answers" il f fd T)(hT:Yy K T 1000)(H_:mg "answers"=some (.ref f))(B:BN mg)(Kx:KX K mg)(WE:CF P w K mg base "leads_from" 3 (C_ K 3 eY))(Ww:CF P w K mg base "begun" 1 (C_ K 2 lQ))(WG:CF P w K mg base "lost_in" 3 (C_ K 3 iW))(Wv:CF P w K mg base "holds" 10 (C_ K 2 (fi 8))):CF P w K mg base "answers" 11 (C_ K 4 eO) :=
 ⟨f,fd,["rule","question","counts","limit"],qN Fn hT B Kx WE Ww WG Wv,H_,Fn.kp,(Fn.XY hT λ_ _ _ _ _ _ us u hl=>(by obtain⟨a0,a1,a2,a3,rfl⟩:=ln4 hl;exact⟨_,rfl,rfl⟩))⟩
def yv(Fn:Q_ K "answers" "answers" il f fd T)(hT:Yy K T 1000)(H_:mg "answers"=some (.ref f))(B:BN mg)(Kx:KX K mg)(WE:CF P w K mg base "leads_from" 3 (C_ K 3 eY))(Ww:CF P w K mg base "begun" 1 (C_ K 2 lQ))(WG:CF P w K mg base "lost_in" 3 (C_ K 3 iW))(Wv:CF P w K mg base "holds" 10 (C_ K 2 (fi 8))):CFd P w K mg base "answers" 11 (C_ K 4 eO) 1000 :=
 ⟨f,fd,["rule","question","counts","limit"],hT.choose_spec.choose_spec.choose,qN Fn hT B Kx WE Ww WG Wv,H_,Fn.kp,(Fn.XX hT λ_ _ _ _ _ _ us u hl=>(by obtain⟨a0,a1,a2,rfl⟩:=Xj (Nat.succ.inj hl);exact⟨_,rfl,rfl⟩)),hT.choose_spec.choose_spec.choose_spec.2.2⟩
abbrev jv:Stmt:=top 28
abbrev xU:List Str:=["_law_script","_law_at","_law_cell"]
def O1:l_ xU ["_law_script","_law_at"] (aB jv):=Pl rfl rfl rfl rfl (by kernel_rfl)
def eu(gbJ:D):M (List D) :=
 bd (bd (bd (oM (qQ [(.int 0),gbJ])) λR1=>bd (bd (bd (bd (oM (zY (.int 10) (.int 18))) λPN=>oM (uA gbJ PN)) λb12=>.ret (.bool b12)) λR3=>oM (mz [R3])) λQi=>oM (dW R1 Qi)) λR0=>.ret [gbJ,R0,(.int 0)]) λXk=>.ret Xk
def gS(U4 Yi:D):M (List D) :=
 bd (oM (dW (.int 31) Yi)) λx1=>bd (bd (oM (fm [U4])) λx2=>oM (dX x2 (.int 0))) λb3=>if b3 then
  bd (bd (bd (bd (oM (fm [U4])) λx4=>oM (cY Yi x4)) λx5=>oM (aH U4 x5)) λx8=>bd (bd (bd (oM (fm [U4])) λx6=>oM (qy Yi x6)) λx7=>oM (dW (.int 7919) x7)) λx9=>oM (bn x8 x9)) λQP=>eu QP
  else
  eu x1
def lW:List D->M (List D):=λl=>match l with
 | [U4,Yi]=>gS U4 Yi
 | _=>.bad
def uK(Fn:Oy K "_law_feed" "_law_feed" jv f fd)(H_:mg "_law_feed"=some (.ref f))(B:BN mg)(Kx:KX K mg):CF P w K mg base "_law_feed" 1 (YN K 2 lW) :=
 ⟨f,fd,["_law_script","_law_at"],Je (k:=0) Fn O1 (λr_ A outer s H E hr =>
  (af (aI (sh:=[.f,.f,.f]) (aK (i:=2) O1.nd (ak (aP iR iS (ao ag) (j_ 1)))))
  (af (aI (sh:=[.z,.z,.f]) (bK (bf (aO iu iw (ao (bc cq fE B.len lu (aG (j_ 0) aM))) (ao ag)))
  (aq (aK (i:=2) O1.nd (ak (aP aX bq (ao (z_ hr (j_ 0) (ao (aP dU dY (j_ 1) (ao (bc cq fE B.len lu (aG (j_ 0) aM))))))) (ao (aP iR iS (ao ag) (ao (aP o9 uD (j_ 1) (ao (bc cq fE B.len lu (aG (j_ 0) aM)))))))))))
  aU))
  (aq (GC (eW (dB (aa (av 2) (aa (aP iR iS (ao (bc (tX rfl) zZ B.max (by decide +kernel) (aG (ao ag) (aG (j_ 2) aM)))) (ao (bC eS kX B.int (by decide +kernel) (aG (ao (fA (cM sY tj (j_ 2) (ao (aP Iz IF (ao ag) (ao ag)))))) aM)))) (aa ag au))))))))))
 (λds hl=>(by obtain⟨U4,Yi,rfl⟩:=ln2 hl;kernel_rfl)),H_,Fn.kp,(gA Fn λ_ _ _ _ _ _ _ _=>rfl)⟩
abbrev jw:Stmt:=top 29
abbrev xV:List Str:=["_law_feed_here","_law_many","_law_turn","_law_left","_law_here","_law_mixed"]
def Og:l_ xV ["_law_feed_here","_law_many"] (aB jw):=Pl rfl rfl rfl rfl (by kernel_rfl)
def az(Ql:List D)(Yo:D):M (D×List D) :=
 bd (oM (aH (PyData.list Ql) (.int 2))) λx1=>bd (oM (bn x1 (.int 1))) λx2=>bd (oM (putD Ql (.int 2) x2)) λl3=>bd (oM (aH (PyData.list l3) (.int 1))) λx4=>bd (oM (dX x4 (.int 0))) λb5=>if b5 then
  bd (oM (qy x4 Yo)) λx6=>bd (oM (putD l3 (.int 1) x6)) λl7=>bd (oM (cY x4 Yo)) λx8=>.ret (x8,l7)
  else
  bd (bd (bd (bd (oM (aH (PyData.list l3) (.int 0))) λx9=>oM (cY x9 (.int 2147483647))) λPN=>bd (bd (oM (dW (.int 31) x1)) λQP=>oM (dW QP x1)) λPM=>oM (bn PN PM)) λR3=>oM (bn R3 (.int 1))) λR1=>bd (bd (bd (bd (oM (dW (.int 40) x1)) λQi=>oM (bn (.int 48271) Qi)) λR0=>oM (dW R1 R0)) λSx=>oM (cY Sx (.int 2147483629))) λU_=>bd (bd (bd (bd (bd (bd (oM (qy U_ (.int 11))) λQW=>oM (dW QW (.int 69621))) λRx=>oM (bn Rx x1)) λWY=>oM (cY WY (.int 998244353))) λUk=>oM (qy Uk (.int 7))) λRL=>oM (cY RL Yo)) λRb=>.ret (Rb,l3)
def cw:List D->List D->M (D×List D):=λQl l=>match l with
 | [Yo]=>az Ql Yo
 | _=>.bad
def uL(Fn:Oy K "_law_draw" "_law_draw" jw f fd)(H_:mg "_law_draw"=some (.ref f))(B:BN mg)(Kx:KX K mg):CF P w K mg base "_law_draw" 1 (PV K 2 cw) :=
 ⟨f,fd,["_law_feed_here","_law_many"],lj (k:=0) Fn Og (λr_ A outer s H E hr =>
  (af (aI (sh:=[.p,.f,.f,.z,.z,.z]) (aK (i:=2) Og.nd (ak (z_ hr (bm (i:=0)) (ao ag)))))
  (af (aI (sh:=[.p,.f,.f,.z,.z,.z]) (nJ (i:=0) rfl (vi rfl) (ak ag) (ak (aP aX bq (j_ 2) (ao ag))) (λ_=>rfl) rfl rfl rfl))
  (af (aI (sh:=[.p,.f,.f,.f,.z,.z]) (aK (i:=3) Og.nd (ak (z_ hr (bm (i:=0)) (ao ag)))))
  (af (bK (bf (aO iu iw (j_ 3) (ao ag)))
  (af (aI (sh:=[.p,.f,.z,.f,.z,.z]) (nJ (i:=0) rfl (vi rfl) (ak ag) (ak (aP o9 uD (j_ 3) (j_ 1))) (λ_=>rfl) rfl rfl rfl))
  (aq (aS (ak (aP dU dY (j_ 3) (j_ 1))))))
  aU)
  (af (aI (sh:=[.p,.f,.f,.z,.f,.z]) (aK (i:=4) Og.nd (ak (aP aX bq (ao (aP aX bq (ao (aP dU dY (ao (z_ hr (bm (i:=0)) (ao ag))) (ao ag))) (ao (aP iR iS (ao (aP iR iS (ao ag) (j_ 2))) (j_ 2))))) (ao ag)))))
  (af (aI (sh:=[.p,.f,.f,.z,.z,.f]) (aK (i:=5) Og.nd (ak (aP dU dY (ao (aP iR iS (j_ 4) (ao (aP aX bq (ao ag) (ao (aP iR iS (ao ag) (j_ 2))))))) (ao ag)))))
  (aq (aS (ak (aP dU dY (ao (aP o9 uD (ao (aP dU dY (ao (aP aX bq (ao (aP iR iS (ao (aP o9 uD (j_ 5) (ao ag))) (ao ag))) (j_ 2))) (ao ag))) (ao ag))) (j_ 1))))))))))))
 (λg ds hl=>(by obtain⟨Yo,rfl⟩:=UZ (Nat.succ.inj hl);kernel_rfl)),H_,Fn.kp,(gA Fn λ_ _ _ _ _ _ _ _=>rfl)⟩
abbrev jr:Stmt:=top 30
abbrev xQ:List Str:=["_law_feed_here","_law_most","_law_rooms","_law_sorts_here","_law_starts","_law_says","_law_often","_law_meets","_law_a","_law_b","_law_c","_law_d"]
def q_:l_ xQ ["_law_feed_here","_law_most"] (aB jr):=Pl rfl rfl rfl rfl (by kernel_rfl)
abbrev Pz:List Str:=["_law_feed_here","_law_most","_law_rooms","_law_sorts_here","_law_starts","_law_says","_law_often","_law_meets","_law_a","_law_b","_law_c","_law_d","_law_sort"]
def nv:Pz.Nodup:=by decide +kernel
abbrev Py:List Str:=["_law_feed_here","_law_most","_law_rooms","_law_sorts_here","_law_starts","_law_says","_law_often","_law_meets","_law_a","_law_b","_law_c","_law_d","_law_room"]
def nr:Py.Nodup:=by decide +kernel
def jX(QM:List D)(Uc Qt:D)(VU VX:D)(Qr:List D):M (D×List D) :=
 bd (bd (oM (cj [(PyData.list Qr)])) λRL=>.ret (.tuple [Uc,Qt,RL,VU])) λRb=>.ret (Rb,QM)
def jW(Uy:List D×D×D×D×D×List D×Unit->M (D×List D))(QM:List D)(Uc Qt:D)(VU VX:D)(Qr:List D)(Qk:D):M (D×List D) :=
 Uy (QM,Uc,Qt,VU,VX,Qr,())
def jV(Uy:List D×D×D×D×D×List D×Unit->M (D×List D))(QM:List D)(Uc Qt:D)(VU VX:D)(Qr:List D)(Qk d_:D)(Xo:List D×D×D×D×D×List D×D×Unit->M (D×List D)):M (D×List D) :=
 bd (az QM Uc) λVq=>bd (az Vq.2 Uc) λr29=>bd (az r29.2 VX) λr30=>bd (oM (aZ r30.1 (.int 0))) λb31=>if b31 then bd (bd (bd (oM (qP [(PyData.list [Vq.1,r29.1])])) λl32=>.ret (PyData.list l32)) λx33=>oM (dO x33 (PyData.list [Qk,d_]))) λb34=>if b34 then
  bd (oM (oI Qr [(.tuple [Qk,d_,Vq.1,r29.1])])) λl35=>Xo (r30.2,Uc,Qt,VU,VX,l35,Qk,())
  else
  Xo (r30.2,Uc,Qt,VU,VX,Qr,Qk,())else Xo (r30.2,Uc,Qt,VU,VX,Qr,Qk,())
def gy(QM:List D)(Uc Qt:D)(VU VX:D)(Qr:List D)(d_:D)(Uy:List D×D×D×D×D×List D×Unit->M (D×List D)):M (D×List D) :=
 bd (oM (gO [d_,Uc])) λl26=>dP (λSN d37 kn=>jV Uy SN.1 SN.2.1 SN.2.2.1 SN.2.2.2.1 SN.2.2.2.2.1 SN.2.2.2.2.2.1 SN.2.2.2.2.2.2.1 d37 kn) l26 (QM,Uc,Qt,VU,VX,Qr,d_,()) (λSN=>jW Uy SN.1 SN.2.1 SN.2.2.1 SN.2.2.2.1 SN.2.2.2.2.1 SN.2.2.2.2.2.1 SN.2.2.2.2.2.2.1)
def dc(Ql:List D)(Tw:D):M (D×List D) :=
 bd (az Ql Tw) λr1=>bd (oM (bn (.int 1) r1.1)) λx2=>bd (az r1.2 (.int 5)) λr3=>bd (oM (aH (PyData.list [(.int 1),(.int 2),(.int 2),(.int 3),(.int 4)]) r3.1)) λx4=>bd (oM (bx [x4])) λl5=>bd (d0 (λs6 d7=>bd (az s6.1 s6.2.1) λr8=>.ret (some r8.1,(r8.2,s6.2.1,s6.2.2.1,()))) l5 (r3.2,x2,x4,())) λr9=>bd (cA r9.1) λY_=>bd (oM (cj [(PyData.list Y_)])) λPN=>bd (oM (bx [r9.2.2.1])) λTR=>bd (d0 (λRA UP=>bd (az RA.1 (.int 2)) λYW=>bd (oM (aZ YW.1 (.int 1))) λT7=>.ret (some (.bool T7),(YW.2,RA.2.1,RA.2.2.1,()))) TR (r9.2.1,r9.2.2.1,PN,())) λTQ=>bd (cA TQ.1) λVz=>bd (oM (cj [(PyData.list Vz)])) λQW=>bd (az TQ.2.1 (.int 3)) λr20=>bd (oM (bn (.int 1) r20.1)) λWY=>bd (oM (bx [TQ.2.2.1])) λVx=>dP (λTL d39 kn=>gy TL.1 TL.2.1 TL.2.2.1 TL.2.2.2.1 TL.2.2.2.2.1 TL.2.2.2.2.2.1 d39 kn) Vx (r20.2,TQ.2.2.1,TQ.2.2.2.1,QW,WY,[],()) (λTL=>jX TL.1 TL.2.1 TL.2.2.1 TL.2.2.2.1 TL.2.2.2.2.1 TL.2.2.2.2.2.1)
def iX:List D->List D->M (D×List D):=λQl l=>match l with
 | [Tw]=>dc Ql Tw
 | _=>.bad
def uG(Fn:Oy K "_law_rule" "_law_rule" jr f fd)(H_:mg "_law_rule"=some (.ref f))(B:BN mg)(Kx:KX K mg)(O6:CF P w K mg base "_law_draw" 1 (PV K 2 cw)):CF P w K mg base "_law_rule" 2 (PV K 2 iX) :=
 ⟨f,fd,["_law_feed_here","_law_most"],lj (k:=1) Fn q_ (λr_ A outer s H E hr =>
  (af (aI (sh:=[.p,.z,.f,.z,.z,.z,.z,.z,.z,.z,.z,.z]) (aK (i:=2) q_.nd (rK aX bq (ak ag) (bG (i:=0) O6 hr.m (aA (ak (av 1)) aL)))))
  (af (aI (sh:=[.p,.z,.f,.f,.z,.z,.z,.z,.z,.z,.z,.z]) (aK (i:=3) q_.nd (LN (aF (aj hr)) aE (ak (hW (dB (aa ag (aa ag (aa ag (aa ag (aa ag au)))))))) (bG (i:=0) O6 hr.m (aA (ak ag) aL)))))
  (af (aI (sh:=[.p,.z,.f,.z,.f,.z,.z,.z,.z,.z,.z,.z]) (aK (i:=4) q_.nd (kg aY bV B.tuple (by decide +kernel) (aA (JQ (rJ (sh:=[.p,.z,.f,.f,.z,.z,.z,.z,.z,.z,.z,.z]) (N':=Pz) (k:=1) rfl (aW (by kernel_rfl) rfl rfl) (bS (bI rfl B.range (aa (av 3) au) rfl)) (λ_ _ _ _ _=>(aC (i:=12) (show 12<=12 by decide) nv)) (λ_ _ _ _ _=>(AU cS)) (λ_ _ _ _ _=>(bG (i:=0) O6 hr.m (aA (ak (av 2)) aL))))) aL))))
  (af (aI (sh:=[.p,.z,.f,.z,.f,.f,.z,.z,.z,.z,.z,.z]) (aK (i:=5) q_.nd (kg aY bV B.tuple (by decide +kernel) (aA (JQ (rJ (sh:=[.p,.z,.f,.z,.f,.z,.z,.z,.z,.z,.z,.z]) (N':=Py) (k:=1) rfl (aW (by kernel_rfl) rfl rfl) (bS (bI rfl B.range (aa (av 2) au) rfl)) (λ_ _ _ _ _=>(aC (i:=12) (show 12<=12 by decide) nr)) (λ_ _ _ _ _=>(AU cS)) (λ_ _ _ _ _=>(ML (GI (bA (aj hr)) bw (bG (i:=0) O6 hr.m (aA (ak ag) aL)) (ak ag) rfl))))) aL))))
  (af (aI (sh:=[.p,.z,.f,.z,.f,.f,.f,.z,.z,.z,.z,.z]) (aK (i:=6) q_.nd (rK aX bq (ak ag) (bG (i:=0) O6 hr.m (aA (ak ag) aL)))))
  (af (aI (sh:=[.p,.z,.f,.z,.f,.f,.f,.o,.z,.z,.z,.z]) (eF (i:=7) q_.nd (eW (dB au))))
  (af (bJ (sh:=[.p,.z,.f,.z,.f,.f,.f,.o,.z,.z,.z,.z]) PassesOwn.leaving rfl (bS (bI rfl B.range (aa (av 2) au) rfl)) (aC (i:=8) (be _) q_.nd)
  (aq (bJ (sh:=[.p,.z,.f,.z,.f,.f,.f,.o,.f,.z,.z,.z]) PassesOwn.leaving rfl (bS (nL rfl B.range (aa (av 8) (aa (av 2) au)) rfl rfl)) (aC (i:=9) (be _) q_.nd)
  (af (aI (sh:=[.p,.z,.f,.z,.f,.f,.f,.o,.f,.f,.f,.z]) (aK (i:=10) q_.nd (bG (i:=0) O6 hr.m (aA (ak (av 2)) aL))))
  (af (aI (sh:=[.p,.z,.f,.z,.f,.f,.f,.o,.f,.f,.f,.f]) (aK (i:=11) q_.nd (bG (i:=0) O6 hr.m (aA (ak (av 2)) aL))))
  (aq (bK (JP (GH (pG (bA (aj hr)) bw (bG (i:=0) O6 hr.m (aA (ak (av 6)) aL)) (ak ag)) (EJ (bf (aO (gX (aj hr)) bw (ao (hW (EG zb Dt B.sorted (by decide +kernel) (aG (ao (hW (dB (aa (av 10) (aa (av 11) au))))) aM)))) (ao (hW (dB (aa (av 8) (aa (av 9) au))))))))))
  (aq (jc (i:=7) rfl (vi rfl) (aA (ak (bp (aa (av 8) (aa (av 9) (aa (av 10) (aa (av 11) au)))))) aL) rfl rfl rfl rfl rfl rfl))
  aU)))))))
  (aq (aS (ak (bp (aa (av 2) (aa (av 4) (aa (bC aY bV B.tuple (by decide +kernel) (aG (bm (i:=7)) aM)) (aa (av 5) au))))))))))))))))
 (λg ds hl=>(by obtain⟨Tw,rfl⟩:=UZ (Nat.succ.inj hl);kernel_rfl)),H_,Fn.kp,(gA Fn λ_ _ _ _ _ _ _ _=>rfl)⟩
abbrev iM:Stmt:=top 31
abbrev vA:List Str:=["_law_feed_here","_law_sorts_here","_law_some"]
def Pp:l_ vA ["_law_feed_here","_law_sorts_here"] (aB iM):=Pl rfl rfl rfl rfl (by kernel_rfl)
abbrev Pb:List Str:=["_law_feed_here","_law_sorts_here","_law_some","_law_sort"]
def lN:Pb.Nodup:=by decide +kernel
def d9(Ql:List D)(Q6:D):M (D×List D) :=
 bd (oM (bx [Q6])) λl1=>bd (d0 (λs2 d3=>bd (az s2.1 (.int 2)) λr4=>bd (oM (aZ r4.1 (.int 0))) λb5=>if b5 then .ret (some d3,(r4.2,s2.2.1,()))else .ret (none,(r4.2,s2.2.1,()))) l1 (Ql,Q6,())) λr6=>bd (cA r6.1) λl7=>bd (oM (cj [(PyData.list l7)])) λx8=>bd (oM (dO x8 (.tuple []))) λb9=>if b9 then .ret (x8,r6.2.1)else bd (az r6.2.1 r6.2.2.1) λYY=>.ret ((.tuple [YY.1]),YY.2)
def gY:List D->List D->M (D×List D):=λQl l=>match l with
 | [Q6]=>d9 Ql Q6
 | _=>.bad
def rS(Fn:Oy K "_law_sorts" "_law_sorts" iM f fd)(H_:mg "_law_sorts"=some (.ref f))(B:BN mg)(Kx:KX K mg)(O6:CF P w K mg base "_law_draw" 1 (PV K 2 cw)):CF P w K mg base "_law_sorts" 2 (PV K 2 gY) :=
 ⟨f,fd,["_law_feed_here","_law_sorts_here"],lj (k:=1) Fn Pp (λr_ A outer s H E hr =>
  (af (aI (sh:=[.p,.f,.f]) (aK (i:=2) Pp.nd (kg aY bV B.tuple (by decide +kernel) (aA (JQ (rJ (sh:=[.p,.f,.z]) (N':=Pb) (k:=1) rfl (aW (by kernel_rfl) rfl rfl) (bS (bI rfl B.range (aa (av 1) au) rfl)) (λ_ _ _ _ _=>(aC (i:=3) (show 3<=3 by decide) lN)) (λ_ _ _ _ _=>(EK (pG (bA (aj hr)) bw (bG (i:=0) O6 hr.m (aA (ak ag) aL)) (ak ag)))) (λ_ _ _ _ _=>(ak (av 3))))) aL))))
  (aq (aS (Hw (bf (aO (gX (aj hr)) bw (j_ 2) (ao (bp au)))) (ak (av 2)) (ly (aA (bG (i:=0) O6 hr.m (aA (ak (av 1)) aL)) aL)))))))
 (λg ds hl=>(by obtain⟨Q6,rfl⟩:=UZ (Nat.succ.inj hl);kernel_rfl)),H_,Fn.kp,(gA Fn λ_ _ _ _ _ _ _ _=>rfl)⟩
abbrev dF:Stmt:=top 32
abbrev oU:List Str:=["_law_feed_here","_law_sorts_here","_law_deep","_law_way","_law_one","_law_some","_law_others","_law_m"]
def t_:l_ oU ["_law_feed_here","_law_sorts_here","_law_deep"] (aB dF):=Pl rfl rfl rfl rfl (by kernel_rfl)
abbrev ON:List Str:=["_law_feed_here","_law_sorts_here","_law_deep","_law_way","_law_one","_law_some","_law_others","_law_m","_law_sort"]
def jG:ON.Nodup:=by decide +kernel
def cy(self:List D->D->D->M (D×List D))(Ql:List D)(Q6 Yn:D):M (D×List D) :=
 bd (az Ql (.int 6)) λr1=>bd (bd (oM (dX r1.1 (.int 2))) λb2=>if b2 then oM (dX Yn (.int 0))else .ret false) λb3=>if b3 then
  bd (oM (gG Yn (.int 1))) λx4=>bd (self r1.2 Q6 x4) λr5=>bd (oM (aZ r1.1 (.int 3))) λb6=>if b6 then
  .ret ((.tuple [(.str "not"),r5.1]),r5.2)
  else
  bd (bd (oM (gG r1.1 (.int 4))) λx7=>oM (aH (PyData.list [(.str "both"),(.str "either")]) x7)) λx8=>bd (oM (gG Yn (.int 1))) λx9=>bd (self r5.2 Q6 x9) λYY=>.ret ((.tuple [x8,r5.1,YY.1]),YY.2)
  else
  bd (d9 r1.2 Q6) λRO=>bd (bd (oM (cY r1.1 (.int 3))) λPM=>oM (aZ PM (.int 0))) λV7=>if V7 then
  bd (az RO.2 (.int 4)) λYX=>bd (oM (bn (.int 1) YX.1)) λQi=>.ret ((.tuple [(.str "least"),RO.1,Qi]),YX.2)
  else
  bd (bd (oM (cY r1.1 (.int 3))) λR0=>oM (aZ R0 (.int 1))) λXZ=>if XZ then
  bd (bd (bd (oM (bx [Q6])) λVy=>bd (aV (λWK=>bd (oM (bE WK RO.1)) λZV=>if ZV then .ret (some WK)else .ret none) Vy) cA) λSV=>.ret (PyData.list SV)) λUk=>bd (az RO.2 (.int 2)) λYV=>bd (oM (mB Uk YV.1)) λRb=>bd (oM (cj [Rb])) λSG=>.ret ((.tuple [(.str "more"),RO.1,SG]),YV.2)
  else
  bd (az RO.2 (.int 3)) λWm=>bd (oM (bn (.int 2) Wm.1)) λUS=>bd (az Wm.2 US) λVq=>.ret ((.tuple [(.str "rest"),RO.1,US,Vq.1]),Vq.2)
def bH:Nat->List D->D->D->M (D×List D)
 | 0=>λ_ _ _=>.bad
 | i+1=>cy (bH i)
def bP(i:Nat):List D->List D->M (D×List D):=λQl l=>match l with
 | [Q6,Yn]=>bH i Ql Q6 Yn
 | _=>.bad
def nE(Fn:Oy K "_law_question" "_law_question" dF f fd)(B:BN mg)(Kx:KX K mg)(O6:CF P w K mg base "_law_draw" 1 (PV K 2 cw))(ZH:CF P w K mg base "_law_sorts" 2 (PV K 2 gY))(i:Nat)(Pe:CF P w K mg base "_law_question" (3+i) (PV K 3 (bP i))):Oz P w K mg base (PF P w) (3+i+1) f fd ["_law_feed_here","_law_sorts_here","_law_deep"] (PV K 3 (bP (i+1))) :=
 lj (k:=3+i) Fn t_ (λr_ A outer s H E hr =>
  (af (aI (sh:=[.p,.f,.f,.f,.z,.z,.z,.z]) (aK (i:=3) t_.nd (bG (i:=0) O6 (hr.mono (by omega)) (aA (ak ag) aL))))
  (af (bK (bf (oA (lv (aO iu iw (j_ 3) (ao ag)) (ja (aO iu iw (j_ 2) (ao ag))))))
  (af (aI (sh:=[.p,.f,.f,.f,.f,.z,.z,.z]) (aK (i:=4) t_.nd (bG (i:=0) Pe (hr.mono (by omega)) (aA (ak (av 1)) (aA (ak (aP qw qA (j_ 2) (ao ag))) aL)))))
  (af (bK (bf (aO (bA (aj hr)) bw (j_ 3) (ao ag)))
  (aq (aS (ak (bp (aa br (aa (av 4) au))))))
  aU)
  (aq (aS (ly (aA (ak (z_ hr (ao (hW (dB (aa br (aa br au))))) (ao (aP qw qA (j_ 3) (ao ag))))) (aA (ak (av 4)) (aA (bG (i:=0) Pe (hr.mono (by omega)) (aA (ak (av 1)) (aA (ak (aP qw qA (j_ 2) (ao ag))) aL))) aL))))))))
  aU)
  (af (aI (sh:=[.p,.f,.z,.f,.z,.f,.z,.z]) (aK (i:=5) t_.nd (bG (i:=0) ZH (hr.mono (by omega)) (aA (ak (av 1)) aL))))
  (af (bK (bf (aO (bA (aj hr)) bw (ao (aP dU dY (j_ 3) (ao ag))) (ao ag)))
  (aq (aS (ly (aA (ak br) (aA (ak (av 5)) (aA (rK aX bq (ak ag) (bG (i:=0) O6 (hr.mono (by omega)) (aA (ak ag) aL))) aL))))))
  aU)
  (af (bK (bf (aO (bA (aj hr)) bw (ao (aP dU dY (j_ 3) (ao ag))) (ao ag)))
  (af (aI (sh:=[.p,.z,.z,.z,.z,.f,.f,.z]) (cU (i:=6) t_.nd rfl (lo rfl) (.inl rfl) (N':=ON) (k:=1) rfl (aW (by kernel_rfl) rfl rfl) (bI rfl B.range (aa (av 1) au) rfl) (λ_ _ _ _ _=>(aC (i:=8) (show 8<=8 by decide) jG)) (λ_ _ _ _ _=>(eD (aO (cb (aj hr)) cD (j_ 8) (j_ 5)))) (λ_ _ _ _ _=>(av 8)) rfl (λ_=>rfl)))
  (aq (aS (ly (aA (ak br) (aA (ak (av 5)) (aA (kg aY bV B.tuple (by decide +kernel) (aA (Ca (ak (av 6)) (bG (i:=0) O6 (hr.mono (by omega)) (aA (ak ag) aL))) aL)) aL)))))))
  aU)
  (af (aI (sh:=[.p,.z,.z,.z,.z,.f,.z,.f]) (aK (i:=7) t_.nd (rK aX bq (ak ag) (bG (i:=0) O6 (hr.mono (by omega)) (aA (ak ag) aL)))))
  (aq (aS (ly (aA (ak br) (aA (ak (av 5)) (aA (ak (av 7)) (aA (bG (i:=0) O6 (hr.mono (by omega)) (aA (ak (av 7)) aL)) aL))))))))))))))
 (λg ds hl=>(by obtain⟨Q6,Yn,rfl⟩:=ln2 (Nat.succ.inj hl);kernel_rfl))
def m9(Fn:Oy K "_law_question" "_law_question" dF f fd)(H_:mg "_law_question"=some (.ref f))(B:BN mg)(Kx:KX K mg)(O6:CF P w K mg base "_law_draw" 1 (PV K 2 cw))(ZH:CF P w K mg base "_law_sorts" 2 (PV K 2 gY))(i:Nat):CF P w K mg base "_law_question" (3+i) (PV K 3 (bP i)):=by
 induction i with
 | zero =>
  have e:bP 0=λ_ _=>.bad:=by
   funext g l;unfold bP;split<;>rfl
  rw[e];exact CF.YC (ps:=["_law_feed_here","_law_sorts_here","_law_deep"]) _ _ H_ Fn.kp (xJ Fn λ_ _ _ _ _ _ _ _ _=>rfl)
 | succ i ih=>exact⟨f,fd,["_law_feed_here","_law_sorts_here","_law_deep"],nE Fn B Kx O6 ZH i ih,H_,Fn.kp,(xJ Fn λ_ _ _ _ _ _ _ _ _=>rfl)⟩
abbrev fT:Stmt:=top 33
abbrev vB:List Str:=["_law_question_here","_law_counts_here","_law_word","_law_truths","_law_many"]
def Ol:l_ vB ["_law_question_here","_law_counts_here"] (aB fT):=Pl rfl rfl rfl rfl (by kernel_rfl)
abbrev Pc:List Str:=["_law_question_here","_law_counts_here","_law_word","_law_truths","_law_many","_law_one"]
def lO:Pc.Nodup:=by decide +kernel
abbrev OE:List Str:=["_law_question_here","_law_counts_here","_law_word","_law_truths","_law_many","_law_sort"]
def gL:OE.Nodup:=by decide +kernel
def gz(self:D->D->M D)(Rf S8:D):M D :=
 bd (oM (aH Rf (.int 0))) λx1=>bd (oM (aZ x1 (.str "not"))) λb2=>if b2 then
  bd (bd (bd (bd (bd (oM (aH Rf (.int 1))) λx3=>self x3 S8) λx4=>oM (ki x4)) λb5=>.ret (!b5)) λb6=>.ret (.bool b6)) λx7=>.ret x7
  else
  bd (oM (cf x1 (.tuple [(.str "both"),(.str "either")]))) λb8=>if b8 then
  bd (bd (bd (bd (bd (QG (.int 1)) λlo9=>oM (fJ Rf lo9 none)) λQP=>oM (dQ QP)) λUv=>bd (aV (λd11=>bd (self d11 S8) λPM=>.ret (some PM)) Uv) cA) λVA=>.ret (PyData.list VA)) λQi=>bd (bd (oM (aZ x1 (.str "both"))) λUR=>if UR then bd (oM (bE (.bool false) Qi)) λT7=>.ret (.bool T7)else bd (oM (cf (.bool true) Qi)) λXZ=>.ret (.bool XZ)) λQW=>.ret QW
  else
  bd (bd (bd (bd (bd (oM (aH Rf (.int 1))) λRx=>oM (dQ Rx)) λl23=>bd (aV (λd21=>bd (oM (aH S8 d21)) λUk=>.ret (some Uk)) l23) cA) λl24=>.ret (PyData.list l24)) λSG=>oM (my [SG])) λUj=>bd (oM (aZ x1 (.str "least"))) λb27=>if b27 then
  bd (bd (bd (oM (aH Rf (.int 2))) λYI=>oM (uA Uj YI)) λb29=>.ret (.bool b29)) λWX=>.ret WX
  else
  bd (oM (aZ x1 (.str "more"))) λb31=>if b31 then
  bd (bd (bd (bd (bd (bd (bd (oM (aH Rf (.int 2))) λWV=>oM (dQ WV)) λl35=>bd (aV (λd33=>bd (oM (aH S8 d33)) λWU=>.ret (some WU)) l35) cA) λl36=>.ret (PyData.list l36)) λx37=>oM (my [x37])) λYG=>oM (dX Uj YG)) λb39=>.ret (.bool b39)) λWS=>.ret WS
  else
  bd (bd (bd (bd (oM (aH Rf (.int 2))) λx41=>oM (cY Uj x41)) λYE=>bd (oM (aH Rf (.int 3))) λx43=>oM (aZ YE x43)) λb44=>.ret (.bool b44)) λx45=>.ret x45
def dv:Nat->D->D->M D
 | 0=>λ_ _=>.bad
 | i+1=>gz (dv i)
def cV(i:Nat):List D->M D:=λl=>match l with
 | [Rf,S8]=>dv i Rf S8
 | _=>.bad
def rY(Fn:Oy K "_law_holds" "_law_holds" fT f fd)(B:BN mg)(Kx:KX K mg)(i:Nat)(Pe:CF P w K mg base "_law_holds" (1+i) (C_ K 2 (cV i))):Oz P w K mg base (PF P w) (1+i+1) f fd ["_law_question_here","_law_counts_here"] (C_ K 2 (cV (i+1))) :=
 bW (k:=1+i) Fn Ol (λr_ A outer s H E hr =>
  (af (aI (sh:=[.f,.f,.f,.z,.z]) (aK (i:=2) Ol.nd (ak (z_ hr (j_ 0) (ao ag)))))
  (af (bK (bf (aO (bA (aj hr)) bw (j_ 2) (ao br)))
  (aq (aS (ak (fA (pH (ao (bQ Pe (hr.mono (by omega)) (aa (z_ hr (j_ 0) (ao ag)) (aa (av 1) au)))))))))
  aU)
  (af (bK (bf (aO (gF (aj hr)) jE (j_ 2) (ao (bp (aa br (aa br au))))))
  (af (aI (sh:=[.z,.z,.f,.f,.z]) (cU (i:=3) Ol.nd rfl (lo rfl) (.inl rfl) (N':=Pc) (k:=1) rfl (aW (by kernel_rfl) rfl rfl) (dg (cL (j_ 0) (cJ ag) cK)) (λ_ _ _ _ _=>(aC (i:=5) (show 5<=5 by decide) lO)) (λ_ _ _ _ _=>cS) (λ_ _ _ _ _=>(bQ Pe (hr.mono (by omega)) (aa (av 5) (aa (av 1) au)))) rfl (λ_=>rfl)))
  (aq (aS (ak (rH (aO (bA (aj hr)) bw (j_ 2) (ao br)) (fA (cM (cb (aj hr)) cD (ao eI) (j_ 3))) (fA (cM (gF (aj hr)) jE (ao eI) (j_ 3))))))))
  aU)
  (af (aI (sh:=[.f,.f,.f,.z,.f]) (aK (i:=4) Ol.nd (ak (bc (nG rfl) uB B.sum (by decide +kernel) (aG (ao (hW (dz (N':=OE) (k:=1) rfl (aW (by kernel_rfl) rfl rfl) (dg (z_ hr (j_ 0) (ao ag))) (λ_ _ _ _ _=>(aC (i:=5) (show 5<=5 by decide) gL)) (λ_ _ _ _ _=>cS) (λ_ _ _ _ _=>(z_ hr (j_ 1) (j_ 5)))))) aM)))))
  (af (bK (bf (aO (bA (aj hr)) bw (j_ 2) (ao br)))
  (aq (aS (ak (fA (cM sY tj (j_ 4) (ao (z_ hr (j_ 0) (ao ag))))))))
  aU)
  (af (bK (bf (aO (bA (aj hr)) bw (j_ 2) (ao br)))
  (aq (aS (ak (fA (cM iu iw (j_ 4) (ao (bc (nG rfl) uB B.sum (by decide +kernel) (aG (ao (hW (dz (N':=OE) (k:=1) rfl (aW (by kernel_rfl) rfl rfl) (dg (z_ hr (j_ 0) (ao ag))) (λ_ _ _ _ _=>(aC (i:=5) (show 5<=5 by decide) gL)) (λ_ _ _ _ _=>cS) (λ_ _ _ _ _=>(z_ hr (j_ 1) (j_ 5)))))) aM))))))))
  aU)
  (aq (aS (ak (fA (cM (bA (aj hr)) bw (ao (aP dU dY (j_ 4) (ao (z_ hr (j_ 0) (ao ag))))) (ao (z_ hr (j_ 0) (ao ag)))))))))))))))
 (λds hl=>(by obtain⟨Rf,S8,rfl⟩:=ln2 hl;kernel_rfl))
def rT(Fn:Oy K "_law_holds" "_law_holds" fT f fd)(H_:mg "_law_holds"=some (.ref f))(B:BN mg)(Kx:KX K mg)(i:Nat):CF P w K mg base "_law_holds" (1+i) (C_ K 2 (cV i)):=by
 induction i with
 | zero =>
  have e:cV 0=λ_=>.bad:=by
   funext l;unfold cV;split<;>rfl
  rw[e];exact CF.zero (ps:=["_law_question_here","_law_counts_here"]) _ _ H_ Fn.kp (gA Fn λ_ _ _ _ _ _ _ _=>rfl)
 | succ i ih=>exact⟨f,fd,["_law_question_here","_law_counts_here"],rY Fn B Kx  i ih,H_,Fn.kp,(gA Fn λ_ _ _ _ _ _ _ _=>rfl)⟩
abbrev jt:Stmt:=top 34
abbrev xS:List Str:=["_law_sorts_here","_law_question_here","_law_some","_law_meets","_law_those","_law_sides","_law_starts","_law_n","_law_a","_law_b","_law_m","_law_r"]
def m_:l_ xS ["_law_sorts_here","_law_question_here"] (aB jt):=Pl rfl rfl rfl rfl (by kernel_rfl)
abbrev OT:List Str:=["_law_sorts_here","_law_question_here","_law_some","_law_meets","_law_those","_law_sides","_law_starts","_law_n","_law_a","_law_b","_law_m","_law_r","_law_sort"]
def iz:OT.Nodup:=by decide +kernel
abbrev OS:List Str:=["_law_sorts_here","_law_question_here","_law_some","_law_meets","_law_those","_law_sides","_law_starts","_law_n","_law_a","_law_b","_law_m","_law_r","_law_room"]
def iy:OS.Nodup:=by decide +kernel
def rA(Qr:List D)(Qt RX:D):M D :=
 bd (bd (oM (bn RX (.int 1))) λWX=>bd (oM (cj [(PyData.list Qr)])) λWW=>bd (bd (bd (bd (bd (oM (bn RX (.int 1))) λWV=>oM (bx [WV])) λl36=>bd (aV (λd33=>bd (bd (oM (aZ d33 RX)) λb34=>.ret (.bool b34)) λWT=>.ret (some WT)) l36) cA) λl37=>.ret (PyData.list l37)) λYG=>oM (cj [YG])) λYF=>.ret (.tuple [WX,Qt,WW,YF])) λWS=>.ret WS
def rq(Ux:List D×D×D×Unit->M D)(Qr:List D)(Qt RX Qk:D):M D :=
 Ux (Qr,Qt,RX,())
def rh(Ux:List D×D×D×Unit->M D)(Qr:List D)(Qt RX:D)(Qk d_:D)(Xn:List D×D×D×D×Unit->M D):M D :=
 bd (bd (oM (dX Qk (.int 0))) λb46=>if b46 then bd (oM (bn Qk d_)) λx45=>oM (gI x45 RX)else .ret false) λb47=>if b47 then
  bd (bd (oM (bn Qk d_)) λx48=>.ret (.tuple [Qk,d_,(.int 0),x48])) λx49=>bd (oM (oI Qr [x49])) λl50=>Xn (l50,Qt,RX,Qk,())
  else
  bd (bd (bd (oM (dX Qk (.int 0))) λb51=>if b51 then oM (gI d_ RX)else .ret false) λb53=>if b53 then .ret true else bd (oM (gI Qk RX)) λb52=>if b52 then oM (aZ d_ RX)else .ret false) λb54=>if b54 then
  bd (oM (oI Qr [(.tuple [Qk,d_,RX,RX])])) λl55=>Xn (l55,Qt,RX,Qk,())
  else
  Xn (Qr,Qt,RX,Qk,())
def eh(Qr:List D)(Qt RX d_:D)(Ux:List D×D×D×Unit->M D):M D :=
 bd (bd (oM (bn RX (.int 1))) λYE=>oM (gO [d_,YE])) λl43=>dP (λVn d57 kn=>rh Ux Vn.1 Vn.2.1 Vn.2.2.1 Vn.2.2.2.1 d57 kn) l43 (Qr,Qt,RX,d_,()) (λVn=>rq Ux Vn.1 Vn.2.1 Vn.2.2.1 Vn.2.2.2.1)
def rm(Qr:List D)(Qt S9 U2:D):M D :=
 bd (bd (oM (bn S9 (.int 2))) λx65=>bd (oM (cj [(PyData.list Qr)])) λx66=>bd (bd (bd (bd (bd (oM (bn S9 (.int 2))) λx67=>oM (bx [x67])) λl73=>bd (aV (λd68=>bd (bd (bd (bd (oM (bn S9 (.int 1))) λx69=>.ret (.tuple [U2,x69])) λx70=>oM (cf d68 x70)) λb71=>.ret (.bool b71)) λx72=>.ret (some x72)) l73) cA) λl74=>.ret (PyData.list l74)) λx75=>oM (cj [x75])) λx76=>.ret (.tuple [x65,Qt,x66,x76])) λx77=>.ret x77
def rj(Uw:List D×D×D×D×Unit->M D)(Qr:List D)(Qt Qk:D)(S9 U2:D):M D :=
 bd (bd (bd (bd (bd (oM (dO Qk U2)) λb80=>.ret (.bool b80)) λx81=>oM (mz [x81])) λx82=>oM (bn S9 x82)) λx83=>bd (bd (bd (bd (oM (aZ Qk U2)) λb84=>.ret (.bool b84)) λx85=>oM (mz [x85])) λx86=>oM (bn S9 x86)) λx87=>.ret (.tuple [Qk,x83,Qk,x87])) λx88=>bd (oM (oI Qr [x88])) λl89=>Uw (l89,Qt,S9,U2,())
def rg(Uw:List D×D×D×D×Unit->M D)(Qr:List D)(Qt Qk:D)(S9 U2 d_:D)(zak:List D×D×D×D×D×Unit->M D):M D :=
 bd (bd (bd (oM (bn Qk d_)) λx91=>oM (cY x91 S9)) λx92=>bd (bd (bd (bd (bd (bd (oM (bn Qk d_)) λx93=>oM (cY x93 S9)) λx94=>oM (aZ x94 U2)) λb95=>.ret (.bool b95)) λx96=>oM (mz [x96])) λx97=>oM (bn S9 x97)) λx98=>.ret (.tuple [Qk,d_,x92,x98])) λx99=>bd (oM (oI Qr [x99])) λzaj=>zak (zaj,Qt,Qk,S9,U2,())
def cH(Qr:List D)(Qt S9:D)(U2 d_:D)(Uw:List D×D×D×D×Unit->M D):M D :=
 bd (oM (gO [d_,S9])) λl79=>dP (λQ3 zaL kn=>rg Uw Q3.1 Q3.2.1 Q3.2.2.1 Q3.2.2.2.1 Q3.2.2.2.2.1 zaL kn) l79 (Qr,Qt,d_,S9,U2,()) (λQ3=>rj Uw Q3.1 Q3.2.1 Q3.2.2.1 Q3.2.2.2.1 Q3.2.2.2.2.1)
def dM(Q6 Rf:D):M D :=
 bd (oM (aH Rf (.int 1))) λx1=>bd (bd (oM (aH Rf (.int 0))) λx2=>oM (aZ x2 (.str "more"))) λb3=>if b3 then
  bd (oM (aH Rf (.int 2))) λx4=>bd (bd (bd (oM (bx [Q6])) λTR=>bd (aV (λd5=>bd (bd (oM (cf d5 x1)) λTd=>if Td then .ret (.int 0)else bd (bd (bd (bd (oM (bE d5 x4)) λb6=>.ret (.bool b6)) λx7=>oM (mz [x7])) λx8=>oM (dW (.int 2) x8)) λx9=>oM (bn (.int 1) x9)) λPN=>.ret (some PN)) TR) cA) λUv=>.ret (PyData.list Uv)) λR1=>bd (bd (oM (cj [R1])) λQi=>.ret (.tuple [(.int 4),Qi,(.tuple [(.tuple [(.int 0),(.int 1),(.int 2),(.int 3)]),(.tuple [(.int 0),(.int 3),(.int 0),(.int 2)]),(.tuple [(.int 1),(.int 2),(.int 1),(.int 3)]),(.tuple [(.int 2),(.int 3),(.int 3),(.int 3)])]),(.tuple [(.bool true),(.bool false),(.bool true),(.bool false)])])) λR0=>.ret R0
  else
  bd (bd (bd (bd (oM (bx [Q6])) λSV=>bd (aV (λV4=>bd (bd (bd (oM (cf V4 x1)) λUR=>.ret (.bool UR)) λQW=>oM (mz [QW])) λRx=>.ret (some Rx)) SV) cA) λVx=>.ret (PyData.list Vx)) λRL=>oM (cj [RL])) λRb=>bd (bd (oM (aH Rf (.int 0))) λSG=>oM (aZ SG (.str "least"))) λb26=>if b26 then
  bd (oM (aH Rf (.int 2))) λUS=>bd (bd (oM (bn US (.int 1))) λYI=>oM (bx [YI])) λl29=>dP (λW4 d59 kn=>eh W4.1 W4.2.1 W4.2.2.1 d59 kn) l29 ([],Rb,US,()) (λW4=>rA W4.1 W4.2.1 W4.2.2.1)
  else
  bd (bd (QG (.int 2)) λzad=>oM (fJ Rf zad none)) λx61=>QQ x61 λy62 y63=>bd (oM (bx [y62])) λl64=>dP (λRB zaK kn=>cH RB.1 RB.2.1 RB.2.2.1 RB.2.2.2.1 zaK kn) l64 ([],Rb,y62,y63,()) (λRB=>rm RB.1 RB.2.1 RB.2.2.1 RB.2.2.2.1)
def lU:=Qp dM
def uI(Fn:Oy K "_law_made" "_law_made" jt f fd)(H_:mg "_law_made"=some (.ref f))(B:BN mg)(Kx:KX K mg):CF P w K mg base "_law_made" 1 (C_ K 2 lU) :=
 ⟨f,fd,["_law_sorts_here","_law_question_here"],bW (k:=0) Fn m_ (λr_ A outer s H E hr =>
  (af (aI (sh:=[.f,.f,.f,.z,.z,.z,.z,.z,.z,.z,.z,.z]) (aK (i:=2) m_.nd (ak (z_ hr (j_ 1) (ao ag)))))
  (af (aI (sh:=[.f,.f,.f,.o,.z,.z,.z,.z,.z,.z,.z,.z]) (eF (i:=3) m_.nd (eW (dB au))))
  (af (bK (bf (aO (bA (aj hr)) bw (ao (z_ hr (j_ 1) (ao ag))) (ao br)))
  (af (aI (sh:=[.f,.z,.f,.z,.f,.z,.z,.z,.z,.z,.z,.z]) (aK (i:=4) m_.nd (ak (z_ hr (j_ 1) (ao ag)))))
  (af (aI (sh:=[.z,.z,.z,.z,.z,.f,.z,.z,.z,.z,.z,.z]) (cU (i:=5) m_.nd rfl (lo rfl) (.inl rfl) (N':=OT) (k:=1) rfl (aW (by kernel_rfl) rfl rfl) (bI rfl B.range (aa (av 0) au) rfl) (λ_ _ _ _ _=>(aC (i:=12) (show 12<=12 by decide) iz)) (λ_ _ _ _ _=>cS) (λ_ _ _ _ _=>(rH (aO (gF (aj hr)) jE (j_ 12) (j_ 2)) ag (aP aX bq (ao ag) (ao (aP iR iS (ao ag) (ao (bC eS kX B.int (by decide +kernel) (aG (ao (fA (cM (cb (aj hr)) cD (j_ 12) (j_ 4)))) aM)))))))) rfl (λ_=>rfl)))
  (af (aI (sh:=[.z,.z,.z,.f,.z,.f,.z,.z,.z,.z,.z,.z]) (aK (i:=3) m_.nd (ak (bp (aa (bp (aa ag (aa ag (aa ag (aa ag au))))) (aa (bp (aa ag (aa ag (aa ag (aa ag au))))) (aa (bp (aa ag (aa ag (aa ag (aa ag au))))) (aa (bp (aa ag (aa ag (aa ag (aa ag au))))) au))))))))
  (aq (aS (ak (bp (aa ag (aa (bC aY bV B.tuple (by decide +kernel) (aG (j_ 5) aM)) (aa (av 3) (aa (bp (aa eI (aa eI (aa eI (aa eI au))))) au)))))))))))
  aU)
  (af (aI (sh:=[.z,.f,.z,.o,.z,.z,.f,.z,.z,.z,.z,.z]) (aK (i:=6) m_.nd (ak (bC aY bV B.tuple (by decide +kernel) (aG (ao (hW (dz (N':=OT) (k:=1) rfl (aW (by kernel_rfl) rfl rfl) (bI rfl B.range (aa (av 0) au) rfl) (λ_ _ _ _ _=>(aC (i:=12) (show 12<=12 by decide) iz)) (λ_ _ _ _ _=>cS) (λ_ _ _ _ _=>(bC eS kX B.int (by decide +kernel) (aG (ao (fA (cM (gF (aj hr)) jE (j_ 12) (j_ 2)))) aM)))))) aM)))))
  (af (bK (bf (aO (bA (aj hr)) bw (ao (z_ hr (j_ 1) (ao ag))) (ao br)))
  (af (aI (sh:=[.z,.z,.z,.o,.z,.z,.f,.f,.z,.z,.z,.z]) (aK (i:=7) m_.nd (ak (z_ hr (j_ 1) (ao ag)))))
  (af (bJ (sh:=[.z,.z,.z,.o,.z,.z,.f,.f,.z,.z,.z,.z]) PassesOwn.leaving rfl (bS (bI rfl B.range (aa (aP aX bq (j_ 7) (ao ag)) au) rfl)) (aC (i:=8) (be _) m_.nd)
  (aq (bJ (sh:=[.z,.z,.z,.o,.z,.z,.f,.f,.f,.z,.z,.z]) PassesOwn.leaving rfl (bS (nL rfl B.range (aa (av 8) (aa (aP aX bq (j_ 7) (ao ag)) au)) rfl rfl)) (aC (i:=9) (be _) m_.nd)
  (aq (bK (bf (oA (lv (aO iu iw (j_ 8) (ao ag)) (ja (aO (mX (aj hr)) mZ (ao (aP aX bq (j_ 8) (j_ 9))) (j_ 7))))))
  (aq (jc (i:=3) rfl (vi rfl) (aA (ak (bp (aa (av 8) (aa (av 9) (aa ag (aa (aP aX bq (j_ 8) (j_ 9)) au)))))) aL) rfl rfl rfl rfl rfl rfl))
  (aq (bK (bf (oA (LJ (oA (lv (aO iu iw (j_ 8) (ao ag)) (ja (aO (mX (aj hr)) mZ (j_ 9) (j_ 7))))) (JA (oA (lv (aO (mX (aj hr)) mZ (j_ 8) (j_ 7)) (ja (aO (bA (aj hr)) bw (j_ 9) (j_ 7)))))))))
  (aq (jc (i:=3) rfl (vi rfl) (aA (ak (bp (aa (av 8) (aa (av 9) (aa (av 7) (aa (av 7) au)))))) aL) rfl rfl rfl rfl rfl rfl))
  aU)))))))
  (aq (aS (ak (bp (aa (aP aX bq (j_ 7) (ao ag)) (aa (av 6) (aa (bC aY bV B.tuple (by decide +kernel) (aG (bm (i:=3)) aM)) (aa (bC aY bV B.tuple (by decide +kernel) (aG (ao (hW (dz (N':=OS) (k:=1) rfl (aW (by kernel_rfl) rfl rfl) (bI rfl B.range (aa (aP aX bq (j_ 7) (ao ag)) au) rfl) (λ_ _ _ _ _=>(aC (i:=12) (show 12<=12 by decide) iy)) (λ_ _ _ _ _=>cS) (λ_ _ _ _ _=>(fA (cM (bA (aj hr)) bw (j_ 12) (j_ 7))))))) aM)) au))))))))))
  aU)
  (af (aI (sh:=[.z,.z,.z,.o,.z,.z,.f,.z,.z,.z,.f,.f]) (vm (ak (cL (j_ 1) (cJ ag) cK)) (e9 rfl (bi (aC (i:=10) (be _) m_.nd) (bi (aC (i:=11) (be _) m_.nd) dH rfl) rfl) rfl rfl) rfl rfl rfl))
  (af (bJ (sh:=[.z,.z,.z,.o,.z,.z,.f,.z,.z,.z,.f,.f]) PassesOwn.leaving rfl (bS (bI rfl B.range (aa (av 10) au) rfl)) (aC (i:=8) (be _) m_.nd)
  (af (bJ (sh:=[.z,.z,.z,.o,.z,.z,.f,.z,.f,.z,.f,.f]) PassesOwn.leaving rfl (bS (nL rfl B.range (aa (av 8) (aa (av 10) au)) rfl rfl)) (aC (i:=9) (be _) m_.nd)
  (aq (jc (i:=3) rfl (vi rfl) (aA (ak (bp (aa (av 8) (aa (av 9) (aa (aP dU dY (ao (aP aX bq (j_ 8) (j_ 9))) (j_ 10)) (aa (aP aX bq (j_ 10) (ao (bC eS kX B.int (by decide +kernel) (aG (ao (fA (cM (bA (aj hr)) bw (ao (aP dU dY (ao (aP aX bq (j_ 8) (j_ 9))) (j_ 10))) (j_ 11)))) aM)))) au)))))) aL) rfl rfl rfl rfl rfl rfl)))
  (aq (jc (i:=3) rfl (vi rfl) (aA (ak (bp (aa (av 8) (aa (aP aX bq (j_ 10) (ao (bC eS kX B.int (by decide +kernel) (aG (ao (fA (cM (gX (aj hr)) bw (j_ 8) (j_ 11)))) aM)))) (aa (av 8) (aa (aP aX bq (j_ 10) (ao (bC eS kX B.int (by decide +kernel) (aG (ao (fA (cM (bA (aj hr)) bw (j_ 8) (j_ 11)))) aM)))) au)))))) aL) rfl rfl rfl rfl rfl rfl))))
  (aq (aS (ak (bp (aa (aP aX bq (j_ 10) (ao ag)) (aa (av 6) (aa (bC aY bV B.tuple (by decide +kernel) (aG (bm (i:=3)) aM)) (aa (bC aY bV B.tuple (by decide +kernel) (aG (ao (hW (dz (N':=OS) (k:=1) rfl (aW (by kernel_rfl) rfl rfl) (bI rfl B.range (aa (aP aX bq (j_ 10) (ao ag)) au) rfl) (λ_ _ _ _ _=>(aC (i:=12) (show 12<=12 by decide) iy)) (λ_ _ _ _ _=>cS) (λ_ _ _ _ _=>(fA (cM (gF (aj hr)) jE (j_ 12) (ao (bp (aa (av 11) (aa (aP aX bq (j_ 10) (ao ag)) au)))))))))) aM)) au))))))))))))))))
 (λds hl=>(by obtain⟨Q6,Rf,rfl⟩:=ln2 hl;kernel_rfl)),H_,Fn.kp,(gA Fn λ_ _ _ _ _ _ _ _=>rfl)⟩
abbrev eL:Stmt:=top 35
abbrev nM:List Str:=["_law_feed_here","_law_rule_here","_law_rooms","_law_starts","_law_meets","_law_says","_law_way","_law_at","_law_room"]
def o_:l_ nM ["_law_feed_here","_law_rule_here"] (aB eL):=Pl rfl rfl rfl rfl (by kernel_rfl)
def dw(Ql:List D)(QV:D):M (D×List D) :=
 X7 QV λy1 y2 y3 y4=>bd (az Ql (.int 4)) λr5=>bd (bd (oM (fm [y3])) λx6=>oM (qQ [(.int 1),x6])) λx7=>bd (az r5.2 x7) λr8=>bd (oM (aZ r5.1 (.int 0))) λb9=>if b9 then
  bd (bd (bd (bd (QG r8.1) λzaD=>oM (fJ y3 none zaD)) λR3=>bd (bd (bd (oM (bn r8.1 (.int 1))) λPN=>QG PN) λUu=>oM (fJ y3 Uu none)) λR1=>oM (bn R3 R1)) λQi=>.ret (.tuple [y1,y2,Qi,y4])) λR0=>.ret (R0,r8.2)
  else
  bd (az r8.2 y1) λTQ=>bd (oM (aZ r5.1 (.int 1))) λUR=>if UR then
  bd (bd (bd (bd (bd (QG TQ.1) λzaC=>oM (fJ y4 none zaC)) λRb=>bd (bd (bd (bd (bd (oM (aH y4 TQ.1)) λRx=>oM (ki Rx)) λZT=>.ret (!ZT)) λb22=>.ret (.bool b22)) λRL=>.ret (.tuple [RL])) λSG=>oM (bn Rb SG)) λYI=>bd (bd (bd (oM (bn TQ.1 (.int 1))) λUj=>QG Uj) λzaf=>oM (fJ y4 zaf none)) λWh=>oM (bn YI Wh)) λWX=>.ret (.tuple [y1,y2,y3,WX])) λWW=>.ret (WW,TQ.2)
  else
  bd (oM (aZ r5.1 (.int 2))) λb32=>if b32 then
  bd (bd (bd (bd (QG (.int 1)) λzae=>oM (fJ y2 zae none)) λWU=>oM (bn (.tuple [TQ.1]) WU)) λWT=>.ret (.tuple [y1,WT,y3,y4])) λYH=>.ret (YH,TQ.2)
  else
  .ret (QV,TQ.2)
def gM:List D->List D->M (D×List D):=λQl l=>match l with
 | [QV]=>dw Ql QV
 | _=>.bad
def lL(Fn:Oy K "_law_bent_rule" "_law_bent_rule" eL f fd)(H_:mg "_law_bent_rule"=some (.ref f))(B:BN mg)(Kx:KX K mg)(O6:CF P w K mg base "_law_draw" 1 (PV K 2 cw)):CF P w K mg base "_law_bent_rule" 2 (PV K 2 gM) :=
 ⟨f,fd,["_law_feed_here","_law_rule_here"],lj (k:=1) Fn o_ (λr_ A outer s H E hr =>
  (af (aI (sh:=[.p,.f,.f,.f,.f,.f,.z,.z,.z]) (vm (ak (av 1)) (AR rfl (bi (aC (i:=2) (be _) o_.nd) (bi (aC (i:=3) (be _) o_.nd) (bi (aC (i:=4) (be _) o_.nd) (bi (aC (i:=5) (be _) o_.nd) dH rfl) rfl) rfl) rfl) rfl rfl) rfl rfl rfl))
  (af (aI (sh:=[.p,.f,.f,.f,.f,.f,.f,.z,.z]) (aK (i:=6) o_.nd (bG (i:=0) O6 hr.m (aA (ak ag) aL))))
  (af (aI (sh:=[.p,.f,.f,.f,.f,.f,.f,.f,.z]) (aK (i:=7) o_.nd (bG (i:=0) O6 hr.m (aA (ak (bc (tX rfl) zZ B.max (by decide +kernel) (aG (ao ag) (aG (ao (bc cq fE B.len lu (aG (j_ 4) aM))) aM)))) aL))))
  (af (bK (bf (aO (bA (aj hr)) bw (j_ 6) (ao ag)))
  (aq (aS (ak (bp (aa (av 2) (aa (av 3) (aa (aP aX bq (ao (cL (j_ 4) cK (cJ (av 7)))) (ao (cL (j_ 4) (cJ (aP aX bq (j_ 7) (ao ag))) cK))) (aa (av 5) au))))))))
  aU)
  (af (aI (sh:=[.p,.f,.f,.f,.f,.f,.f,.z,.f]) (aK (i:=8) o_.nd (bG (i:=0) O6 hr.m (aA (ak (av 2)) aL))))
  (af (bK (bf (aO (bA (aj hr)) bw (j_ 6) (ao ag)))
  (aq (aS (ak (bp (aa (av 2) (aa (av 3) (aa (av 4) (aa (aP aX bq (ao (aP aX bq (ao (cL (j_ 5) cK (cJ (av 8)))) (ao (bp (aa (fA (pH (ao (z_ hr (j_ 5) (j_ 8))))) au))))) (ao (cL (j_ 5) (cJ (aP aX bq (j_ 8) (ao ag))) cK))) au))))))))
  aU)
  (af (bK (bf (aO (bA (aj hr)) bw (j_ 6) (ao ag)))
  (aq (aS (ak (bp (aa (av 2) (aa (aP aX bq (ao (bp (aa (av 8) au))) (ao (cL (j_ 3) (cJ ag) cK))) (aa (av 4) (aa (av 5) au))))))))
  aU)
  (aq (aS (ak (av 1))))))))))))
 (λg ds hl=>(by obtain⟨QV,rfl⟩:=UZ (Nat.succ.inj hl);kernel_rfl)),H_,Fn.kp,(gA Fn λ_ _ _ _ _ _ _ _=>rfl)⟩
abbrev js:Stmt:=top 36
abbrev xR:List Str:=["_law_feed_here","_law_most","_law_rule_here","_law_sorts_here","_law_question_here"]
def F_:l_ xR ["_law_feed_here","_law_most"] (aB js):=Pl rfl rfl rfl rfl (by kernel_rfl)
def df(QM:List D)(Wy Qv:D):M (D×List D) :=
 bd (dM Wy Qv) λRL=>bd (az QM (.int 2)) λr24=>bd (oM (aZ r24.1 (.int 0))) λZS=>if ZS then .ret ((.tuple [RL,Qv]),r24.2)else bd (dw r24.2 RL) λWm=>.ret ((.tuple [Wm.1,Qv]),Wm.2)
def cG(QM:List D)(Wy Qv:D):M (D×List D) :=
 bd (bd (oM (aH Qv (.int 0))) λR0=>oM (aZ R0 (.str "least"))) λXZ=>if XZ then
  bd (bd (oM (aH Qv (.int 1))) λU_=>bd (bd (bd (oM (aH Qv (.int 2))) λQW=>oM (cY QW (.int 3))) λRx=>oM (bn (.int 1) Rx)) λWY=>.ret (.tuple [(.str "least"),U_,WY])) λUk=>df QM Wy Uk
  else
  df QM Wy Qv
def gR(Ql:List D)(Tw:D):M (D×List D) :=
 bd (dc Ql Tw) λr1=>bd (bd (oM (aH r1.1 (.int 1))) λx2=>oM (fm [x2])) λx3=>bd (az r1.2 (.int 2)) λr4=>bd (oM (aZ r4.1 (.int 0))) λb5=>if b5 then
  bd (bH 8 r4.2 x3 (.int 2)) λr6=>.ret ((.tuple [r1.1,r6.1]),r6.2)
  else
  bd (bH 8 r4.2 x3 (.int 0)) λr7=>bd (bd (bd (oM (aH r7.1 (.int 0))) λx8=>oM (aZ x8 (.str "rest"))) λTd=>if Td then bd (oM (aH r7.1 (.int 2))) λx9=>oM (aZ x9 (.int 4))else .ret false) λV8=>if V8 then
  bd (bd (oM (aH r7.1 (.int 1))) λPM=>bd (bd (oM (aH r7.1 (.int 3))) λR3=>oM (cY R3 (.int 3))) λR1=>.ret (.tuple [(.str "rest"),PM,(.int 3),R1])) λQi=>cG r7.2 x3 Qi
  else
  cG r7.2 x3 r7.1
def lT:List D->List D->M (D×List D):=λQl l=>match l with
 | [Tw]=>gR Ql Tw
 | _=>.bad
def uH(Fn:Oy K "_law_pair" "_law_pair" js f fd)(H_:mg "_law_pair"=some (.ref f))(B:BN mg)(Kx:KX K mg)(Yq:CF P w K mg base "_law_rule" 2 (PV K 2 iX))(XH:CF P w K mg base "_law_question" 11 (PV K 3 (bP 8)))(gbA:CF P w K mg base "_law_made" 1 (C_ K 2 lU))(O6:CF P w K mg base "_law_draw" 1 (PV K 2 cw))(ga4:CF P w K mg base "_law_bent_rule" 2 (PV K 2 gM)):CF P w K mg base "_law_pair" 12 (PV K 2 lT) :=
 ⟨f,fd,["_law_feed_here","_law_most"],lj (k:=11) Fn F_ (λr_ A outer s H E hr =>
  (af (aI (sh:=[.p,.z,.f,.z,.z]) (aK (i:=2) F_.nd (bG (i:=0) Yq hr.m (aA (ak (av 1)) aL))))
  (af (aI (sh:=[.p,.z,.f,.f,.z]) (aK (i:=3) F_.nd (ak (bc cq fE B.len lu (aG (ao (z_ hr (j_ 2) (ao ag))) aM)))))
  (af (bK (pG (bA (aj hr)) bw (bG (i:=0) O6 hr.m (aA (ak ag) aL)) (ak ag))
  (aq (aS (ly (aA (ak (av 2)) (aA (bG (i:=0) XH hr.m (aA (ak (av 3)) (aA (ak ag) aL))) aL)))))
  aU)
  (af (aI (sh:=[.p,.z,.z,.f,.f]) (aK (i:=4) F_.nd (bG (i:=0) XH hr.m (aA (ak (av 3)) (aA (ak ag) aL)))))
  (af (aI (sh:=[.p,.z,.z,.f,.f]) (bK (bf (oA (lv (aO (bA (aj hr)) bw (ao (z_ hr (j_ 4) (ao ag))) (ao br)) (ja (aO (bA (aj hr)) bw (ao (z_ hr (j_ 4) (ao ag))) (ao ag))))))
  (aq (aK (i:=4) F_.nd (ak (bp (aa br (aa (z_ hr (j_ 4) (ao ag)) (aa ag (aa (aP dU dY (ao (z_ hr (j_ 4) (ao ag))) (ao ag)) au))))))))
  aU))
  (af (aI (sh:=[.p,.z,.z,.f,.f]) (bK (bf (aO (bA (aj hr)) bw (ao (z_ hr (j_ 4) (ao ag))) (ao br)))
  (aq (aK (i:=4) F_.nd (ak (bp (aa br (aa (z_ hr (j_ 4) (ao ag)) (aa (aP aX bq (ao ag) (ao (aP dU dY (ao (z_ hr (j_ 4) (ao ag))) (ao ag)))) au)))))))
  aU))
  (af (aI (sh:=[.p,.z,.f,.z,.f]) (aK (i:=2) F_.nd (ak (bQ gbA hr.m (aa (av 3) (aa (av 4) au))))))
  (aq (aS (ly (aA (Hw (pG (bA (aj hr)) bw (bG (i:=0) O6 hr.m (aA (ak ag) aL)) (ak ag)) (ak (av 2)) (bG (i:=0) ga4 hr.m (aA (ak (av 2)) aL))) (aA (ak (av 4)) aL)))))))))))))
 (λg ds hl=>(by obtain⟨Tw,rfl⟩:=UZ (Nat.succ.inj hl);kernel_rfl)),H_,Fn.kp,(gA Fn λ_ _ _ _ _ _ _ _=>rfl)⟩
abbrev iL:Stmt:=top 37
abbrev vz:List Str:=["_law_rule_here","_law_crowd","_law_found","_law_number","_law_meeting","_law_left","_law_room"]
def y_:l_ vz ["_law_rule_here","_law_crowd"] (aB iL):=Pl rfl rfl rfl rfl (by kernel_rfl)
def oQ(Ub:D)(OV:List D):M D :=
 .ret (PyData.list OV)
def fO(kn3:D×List D×Unit->M D)(Ub:D)(OV:List D)(XG:D)(U6:List D):M D :=
 bd (bd (oM (cj [(PyData.list U6)])) λQi=>.ret (.tuple [XG,Qi])) λR0=>bd (oM (oI OV [R0])) λXk=>kn3 (Ub,Xk,())
def fL(kn3:D×List D×Unit->M D)(Ub:D)(OV:List D)(XG:D)(U6:List D)(d_:D)(zan:D×List D×D×List D×Unit->M D):M D :=
 bd (bd (oM (aH (PyData.list U6) d_)) λQW=>oM (bn QW (.int 1))) λRx=>bd (oM (putD U6 d_ Rx)) λSV=>zan (Ub,OV,XG,SV,())
def fP(kn3:D×List D×Unit->M D)(Ub:D)(OV:List D)(XG gbk:D)(U6:List D):M D :=
 bd (bd (oM (Av [(PyData.list U6)])) λQP=>oM (uA QP (.int 0))) λV8=>if V8 then
  bd (bd (bd (QG (.int 2)) λUu=>oM (fJ gbk Uu none)) λR3=>oM (dQ R3)) λVA=>dP (λRj V3 kn=>fL kn3 Rj.1 Rj.2.1 Rj.2.2.1 Rj.2.2.2.1 V3 kn) VA (Ub,OV,XG,U6,()) (λRj=>fO kn3 Rj.1 Rj.2.1 Rj.2.2.1 Rj.2.2.2.1)
  else
  kn3 (Ub,OV,())
def fM(kn3:D×List D×Unit->M D)(Ub:D)(OV:List D)(XG gbk:D)(U6:List D)(d_:D)(zam:D×List D×D×D×List D×Unit->M D):M D :=
 bd (bd (oM (aH (PyData.list U6) d_)) λSG=>oM (gG SG (.int 1))) λUj=>bd (oM (putD U6 d_ Uj)) λY8=>zam (Ub,OV,XG,gbk,Y8,())
def fN(Ub:D)(OV:List D)(d_:D)(kn3:D×List D×Unit->M D):M D :=
 QQ d_ λy4 y5=>bd (oM (n8 [Ub])) λl6=>bd (bd (bd (QG (.int 2)) λhi7=>oM (fJ y5 none hi7)) λx8=>oM (dQ x8)) λl9=>dP (λQ1 d29 kn=>fM kn3 Q1.1 Q1.2.1 Q1.2.2.1 Q1.2.2.2.1 Q1.2.2.2.2.1 d29 kn) l9 (Ub,OV,y4,y5,l6,()) (λQ1=>fP kn3 Q1.1 Q1.2.1 Q1.2.2.1 Q1.2.2.2.1 Q1.2.2.2.2.1)
def fW(QV Wz:D):M D :=
 bd (bd (oM (aH QV (.int 2))) λx1=>oM (kC [x1])) λl2=>dP (λYR d31 kn=>fN YR.1 YR.2.1 d31 kn) l2 (Wz,[],()) (λYR=>oQ YR.1 YR.2.1)
def ku:=Qp fW
def rR(Fn:Oy K "_law_steps" "_law_steps" iL f fd)(H_:mg "_law_steps"=some (.ref f))(B:BN mg)(Kx:KX K mg):CF P w K mg base "_law_steps" 1 (C_ K 2 ku) :=
 ⟨f,fd,["_law_rule_here","_law_crowd"],bW (k:=0) Fn y_ (λr_ A outer s H E hr =>
  (af (aI (sh:=[.f,.f,.o,.z,.z,.z,.z]) (eF (i:=2) y_.nd (eW (dB au))))
  (af (bJ (sh:=[.z,.f,.o,.z,.z,.z,.z]) PassesOwn.leaving rfl (bS (vp rfl B.enumerate (aa (z_ hr (j_ 0) (ao ag)) au) rfl)) (e9 rfl (bi (aC (i:=3) (be _) y_.nd) (bi (aC (i:=4) (be _) y_.nd) dH rfl) rfl) rfl rfl)
  (af (aI (sh:=[.z,.f,.o,.f,.f,.o,.z]) (eF (i:=5) y_.nd (eW (nK i6 uC B.list (by decide +kernel) (aG (j_ 1) aM)))))
  (af (bJ (sh:=[.z,.f,.o,.f,.f,.o,.z]) PassesOwn.leaving rfl (bS (dg (cL (j_ 4) cK (cJ ag)))) (aC (i:=6) (be _) y_.nd)
  (aq (nJ (i:=5) rfl (vi rfl) (ak (av 6)) (ak (aP qw qA (ao (z_ hr (bm (i:=5)) (j_ 6))) (ao ag))) (λ_=>rfl) rfl rfl rfl)))
  (aq (bK (bf (aO sY tj (ao (bc (BV rfl) FH B.min (by decide +kernel) (aG (bm (i:=5)) aM))) (ao ag)))
  (af (bJ (sh:=[.z,.f,.o,.f,.z,.o,.z]) PassesOwn.leaving rfl (bS (dg (cL (j_ 4) (cJ ag) cK))) (aC (i:=6) (be _) y_.nd)
  (aq (nJ (i:=5) rfl (vi rfl) (ak (av 6)) (ak (aP aX bq (ao (z_ hr (bm (i:=5)) (j_ 6))) (ao ag))) (λ_=>rfl) rfl rfl rfl)))
  (aq (jc (i:=2) rfl (vi rfl) (aA (ak (bp (aa (av 3) (aa (bC aY bV B.tuple (by decide +kernel) (aG (bm (i:=5)) aM)) au)))) aL) rfl rfl rfl rfl rfl rfl)))
  aU)))))
  (aq (lw (i:=2) (aS (ak (av 2))))))))
 (λds hl=>(by obtain⟨QV,Wz,rfl⟩:=ln2 hl;kernel_rfl)),H_,Fn.kp,(gA Fn λ_ _ _ _ _ _ _ _=>rfl)⟩
abbrev kQ:Stmt:=top 38
abbrev zw:List Str:=["_law_rule_here","_law_crowd","_law_found","_law_line","_law_here"]
def OJ:l_ zw ["_law_rule_here","_law_crowd"] (aB kQ):=Pl rfl rfl rfl rfl (by kernel_rfl)
abbrev Qf:List Str:=["_law_rule_here","_law_crowd","_law_found","_law_line","_law_here","_law_number","_law_later"]
def jk:Qf.Nodup:=by decide +kernel
def kH(Qu:D)(OV:List (D×D))(Ym:List D):M D :=
 .ret (PyData.dict OV)
def e8(Qu:D)(OV:List (D×D))(Ym:List D)(kn1:D×List (D×D)×List D×Unit->M D):M D :=
 bd (oM (dO (PyData.list Ym) (PyData.list []))) λb2=>if b2 then
  Ds Ym λx3=>bd (oM (bE x3 (PyData.dict OV))) λb4=>if b4 then
  bd (fW Qu x3) λx5=>bd (oM (iE true OV x3 x5)) λl6=>bd (bd (bd (oM (aH (PyData.dict l6) x3)) λx7=>oM (dQ x7)) λU0=>bd (aV (λd8=>QQ d8 λy9 y10=>.ret (some y10)) U0) cA) λTR=>bd (oM (FQ (List.dropLast Ym) TR)) λUv=>kn1 (Qu,l6,Uv,())
  else
  kn1 (Qu,OV,(List.dropLast Ym),())
  else kH Qu OV Ym
def eV(QV Wz:D):M D :=
 mM (λW7 kn=>e8 W7.1 W7.2.1 W7.2.2.1 kn) 10000 (QV,[],[Wz],())
def jJ:=Qp eV
def wA(Fn:Oy K "_law_all" "_law_all" kQ f fd)(H_:mg "_law_all"=some (.ref f))(B:BN mg)(Kx:KX K mg)(gbs:CF P w K mg base "_law_steps" 1 (C_ K 2 ku)):CF P w K mg base "_law_all" 2 (C_ K 2 jJ) :=
 ⟨f,fd,["_law_rule_here","_law_crowd"],bW (k:=1) Fn OJ (λr_ A outer s H E hr =>
  (af (aI (sh:=[.f,.f,.t,.z,.z]) (pF true (i:=2) OJ.nd rfl (lo rfl) rfl (.inl rfl)))
  (af (aI (sh:=[.f,.z,.t,.o,.z]) (eF (i:=3) OJ.nd (eW (dB (aa (av 1) au)))))
  (af (kf (sh:=[.f,.z,.t,.o,.z]) (fuel:=10000) PassesOwn.leaving (bf (aO (gX (aj hr)) bw (bm (i:=3)) (ao (hW (dB au)))))
  (af (aI (sh:=[.f,.z,.t,.o,.f]) (GD (i:=3) (j:=4) rfl (vi rfl) OJ.nd rfl (lo rfl) (by decide) rfl rfl rfl (.inl rfl)))
  (aq (bK (bf (aO (cb (aj hr)) cD (j_ 4) (bm (i:=2))))
  (af (aI (sh:=[.f,.z,.t,.o,.f]) (jb (aj hr) (i:=2) rfl (vi rfl) (ak (av 4)) (ak (bQ gbs hr.m (aa (av 0) (aa (av 4) au)))) rfl))
  (aq (GE (i:=3) rfl (vi rfl) (eW (dz (N':=Qf) (k:=2) rfl (aW (by kernel_rfl) rfl rfl) (dg (z_ hr (bm (i:=2)) (j_ 4))) (λ_ _ _ _ _=>(e9 rfl (bi (aC (i:=5) (show 5<=5 by decide) jk) (bi (aC (i:=6) (show 5<=6 by decide) jk) dH rfl) rfl) rfl rfl)) (λ_ _ _ _ _=>cS) (λ_ _ _ _ _=>(av 6)))) rfl rfl rfl rfl rfl rfl)))
  aU))))
  (aq (lw (i:=2) (aS (ak (av 2)))))))))
 (λds hl=>(by obtain⟨QV,Wz,rfl⟩:=ln2 hl;kernel_rfl)),H_,Fn.kp,(gA Fn λ_ _ _ _ _ _ _ _=>rfl)⟩
abbrev gU:Stmt:=top 39
abbrev sv:List Str:=["_law_feed_here","_law_sorts_here","_law_most","_law_found","_law_hand","_law_sort"]
def Oh:l_ sv ["_law_feed_here","_law_sorts_here","_law_most"] (aB gU):=Pl rfl rfl rfl rfl (by kernel_rfl)
abbrev O4:List Str:=["_law_feed_here","_law_sorts_here","_law_most","_law_found","_law_hand","_law_sort ","_law_sort"]
def kY:O4.Nodup:=by decide +kernel
def iG(QM:List D)(Wy:D)(OV:List D):M (D×List D) :=
 bd (oM (cj [(PyData.list OV)])) λx7=>.ret (x7,QM)
def iF(QM:List D)(Wy:D)(OV:List D)(d_:D)(kn8:List D×D×List D×Unit->M (D×List D)):M (D×List D) :=
 bd (az QM Wy) λr9=>bd (bd (oM (aH (PyData.list OV) r9.1)) λQP=>oM (bn QP (.int 1))) λPN=>bd (oM (putD OV r9.1 PN)) λTR=>kn8 (r9.2,Wy,TR,())
def e7(Ql:List D)(Q6 Tw:D):M (D×List D) :=
 bd (bd (oM (bx [Q6])) λl2=>bd (aV (λd1=>.ret (some (.int 0))) l2) cA) λl3=>bd (az Ql Tw) λr4=>bd (oM (bn (.int 1) r4.1)) λx5=>bd (oM (bx [x5])) λl6=>dP (λRA UP kn=>iF RA.1 RA.2.1 RA.2.2.1 UP kn) l6 (r4.2,Q6,l3,()) (λRA=>iG RA.1 RA.2.1 RA.2.2.1)
def jI:List D->List D->M (D×List D):=λQl l=>match l with
 | [Q6,Tw]=>e7 Ql Q6 Tw
 | _=>.bad
def qB(Fn:Oy K "_law_counts" "_law_counts" gU f fd)(H_:mg "_law_counts"=some (.ref f))(B:BN mg)(Kx:KX K mg)(O6:CF P w K mg base "_law_draw" 1 (PV K 2 cw)):CF P w K mg base "_law_counts" 2 (PV K 3 jI) :=
 ⟨f,fd,["_law_feed_here","_law_sorts_here","_law_most"],lj (k:=1) Fn Oh (λr_ A outer s H E hr =>
  (af (aI (sh:=[.p,.f,.f,.o,.z,.z]) (oB (i:=3) Oh.nd rfl (lo rfl) (.inl rfl) (N':=O4) (k:=1) rfl (aW (by kernel_rfl) rfl rfl) (bI rfl B.range (aa (av 1) au) rfl) (λ_ _ _ _ _=>(aC (i:=6) (show 6<=6 by decide) kY)) (λ_ _ _ _ _=>cS) (λ_ _ _ _ _=>ag) rfl (λ_=>rfl)))
  (af (bJ (sh:=[.p,.f,.z,.o,.z,.z]) PassesOwn.leaving rfl (zm rfl B.range (aA (rK aX bq (ak ag) (bG (i:=0) O6 hr.m (aA (ak (av 2)) aL))) aL) rfl) (aC (i:=4) (be _) Oh.nd)
  (af (aI (sh:=[.p,.f,.z,.o,.z,.f]) (aK (i:=5) Oh.nd (bG (i:=0) O6 hr.m (aA (ak (av 1)) aL))))
  (aq (nJ (i:=3) rfl (vi rfl) (ak (av 5)) (ak (aP aX bq (ao (z_ hr (bm (i:=3)) (j_ 5))) (ao ag))) (λ_=>rfl) rfl rfl rfl))))
  (aq (aS (ak (bC aY bV B.tuple (by decide +kernel) (aG (bm (i:=3)) aM))))))))
 (λg ds hl=>(by obtain⟨Q6,Tw,rfl⟩:=ln2 (Nat.succ.inj hl);kernel_rfl)),H_,Fn.kp,(xJ Fn λ_ _ _ _ _ _ _ _ _=>rfl)⟩
abbrev iO:Stmt:=top 40
abbrev vC:List Str:=["_law_rule_here","_law_counts_here","_law_found","_law_sort","_law_room"]
def Om:l_ vC ["_law_rule_here","_law_counts_here"] (aB iO):=Pl rfl rfl rfl rfl (by kernel_rfl)
abbrev Pd:List Str:=["_law_rule_here","_law_counts_here","_law_found","_law_sort","_law_room ","_law_room"]
def lP:Pd.Nodup:=by decide +kernel
def jn(Qu U5:D)(OV:List D):M D :=
 bd (oM (cj [(PyData.list OV)])) λx7=>.ret x7
def jm(Qu U5:D)(OV:List D)(d_:D)(kn8:D×D×List D×Unit->M D):M D :=
 bd (bd (oM (aH Qu (.int 1))) λx9=>oM (aH x9 d_)) λQP=>bd (bd (oM (aH (PyData.list OV) QP)) λPN=>bd (oM (aH U5 d_)) λPM=>oM (bn PN PM)) λR3=>bd (oM (putD OV QP R3)) λVA=>kn8 (Qu,U5,VA,())
def eA(QV S8:D):M D :=
 bd (bd (bd (oM (aH QV (.int 0))) λx1=>oM (bx [x1])) λl3=>bd (aV (λd2=>.ret (some (.int 0))) l3) cA) λl4=>bd (bd (oM (fm [S8])) λx5=>oM (bx [x5])) λl6=>dP (λW6 d16 kn=>jm W6.1 W6.2.1 W6.2.2.1 d16 kn) l6 (QV,S8,l4,()) (λW6=>jn W6.1 W6.2.1 W6.2.2.1)
def gZ:=Qp eA
def rV(Fn:Oy K "_law_begun" "_law_begun" iO f fd)(H_:mg "_law_begun"=some (.ref f))(B:BN mg)(Kx:KX K mg):CF P w K mg base "_law_begun" 1 (C_ K 2 gZ) :=
 ⟨f,fd,["_law_rule_here","_law_counts_here"],bW (k:=0) Fn Om (λr_ A outer s H E hr =>
  (af (aI (sh:=[.f,.f,.o,.z,.z]) (oB (i:=2) Om.nd rfl (lo rfl) (.inl rfl) (N':=Pd) (k:=1) rfl (aW (by kernel_rfl) rfl rfl) (bI rfl B.range (aa (z_ hr (j_ 0) (ao ag)) au) rfl) (λ_ _ _ _ _=>(aC (i:=5) (show 5<=5 by decide) lP)) (λ_ _ _ _ _=>cS) (λ_ _ _ _ _=>ag) rfl (λ_=>rfl)))
  (af (bJ (sh:=[.f,.f,.o,.z,.z]) PassesOwn.leaving rfl (bS (bI rfl B.range (aa (bc cq fE B.len lu (aG (j_ 1) aM)) au) rfl)) (aC (i:=3) (be _) Om.nd)
  (af (aI (sh:=[.f,.f,.o,.f,.f]) (aK (i:=4) Om.nd (ak (z_ hr (ao (z_ hr (j_ 0) (ao ag))) (j_ 3)))))
  (aq (nJ (i:=2) rfl (vi rfl) (ak (av 4)) (ak (aP aX bq (ao (z_ hr (bm (i:=2)) (j_ 4))) (ao (z_ hr (j_ 1) (j_ 3))))) (λ_=>rfl) rfl rfl rfl))))
  (aq (aS (ak (bC aY bV B.tuple (by decide +kernel) (aG (bm (i:=2)) aM))))))))
 (λds hl=>(by obtain⟨QV,S8,rfl⟩:=ln2 hl;kernel_rfl)),H_,Fn.kp,(gA Fn λ_ _ _ _ _ _ _ _=>rfl)⟩
abbrev jq:Stmt:=top 41
abbrev xP:List Str:=["_law_rule_here","_law_crowd","_law_words"]
def PZ:l_ xP ["_law_rule_here","_law_crowd"] (aB jq):=Pl rfl rfl rfl rfl (by kernel_rfl)
abbrev Px:List Str:=["_law_rule_here","_law_crowd","_law_words","_law_room"]
def nj:Px.Nodup:=by decide +kernel
def dL(QV Wz:D):M D :=
 bd (bd (bd (bd (oM (aH QV (.int 0))) λx1=>oM (bx [x1])) λl7=>bd (aV (λd2=>bd (bd (oM (aH Wz d2)) λx3=>oM (dX x3 (.int 0))) λb6=>if b6 then bd (bd (oM (aH QV (.int 3))) λx4=>oM (aH x4 d2)) λx5=>.ret (some x5)else .ret none) l7) cA) λl8=>.ret (PyData.list l8)) λx9=>bd (oM (bE (.bool false) x9)) λTd=>if Td then
  .ret (.str "yes")
  else
  bd (bd (oM (cf (.bool true) x9)) λV8=>if V8 then .ret (.str "both")else .ret (.str "no")) λPM=>.ret PM
def lS:=Qp dL
def uF(Fn:Oy K "_law_said" "_law_said" jq f fd)(H_:mg "_law_said"=some (.ref f))(B:BN mg)(Kx:KX K mg):CF P w K mg base "_law_said" 1 (C_ K 2 lS) :=
 ⟨f,fd,["_law_rule_here","_law_crowd"],bW (k:=0) Fn PZ (λr_ A outer s H E hr =>
  (af (aI (sh:=[.z,.z,.f]) (cU (i:=2) PZ.nd rfl (lo rfl) (.inl rfl) (N':=Px) (k:=1) rfl (aW (by kernel_rfl) rfl rfl) (bI rfl B.range (aa (z_ hr (j_ 0) (ao ag)) au) rfl) (λ_ _ _ _ _=>(aC (i:=3) (show 3<=3 by decide) nj)) (λ_ _ _ _ _=>(eD (aO iu iw (ao (z_ hr (j_ 1) (j_ 3))) (ao ag)))) (λ_ _ _ _ _=>(z_ hr (ao (z_ hr (j_ 0) (ao ag))) (j_ 3))) rfl (λ_=>rfl)))
  (af (bK (bf (aO (cb (aj hr)) cD (ao eI) (j_ 2)))
  (aq (aS (ak br)))
  aU)
  (aq (aS (ak (rH (aO (gF (aj hr)) jE (ao eI) (j_ 2)) br br)))))))
 (λds hl=>(by obtain⟨QV,Wz,rfl⟩:=ln2 hl;kernel_rfl)),H_,Fn.kp,(gA Fn λ_ _ _ _ _ _ _ _=>rfl)⟩
abbrev jx:Stmt:=top 42
abbrev xW:List Str:=["_law_found","_law_goals","_law_seen","_law_many","_law_crowd","_law_steps_here"]
def NC:l_ xW ["_law_found","_law_goals"] (aB jx):=Pl rfl rfl rfl rfl (by kernel_rfl)
abbrev PC:List Str:=["_law_found","_law_goals","_law_seen","_law_many","_law_crowd","_law_steps_here","_law_goal"]
def nA:PC.Nodup:=by decide +kernel
abbrev PB:List Str:=["_law_found","_law_goals","_law_seen","_law_many","_law_crowd","_law_steps_here","_law_step"]
def nz:PB.Nodup:=by decide +kernel
def rC(OV:D)(Ud:List (D×D))(WB:D):M D :=
 .ret (PyData.dict Ud)
def rB(VC:D×List (D×D)×D×Unit->M D)(OV:D)(Ud:List (D×D))(WB:D):M D :=
 VC (OV,Ud,WB,())
def eC(VC:D×List (D×D)×D×Unit->M D)(OV:D)(Ud:List (D×D))(WB d_:D)(Zb:D×List (D×D)×D×Unit->M D):M D :=
 bd (bd (bd (bd (oM (aH OV d_)) λR3=>oM (dQ R3)) λXk=>bd (aV (λUP=>bd (bd (oM (aH UP (.int 1))) λQi=>oM (cf Qi (PyData.dict Ud))) λT7=>if T7 then .ret (some UP)else .ret none) Xk) cA) λVz=>.ret (PyData.list Vz)) λQW=>bd (oM (dO QW (PyData.list []))) λZU=>if ZU then
  bd (oM (iE true Ud d_ (.bool true))) λSV=>Zb (OV,SV,WB,())
  else
  Zb (OV,Ud,WB,())
def cI(OV:D)(Ud:List (D×D))(WB:D)(VC:D×List (D×D)×D×Unit->M D):M D :=
 bd (bd (oM (kB [(PyData.dict Ud)])) λx8=>oM (gI WB x8)) λb9=>if b9 then
  bd (oM (kB [(PyData.dict Ud)])) λQP=>bd (oM (uo OV)) λU0=>dP (λRj V3 kn=>eC VC Rj.1 Rj.2.1 Rj.2.2.1 V3 kn) U0 (OV,Ud,QP,()) (λRj=>rB VC Rj.1 Rj.2.1 Rj.2.2.1)
  else rC OV Ud WB
def fy(gbl gbm:D):M D :=
 bd (bd (bd (oM (dQ gbm)) λl2=>bd (aV (λd1=>.ret (some (.tuple [d1,(.bool true)]))) l2) cA) λl3=>.ret (PyData.list l3)) λx4=>bd (oM (Ay true x4)) λl5=>bd (oM (Dr (.int 1))) λx6=>mM (λW5 kn=>cI W5.1 W5.2.1 W5.2.2.1 kn) 10000 (gbl,l5,x6,())
def lX:=Qp fy
def uM(Fn:Oy K "_law_back" "_law_back" jx f fd)(H_:mg "_law_back"=some (.ref f))(B:BN mg)(Kx:KX K mg):CF P w K mg base "_law_back" 1 (C_ K 2 lX) :=
 ⟨f,fd,["_law_found","_law_goals"],bW (k:=0) Fn NC (λr_ A outer s H E hr =>
  (af (aI (sh:=[.f,.z,.t,.z,.z,.z]) (JG true (i:=2) rfl (aj hr) rfl B.dict NC.nd rfl (lo rfl) (ak (hW (dz (N':=PC) (k:=1) rfl (aW (by kernel_rfl) rfl rfl) (dg (av 1)) (λ_ _ _ _ _=>(aC (i:=6) (show 6<=6 by decide) nA)) (λ_ _ _ _ _=>cS) (λ_ _ _ _ _=>(bp (aa (av 6) (aa eI au))))))) rfl rfl (.inl rfl)))
  (af (aI (sh:=[.f,.z,.t,.f,.z,.z]) (aK (i:=3) NC.nd (ak (LL HA IG (ao ag)))))
  (af (kf (sh:=[.f,.z,.t,.f,.z,.z]) (fuel:=10000) PassesOwn.leaving (bf (aO (mX (aj hr)) mZ (j_ 3) (ao (bc gb j5 B.len lu (aG (bm (i:=2)) aM)))))
  (af (aI (sh:=[.f,.z,.t,.f,.z,.z]) (aK (i:=3) NC.nd (ak (bc gb j5 B.len lu (aG (bm (i:=2)) aM)))))
  (aq (bJ (sh:=[.f,.z,.t,.f,.z,.z]) PassesOwn.leaving rfl (bS (jd (av 0))) (aC (i:=4) (be _) NC.nd)
  (af (aI (sh:=[.f,.z,.t,.f,.f,.f]) (cU (i:=5) NC.nd rfl (lo rfl) (.inl rfl) (N':=PB) (k:=1) rfl (aW (by kernel_rfl) rfl rfl) (dg (z_ hr (j_ 0) (j_ 4))) (λ_ _ _ _ _=>(aC (i:=6) (show 6<=6 by decide) nz)) (λ_ _ _ _ _=>(eD (aO (gF (aj hr)) jE (ao (z_ hr (j_ 6) (ao ag))) (bm (i:=2))))) (λ_ _ _ _ _=>(av 6)) rfl (λ_=>rfl)))
  (aq (bK (bf (aO (gX (aj hr)) bw (j_ 5) (ao (hW (dB au)))))
  (aq (jb (aj hr) (i:=2) rfl (vi rfl) (ak (av 4)) (ak eI) rfl))
  aU)))))))
  (aq (lw (i:=2) (aS (ak (av 2)))))))))
 (λds hl=>(by obtain⟨gbl,gbm,rfl⟩:=ln2 hl;kernel_rfl)),H_,Fn.kp,(gA Fn λ_ _ _ _ _ _ _ _=>rfl)⟩
abbrev ju:Stmt:=top 43
abbrev xT:List Str:=["_law_rule_here","_law_question_here","_law_counts_here","_law_found","_law_word","_law_erring","_law_wrong","_law_right"]
def M_:l_ xT ["_law_rule_here","_law_question_here","_law_counts_here"] (aB ju):=Pl rfl rfl rfl rfl (by kernel_rfl)
abbrev Oo:List Str:=["_law_rule_here","_law_question_here","_law_counts_here","_law_found","_law_word","_law_erring","_law_wrong","_law_right","_law_crowd"]
def eN:Oo.Nodup:=by decide +kernel
def dN(QV Rf S8:D):M D :=
 bd (bd (eA QV S8) λx1=>eV QV x1) λx2=>bd (bd (bd (dv 8 Rf S8) λx3=>oM (mz [x3])) λx4=>oM (aH (PyData.list [(.str "no"),(.str "yes")]) x4)) λx5=>bd (bd (bd (oM (uo x2)) λl9=>bd (aV (λd6=>bd (bd (dL QV d6) λx7=>oM (dO x7 x5)) λb8=>if b8 then .ret (some d6)else .ret none) l9) cA) λY_=>.ret (PyData.list Y_)) λPN=>bd (fy x2 PN) λPM=>bd (bd (bd (bd (oM (uo x2)) λXl=>bd (aV (λYs=>bd (oM (bE Ys PM)) λb14=>if b14 then .ret (some Ys)else .ret none) Xl) cA) λY9=>.ret (PyData.list Y9)) λSx=>fy x2 Sx) λU_=>bd (bd (bd (oM (uo x2)) λSV=>bd (aV (λd19=>bd (oM (bE d19 U_)) λZU=>if ZU then .ret (some d19)else .ret none) SV) cA) λVx=>.ret (PyData.list Vx)) λRL=>.ret RL
def lV:=Ur dN
def uJ(Fn:Oy K "_law_lost" "_law_lost" ju f fd)(H_:mg "_law_lost"=some (.ref f))(B:BN mg)(Kx:KX K mg)(Yl:CF P w K mg base "_law_all" 2 (C_ K 2 jJ))(gbn:CF P w K mg base "_law_back" 1 (C_ K 2 lX))(Yk:CF P w K mg base "_law_begun" 1 (C_ K 2 gZ))(gbt:CF P w K mg base "_law_holds" 9 (C_ K 2 (cV 8)))(gbB:CF P w K mg base "_law_said" 1 (C_ K 2 lS)):CF P w K mg base "_law_lost" 10 (C_ K 3 lV) :=
 ⟨f,fd,["_law_rule_here","_law_question_here","_law_counts_here"],bW (k:=9) Fn M_ (λr_ A outer s H E hr =>
  (af (aI (sh:=[.f,.f,.f,.f,.z,.z,.z,.z]) (aK (i:=3) M_.nd (ak (bQ Yl hr.m (aa (av 0) (aa (bQ Yk hr.m (aa (av 0) (aa (av 2) au))) au))))))
  (af (aI (sh:=[.f,.z,.z,.f,.f,.z,.z,.z]) (aK (i:=4) M_.nd (ak (z_ hr (ao (hW (dB (aa br (aa br au))))) (ao (bC eS kX B.int (by decide +kernel) (aG (ao (bQ gbt hr.m (aa (av 1) (aa (av 2) au)))) aM)))))))
  (af (aI (sh:=[.z,.z,.z,.f,.z,.f,.z,.z]) (cU (i:=5) M_.nd rfl (lo rfl) (.inl rfl) (N':=Oo) (k:=1) rfl (aW (by kernel_rfl) rfl rfl) (jd (av 3)) (λ_ _ _ _ _=>(aC (i:=8) (show 8<=8 by decide) eN)) (λ_ _ _ _ _=>(eD (aO (gX (aj hr)) bw (ao (bQ gbB hr.m (aa (av 0) (aa (av 8) au)))) (j_ 4)))) (λ_ _ _ _ _=>(av 8)) rfl (λ_=>rfl)))
  (af (aI (sh:=[.z,.z,.z,.f,.z,.z,.f,.z]) (aK (i:=6) M_.nd (ak (bQ gbn hr.m (aa (av 3) (aa (av 5) au))))))
  (af (aI (sh:=[.z,.z,.z,.f,.z,.z,.z,.f]) (aK (i:=7) M_.nd (ak (bQ gbn hr.m (aa (av 3) (aa (hW (dz (N':=Oo) (k:=1) rfl (aW (by kernel_rfl) rfl rfl) (jd (av 3)) (λ_ _ _ _ _=>(aC (i:=8) (show 8<=8 by decide) eN)) (λ_ _ _ _ _=>(eD (aO (cb (aj hr)) cD (j_ 8) (j_ 6)))) (λ_ _ _ _ _=>(av 8)))) au))))))
  (aq (aS (ak (hW (dz (N':=Oo) (k:=1) rfl (aW (by kernel_rfl) rfl rfl) (jd (av 3)) (λ_ _ _ _ _=>(aC (i:=8) (show 8<=8 by decide) eN)) (λ_ _ _ _ _=>(eD (aO (cb (aj hr)) cD (j_ 8) (j_ 7)))) (λ_ _ _ _ _=>(av 8)))))))))))))
 (λds hl=>(by obtain⟨QV,Rf,S8,rfl⟩:=Xj hl;kernel_rfl)),H_,Fn.kp,(xJ Fn λ_ _ _ _ _ _ _ _ _=>rfl)⟩
abbrev kP:Stmt:=top 45
abbrev zu:List Str:=["_law_things","_law_rule_here","_law_question_here","_law_counts_here","_law_limit"]
def Oq:l_ zu ["_law_things"] (aB kP):=Pl rfl rfl rfl rfl (by kernel_rfl)
def eU(ZG:D):M D :=
 X7 ZG λy1 y2 y3 y4=>bd (cF y1 y2 y3 y4) λx5=>.ret x5
def nX:=Vv eU
def wz(Fn:Oy K "_law_ask" "_law_ask" kP f fd)(H_:mg "_law_ask"=some (.ref f))(B:BN mg)(Kx:KX K mg)(Yj:CF P w K mg base "answers" 11 (C_ K 4 eO)):CF P w K mg base "_law_ask" 12 (C_ K 1 nX) :=
 ⟨f,fd,["_law_things"],bW (k:=11) Fn Oq (λr_ A outer s H E hr =>
  (af (aI (sh:=[.z,.f,.f,.f,.f]) (vm (ak (av 0)) (AR rfl (bi (aC (i:=1) (be _) Oq.nd) (bi (aC (i:=2) (be _) Oq.nd) (bi (aC (i:=3) (be _) Oq.nd) (bi (aC (i:=4) (be _) Oq.nd) dH rfl) rfl) rfl) rfl) rfl rfl) rfl rfl rfl))
  (aq (aS (ak (bQ Yj hr.m (aa (av 1) (aa (av 2) (aa (av 3) (aa (av 4) au))))))))))
 (λds hl=>(by obtain⟨ZG,rfl⟩:=UZ hl;kernel_rfl)),H_,Fn.kp,(Gw Fn λ_ _ _ _ _ _ _=>rfl)⟩
abbrev fD:Stmt:=top 44
abbrev oS:List Str:=["_law_ask_here","_law_things","_law_found","e","_law_strange"]
def B_:l_ oS ["_law_ask_here","_law_things"] (aB fD):=Pl rfl rfl rfl rfl (by kernel_rfl)
def cR(OV:D):M D :=
 .ret OV
def dG(ga1 ZG:D):M D :=
 EW (A:=D×Unit) (B:=Unit) (X8 (λe_=>.ret (.inr (e_,(())))) (ID ga1 "_law_ask" (eU ZG)) λx1=>.ret (.inl ((.bool false),()))) (λs4=>cR s4.1) (λe2 s3=>tf ["TooMany"] e2.cls (X8 (λ_=>.bad) (bd (oM (gm [("TooMany",false)] (mC e2))) λb5=>.ret (.bool b5)) λx6=>X8 (λ_=>.bad) (bd (bd (oM (gm [("TooMany",true)] (mC e2))) λb9=>if b9 then bd (oM (gm [("TooMany",true)] (mC e2))) λb8=>if b8 then bd (oM (ki x6)) λb7=>.ret (!b7)else .ret false else .ret false) λTd=>.ret (.bool Td)) λPN=>cR PN))
def iA:=Qp dG
def m6(Fn:Oy K "_law_too_many" "_law_too_many" fD f fd)(H_:mg "_law_too_many"=some (.ref f))(B:BN mg)(Kx:KX K mg)(gbK:CF P w K mg base "_law_ask" 12 (C_ K 1 nX)):CF P w K mg base "_law_too_many" 13 (C_ K 2 iA) :=
 ⟨f,fd,["_law_ask_here","_law_things"],bW (k:=12) Fn B_ (λr_ A outer s H E hr =>
  (af (aI (sh:=[.f,.f,.f,.z,.z]) (aK (i:=2) B_.nd (ak eI)))
  (af (aI (sh:=[.z,.z,.f,.z,.z]) (GB (j:=3) (sh:=[.z,.z,.f,.z,.z]) (shx:=[.z,.z,.z,.z,.z]) Kx.h_PassError rfl (λ_ _=>(aq (GF (ak (JM (i:=0) (f := "_law_ask") gbK hr.m rfl (vi rfl) (aa (av 1) au) rfl rfl rfl)) rfl))) (λ_=>(af (aI (sh:=[.z,.z,.z,.f,.f]) (aK (i:=4) B_.nd (ak (fA (Cc Kx.w_ (.cons rfl (by decide) (fS rfl) (.cons rfl (by decide) (fS rfl) (.cons rfl (by decide) (fS rfl) (.cons rfl (by decide) (fS rfl) (.cons rfl (by decide) (fS rfl) (.cons rfl (by decide) (fS rfl) .nil)))))) (by decide) B.isinstance rfl (av 3) rfl rfl rfl)))))
  (aq (aK (i:=2) B_.nd (ak (fA (vv (EN Kx.TU rfl B.isinstance rfl (av 3) rfl rfl rfl (by decide)) (vv (EL Kx.RF rfl B.ValueError (by decide +kernel) B.isinstance rfl (av 3) rfl rfl rfl (by decide) (by decide)) (vq (pH (j_ 4))))))))))) (by decide) B_.nd rfl rfl rfl rfl (by decide)))
  (aq (aS (ak (av 2)))))))
 (λds hl=>(by obtain⟨ga1,ZG,rfl⟩:=ln2 hl;kernel_rfl)),H_,Fn.kp,(gA Fn λ_ _ _ _ _ _ _ _=>rfl)⟩
abbrev CP:Stmt:=top 46
abbrev LR:List Str:=["_law_script","_law_k","_law_feed_here","_law_rule_here","_law_question_here","_law_hands","_law_other","_law_wrote","_law_turn","_law_counts_here","_law_dues","_law_one","_law_due","_law_many","_law_things"]
def G_:l_ LR ["_law_script"] (aB CP):=Pl rfl rfl rfl rfl (by kernel_rfl)
abbrev TF:List Str:=["_law_script","_law_k","_law_feed_here","_law_rule_here","_law_question_here","_law_hands","_law_other","_law_wrote","_law_turn","_law_counts_here","_law_dues","_law_one ","_law_due","_law_many","_law_things","_law_one"]
def yx:TF.Nodup:=by decide +kernel
def Ew(Tx:D):M D :=
 .ret (.bool true)
def xI(Pq:D×Unit->M D)(Tx:D)(QM:List D)(Qu Qv:D)(VW WC XF:D):M D :=
 bd (bd (oM (jM [(.tuple [Qu,Qv])])) λSx=>oM (dO Sx XF)) λUR=>if UR then
  .ret (.bool false)
  else
  Pq (Tx,())
def xH(Pq:D×Unit->M D)(RE:D×List D×D×D×D×D×D×Unit->M D)(Tx:D)(QM:List D)(Qu Qv:D)(VW WC:D)(XF U5 gbL:D):M D :=
 bd (bd (bd (eA Qu U5) λYG=>eV Qu YG) λYF=>oM (kB [YF])) λWS=>bd (bd (bd (cF Qu Qv U5 WS) λx41=>oM (jM [x41])) λx43=>bd (bd (oM (aH gbL (.int 0))) λYE=>oM (jM [YE])) λx44=>oM (dO x43 x44)) λb45=>if b45 then
  .ret (.bool false)
  else
  bd (bd (oM (gG WS (.int 1))) λx46=>.ret (.tuple [Qu,Qv,U5,x46])) λx47=>bd (bd (oM (dX WS (.int 1))) λb50=>if b50 then bd (bd (dG (WH "_law_ask") x47) λx48=>oM (ki x48)) λb49=>.ret (!b49)else .ret false) λb51=>if b51 then
  .ret (.bool false)
  else
  RE (Tx,QM,Qu,Qv,VW,WC,XF,())
def qZ(Pq:D×Unit->M D)(RE:D×List D×D×D×D×D×D×Unit->M D)(Tx:D)(QM:List D)(Qu Qv:D)(VW WC:D)(XF U5:D)(gbL d_:D)(zal:D×List D×D×D×D×D×D×D×D×Unit->M D):M D :=
 QQ d_ λy53 y54=>bd (bd (bd (cF Qu y53 U5 (.int 1000)) λx55=>oM (jM [x55])) λx56=>bd (oM (jM [y54])) λx57=>oM (dO x56 x57)) λb58=>if b58 then
  .ret (.bool false)
  else
  zal (Tx,QM,Qu,Qv,VW,WC,XF,U5,gbL,())
def q8(Pq:D×Unit->M D)(Tx:D)(QM:List D)(Qu Qv:D)(VW WC:D)(XF d_:D)(RE:D×List D×D×D×D×D×D×Unit->M D):M D :=
 bd (bd (oM (aH Qu (.int 1))) λRx=>oM (fm [Rx])) λWY=>bd (e7 QM WY VW) λr22=>bd (bd (bd (oM (dQ (.tuple [Qv,WC]))) λY8=>bd (aV (λV3=>bd (bd (bd (dN Qu V3 r22.1) λRb=>oM (aZ Rb (PyData.list []))) λZS=>.ret (.bool ZS)) λUj=>.ret (some Uj)) Y8) cA) λl28=>.ret (PyData.list l28)) λWh=>bd (bd (bd (bd (oM (aH Wh (.int 0))) λWX=>.ret (.tuple [Qv,WX])) λWW=>bd (bd (oM (aH Wh (.int 1))) λWV=>.ret (.tuple [WC,WV])) λx33=>bd (bd (oM (aH Wh (.int 0))) λWU=>.ret (.tuple [Qv,WU])) λWT=>.ret (.tuple [WW,x33,WT])) λYH=>oM (dQ YH)) λl37=>dP (λRz d60 kn=>qZ Pq RE Rz.1 Rz.2.1 Rz.2.2.1 Rz.2.2.2.1 Rz.2.2.2.2.1 Rz.2.2.2.2.2.1 Rz.2.2.2.2.2.2.1 Rz.2.2.2.2.2.2.2.1 Rz.2.2.2.2.2.2.2.2.1 d60 kn) l37 (Tx,r22.2,Qu,Qv,VW,WC,XF,r22.1,Wh,()) (λRz=>xH Pq RE Rz.1 Rz.2.1 Rz.2.2.1 Rz.2.2.2.1 Rz.2.2.2.2.1 Rz.2.2.2.2.2.1 Rz.2.2.2.2.2.2.1 Rz.2.2.2.2.2.2.2.1 Rz.2.2.2.2.2.2.2.2.1)
def mJ(Pq:D×Unit->M D)(Tx:D)(QM:List D)(Qu Qv VW:D):M D :=
 bd (bd (bd (oM (aH Qv (.int 0))) λPM=>oM (cf PM (.tuple [(.str "not"),(.str "both"),(.str "either")]))) λV7=>if V7 then oM (aH Qv (.int 1))else .ret (.tuple [(.str "not"),Qv])) λR1=>bd (oM (jM [(.tuple [Qu,Qv])])) λQi=>bd (oM (bx [(.int 2)])) λY9=>dP (λSK d62 kn=>q8 Pq SK.1 SK.2.1 SK.2.2.1 SK.2.2.2.1 SK.2.2.2.2.1 SK.2.2.2.2.2.1 SK.2.2.2.2.2.2.1 d62 kn) Y9 (Tx,QM,Qu,Qv,VW,R1,Qi,()) (λSK=>xI Pq SK.1 SK.2.1 SK.2.2.1 SK.2.2.2.1 SK.2.2.2.2.1 SK.2.2.2.2.2.1 SK.2.2.2.2.2.2.1)
def q9(Tx d_:D)(Pq:D×Unit->M D):M D :=
 bd (gS Tx d_) λl3=>bd (gR l3 (.int 5)) λr4=>QQ r4.1 λy5 y6=>bd (oM (aZ d_ (.int 3))) λb7=>if b7 then
  bd (dc r4.2 (.int 2)) λr8=>bd (bd (oM (aH r8.1 (.int 1))) λx9=>oM (fm [x9])) λQP=>bd (bH 8 r8.2 QP (.int 1)) λRO=>mJ Pq Tx RO.2 r8.1 RO.1 (.int 60)
  else
  mJ Pq Tx r4.2 y5 y6 (.int 4)
def AJ(U4:D):M D :=
 bd (oM (bx [(.int 4)])) λl1=>dP (λs63 d64 kn=>q9 s63.1 d64 kn) l1 (U4,()) (λs63=>Ew s63.1)
def uO:=Vv AJ
def Jf(Fn:Oy K "law" "law" CP f fd)(B:BN mg)(Kx:KX K mg)(gbC:CF P w K mg base "_law_feed" 1 (YN K 2 lW))(gbD:CF P w K mg base "_law_pair" 12 (PV K 2 lT))(Yq:CF P w K mg base "_law_rule" 2 (PV K 2 iX))(XH:CF P w K mg base "_law_question" 11 (PV K 3 (bP 8)))(gbo:CF P w K mg base "_law_counts" 2 (PV K 3 jI))(Yl:CF P w K mg base "_law_all" 2 (C_ K 2 jJ))(gbE:CF P w K mg base "_law_lost" 10 (C_ K 3 lV))(Yk:CF P w K mg base "_law_begun" 1 (C_ K 2 gZ))(Yj:CF P w K mg base "answers" 11 (C_ K 4 eO))(gba:CF P w K mg base "_law_too_many" 13 (C_ K 2 iA))(Qy:CFd P w K mg base "answers" 11 (C_ K 4 eO) 1000):Oz P w K mg base (PF P w) 14 f fd ["_law_script"] (C_ K 1 uO) :=
 bW (k:=13) Fn G_ (λr_ A outer s H E hr =>
  (af (bJ (sh:=[.f,.z,.z,.z,.z,.z,.z,.z,.z,.z,.z,.z,.z,.z,.z]) PassesOwn.leaving rfl (bS (bI rfl B.range (aa ag au) rfl)) (aC (i:=1) (be _) G_.nd)
  (af (aI (sh:=[.f,.f,.o,.z,.z,.z,.z,.z,.z,.z,.z,.z,.z,.z,.z]) (eF (i:=2) G_.nd (eW (LM gbC hr.m (aa (av 0) (aa (av 1) au))))))
  (af (aI (sh:=[.f,.f,.o,.f,.f,.z,.z,.z,.z,.z,.z,.z,.z,.z,.z]) (vm (bG (i:=2) gbD hr.m (aA (ak ag) aL)) (e9 rfl (bi (aC (i:=3) (be _) G_.nd) (bi (aC (i:=4) (be _) G_.nd) dH rfl) rfl) rfl rfl) rfl rfl rfl))
  (af (aI (sh:=[.f,.f,.o,.f,.f,.f,.z,.z,.z,.z,.z,.z,.z,.z,.z]) (aK (i:=5) G_.nd (ak ag)))
  (af (aI (sh:=[.f,.z,.o,.f,.f,.f,.z,.z,.z,.z,.z,.z,.z,.z,.z]) (bK (bf (aO (bA (aj hr)) bw (j_ 1) (ao ag)))
  (af (aI (sh:=[.f,.z,.o,.f,.z,.z,.z,.z,.z,.z,.z,.z,.z,.z,.z]) (aK (i:=3) G_.nd (bG (i:=2) Yq hr.m (aA (ak ag) aL))))
  (af (aI (sh:=[.f,.z,.o,.f,.f,.z,.z,.z,.z,.z,.z,.z,.z,.z,.z]) (aK (i:=4) G_.nd (bG (i:=2) XH hr.m (aA (ak (bc cq fE B.len lu (aG (ao (z_ hr (j_ 3) (ao ag))) aM))) (aA (ak ag) aL)))))
  (aq (aK (i:=5) G_.nd (ak ag)))))
  aU))
  (af (aI (sh:=[.f,.z,.o,.f,.f,.f,.f,.z,.z,.z,.z,.z,.z,.z,.z]) (aK (i:=6) G_.nd (ak (rH (aO (gF (aj hr)) jE (ao (z_ hr (j_ 4) (ao ag))) (ao (bp (aa br (aa br (aa br au)))))) (z_ hr (j_ 4) (ao ag)) (bp (aa br (aa (av 4) au)))))))
  (af (aI (sh:=[.f,.z,.o,.f,.f,.f,.f,.f,.z,.z,.z,.z,.z,.z,.z]) (aK (i:=7) G_.nd (ak (bc (fZ (aj hr) hr.gd) j4 B.repr (by decide +kernel) (aG (ao (bp (aa (av 3) (aa (av 4) au)))) aM)))))
  (af (bJ (sh:=[.f,.z,.o,.f,.f,.f,.f,.f,.z,.z,.z,.z,.z,.z,.z]) PassesOwn.leaving rfl (bS (bI rfl B.range (aa ag au) rfl)) (aC (i:=8) (be _) G_.nd)
  (af (aI (sh:=[.f,.z,.o,.f,.f,.f,.f,.f,.z,.f,.z,.z,.z,.z,.z]) (aK (i:=9) G_.nd (bG (i:=2) gbo hr.m (aA (ak (bc cq fE B.len lu (aG (ao (z_ hr (j_ 3) (ao ag))) aM))) (aA (ak (av 5)) aL)))))
  (af (aI (sh:=[.f,.z,.o,.f,.f,.f,.f,.f,.z,.f,.f,.z,.z,.z,.z]) (cU (i:=10) G_.nd rfl (lo rfl) (.inl rfl) (N':=TF) (k:=1) rfl (aW (by kernel_rfl) rfl rfl) (dg (bp (aa (av 4) (aa (av 6) au)))) (λ_ _ _ _ _=>(aC (i:=15) (show 15<=15 by decide) yx)) (λ_ _ _ _ _=>cS) (λ_ _ _ _ _=>(fA (cM (bA (aj hr)) bw (ao (bQ gbE hr.m (aa (av 3) (aa (av 15) (aa (av 9) au))))) (ao (hW (dB au)))))) rfl (λ_=>rfl)))
  (af (bJ (sh:=[.f,.z,.o,.f,.f,.f,.f,.f,.z,.f,.f,.z,.z,.z,.z]) PassesOwn.leaving rfl (bS (dg (bp (aa (bp (aa (av 4) (aa (z_ hr (j_ 10) (ao ag)) au))) (aa (bp (aa (av 6) (aa (z_ hr (j_ 10) (ao ag)) au))) (aa (bp (aa (av 4) (aa (z_ hr (j_ 10) (ao ag)) au))) au)))))) (e9 rfl (bi (aC (i:=11) (be _) G_.nd) (bi (aC (i:=12) (be _) G_.nd) dH rfl) rfl) rfl rfl)
  (aq (bK (bf (aO (gX (aj hr)) bw (ao (bc (fZ (aj hr) hr.gd) j4 B.repr (by decide +kernel) (aG (ao (JL Qy hr.m (aa (av 3) (aa (av 11) (aa (av 9) au))))) aM))) (ao (bc (fZ (aj hr) hr.gd) j4 B.repr (by decide +kernel) (aG (j_ 12) aM)))))
  (aq (aS (ak eI)))
  aU)))
  (af (aI (sh:=[.f,.z,.o,.f,.f,.f,.f,.f,.z,.f,.f,.z,.z,.f,.z]) (aK (i:=13) G_.nd (ak (bc gb j5 B.len lu (aG (ao (bQ Yl hr.m (aa (av 3) (aa (bQ Yk hr.m (aa (av 3) (aa (av 9) au))) au)))) aM)))))
  (af (bK (bf (aO (gX (aj hr)) bw (ao (bc (fZ (aj hr) hr.gd) j4 B.repr (by decide +kernel) (aG (ao (bQ Yj hr.m (aa (av 3) (aa (av 4) (aa (av 9) (aa (av 13) au)))))) aM))) (ao (bc (fZ (aj hr) hr.gd) j4 B.repr (by decide +kernel) (aG (ao (z_ hr (j_ 10) (ao ag))) aM)))))
  (aq (aS (ak eI)))
  aU)
  (af (aI (sh:=[.f,.z,.o,.f,.f,.f,.f,.f,.z,.z,.z,.z,.z,.f,.f]) (aK (i:=14) G_.nd (ak (bp (aa (av 3) (aa (av 4) (aa (av 9) (aa (aP qw qA (j_ 13) (ao ag)) au))))))))
  (aq (bK (bf (oA (lv (aO iu iw (j_ 13) (ao ag)) (ja (JB (zl (ao (bQ gba hr.m (aa (EE Kx.T5 rfl (by decide)) (aa (av 14) au)))) (λ_=>rfl)))))))
  (aq (aS (ak eI)))
  aU)))))))))
  (aq (bK (bf (aO (gX (aj hr)) bw (ao (bc (fZ (aj hr) hr.gd) j4 B.repr (by decide +kernel) (aG (ao (bp (aa (av 3) (aa (av 4) au)))) aM))) (j_ 7)))
  (aq (aS (ak eI)))
  aU))))))))))
  (aq (aS (ak eI)))))
 (λds hl=>(by obtain⟨U4,rfl⟩:=UZ hl;kernel_rfl))
end
end
end WO
namespace L4
open PySem PySem.Spec PyProof.Rows L2 L3
variable {n i a b:Nat}{S T ι:Type}{f:Nat->Nat}
def b_(s:S)(k:S->M T):bd (.ret s) k=k s:=id rfl
def g_(s:S):oM (some s)=.ret s:=id rfl
theorem Ap{S T:Type}{step:T->D->(T->M S)->M S}{R:M S}{P:Nat->T->Prop}:∀(ds:List D) (i:Nat) (s:T) (k:T->M S),
  (∀(j:Nat) (s:T) (d:D),d∈ds->i<=j->j<i+ds.length->P j s->∀kn:T->M S,(∀s',P (j+1) s'->kn s'=R)->step s d kn=R) ->
  P i s->(∀s',P (i+ds.length) s'->k s'=R)->dn step ds s k=R
 | [],i,s,k,_,hp,hk=>hk s hp
 | d::r,i,s,k,h,hp,hk=>by
  show step s d _=R;refine h i s d du (ai _) (by simp) hp _ λs' VI=>?_
  refine Ap r (i+1) s' k (λj s d hd hj hl=>h j s d (QC _ hd) (by lia) (by simp;lia)) VI λs' hs=>hk s' ?_
  have:i+(d::r).length=i+1+r.length:=by simp;lia
  rw[this];exact hs
def uZ{step:T->D->(T->M S)->M S}{R:M S}{P:Nat->T->Prop}(ds:List D)(i:Nat)(s:T)(k:T->M S)
  (h:∀(j:Nat) (s:T) (d:D),d∈ds->i<=j->j<i+ds.length->P j s->∀kn:T->M S,(∀s',P (j+1) s'->kn s'=R)->step s d kn=R)
  (hp:P i s) (hk:∀s',P (i+ds.length) s'->k s'=R):dP step ds s k=R:=by
 rw[cg];exact Ap ds i s k h hp hk
def Ep{step:D->M (Option D)}{g:D->D}:∀(ds:List D),(∀d∈ds,step d=.ret (some (g d)))->aV step ds=.ret (ds.map g)
 | [],_=>rfl
 | d::r,h=>by
  rw[aV,h d du,Ep r λd hd=>h d (QC _ hd)];rfl
def bX{ds:List S}(h:ds.length<=1000):cA ds=.ret ds:=al (kZ h)
theorem pA{α:Type}(xs:List α)(i:Nat)(h:i<xs.length):Sr xs (i:Int)=some (xs[i]'h):=by
 unfold Sr Tq;rw[al (Int.natCast_nonneg _),al (by lia)];simp[h]
theorem JC{α:Type}(xs:List α)(i:Int)(h0:0<=i)(h:i<xs.length):∃x∈xs,Sr xs i=some x:=by
 obtain⟨n,rfl⟩:=Int.eq_ofNat_of_zero_le h0;exact⟨_,oC _,pA xs n (by lia)⟩
def Ou(s:Str):Bool:=PyData.strOk s&&decide ((reprText s).length<=24)&&PyData.strOk (reprText s)
def Ok(k:Nat):Nat->D->Prop
 | 0,_=>False
 | _+1,.none=>True
 | _+1,.bool _=>True
 | _+1,.int i=>i.natAbs<10^(16+k)
 | _+1,.str s=>Ou s=true
 | n+1,.list ds=>ds.length<=6+k/\∀d∈ds,Ok k n d
 | n+1,.tuple ds=>ds.length<=6+k/\∀d∈ds,Ok k n d
 | _+1,.dict _=>False
def lZ:∀{ds:List D},(∀d∈ds,d.canLay0=true)->PyData.canLayAll0 ds=true
 | [],_=>by simp[PyData.canLayAll0]
 | d::r,h=>by
  simp only[PyData.canLayAll0,am];exact⟨h d du,lZ λe he=>h e (QC _ he)⟩
def jN{n:Nat}:∀{ds:List D},(∀d∈ds,d.depth<=n)->PyData.depthAll ds<=n
 | [],_=>by simp[PyData.depthAll]
 | d::r,h=>by
  simp only[PyData.depthAll];exact Nat.max_le.mpr ⟨h d du,jN λe he=>h e (QC _ he)⟩
def IP{m:Nat}(h:m<10^36):m.log2<1920:=by
 by_cases h0:m=0
 ·subst h0;decide
 ·exact(Nat.log2_lt h0).mpr (bo h (by decide +kernel))
def Ph{s:Str}:PyData.strOk s=true↔∀c∈s.cps.toList,c<1114112:=by
 unfold PyData.strOk;rw[<-Array.all_toList,xz];simp
theorem dh(s:String):PyData.strOk (Str.ofString s)=true:=by
 rw[Ph,signs_ofString];intro c hc;obtain⟨ch,_,rfl⟩:=List.mem_map.mp hc;have:=ch.valid;have e:ch.toNat=ch.val.toNat:=rfl;rw[e];rcases this with h|⟨_,h⟩
 ·have h':ch.val.toNat<0xd800:=h;lia
 ·have h':ch.val.toNat<0x110000:=h;lia
def jZ{a b:Str}(ha:PyData.strOk a=true)(hb:PyData.strOk b=true):PyData.strOk (a++b)=true:=by
 rw[Ph]at *;intro c hc;rcases mem_cps_append.mp hc with h|h
 ·exact ha c h
 ·exact hb c h
def pU{sep:Str}{ts:List Str}(hs:PyData.strOk sep=true)(h:∀t∈ts,PyData.strOk t=true):PyData.strOk (Str.join sep ts)=true:=by
 rw[Ph]at *;intro c hc;rcases(mem_join sep c ts).mp hc with ⟨t,ht,hc⟩|⟨_,hc⟩
 ·exact Ph.mp (h t ht) c hc
 ·exact hs c hc
theorem Ag{ts:List Str}:(Str.join ", " ts).length<=piled ts:=by
 by_cases h:ts=[]
 ·subst h;exact be _
 ·have:=join_length_add ts h;lia
def lim:Nat->Nat
 | 0=>24
 | n+1=>4+9*(lim n+2)
def eqI(a b:Int):aZ (.int a) (.int b)=some (a==b):=by
 unfold aZ sg;simp[PyData.canLay0,PyData.depth,PyData.eqv]
def ltI(a b:Int):wj (.int a) (.int b)=some (decide (a<b)):=id rfl
def Wu(a b:Int):dX (.int a) (.int b)=some (decide (b<a)):=id rfl
def geI(a b:Int):uA (.int a) (.int b)=some (decide (b<=a)):=id rfl
def Te(a b:Int):bn (.int a) (.int b)=some (.int (a+b)):=id rfl
def MX(a b:Int):gG (.int a) (.int b)=some (.int (a - b)):=id rfl
def SQ(i j:Int)(h:0<j):cY (.int i) (.int j)=some (.int (i % j)):=al h
def V1(i j:Int)(h:0<j)(h2:j<1073741824):qy (.int i) (.int j)=some (.int (i / j)):=al (by simp[h,h2])
def mulL(i j:Int)(h : -(2^64)<i)(h2:i<2^64):dW (.int i) (.int j)=some (.int (i*j)):=al (by simp only[Ab,ua,am,OB];exact .inl ⟨h,h2⟩)
def mulR(i j:Int)(h : -(2^64)<j)(h2:j<2^64):dW (.int i) (.int j)=some (.int (i*j)):=al (by simp only[Ab,ua,am,OB];exact .inr ⟨h,h2⟩)
def MV(b:Bool):X2 (.bool b)=.ret b:=id rfl
def Hv(i:Int):QG (.int i)=.ret (some i):=id rfl
def J7(b:Bool):ki (.bool b)=some b:=id rfl
def Lh(ds:List D):fm [.tuple ds]=some (.int ds.length):=id rfl
def SU(ds:List D):fm [.list ds]=some (.int ds.length):=id rfl
def yf(ds:List D):dQ (.tuple ds)=some ds:=id rfl
def E6(ds:List D):dQ (.list ds)=some ds:=id rfl
def oD(ds:List D):cj [.list ds]=some (.tuple ds):=id rfl
def MW(ds:List D):cj [.tuple ds]=some (.tuple ds):=id rfl
def Eo(ds:List D)(lo hi:Option Int):fJ (.tuple ds) lo hi=some (.tuple (L4.cutD ds lo hi)):=id rfl
def MT(ds:List D)(lo hi:Option Int):fJ (.list ds) lo hi=some (.list (L4.cutD ds lo hi)):=id rfl
def FW(ds:List D)(n:Nat)(h:n<ds.length):dC (.tuple ds) (.int n)=some ds[n]:=pA ds n h
def dZ(a:D)(r:List D):dC (.tuple (a::r)) (.int 0)=some a:=FW (a::r) 0 (by simp)
def fH(a b:D)(r:List D):dC (.tuple (a::b::r)) (.int 1)=some b:=FW (a::b::r) 1 (by simp)
def lg(a b c:D)(r:List D):dC (.tuple (a::b::c::r)) (.int 2)=some c:=FW (a::b::c::r) 2 (by simp)
def DO(a b c d:D)(r:List D):dC (.tuple (a::b::c::d::r)) (.int 3)=some d:=FW (a::b::c::d::r) 3 (by simp)
def Zg(a b c:D):dC (.list [a,b,c]) (.int 0)=some a:=id rfl
def Zf(a b c:D):dC (.list [a,b,c]) (.int 1)=some b:=id rfl
def Ze(a b c:D):dC (.list [a,b,c]) (.int 2)=some c:=id rfl
def Mn(a b c d:D):putD [a,b,c] (.int 0) d=some [d,b,c]:=id rfl
def W9(a b c d:D):putD [a,b,c] (.int 2) d=some [a,b,d]:=id rfl
def GK(a b:List D)(h:a.length+b.length<=1000):bn (.tuple a) (.tuple b)=some (.tuple (a++b)):=al (kZ h)
theorem Em(ds:List D)(n:Nat):L4.cutD ds (some n) none=ds.drop n:=by
 unfold L4.cutD;rw[HT.Tj,HT.R5];by_cases h:n<=ds.length
 ·rw[N6 h,wT (by rw[ul];lia)]
 ·rw[NT (by lia),List.drop_of_length_le (ai _),List.drop_of_length_le (by lia)];simp
theorem Jt(ds:List D)(n:Nat):L4.cutD ds none (some n)=ds.take n:=by
 unfold L4.cutD;rw[HT.Tj,HT.R5];by_cases h:n<=ds.length
 ·rw[N6 h];simp
 ·rw[NT (by lia)];simp;rw[wT (by lia)]
def MB(a b:Bool):(if a=true then(M.ret b)else .ret false)=.ret (a&&b):=by cases a<;>rfl
theorem Gx(n m:Nat):((n:Int)==(m:Int))=decide (n=m):=by
 by_cases h:n=m
 ·simp[h]
 ·simp only[h,Er];rw[beq_eq_false_iff_ne];lia
def sW(lo hi:Int):D->Bool
 | .int i=>decide (lo<=i)&&decide (i<=hi)
 | _=>false
def sS(w:Str):D->Bool
 | .str s=>s==w
 | _=>false
def Ey(d:D):Prop:=d.canLay0=true/\d.depth<=1000
def w9{S T ι:Type}{step:T->D->(T->M S)->M S}{e:ι->D}{F:List ι->T}{k:T->M S}:∀(is pre:List ι),
  (∀p i q,is=p++i::q->∀kn:T->M S,step (F (pre++p)) (e i) kn=kn (F (pre++p++[i])))->dn step (is.map e) (F pre) k=k (F (pre++is))
 | [],pre,_=>by simp[dn]
 | i::r,pre,h=>by
  show step (F pre) (e i) _=_;have h0:=h [] i r rfl (λs'=>dn step (r.map e) s' k);rw[li]at h0;rw[h0];have:=w9 (step:=step) (e:=e) (F:=F) (k:=k) r (pre++[i]) λp j q hq kn=>by
   have:=h (i::p) j q (by rw[hq];rfl) kn;simpa using this
  rw[this];simp
def gp{step:T->D->(T->M S)->M S}{e:ι->D}{F:List ι->T}{k:T->M S}(is:List ι)
  (h:∀p i q,is=p++i::q->∀kn:T->M S,step (F p) (e i) kn=kn (F (p++[i]))):dP step (is.map e) (F []) k=k (F is):=by
 rw[cg];have:=w9 (step:=step) (e:=e) (F:=F) (k:=k) is [] (by simpa using h);simpa using this
def Aq{S T:Type}{step:T->D->(T->M S)->M S}{R:M S->Prop}{P:Nat->T->Prop}{k:T->M S}:∀(ds:List D) (i:Nat) (s:T),
  (∀(j:Nat) (s:T) (d:D),ds[j]? = some d->P (i+j) s->∀kn:T->M S,(∀s',P (i+j+1) s'->R (kn s'))->R (step s d kn)) ->
  P i s->(∀s',P (i+ds.length) s'->R (k s'))->R (dn step ds s k)
 | [],i,s,_,hp,hk=>hk s hp
 | d::r,i,s,h,hp,hk=>by
  show R (step s d _);refine h 0 s d rfl hp _ λs' VI=>?_
  refine Aq r (i+1) s' (λj s d hd hp kn SA=>h (j+1) s d (by simpa using hd) (by rw[show i+(j+1)=i+1+j by lia];exact hp) kn λs' q=>SA s' (by rw[show i+1+j+1=i+(j+1)+1 by lia];exact q)) VI λs' hs=>hk s' ?_
  rw[show i+(d::r).length=i+1+r.length by simp;lia];exact hs
def pj{step:T->D->(T->M S)->M S}{R:M S->Prop}{P:Nat->T->Prop}{k:T->M S}(ds:List D)(s:T)
  (h:∀(j:Nat) (s:T) (d:D),ds[j]? = some d->P j s->∀kn:T->M S,(∀s',P (j+1) s'->R (kn s'))->R (step s d kn))
  (hp:P 0 s) (hk:∀s',P ds.length s'->R (k s')):R (dP step ds s k):=by
 rw[cg];exact Aq ds 0 s (by simpa using h) hp (by simpa using hk)
def dI{ι:Type}{step:D->M (Option D)}{e g:ι->D}:∀(is:List ι),(∀i∈is,step (e i)=.ret (some (g i)))->aV step (is.map e)=.ret (is.map g)
 | [],_=>rfl
 | i::r,h=>by
  rw[aw,aV,h i du,dI r λd hd=>h d (QC _ hd)];rfl
def fw{ι:Type}{step:D->M (Option D)}{e:ι->D}{g:ι->Option D}:∀(is:List ι),(∀i∈is,step (e i)=.ret (g i))->aV step (is.map e)=.ret (is.filterMap g)
 | [],_=>rfl
 | i::r,h=>by
  rw[aw,aV,h i du,fw r λd hd=>h d (QC _ hd)]
  cases q:g i<;>simp[iU,b_,ny,q]
theorem tT{T ι:Type}{step:T->D->M (Option D×T)}{P:Nat->T->Prop}{e:ι->D}{R:ι->Prop}:∀(ds:List D) (i:Nat) (s:T),
  (∀(j:Nat) (s:T) (d:D),ds[j]? = some d->P (i+j) s->∃x s',step s d=.ret (some (e x),s')/\P (i+j+1) s'/\R x)->P i s ->
  ∃xs s',d0 step ds s=.ret (List.map e xs,s')/\P (i+ds.length) s'/\xs.length=ds.length/\∀x∈xs,R x
 | [],i,s,_,hp=>⟨[],s,rfl,hp,rfl,λ_ h=>by cases h⟩
 | d::r,i,s,h,hp=>by
  obtain⟨x,s1,e1,p1,r1⟩:=h 0 s d rfl hp
  obtain⟨xs,s2,e2,p2,l2,r2⟩:=tT r (i+1) s1 (λj s d hd hp=>by
   have:=h (j+1) s d (by simpa using hd) (by rw[show i+(j+1)=i+1+j by lia];exact hp);rw[show i+(j+1)+1=i+1+j+1 by lia]at this
   exact this) p1
  refine⟨x::xs,s2,?_,?_,by simp[l2],?_⟩
  ·rw[d0,e1];simp only[iU,jY];rw[e2];rfl
  ·rw[show i+(d::r).length=i+1+r.length by simp;lia];exact p2
  ·intro y hy
   cases hy with
   | head=>exact r1
   | tail _ h=>exact r2 y h
def xF{step:T->D->M (Option D×T)}{P:Nat->T->Prop}{e:ι->D}{R:ι->Prop}(ds:List D)(s:T)
  (h:∀(j:Nat) (s:T) (d:D),ds[j]? = some d->P j s->∃x s',step s d=.ret (some (e x),s')/\P (j+1) s'/\R x) (hp:P 0 s) :
  ∃xs s',d0 step ds s=.ret (List.map e xs,s')/\P ds.length s'/\xs.length=ds.length/\∀x∈xs,R x:=by
 have:=tT (step:=step) (P:=P) (e:=e) (R:=R) ds 0 s (by simpa using h) hp;simpa using this
abbrev iN(n:Nat):D:=.int (n:Int)
def UW(lo hi:Nat):List Nat:=(List.range (hi - lo)).map (lo + ·)
def qd(lo hi:Nat):(UW lo hi).length=hi - lo:=by simp[UW]
def qg(lo n:Nat):iP (lo:Int) n=((List.range n).map (lo + ·)).map iN:=by
 unfold iP;rw[ic];apply ng;intro a _;show PyData.int _=PyData.int _;congr 1
theorem mQ(h:n<=100000):iJ (n:Int)=true:=by
 unfold iJ;simp only[am,OB];lia
def cX(n:Nat)(h:n<=100000):bx [.int (n:Int)]=some ((List.range n).map iN):=by
 unfold bx;simp only[mQ h,oP];have:=qg 0 n;simp only[sE];rw[show(0:Int)=((0:Nat):Int)from rfl,this];simp
theorem Fe(lo hi:Nat)(h:lo<=100000)(h2:hi<=100000):gO [.int (lo:Int),.int (hi:Int)]=some ((UW lo hi).map iN):=by
 unfold gO;simp only[mQ h,mQ h2,Bool.and_self,oP];rw[show((hi:Int) - (lo:Int)).toNat=hi - lo by lia,qg];rfl
mutual
def sz:D->Nat
 | .list ds=>1+RN ds
 | .tuple ds=>1+RN ds
 | .none=>1
 | .bool _=>1
 | .int _=>1
 | .str _=>1
 | .dict _=>1
def RN:List D->Nat
 | []=>0
 | d::r=>sz d+RN r
end
mutual
def Sm:D->Prop
 | .list ds=>Pt ds
 | .tuple ds=>Pt ds
 | .none=>True
 | .bool _=>True
 | .int i=>i.natAbs<10^19
 | .str s=>Ou s=true
 | .dict _=>False
def Pt:List D->Prop
 | []=>True
 | d::r=>Sm d/\Pt r
end
def vw:∀{ds:List D},(∀d∈ds,Sm d)->Pt ds
 | [],_=>by simp[Pt]
 | e::r,h=>by
  simp only[Pt];exact⟨h e du,vw λd hd=>h d (QC _ hd)⟩
mutual
def Sm.lay:∀{d:D},Sm d->d.canLay0=true
 | .none,h=>by simp[PyData.canLay0]
 | .bool _,h=>by simp[PyData.canLay0]
 | .int _,h=>by simp[PyData.canLay0]
 | .str s,h=>by
  have h':Ou s=true:=by simpa[Sm]using h
  unfold Ou at h';simp only[am]at h';simp[PyData.canLay0,h'.1.1]
 | .list ds,h=>by simp only[PyData.canLay0];exact Pt.lay (by simpa[Sm]using h)
 | .tuple ds,h=>by simp only[PyData.canLay0];exact Pt.lay (by simpa[Sm]using h)
 | .dict _,h=>by simp[Sm]at h
def Pt.lay:∀{ds:List D},Pt ds->PyData.canLayAll0 ds=true
 | [],_=>by simp[PyData.canLayAll0]
 | d::r,h=>by
  simp only[Pt]at h;simp only[PyData.canLayAll0,am];exact⟨Sm.lay h.1,Pt.lay h.2⟩
end
mutual
def Sm.show:∀{d:D},Sm d->d.showable=true
 | .none,h=>by simp[PyData.showable]
 | .bool _,h=>by simp[PyData.showable]
 | .int i,h=>by
  have h':i.natAbs<10^19:=by simpa[Sm]using h
  simp only[PyData.showable,OB];exact IP (bo h' (Nat.pow_le_pow_right (by decide) (by decide)))
 | .str s,h=>by simp[PyData.showable]
 | .list ds,h=>by simp only[PyData.showable];exact Pt.show (by simpa[Sm]using h)
 | .tuple ds,h=>by simp only[PyData.showable];exact Pt.show (by simpa[Sm]using h)
 | .dict _,h=>by simp[Sm]at h
def Pt.show:∀{ds:List D},Pt ds->PyData.showableAll ds=true
 | [],_=>by simp[PyData.showableAll]
 | d::r,h=>by
  simp only[Pt]at h;simp only[PyData.showableAll,am];exact⟨Sm.show h.1,Pt.show h.2⟩
end
mutual
theorem Sm.text:∀{d:D},Sm d->d.shown.length+2<=30*sz d/\PyData.strOk d.shown=true
 | .none,h=>by refine⟨?_,by simp only[PyData.shown];exact dh _⟩;simp only[PyData.shown,sz];decide
 | .bool b,h=>by
  refine⟨?_,by cases b<;>simp only[PyData.shown]<;>exact dh _⟩
  cases b<;>simp only[PyData.shown,sz]<;>decide
 | .int i,h=>by
  have h':i.natAbs<10^19:=by simpa[Sm]using h
  refine⟨?_,by simp only[PyData.shown];exact dh _⟩;simp only[PyData.shown,sz];have h1:=int_text_length_le10 (a:=i) (k:=19) (by decide) h';have h2:(Str.ofString (toString i)).length=(toString i).length:=by
   show(Str.ofString (toString i)).cps.size=_;rw[<-Cn,signs_ofString,L_,String.length_toList]
  lia
 | .str s,h=>by
  have h':Ou s=true:=by simpa[Sm]using h
  unfold Ou at h';simp only[am,OB]at h';simp only[PyData.shown,sz];exact⟨by lia,h'.2⟩
 | .list ds,h=>by
  obtain⟨h1,h2⟩:=Pt.text (ds:=ds) (by simpa[Sm]using h);have h5:(Str.join ", " (PyData.shownAll ds)).length<=piled (PyData.shownAll ds):=Ag;have h6:PyData.strOk (Str.join ", " (PyData.shownAll ds))=true:=pU (dh _) h2;simp only[PyData.shown,listText_eq_join,sz];refine⟨?_,jZ (jZ (dh _) h6) (dh _)⟩;rw[strLen_append,strLen_append];have e1:((("[" : String):Str)).length=1:=rfl;have e2:((("]" : String):Str)).length=1:=rfl;rw[e1,e2];lia
 | .tuple ds,h=>by
  obtain⟨h1,h2⟩:=Pt.text (ds:=ds) (by simpa[Sm]using h);have h5:(Str.join ", " (PyData.shownAll ds)).length<=piled (PyData.shownAll ds):=Ag;have h6:PyData.strOk (Str.join ", " (PyData.shownAll ds))=true:=pU (dh _) h2;simp only[PyData.shown,tupleText,sz];refine⟨?_,jZ (jZ (dh _) h6) (dh _)⟩;rw[strLen_append,strLen_append];have e1:((("(" : String):Str)).length=1:=rfl;have e3:(((if(PyData.shownAll ds).length==1 then ",)" else ")" : String):Str)).length<=2:=by split<;>decide
  rw[e1];lia
 | .dict _,h=>by simp[Sm]at h
theorem Pt.text:∀{ds:List D},Pt ds->piled (PyData.shownAll ds)<=30*RN ds/\∀t∈PyData.shownAll ds,PyData.strOk t=true
 | [],_=>by simp[PyData.shownAll,piled,RN]
 | d::r,h=>by
  simp only[Pt]at h;obtain⟨h1,h2⟩:=Sm.text h.1;obtain⟨h3,h4⟩:=Pt.text h.2;simp only[PyData.shownAll,RN];refine⟨?_,λt ht=>?_⟩
  ·rw[piled_cons];lia
  ·rcases List.mem_cons.mp ht with rfl|ht
   ·exact h2
   ·exact h4 t ht
end
theorem G4{d:D}(h:Sm d)(hs:sz d<=30000)(hd:d.depth<=60):jM [d]=some (.str d.shown):=by
 obtain⟨t1,t2⟩:=h.text;show(if mU d then some (PyData.str d.shown)else none)=_;unfold mU;rw[al];simp only[am,OB];exact⟨⟨⟨h.show,h.lay⟩,by lia⟩,di (show d.shown.length<=1000000 by lia) (by decide)⟩
def Dy{d:D}(h:Sm d):dO (.str d.shown) (.str d.shown)=some false:=by
 obtain⟨t1,t2⟩:=h.text;unfold dO sg;rw[al]
 ·simp[PyData.eqv]
 ·simp[PyData.canLay0,t2,PyData.depth]
def n4(ds:List D)(k:D):aH (.list ds) k=dC (.list ds) k:=id rfl
def aT(ds:List D)(k:D):aH (.tuple ds) k=dC (.tuple ds) k:=id rfl
def ltA(a b:Int):gI (.int a) (.int b)=some (decide (a<b)):=id rfl
def Ls(d:D)(ds:List D):cf d (.list ds)=wm d (.list ds):=id rfl
def Lr(d:D)(ds:List D):cf d (.tuple ds)=wm d (.tuple ds):=id rfl
def Dx(d:D)(ds:List D):bE d (.list ds)=gH d (.list ds):=id rfl
def Dw(d:D)(ds:List D):bE d (.tuple ds)=gH d (.tuple ds):=id rfl
def wU(e:ι->D)(is:List ι)(n:Nat)(h:n<is.length):dC (.list (is.map e)) (.int (n:Int))=some (e is[n]):=by
 have:=pA (is.map e) n (by simpa using h);rw[M2]at this;exact this
def tL(e:ι->D)(is:List ι)(n:Nat)(h:n<is.length):dC (.tuple (is.map e)) (.int (n:Int))=some (e is[n]):=by
 have:=pA (is.map e) n (by simpa using h);rw[M2]at this;exact this
def rG(ds:List D)(d:D)(h:ds.length<=100000):oI ds [d]=some (ds++[d]):=al (wn h (by decide))
def D6{ds:List S}(h:ds.length<=100000):cA ds=.ret ds:=al (di h (by decide))
abbrev pD(p:Nat×Nat):D:=.tuple [iN p.1,iN p.2]
def Aa(a b:Nat):((a:Int)==(b:Int))=decide (a=b):=Gx a b
def Ed(p q:Nat×Nat):PyData.eqv (pD p) (pD q)=decide (p=q):=by
 simp only[pD,iN,PyData.eqv,PyData.eqvAll,Aa,Bool.and_true];rw[wS];simp[Prod.ext_iff]
def Ta(a b:Nat):aZ (iN a) (iN b)=some (decide (a=b)):=by
 show aZ (.int a) (.int b)=_;rw[eqI,Aa]
def Cb(a b:Nat):bn (iN a) (iN b)=some (iN (a+b)):=by
 show some (PyData.int ((a:Int)+(b:Int)))=_;rw[<-Ny]
theorem DD(a b:Nat)(h:0<b):cY (iN a) (iN b)=some (iN (a % b)):=by
 show cY (.int a) (.int b)=_;rw[SQ _ _ (by lia)];rfl
abbrev Mt:=Nat×Nat×Nat×Nat
abbrev mD(m:Mt):D:=.tuple [iN m.1,iN m.2.1,iN m.2.2.1,iN m.2.2.2]
structure Rl where
 n:Nat
 st:List Nat
 ms:List Mt
 sy:List Bool
abbrev Rl.d(r:Rl):D:=.tuple [iN r.n,.tuple (r.st.map iN),.tuple (r.ms.map mD),.tuple (r.sy.map PyData.bool)]
def W_(p q:Nat×Nat):Prop:=p.1<q.1\/p.1=q.1/\p.2<q.2
structure QO(n:Nat)(m:Mt):Prop where
 ab:m.1<=m.2.1
 b:m.2.1<n
 c:m.2.2.1<n
 d:m.2.2.2<n
 ne:m.2.2≠(m.1,m.2.1)
 ne':m.2.2≠(m.2.1,m.1)
structure Wf(r:Rl):Prop where
 n1:1<=r.n
 st:∀s∈r.st,s<r.n
 sy:r.sy.length=r.n
 ms:∀m∈r.ms,QO r.n m
 so:r.ms.Pairwise λm m'=>W_ (m.1,m.2.1) (m'.1,m'.2.1)
def look(ms:List Mt)(p:Nat×Nat):Option (Nat×Nat):=(ms.find? λm=>decide (m.1=p.1)&&decide (m.2.1=p.2)).map (·.2.2)
def turn(ms:List Mt)(i j:Nat):Nat×Nat:=if i<=j then(look ms (i,j)).getD (i,j)else let t:=(look ms (j,i)).getD (j,i);(t.2,t.1)
def mR(h:n<=1000000000):Sm (iN n):=by
 simp only[iN,Sm,Int.natAbs_natCast];exact wn h (by decide)
def zE{l:List Nat}(h:∀s∈l,s<=1000000000):Sm (.tuple (l.map iN)):=by
 simp only[Sm];refine vw λd hd=>?_
 obtain⟨s,hs,rfl⟩:=List.mem_map.mp hd;exact mR (h s hs)
def CJ(l:List Bool):Sm (.tuple (l.map PyData.bool)):=by
 simp only[Sm];refine vw λd hd=>?_
 obtain⟨s,hs,rfl⟩:=List.mem_map.mp hd;simp[Sm]
def Ki{m:Mt}(h:m.1<=1000000000/\m.2.1<=1000000000/\m.2.2.1<=1000000000/\m.2.2.2<=1000000000):Sm (mD m):=by
 simp only[mD,Sm,Pt];exact⟨by simpa[iN,Sm]using mR h.1,by simpa[iN,Sm]using mR h.2.1,by simpa[iN,Sm]using mR h.2.2.1,by simpa[iN,Sm]using mR h.2.2.2,trivial⟩
theorem lD{ι:Type}{e:ι->D}{B:Nat}(h:∀i,sz (e i)=B):∀l:List ι,RN (l.map e)=l.length*B
 | []=>by simp[RN]
 | i::r=>by rw[aw,RN,lD h r,h i,gs,NB];lia
theorem bR{ds:List D}(h:∀d∈ds,d.depth<=n):(PyData.tuple ds).depth<=n+1:=by
 have:=jN h;simp only[PyData.depth];lia
theorem Kv{r:Rl}(w:Wf r)(hn:r.n<=100000):Sm r.d:=by
 simp only[Rl.d,Sm,Pt];refine⟨by simpa[iN,Sm]using mR (n:=r.n) (by lia),?_,?_,?_,trivial⟩
 ·simpa[Sm]using zE λs hs=>by have:=w.st s hs;lia
 ·refine vw λd hd=>?_
  obtain⟨m,hm,rfl⟩:=List.mem_map.mp hd;have o:=w.ms m hm;have:=o.ab;have:=o.b;have:=o.c;have:=o.d;exact Ki ⟨by lia,by lia,by lia,by lia⟩
 ·simpa[Sm]using CJ r.sy
theorem Ku(r:Rl):sz r.d=5+r.st.length+5*r.ms.length+r.sy.length:=by
 simp only[Rl.d,sz,RN];rw[lD (B:=1) (λi=>by simp[sz]),lD (B:=5) (λi=>by simp[sz,RN]),lD (B:=1) (λi=>by simp[sz])];lia
abbrev kvM(m:Mt):D×D:=(pD (m.1,m.2.1),pD m.2.2)
theorem Af(p q:Nat×Nat):fG (pD p) (pD q)=decide (p=q):=by
 show(decide ((p.1:Int)=q.1)&&(decide ((p.2:Int)=q.2)&&true))=_;rw[wS];simp[Prod.ext_iff];lia
def qK(p:Nat×Nat):cZ (pD p)=true:=id rfl
def JX(p:Nat×Nat):eQ (pD p)=false:=id rfl
def vZ{es:List (D×D)}{k d:D}(h:∀p∈es,fG p.1 k=false):mV es k d=es++[(k,d)]:=by
 unfold mV;rw[ar];rw[Bool.not_eq_true,List.any_eq_false];intro p hp;rw[h p hp];decide
theorem gq{α β:Type}{g:α->List β}{B:Nat}(h:∀a,(g a).length<=B):∀l:List α,(l.flatMap g).length<=l.length*B
 | []=>by simp
 | a::r=>by
  rw[NO,Qh,gs,NB];have:=gq h r;have:=h a;lia
def xL(a:Nat):bn (.int 1) (iN a)=some (iN (a+1)):=by
 show some (PyData.int (1+(a:Int)))=some (PyData.int ((a+1:Nat):Int));rw[Ny,Int.add_comm];rfl
theorem HU{lo hi j:Nat}{d:D}(h:((UW lo hi).map iN)[j]? = some d):d=iN (lo+j)/\lo+j<hi:=by
 rw[fu]at h;obtain⟨x,hx,rfl⟩:=Option.map_eq_some_iff.mp h;have hl:=(List.getElem?_eq_some_iff.mp hx).1;rw[qd]at hl;unfold UW at hx;rw[fu,Nz hl]at hx
 cases hx
 exact⟨rfl,by lia⟩
def jA{j:Nat}{d:D}(h:((List.range n).map iN)[j]? = some d):d=iN j/\j<n:=by
 rw[fu]at h;obtain⟨x,hx,rfl⟩:=Option.map_eq_some_iff.mp h;have hl:=(List.getElem?_eq_some_iff.mp hx).1;rw[ur]at hl;rw[Nz hl]at hx
 cases hx
 exact⟨rfl,hl⟩
def Lm(e:ι->D)(is:List ι)(n:Nat)(z:ι)(h:n<is.length):dC (.tuple (is.map e)) (.int (n:Int))=some (e (is.getD n z)):=by
 rw[tL e is n h,eg,ac h];rfl
def Cj:∀(as bs:List Nat),rN (as.map iN) (bs.map iN)=(as.zip bs).map pD:=by
 intro as
 induction as with
 | nil=>intro bs;rfl
 | cons a as ih =>
  intro bs
  cases bs with
  | nil=>rfl
  | cons b bs =>
   unfold rN at ih ⊢;simp[ih]
structure T_(n a b:Nat)(ms:List Mt):Prop where
 ok:∀m∈ms,QO n m
 so:ms.Pairwise λm m'=>W_ (m.1,m.2.1) (m'.1,m'.2.1)
 ah:∀m∈ms,W_ (m.1,m.2.1) (a,b)
 le:ms.length<=a*n+b
theorem T_.next{ms:List Mt}(h:T_ n a b ms):T_ n a (b+1) ms :=
 ⟨h.ok,h.so,λm hm=>by rcases h.ah m hm with q|⟨q,q2⟩<;>simp only[W_]at * <;> lia,by have:=h.le;lia⟩
theorem T_.add{ms:List Mt}{c d:Nat}(h:T_ n a b ms)(hm:QO n (a,b,c,d)):T_ n a (b+1) (ms++[(a,b,c,d)]):=by
 refine⟨λm U1=>?_,?_,λm U1=>?_,by have:=h.le;simp;lia⟩
 ·rcases List.mem_append.mp U1 with q|q
  ·exact h.ok m q
  ·rw[List.mem_singleton.mp q];exact hm
 ·rw[List.pairwise_append];refine⟨h.so,List.pairwise_singleton _ _,λm hm x hx=>?_⟩;rw[List.mem_singleton.mp hx];exact h.ah m hm
 ·rcases List.mem_append.mp U1 with q|q
  ·rcases h.ah m q with q|⟨q,q2⟩<;>simp only[W_]at * <;> lia
  ·rw[List.mem_singleton.mp q];exact .inr ⟨rfl,No _⟩
theorem T_.row{ms:List Mt}(h:T_ n a b ms)(hb:b<=n):T_ n (a+1) (a+1) ms :=
 ⟨h.ok,h.so,λm hm=>by rcases h.ah m hm with q|⟨q,q2⟩<;>simp only[W_]at * <;> lia,by have:=h.le;rw[NB];lia⟩
def HC(p:Nat×Nat)(k:D->D->M S):QQ (pD p) k=k (iN p.1) (iN p.2):=id rfl
def Au(as bs:List D):BI [.tuple as,.tuple bs]=some (rN as bs):=id rfl
def tab(n:Nat)(f:Nat->Nat):List Nat:=(List.range n).map f
abbrev eG(n:Nat)(f:Nat->Nat):List D:=(tab n f).map iN
def up(f:Nat->Nat)(i v:Nat):Nat->Nat:=λr=>if r=i then v else f r
def cz(n:Nat)(f:Nat->Nat):(tab n f).length=n:=by simp[tab]
def ui(h:i<n):(tab n f)[i]? = some (f i):=by
 unfold tab;rw[fu,Nz h];rfl
theorem EY(n:Nat)(f:Nat->Nat)(i v:Nat):(tab n f).set i v=tab n (up f i v):=by
 apply List.ext_getElem?;intro r;by_cases hr:r<n
 ·rw[ui hr];by_cases h:i=r
  ·subst h;rw[eE (by rw[cz];exact hr)];simp[up]
  ·rw[ba h,ui hr];unfold up;rw[ar (λz=>h z.symm)]
 ·rw[List.getElem?_eq_none_iff.mpr (by rw[N7,cz];lia),List.getElem?_eq_none_iff.mpr (by rw[cz];lia)]
def lC(h:i<n):dC (.list (eG n f)) (.int (i:Int))=some (iN (f i)):=by
 have h':i<(tab n f).length:=by rw[cz];exact h
 have:=wU iN (tab n f) i h';have e:(tab n f)[i]'h' = f i:=by
  have:=ui (f:=f) h;rw[ac h']at this;exact Option.some.inj this
 rw[this,e]
def uh(h:i<n):dC (.tuple (eG n f)) (.int (i:Int))=some (iN (f i)):=lC (f:=f) h
theorem uS(h:i<n):L2.Tq n (i:Int)=some i:=by
 unfold L2.Tq;rw[al (by lia),al (by lia)];rfl
def oX(v:Nat)(h:i<n):putD (eG n f) (.int (i:Int)) (iN v)=some (eG n (up f i v)):=by
 show(L2.Tq _ (i:Int)).map _=_;rw[L_,cz,uS h];show some ((eG n f).set i (iN v))=_;rw[eG,<-List.map_set,EY]
def DA{l:List Nat}(v:Nat)(h:i<l.length):putD (l.map iN) (.int (i:Int)) (iN v)=some ((l.set i v).map iN):=by
 show(L2.Tq _ (i:Int)).map _=_;rw[L_,uS h];show some ((l.map iN).set i (iN v))=_;rw[<-List.map_set]
def Hx(a:Nat):mY (iN a) (.int 1)=some (iN (a+1)):=by
 show some (PyData.int ((a:Int)+1))=some (PyData.int ((a+1:Nat):Int));rw[Ny];rfl
def LO(a b:Nat):mY (iN a) (iN b)=some (iN (a+b)):=by
 show some (PyData.int ((a:Int)+(b:Int)))=_;rw[<-Ny]
theorem CD(a:Nat)(h:1<=a):gG (iN a) (.int 1)=some (iN (a - 1)):=by
 show some (PyData.int ((a:Int) - 1))=some (PyData.int ((a - 1:Nat):Int));congr 2;lia
theorem L9(a b:Nat)(h:b<=a):gG (iN a) (iN b)=some (iN (a - b)):=by
 show some (PyData.int ((a:Int) - b))=some (PyData.int ((a - b:Nat):Int));congr 2;lia
def cnt(hs:List Nat)(r:Nat):Nat:=hs.count r
def AF(hs:List Nat)(h k:Nat):cnt (hs++List.replicate k h)=up (cnt hs) h (cnt hs h+k):=by
 funext r;unfold cnt up;rw[List.count_append,List.count_replicate];by_cases e:r=h
 ·subst e;simp
 ·have:¬ h=r:=λz=>e z.symm
  simp[e,this]
theorem DC(d:D)(k:Nat)(h:k<=100000):qx (.list [d]) (iN k)=some (List.replicate k d):=by
 have e:(List.replicate k [d]).flatten=List.replicate k d:=by
  induction k with
  | zero=>rfl
  | succ k ih=>rw[sw,Ba,ih (by lia),sw];rfl
 have hs:(100000:Nat)<=sizeLine:=by decide
 have hl:[d].length*(k:Int).toNat<=sizeLine:=by
  rw[Ix,Nat.one_mul,sE];exact di h hs
 have h1 : -(2^63)<=(k:Int):=by lia
 have h2:(k:Int)<2^63:=by lia
 have hc:(decide (-(2^63)<=(k:Int))&&decide ((k:Int)<2^63)&&decide ([d].length*(k:Int).toNat<=sizeLine))=true:=by
  rw[cr h1,cr h2,cr hl];rfl
 have e2:qx (.list [d]) (iN k)=if(decide (-(2^63)<=(k:Int))&&decide ((k:Int)<2^63)&&decide ([d].length*(k:Int).toNat<=sizeLine))=true then some (List.replicate (k:Int).toNat [d]).flatten else none:=id rfl;rw[e2,al hc,sE,e]
def A4(n:Nat):List.replicate n (PyData.int 0)=eG n (cnt []):=by
 unfold eG tab;rw[ic];apply Db
 ·simp
 ·intro i h1 h2;simp[cnt]
def gw(f:Nat->Nat)(m:Mt):Bool:=let w:=if m.1=m.2.1 then 2 else 1;decide (w<=f m.1)&&decide (w<=f m.2.1)
def R_(f:Nat->Nat)(m:Mt):Nat->Nat :=
 let f1:=up f m.1 (f m.1 - 1)
 let f2:=up f1 m.2.1 (f1 m.2.1 - 1)
 let f3:=up f2 m.2.2.1 (f2 m.2.2.1+1)
 up f3 m.2.2.2 (f3 m.2.2.2+1)
theorem qX{m:Mt}(h:gw f m=true):1<=f m.1/\1<=up f m.1 (f m.1 - 1) m.2.1:=by
 unfold gw at h;simp only[am,OB]at h;unfold up;by_cases e:m.1=m.2.1
 ·rw[al e]at h;rw[al e.symm];lia
 ·rw[ar e]at h;rw[ar (λz=>e z.symm)];lia
def allB(bs:List Bool):Gm [.list (bs.map PyData.bool)]=some (bs.all id):=by
 show(boolsOf _).map _=_;rw[oj];rfl
def anyB(bs:List Bool):Gk [.list (bs.map PyData.bool)]=some (bs.any id):=by
 show(boolsOf _).map _=_;rw[oj];rfl
def sP(bs:List Bool):D:=if bs.all id then .str "yes" else if bs.any id then .str "both" else .str "no"
def kA{α β:Type}(p:α->Bool)(g:α->β):∀l:List α,(l.filterMap λk=>if p k=true then some (g k)else none)=(l.filter p).map g
 | []=>rfl
 | a::r=>by
  rw[ny,xv,kA p g r]
  cases p a<;>rfl
theorem FU{m:Mt}(h:gw f m=true)(r:Nat):R_ f m r+(if m.1=r then 1 else 0)+(if m.2.1=r then 1 else 0)=f r+(if m.2.2.1=r then 1 else 0)+(if m.2.2.2=r then 1 else 0):=by
 obtain⟨p1,p2⟩:=qX h;have u:∀(g:Nat->Nat) (i v:Nat),up g i v r=if i=r then v else g r:=λg i v=>by
  unfold up;by_cases e:r=i
  ·subst e;simp
  ·rw[ar e,ar (λz=>e z.symm)]
 have s1:∀g:Nat->Nat,∀i,1<=g i->up g i (g i - 1) r+(if i=r then 1 else 0)=g r:=λg i hg=>by
  rw[u];by_cases e:i=r
  ·subst e;rw[al rfl,al rfl];lia
  ·rw[ar e,ar e];rfl
 have s2:∀g:Nat->Nat,∀i,up g i (g i+1) r=g r+(if i=r then 1 else 0):=λg i=>by
  rw[u];by_cases e:i=r
  ·subst e;rw[al rfl,al rfl]
  ·rw[ar e,ar e];rfl
 unfold R_;rw[s2,s2];have h1:=s1 f m.1 p1;have h2:=s1 (up f m.1 (f m.1 - 1)) m.2.1 p2;lia
def gT(l:List (Nat×Nat)):List Nat:=l.flatMap λp=>List.replicate p.2 p.1
def sO(p:List (Nat×Nat))(x:Nat×Nat):gT (p++[x])=gT p++List.replicate x.2 x.1:=by
 unfold gT;rw[NA];simp
def MU(f:Nat->Nat)(ms:List Mt):List Nat:=(ms.zipIdx.filter λp=>gw f p.1).map (·.2)
def Jl(as bs:List D)(h:as.length+bs.length<=100000):FQ as bs=some (as++bs):=al (cr (di h (by decide)))
theorem YO(a b:Nat):qP [.list [iN a,iN b]]=some [iN (min a b),iN (max a b)]:=by
 have e1:intsOf [iN a,iN b]=some [(a:Int),(b:Int)]:=id rfl;unfold qP;dsimp only;rw[e1];dsimp only;rw[al (show[(a:Int),(b:Int)].length<64 from(by decide:(2:Nat)<64))];congr 1;show List.map PyData.int (insI (a:Int) [(b:Int)])=_;unfold insI;by_cases h:(a:Int)<=b
 ·rw[al h,N6 (by lia),Nat.max_eq_right (by lia)];rfl
 ·rw[ar h,NT (by lia),Nat.max_eq_left (by lia)];rfl
def MS(r:Rl)(hs:List Nat)(i j:Nat):List Nat:=(hs.set i (turn r.ms (hs.getD i 0) (hs.getD j 0)).1).set j (turn r.ms (hs.getD i 0) (hs.getD j 0)).2
def Gu(r q:Rl)(i j:Nat):Nat×Nat:=((turn r.ms (i / q.n) (j / q.n)).1*q.n+(turn q.ms (i % q.n) (j % q.n)).1,(turn r.ms (i / q.n) (j / q.n)).2*q.n+(turn q.ms (i % q.n) (j % q.n)).2)
def cell(r q:Rl)(i j:Nat):List Mt:=if Gu r q i j=(i,j)then[]else[(i,j,Gu r q i j)]
def Kt(r q:Rl)(i:Nat):List Mt:=(UW i (r.n*q.n)).flatMap (cell r q i)
def HL(r q:Rl):List Mt:=(List.range (r.n*q.n)).flatMap (Kt r q)
structure Two(r q:Rl):Prop where
 wr:Wf r
 wq:Wf q
 rn:r.n<=40
 qn:q.n<=40
 R:r.n*q.n<=40
 st:r.st.length=q.st.length
 s4:q.st.length<=4
def Kk(both a b:Bool):Bool:=if both then a&&b else a||b
def HN(r q:Rl)(both:Bool)(p:Nat):Bool:=Kk both (r.sy.getD (p / q.n) false) (q.sy.getD (p % q.n) false)
def vP(r q:Rl):List Nat:=(List.range r.st.length).map λk=>r.st.getD k 0*q.n+q.st.getD k 0
def MY(r q:Rl)(both:Bool):Rl:=⟨r.n*q.n,vP r q,HL r q,(List.range (r.n*q.n)).map (HN r q both)⟩
def MQ(both:Bool):D:=if both then .str "both" else .str "either"
abbrev cT(l:List Nat):D:=.tuple (l.map iN)
def qS:∀l l':List Nat,PyData.eqvAll (l.map iN) (l'.map iN)=decide (l=l')
 | [],[]=>rfl
 | [],_::_=>rfl
 | _::_,[]=>rfl
 | a::l,b::l'=>by
  simp only[aw,PyData.eqvAll,PyData.eqv,Aa,qS l l'];rw[wS];simp
def Jm(l l':List Nat):PyData.eqv (cT l) (cT l')=decide (l=l'):=by
 rw[<-qS];rfl
def qG(l:List Nat):PyData.canLayAll0 (l.map iN)=true:=lZ λd hd=>by
 obtain⟨x,_,rfl⟩:=List.mem_map.mp hd;simp[iN,PyData.canLay0]
theorem DJ(l:List Nat):(cT l).canLay0=true/\(cT l).depth<=1000:=by
 refine⟨by simp only[PyData.canLay0];exact qG l,?_⟩;have hd:PyData.depthAll (l.map iN)<=1:=jN λd hd=>by
  obtain⟨x,_,rfl⟩:=List.mem_map.mp hd;simp[iN,PyData.depth]
 simp only[PyData.depth];lia
def neT(l l':List Nat):dO (cT l) (cT l')=some (!decide (l=l')):=by
 unfold dO sg;rw[al (by simp[DJ]),Jm]
def MR(n:Nat)(g f:Nat->Nat):Nat->Nat:=cnt (gT ((List.range n).map λp=>(g p,f p)))
structure Sd(r q:Rl)(g:Nat->Nat)(R:Rl):Prop where
 wf:Wf R
 lt:∀{a},a<r.n*q.n->g a<R.n
 tn:∀{a b},a<r.n*q.n->b<r.n*q.n->(g (Gu r q a b).1,g (Gu r q a b).2)=turn R.ms (g a) (g b)
 st:(vP r q).map g=R.st
end L4
namespace WO
open PySem PySem.Spec PyProof.Rows L2 L3 L4
variable {r:Rl}{F A Gs:List (List Nat)}{c l s cs:List Nat}{n T x i a:Nat}{f:Nat->Nat}{g:Nat->Int}{ι:Type}
def Fd(T:Nat)(f:List D):Prop:=∃a b t:Int,f=[.int a,.int b,.int t]/\0<=t/\t<=T
theorem Fd.le{T':Nat}{f:List D}(h:Fd T f)(hl:T<=T'):Fd T' f:=by
 obtain⟨a,b,t,e,h0,h1⟩:=h;exact⟨a,b,t,e,h0,by lia⟩
theorem Ei{f:List D}{m:Int}(h:Fd T f)(hT:T<=1000000)(hm:0<m)(hm2:m<1073741824) :
  ∃(r:Int) (f':List D),az f (.int m)=.ret (.int r,f')/\0<=r/\r<m/\Fd (T+1) f':=by
 obtain⟨a,b,t,rfl,h0,h1⟩:=h;unfold az;simp only[n4];rw[L4.Ze,g_,b_,L4.Te,g_,b_,L4.W9,g_,b_,L4.Zf,g_,b_,L4.Wu,g_,b_];by_cases ha:0<b
 ·simp only[ha,decide_true,oP];have p1:putD [PyData.int a,.int b,.int (t+1)] (.int 1) (.int (b / m))=some [.int a,.int (b / m),.int (t+1)]:=id rfl;rw[L4.V1 _ _ hm hm2,g_,b_,p1,g_,b_,L4.SQ _ _ hm,g_,b_];exact⟨_,_,rfl,N9 _ (by lia),NG _ hm,_,_,_,rfl,by lia,by lia⟩
 ·simp only[ha,Er];rw[ar (by decide)];have g1:=N9 a (b:=(2147483647:Int)) (by decide);have g2:=NG a (b:=(2147483647:Int)) (by decide);rw[L4.Zg,g_,b_,L4.SQ _ _ (by decide),g_,b_,L4.mulL _ _ (by decide) (by decide),g_,b_,L4.mulR _ t (by lia) (by lia),g_,b_,L4.Te,g_,b_,L4.Te,g_,b_];rw[L4.mulL _ _ (by decide) (by decide),g_,b_,L4.Te,g_,b_,L4.mulR _ (48271+40*t) (by lia) (by lia),g_,b_,L4.SQ _ _ (by decide),g_,b_];rw[L4.V1 _ _ (by decide) (by decide),g_,b_,L4.mulR _ _ (by decide) (by decide),g_,b_,L4.Te,g_,b_,L4.SQ _ _ (by decide),g_,b_,L4.V1 _ _ (by decide) (by decide),g_,b_,L4.SQ _ _ hm,g_,b_];exact⟨_,_,rfl,N9 _ (by lia),NG _ hm,_,_,_,rfl,by lia,by lia⟩
theorem bM{f:List D}{m:Nat}(h:Fd T f)(hT:T<=1000000)(hm:0<m)(hm2:m<=1000000000) :
  ∃(r:Nat) (f':List D),az f (.int (m:Int))=.ret (iN r,f')/\r<m/\Fd (T+1) f':=by
 obtain⟨r,f',e,h1,h2,h3⟩:=Ei h hT (m:=(m:Int)) (by lia) (by lia);obtain⟨n,rfl⟩:=Int.eq_ofNat_of_zero_le h1;exact⟨n,f',e,by lia,h3⟩
theorem As(c:Int):∃f,eu (.int c)=.ret f/\Fd 0 f:=by
 unfold eu;have m1:qQ [.int 0,.int c]=some (.int (if c>0 then c else 0)):=id rfl;have p18:zY (.int 10) (.int 18)=some (.int 1000000000000000000):=id rfl;rw[m1,g_,b_,p18,g_,b_,L4.geI,g_,b_,b_];generalize decide ((1000000000000000000:Int)<=c)=B;have e:mz [.bool B]=some (.int (if B then 1 else 0)):=by cases B<;>rfl
 rw[e,g_,b_,L4.mulR _ _ (by split<;>lia) (by split<;>lia),g_,b_,b_];exact⟨_,rfl,_,_,_,rfl,Int.le_refl _,Int.le_refl _⟩
theorem Gi(ns:List Int)(k:Nat)(hk:k<=1000)(hn:ns.length<=63):∃f,gS (.list (ns.map PyData.int)) (.int (k:Int))=.ret f/\Fd 0 f:=by
 unfold gS;simp only[n4];have e1:fm [.list (ns.map PyData.int)]=some (.int ns.length):=by rw[L4.SU,L_]
 rw[L4.mulL _ _ (by decide) (by decide),g_,b_,e1,g_,b_,L4.Wu,g_,b_];by_cases h:0<(ns.length:Int)
 ·simp only[h,decide_true,oP];rw[b_,L4.SQ _ _ h,g_,b_];have m1:=N9 (k:Int) (b:=(ns.length:Int)) (by lia);have m2:=NG (k:Int) h;obtain⟨x,hx,e⟩:=JC (ns.map PyData.int) (k % ns.length) m1 (by rw[L_];exact m2);obtain⟨i,hi,rfl⟩:=List.mem_map.mp hx;have e2:dC (.list (ns.map PyData.int)) (.int (k % ns.length))=some (.int i):=e;rw[e2,g_,b_,b_,L4.V1 _ _ h (by lia),g_,b_,L4.mulL _ _ (by decide) (by decide),g_,b_,L4.Te,g_,b_];exact As _
 ·simp only[h,Er];rw[ar (by decide)];exact As _
def My(p q:Nat×Nat):dO (.list [iN p.1,iN p.2]) (.list [iN q.1,iN q.2])=some (!decide (p=q)):=by
 have h1:(PyData.list [iN p.1,iN p.2]).canLay0=true:=by simp[PyData.canLay0,PyData.canLayAll0]
 have h2:(PyData.list [iN q.1,iN q.2]).canLay0=true:=by simp[PyData.canLay0,PyData.canLayAll0]
 have h3:(PyData.list [iN p.1,iN p.2]).depth<=1000:=by simp[PyData.depth,PyData.depthAll]
 unfold dO sg;rw[al (by simp[h1,h2,h3])];congr 2;have e:PyData.eqv (.list [iN p.1,iN p.2]) (.list [iN q.1,iN q.2])=PyData.eqv (pD p) (pD q):=by simp[PyData.eqv]
 rw[e,Ed]
def GM(T most:Nat)(m:M (D×List D)):Prop:=∃(r:Rl) (f':List D),m=.ret (r.d,f')/\Wf r/\r.n<=most/\(1<=r.st.length/\r.st.length<=4)/\r.ms.length<=r.n*r.n+r.n/\Fd (T+7000) f'
theorem Fb{R:M (D×List D)->Prop}{QE:Nat}{f:List D}{ms:List Mt}{st sy:D}{kn:List D×D×D×D×D×List D×Unit->M (D×List D)}(hf:Fd T f)(hT:T<=990000)(hn:n<=40)(ha:a<n)(ho:1<=QE)(RS:QE<=3)(hA:T_ n a a ms)
  (k:∀f' Uq,Fd (T+4*n) f'->T_ n (a+1) (a+1) Uq->R (kn (f',iN n,st,sy,iN QE,Uq.map mD,()))):R (gy f (iN n) st sy (iN QE) (ms.map mD) (iN a) kn):=by
 unfold gy;rw[Fe a n (by lia) (by lia),g_,b_];refine pj (P:=λi s=>∃f ms,s=(f,iN n,st,sy,iN QE,List.map mD ms,iN a,())/\Fd (T+4*i) f/\T_ n a (a+i) ms) _ _ ?_ ⟨f,ms,rfl,hf,hA⟩ ?_
 ·rintro i s d hd ⟨f,ms,rfl,hf,hA⟩ kn SA;obtain⟨rfl,hi⟩:=HU hd;unfold jV;dsimp only;obtain⟨c,f1,e1,hc,P7⟩:=bM (m:=n) hf (by lia) (by lia) (by lia);obtain⟨e,f2,e2,he,Qj⟩:=bM (m:=n) P7 (by lia) (by lia) (by lia);obtain⟨x',f4,e4,_,Zr⟩:=bM (m:=QE) Qj (by lia) (by lia) (by lia);rw[e1,b_];dsimp only;rw[e2,b_];dsimp only;rw[e4,b_];dsimp only;rw[eqI,g_,b_];have skip:R (kn (f4,iN n,st,sy,iN QE,List.map mD ms,iN a,())):=SA _ ⟨f4,ms,rfl,Zr.le (by lia),hA.next⟩;split
  ·rw[L4.YO,g_,b_,b_,My (min c e,max c e) (a,a+i),g_,b_];split
   ·rename_i Ts;have hle:=hA.le;have hlen:(ms.map mD).length<=100000:=by
     rw[L_];have:a*n<=40*40:=NE (by lia) hn;lia
    rw[rG _ _ hlen,g_,b_];have Se:¬ ((min c e,max c e)=(a,a+i)):=by
     rw[Ni,wP]at Ts;exact Ts
    have:=SA (f4,iN n,st,sy,iN QE,List.map mD (ms++[(a,a+i,c,e)]),iN a,()) ⟨f4,_,rfl,Zr.le (by lia),hA.add ⟨by simp,hi,hc,he,λz=>Se (by
     have z1:c=a:=congrArg Prod.fst z;have z2:e=a+i:=congrArg Prod.snd z
     rw[z1,z2,N6 (by lia),Nat.max_eq_right (by lia)]),λz=>Se (by
     have z1:c=a+i:=congrArg Prod.fst z;have z2:e=a:=congrArg Prod.snd z
     rw[z1,z2,NT (by lia),Nat.max_eq_left (by lia)])⟩⟩
    rw[ib]at this;exact this
   ·exact skip
  ·exact skip
 ·rintro s ⟨f,ms,rfl,hf,hA⟩;rw[L_,qd]at hf hA;unfold jW;exact k f ms (hf.le (by lia)) (hA.row (by lia))
theorem zG{f:List D}{most:Nat}(h:Fd T f)(hT:T<=900000)(hm:1<=most)(hm2:most<=40):GM T most (dc f (iN most)):=by
 unfold dc;obtain⟨n0,f1,e1,h1,P7⟩:=bM (m:=most) h (by lia) (by lia) (by lia);obtain⟨s0,f2,e2,h2,Qj⟩:=bM (m:=5) P7 (by lia) (by lia) (by lia);have e2':az f1 (.int 5)=.ret (iN s0,f2):=e2;have es:∃sorts,(1<=sorts/\sorts<=4)/\aH (.list [.int 1,.int 2,.int 2,.int 3,.int 4]) (iN s0)=some (iN sorts):=by
  rcases(by lia:s0=0\/s0=1\/s0=2\/s0=3\/s0=4)with rfl|rfl|rfl|rfl|rfl
  ·exact⟨1,by lia,rfl⟩
  ·exact⟨2,by lia,rfl⟩
  ·exact⟨2,by lia,rfl⟩
  ·exact⟨3,by lia,rfl⟩
  ·exact⟨4,by lia,rfl⟩
 obtain⟨sorts,hs4,es⟩:=es;rw[e1,b_];dsimp only;rw[xL,g_,b_,e2',b_];dsimp only;rw[es,g_,b_,cX _ (by lia),g_,b_];generalize hn:n0+1=n;have Zm:n<=40:=by lia
 obtain⟨st,s1,c1,⟨f3,hs1,SD⟩,l1,r1⟩:=xF (P:=λj (s:List D×D×D×Unit)=>∃f,s=(f,iN n,iN sorts,())/\Fd (T+2+j) f) (e:=iN) (R:=λx=>x<n)
   (step:=λs6 d7=>bd (az s6.1 s6.2.1) λr8=>.ret (some r8.1,(r8.2,s6.2.1,s6.2.2.1,()))) ((List.range sorts).map iN) (f2,iN n,iN sorts,())
   (by
    rintro j s d hd ⟨f,rfl,hf⟩;obtain⟨rfl,hj⟩:=jA hd;obtain⟨x,f',e,hx,Ws⟩:=bM (m:=n) hf (by lia) (by lia) (by lia);dsimp only;rw[e,b_]
    exact⟨x,_,rfl,⟨f',rfl,Ws⟩,hx⟩) ⟨f2,rfl,Qj.le (by lia)⟩
 subst hs1;rw[L_,ur]at SD l1;rw[c1,b_];dsimp only;rw[bX (by rw[L_];lia),b_,oD,g_,b_,cX n (by lia),g_,b_];obtain⟨sy,s2,c2,⟨f4,Rn,Zr⟩,l2,_⟩:=xF (P:=λj (s:List D×D×D×Unit)=>∃f,s=(f,iN n,.tuple (st.map iN),())/\Fd (T+2+sorts+j) f) (e:=PyData.bool) (R:=λ_=>True)
   (step:=λRA UP=>bd (az RA.1 (.int 2)) λYW=>bd (oM (aZ YW.1 (.int 1))) λT7=>.ret (some (.bool T7),(YW.2,RA.2.1,RA.2.2.1,()))) ((List.range n).map iN) (f3,iN n,.tuple (st.map iN),())
   (by
    rintro j s d hd ⟨f,rfl,hf⟩;obtain⟨rfl,hj⟩:=jA hd;obtain⟨x,f',e,hx,Ws⟩:=bM (m:=2) hf (by lia) (by lia) (by lia);have e':az f (.int 2)=.ret (iN x,f'):=e;dsimp only;rw[e',b_];dsimp only;rw[eqI,g_,b_]
    exact⟨_,_,rfl,⟨f',rfl,Ws⟩,trivial⟩) ⟨f3,rfl,SD⟩
 subst Rn;rw[L_,ur]at Zr l2;rw[c2,b_];dsimp only;rw[bX (by rw[L_];lia),b_,oD,g_,b_];obtain⟨o0,f5,e5,h5,hf5⟩:=bM (m:=3) Zr (by lia) (by lia) (by lia);have e5':az f4 (.int 3)=.ret (iN o0,f5):=e5;rw[e5',b_];dsimp only;rw[xL,g_,b_,cX n (by lia),g_,b_];have hb:∀j,j<=n->4*n*j<=6400:=λj hj=>by
  have:n*j<=40*40:=NE Zm (by lia);have e:4*n*j=4*(n*j):=Nat.mul_assoc _ _ _;lia
 refine pj (P:=λj s=>∃f ms,s=(f,iN n,.tuple (st.map iN),.tuple (sy.map PyData.bool),iN (o0+1),List.map mD ms,())/\Fd (T+100+4*n*j) f/\T_ n j j ms) _ _ ?_ ⟨f5,[],rfl,hf5.le (by lia),⟨λ_ h=>(nomatch h),.nil,λ_ h=>(nomatch h),be _⟩⟩ ?_
 ·rintro j s d hd ⟨f,ms,rfl,hf,hA⟩ kn SA;obtain⟨rfl,hj⟩:=jA hd;dsimp only;refine Fb hf (by have:=hb j (by lia);lia) Zm hj (by lia) (by lia) hA λf' Uq Ws hA'=>SA _ ⟨f',Uq,rfl,Ws.le ?_,hA'⟩
  rw[Nat.mul_succ];lia
 ·rintro s ⟨f,ms,rfl,hf,hA⟩;rw[L_,ur]at hf hA;dsimp only;unfold jX;have hfb:=hb n (ai _);rw[oD,g_,b_,b_];exact⟨⟨n,st,ms,sy⟩,f,rfl,⟨(show 1<=n by lia),r1,l2,hA.ok,hA.so⟩,(show n<=most by lia),(show 1<=st.length/\st.length<=4 by lia),hA.le,hf.le (by lia)⟩
def Es{m:Mt}(h:QO n m):jU (.tuple (eG n f)) (mD m)=.ret (.bool (gw f m)):=by
 have hb:=h.b;have ZC:=h.ab;unfold jU;have e1:(if decide (m.1=m.2.1)=true then(M.ret (PyData.int 2):M D)else .ret (.int 1))=.ret (iN (if m.1=m.2.1 then 2 else 1)):=by
  by_cases e:m.1=m.2.1
  ·rw[al (cr e),al e];rfl
  ·rw[ar (by simpa using e),ar e];rfl
 rw[aT,dZ,g_,b_,aT,fH,g_,b_,Ta,g_,b_,e1,b_,b_,aT,uh (show m.1<n by omega),g_,b_,geI,g_,b_,b_,aT,uh hb];simp only[g_,b_,geI,MB,gw];congr 3<;>(rw[wS,OB,OB];omega)
def DH(d:D)(hx:x<n)(h:1<=f x)(kn:D×List D×Unit->M D):jQ d (eG n f) (iN x) kn=kn (d,eG n (up f x (f x - 1)),()):=by
 unfold jQ;rw[lC hx,g_,b_,CD _ h,g_,b_,oX _ hx,g_,b_]
def DG(hx:x<n)(kn:List D×Unit->M D):jP (eG n f) (iN x) kn=kn (eG n (up f x (f x+1)),()):=by
 unfold jP;rw[lC hx,g_,b_,Hx,g_,b_,oX _ hx,g_,b_]
def DI{m:Mt}(h:QO n m)(hc:gw f m=true):jT (.tuple (eG n f)) (mD m)=.ret (.tuple (eG n (R_ f m))):=by
 have hb:=h.b;have ZC:=h.ab;have RU:=h.c;have hd:=h.d;obtain⟨p1,p2⟩:=qX hc;have e1:fJ (mD m) (some 2) none=some (.tuple [iN m.2.2.1,iN m.2.2.2]):=rfl;have e2:fJ (mD m) none (some 2)=some (.tuple [iN m.1,iN m.2.1]):=rfl;have a2:QG (.int 2)=.ret (some 2):=id rfl;have l1:n8 [.tuple (eG n f)]=some (eG n f):=id rfl;unfold jT;rw[l1,g_,b_,a2,b_,e2,g_,b_,yf,g_,b_,cg,dn];refine(DH (mD m) (show m.1<n by omega) p1 _).trans ?_;rw[dn];refine(DH (mD m) hb p2 _).trans ?_;rw[dn];show jS _ _=_;unfold jS;rw[a2,b_,e1,g_,b_,yf,g_,b_,cg,dn];refine(DG RU _).trans ?_;rw[dn];refine(DG hd _).trans ?_;rw[dn];show jR _=_;unfold jR;rw[oD,g_,b_];rfl
def fl(l:List Nat):Nat->Nat:=λi=>l.getD i 0
def Cu(h:l.length=n):tab n (fl l)=l:=by
 subst h;unfold tab fl;apply Db
 ·simp
 ·intro i h1 h2;simp[eg,ac h2]
def u9(h:l.length=n):cT l=.tuple (eG n (fl l)):=by
 show cT l=cT (tab n (fl l));rw[Cu h]
def led(n:Nat)(l:List Nat)(m:Mt):List Nat:=tab n (R_ (fl l) m)
def yD(n:Nat)(l:List Nat)(m:Mt):(led n l m).length=n:=cz n _
def Goes(r:Rl)(l:List Nat)(k:Nat)(l':List Nat):Prop:=∃m,r.ms[k]? = some m/\gw (fl l) m=true/\l'=led r.n l m
def Jx{m:Mt}(hl:l.length=r.n)(h:QO r.n m):jU (cT l) (mD m)=.ret (.bool (gw (fl l) m)):=by
 rw[u9 hl];exact Es h
def IR{m:Mt}(hl:l.length=r.n)(h:QO r.n m)(hc:gw (fl l) m=true):jT (cT l) (mD m)=.ret (cT (led r.n l m)):=by
 rw[u9 hl];exact DI h hc
def RP(p:Mt×Nat):D×D:=(pD (p.1.1,p.1.2.1),iN p.2)
def idx(ms:List Mt)(p:Nat×Nat):Option Nat:=(ms.zipIdx.find? λq=>decide ((q.1.1,q.1.2.1)=p)).map (·.2)
def wX(p:Nat×Nat):∀l:List (Mt×Nat),g6 (l.map RP) (pD p)=((l.find? λq=>decide ((q.1.1,q.1.2.1)=p)).map (·.2)).map iN
 | []=>rfl
 | q::r=>by
  unfold g6;rw[aw,ni,ni];rw[show fG (RP q).1 (pD p)=decide ((q.1.1,q.1.2.1)=p)from Af _ _]
  cases h:decide ((q.1.1,q.1.2.1)=p)with
  | true=>rfl
  | false=>exact wX p r
def By(l:List (Mt×Nat))(p:Nat×Nat):keyOk (l.map RP) (pD p)=true:=by
 unfold keyOk;rw[ua];left;rw[am,xz];refine⟨qK p,λx hx=>?_⟩;obtain⟨q,_,rfl⟩:=List.mem_map.mp hx;exact qK _
def El(ms:List Mt)(a b:Nat):xC (.dict (ms.zipIdx.map RP)) (.tuple [iN a,iN b])=some (((idx ms (a,b)).map iN).getD .none):=by
 show(if keyOk (ms.zipIdx.map RP) (pD (a,b))then some ((g6 (ms.zipIdx.map RP) (pD (a,b))).getD .none)else none)=_;rw[al (By _ _),wX];rfl
def DY{ms:List Mt}{p:Nat×Nat}{k:Nat}(h:idx ms p=some k):∃m,ms[k]? = some m/\(m.1,m.2.1)=p:=by
 unfold idx at h;obtain⟨q,hq,rfl⟩:=Option.map_eq_some_iff.mp h;have h1:=zi hq;have h2:=N8 hq;exact⟨q.1,List.mem_zipIdx_iff_getElem?.mp h1,by simpa using h2⟩
def yP(w:Wf r){k:Nat}{m:Mt}(h:r.ms[k]? = some m):idx r.ms (m.1,m.2.1)=some k:=by
 have hm:(m,k)∈r.ms.zipIdx:=List.mem_zipIdx_iff_getElem?.mpr h;unfold idx
 cases e:r.ms.zipIdx.find? λq=>decide ((q.1.1,q.1.2.1)=(m.1,m.2.1))with
 | none =>
  have:=List.find?_eq_none.mp e (m,k) hm;simp at this
 | some q =>
  have h1:=List.mem_zipIdx_iff_getElem?.mp (zi e);have h2:(q.1.1,q.1.2.1)=(m.1,m.2.1):=by simpa using N8 e
  show some q.2=some k;congr 1;rcases Nat.lt_trichotomy q.2 k with lt|eq|gt
  ·exfalso;obtain⟨g1,e1⟩:=List.getElem?_eq_some_iff.mp h1;obtain⟨g2,e2⟩:=List.getElem?_eq_some_iff.mp h;have:=List.pairwise_iff_getElem.mp w.so q.2 k g1 g2 lt;rw[e1,e2,h2]at this;rcases this with z|⟨_,z⟩<;>exact absurd z (nu _)
  ·exact eq
  ·exfalso;obtain⟨g1,e1⟩:=List.getElem?_eq_some_iff.mp h1;obtain⟨g2,e2⟩:=List.getElem?_eq_some_iff.mp h;have:=List.pairwise_iff_getElem.mp w.so k q.2 g2 g1 gt;rw[e1,e2,h2]at this;rcases this with z|⟨_,z⟩<;>exact absurd z (nu _)
def j9(e:ι->D)(is:List ι):gv (is.map e)=is.zipIdx.map λp=>.tuple [iN p.2,e p.1]:=by
 apply Db
 ·simp[gv]
 ·intro i h1 h2;simp[gv]
theorem Dn(w:Wf r)(hl:r.ms.length<=90000):i7 r.d=.ret (.dict (r.ms.zipIdx.map RP)):=by
 unfold i7;have e1:kC [.tuple (r.ms.map mD)]=some (r.ms.zipIdx.map λp=>.tuple [iN p.2,mD p.1]):=by
  show some (gv _)=_;rw[j9]
 rw[aT,lg,g_,b_,e1,g_,b_];refine(gp (e:=λp:Mt×Nat=>.tuple [iN p.2,mD p.1]) (F:=λl=>(l.map RP,())) r.ms.zipIdx ?_).trans rfl;intro p x t RH kn;dsimp only;unfold kD;have c1:(bd (QG (.int 2)) λhi6=>oM (fJ (mD x.1) none hi6))=.ret (pD (x.1.1,x.1.2.1)):=by kernel_rfl
 have np:∀q∈p.map RP,fG q.1 (pD (x.1.1,x.1.2.1))=false:=λq hq=>by
  obtain⟨y,hy,rfl⟩:=List.mem_map.mp hq;rw[show fG (RP y).1 _=_ from Af _ _,wP];intro z;have Rr:=List.mem_zipIdx_iff_getElem?.mp (show x∈r.ms.zipIdx by rw[RH];simp);have VG:=List.mem_zipIdx_iff_getElem?.mp (show y∈r.ms.zipIdx by rw[RH];simp[hy]);have i1:=yP w Rr;have i2:=yP w VG;rw[z,i1]at i2;have hk:x.2=y.2:=by injection i2
  have nd:(r.ms.zipIdx.map (·.2)).Nodup:=by
   rw[List.zipIdx_map_snd];exact List.nodup_range'
  rw[RH,ib,aw]at nd;rw[List.nodup_append]at nd;exact nd.2.2 y.2 (List.mem_map.mpr ⟨y,hy,rfl⟩) x.2 (by simp) hk.symm
 show QQ (.tuple [iN x.2,mD x.1]) _=_;unfold QQ;dsimp only;have hlen:p.length<r.ms.zipIdx.length:=by rw[RH];simp
 rw[yp]at hlen;have dp:iE true (p.map RP) (pD (x.1.1,x.1.2.1)) (iN x.2)=some ((p++[x]).map RP):=by
  unfold iE;rw[al,vZ np,ib]
  ·rfl
  ·rw[am,OB,L_];exact⟨qK (x.1.1,x.1.2.1),bo hlen (di hl (by decide))⟩
 rw[c1,b_,dp,g_,b_]
abbrev ld(p:Nat×List Nat):D:=.tuple [iN p.1,cT p.2]
def rooms(l:List Nat):List Nat:=(List.range l.length).filter λi=>decide (0<fl l i)
def cell(r:Rl)(l:List Nat)(a b:Nat):List (Nat×List Nat):=match idx r.ms (a,b)with
 | some k=>match r.ms[k]? with
  | some m=>if gw (fl l) m then[(k,led r.n l m)]else[]
  | none=>[]
 | none=>[]
def bU(r:Rl)(l:List Nat):List (Nat×List Nat):=(rooms l).zipIdx.flatMap λp=>((rooms l).drop p.2).flatMap (cell r l p.1)
def mH(r:Rl)(l:List Nat)(a b:Nat):(cell r l a b).length<=1:=by
 unfold cell;split
 ·split
  ·split<;>simp
  ·simp
 ·simp
def DF{b:Nat}{p:Nat×List Nat}(h:p∈cell r l a b):Goes r l p.1 p.2:=by
 unfold cell at h
 cases e:idx r.ms (a,b)with
 | none=>rw[e]at h;cases h
 | some k =>
  rw[e]at h;dsimp only at h
  cases e2:r.ms[k]? with
  | none=>rw[e2]at h;cases h
  | some m =>
   rw[e2]at h;dsimp only at h;split at h
   ·rename_i hc;have:p=(k,led r.n l m):=by simpa using h
    subst this;exact⟨m,e2,hc,rfl⟩
   ·cases h
theorem iB(w:Wf r)(hl:l.length=r.n){k:Nat}:(k,c)∈bU r l↔Goes r l k c:=by
 constructor
 ·intro h;obtain⟨p,_,h⟩:=List.mem_flatMap.mp h;obtain⟨b,_,h⟩:=List.mem_flatMap.mp h;exact DF h
 ·rintro⟨m,hm,hc,rfl⟩;have ok:=w.ms m (wE hm);have ZC:=ok.ab;have hb:=ok.b;have pos:1<=fl l m.1/\1<=fl l m.2.1:=by
   unfold gw at hc;simp only[am,OB]at hc;split at hc<;>lia
  have ra:m.1∈rooms l:=List.mem_filter.mpr ⟨List.mem_range.mpr (by lia),by simpa using(show 0<fl l m.1 by lia)⟩;have rb:m.2.1∈rooms l:=List.mem_filter.mpr ⟨List.mem_range.mpr (by lia),by simpa using(show 0<fl l m.2.1 by lia)⟩;obtain⟨i,hi,ei⟩:=ut ra;obtain⟨j,hj,ej⟩:=ut rb;have so:(rooms l).Pairwise (· < ·):=List.pairwise_lt_range.filter _;have hij:i<=j:=by
   rcases Nat.lt_or_ge j i with lt|ge
   ·have:=List.pairwise_iff_getElem.mp so j i hj hi lt;rw[ei,ej]at this;lia
   ·exact ge
  refine List.mem_flatMap.mpr ⟨(m.1,i),List.mem_zipIdx_iff_getElem?.mpr (by rw[ac hi,ei]),List.mem_flatMap.mpr ⟨m.2.1,?_,?_⟩⟩
  ·refine List.mem_iff_getElem?.mpr ⟨j - i,?_⟩;rw[List.getElem?_drop,show i+(j - i)=j by lia,ac hj,ej]
  ·unfold cell;rw[yP w hm];dsimp only;rw[hm];dsimp only;rw[al hc];exact List.mem_singleton.mpr rfl
def yV(l:List Nat):kC [cT l]=some ((List.range l.length).map λi=>.tuple [iN i,iN (fl l i)]):=by
 show some (gv (l.map iN))=_;congr 1;rw[j9];apply Db
 ·simp
 ·intro i h1 h2;simp[fl,eg,ac (show i<l.length by simpa using h1)]
theorem CW(l:List Nat)(hl:l.length<=1000):(bd (bd (oM (kC [cT l])) λl6=>bd (aV (λd2=>QQ d2 λy3 y4=>bd (oM (dX y4 (.int 0))) λb5=>if b5 then .ret (some y3)else .ret none) l6) cA) λl7=>M.ret (PyData.list l7))=.ret (.list ((rooms l).map iN)):=by
 rw[yV,g_,b_,fw (e:=λi=>.tuple [iN i,iN (fl l i)]) (g:=λi=>if decide (0<fl l i)=true then some (iN i)else none) (List.range l.length) (λi _=>by
  show(bd (oM (dX (iN (fl l i)) (.int 0))) λb5=>if b5=true then M.ret (some (iN i))else .ret none)=_;rw[L4.Wu,g_,b_];have e:decide ((0:Int)<(fl l i:Int))=decide (0<fl l i):=decide_eq_decide.mpr (by lia);rw[e]
  split<;>rfl),b_,kA,bX,b_]
 ·rfl
 ·rw[L_];exact di (tu _ _) (by simpa using hl)
def mT(l:List Nat):(rooms l).length<=l.length:=by
 have:=tu (λi=>decide (0<fl l i)) (List.range l.length);rw[ur]at this;exact this
section
variable (w:Wf r) (hl:l.length=r.n) (hn:r.n<=40)
include w hl hn
theorem Ks{b:Nat}{acc:List (Nat×List Nat)}(ha:acc.length<=90000)(R:D)(Rm:D×D×D×D×List D×Unit->M D)(Uz:D×D×D×D×List D×D×Unit->M D) :
  g9 Rm (.dict (r.ms.zipIdx.map RP)) (cT l) (.tuple (r.ms.map mD)) R (acc.map ld) (iN a) (iN b) Uz=Uz (.dict (r.ms.zipIdx.map RP),cT l,.tuple (r.ms.map mD),R,(acc++cell r l a b).map ld,iN a,()):=by
 unfold g9;rw[El,g_,b_];unfold cell
 cases e:idx r.ms (a,b)with
 | none =>
  show bd (bd (oM (kW .none .none)) _) _=_;rw[show kW .none .none=some false from rfl,g_,b_,ar (by decide),b_,ar (by decide),li]
 | some k =>
  obtain⟨m,hm,_⟩:=DY e;have hk:k<r.ms.length:=(List.getElem?_eq_some_iff.mp hm).1;have em:r.ms[k]=m:=(List.getElem?_eq_some_iff.mp hm).2;have ok:=w.ms m (wE hm);have e2:aH (.tuple (r.ms.map mD)) (iN k)=some (mD m):=by
   rw[aT,show dC (.tuple (r.ms.map mD)) (iN k)=_ from tL mD r.ms k hk,em]
  show bd (bd (oM (kW (iN k) .none)) _) _=_;dsimp only;rw[hm];dsimp only;rw[show kW (iN k) .none=some true from rfl,g_,b_,al rfl,show(((some k).map iN).getD PyData.none)=iN k from rfl,e2,g_,b_,Jx hl ok,b_,show ki (.bool (gw (fl l) m))=some (gw (fl l) m)from rfl,g_,b_];by_cases hc:gw (fl l) m=true
  ·rw[al hc,b_,IR hl ok hc,b_,b_,rG _ _ (by rw[L_];lia),g_,b_,al hc,ib];rfl
  ·rw[ar hc,ar hc,li]
theorem yG(hm:r.ms.length<=90000):i8 r.d (.dict (r.ms.zipIdx.map RP)) (cT l)=.ret (.list ((bU r l).map ld)):=by
 unfold i8;have rl:=mT l;have e1:qR [.list ((rooms l).map iN)]=some ((rooms l).zipIdx.map λp=>.tuple [iN p.2,iN p.1]):=by
  show some (gv _)=_;rw[j9]
 rw[aT,lg,g_,b_,CW l (by lia),b_,e1,g_,b_];refine(gp (e:=λp:Nat×Nat=>.tuple [iN p.2,iN p.1]) (F:=λps=>(PyData.dict (r.ms.zipIdx.map RP),cT l,PyData.tuple (r.ms.map mD),PyData.list ((rooms l).map iN),(ps.flatMap λp=>((rooms l).drop p.2).flatMap (cell r l p.1)).map ld,())) (rooms l).zipIdx ?_).trans rfl;intro p x t RH kn;dsimp only;unfold kF;show QQ (.tuple [iN x.2,iN x.1]) _=_;unfold QQ;dsimp only;have cut:(bd (bd (QG (iN x.2)) λXi=>oM (fJ (.list ((rooms l).map iN)) Xi none)) λR1=>oM (dQ R1))=.ret (((rooms l).drop x.2).map iN):=by
  have hx:x.2<(rooms l).length:=by
   have:=List.mem_zipIdx_iff_getElem?.mp (show x∈(rooms l).zipIdx by rw[RH];simp);exact(List.getElem?_eq_some_iff.mp this).1
  rw[show QG (iN x.2)=.ret (some (x.2:Int))from rfl,b_];have:fJ (.list ((rooms l).map iN)) (some (x.2:Int)) none=some (.list (((rooms l).drop x.2).map iN)):=by
   show some (PyData.list (L4.cutD _ _ _))=_;unfold L4.cutD;have s1:HT.J_ ((rooms l).map iN).length 0 (some (x.2:Int))=x.2:=by
    unfold HT.J_;simp only[L_];have h0:¬ ((x.2:Int)<0):=by lia
    simp[h0];lia
   have s2:HT.J_ ((rooms l).map iN).length ((rooms l).map iN).length none=((rooms l).map iN).length:=rfl;rw[s1,s2,<-List.map_drop,wT (by simp)]
  rw[this,g_,b_];rfl
 rw[cut,b_];have pl:p.length<=40:=by
  have:p.length<(rooms l).zipIdx.length:=by rw[RH];simp
  rw[yp]at this;lia
 have zbk:(p.flatMap λq=>((rooms l).drop q.2).flatMap (cell r l q.1)).length<=40*40:=by
  have h1:=gq (g:=λq:Nat×Nat=>((rooms l).drop q.2).flatMap (cell r l q.1)) (B:=40) (λq=>by
   have h2:=gq (g:=cell r l q.1) (B:=1) (mH r l q.1) ((rooms l).drop q.2);rw[ul]at h2
   lia) p
  exact di h1 (Me _ pl)
 rw[show(p.flatMap λq=>((rooms l).drop q.2).flatMap (cell r l q.1)).map ld=((p.flatMap λq=>((rooms l).drop q.2).flatMap (cell r l q.1))++([]:List Nat).flatMap (cell r l x.1)).map ld from by simp];refine(gp (e:=iN) (F:=λds=>(PyData.dict (r.ms.zipIdx.map RP),cT l,PyData.tuple (r.ms.map mD),PyData.list ((rooms l).map iN),((p.flatMap λq=>((rooms l).drop q.2).flatMap (cell r l q.1))++ds.flatMap (cell r l x.1)).map ld,iN x.1,())) ((rooms l).drop x.2) ?_).trans ?_
 ·intro p2 b t2 zav Pq;dsimp only;refine(Ks w hl hn ?_ _ kn Pq).trans ?_
  ·rw[Qh];have h2:=gq (g:=cell r l x.1) (B:=1) (mH r l x.1) p2;have h3:p2.length<((rooms l).drop x.2).length:=by rw[zav];simp
   rw[ul]at h3;lia
  ·rw[NA,List.append_assoc];simp
 ·dsimp only;unfold kG;rw[NA];simp
end
abbrev jo(n:Nat)(g:Nat->Int):List D:=(List.range n).map λi=>.int (g i)
def Ry(g:Nat->Int)(i:Nat)(v:Int):Nat->Int:=λx=>if x=i then v else g x
def vJ(n:Nat)(f:Nat->Nat):jo n (λi=>(f i:Int))=eG n f:=by
 unfold jo eG tab;rw[ic];rfl
def zC(h:i<n):dC (.list (jo n g)) (iN i)=some (.int (g i)):=by
 have e:=wU (λi=>PyData.int (g i)) (List.range n) i (by simpa using h);rw[List.getElem_range]at e;exact e
def Cv(n:Nat)(g:Nat->Int)(i:Nat)(v:Int):(jo n g).set i (.int v)=jo n (Ry g i v):=by
 apply Db
 ·simp
 ·intro j h1 h2;rw[List.getElem_set];simp only[M2,List.getElem_range];unfold Ry;by_cases e:i=j
  ·rw[al e,al e.symm]
  ·rw[ar e,ar (λz=>e z.symm)]
def vI(v:Int)(h:i<n):putD (jo n g) (iN i) (.int v)=some (jo n (Ry g i v)):=by
 show(L2.Tq _ (i:Int)).map _=_;rw[L_,ur,uS h];show some ((jo n g).set i (.int v))=_;rw[Cv]
def vO(hx:x<n)(kn3:D×List D×Unit->M D)(c:D)(fs:List D)(k m:D)(kn:D×List D×D×D×List D×Unit->M D) :
  fM kn3 c fs k m (jo n g) (iN x) kn=kn (c,fs,k,m,jo n (Ry g x (g x - 1)),()):=by
 unfold fM;rw[n4,zC hx,g_,b_,show gG (.int (g x)) (.int 1)=some (.int (g x - 1))from rfl,g_,b_,vI _ hx,g_,b_]
def vM(hx:x<n)(kn3:D×List D×Unit->M D)(c:D)(fs:List D)(k:D)(kn:D×List D×D×List D×Unit->M D) :
  fL kn3 c fs k (jo n g) (iN x) kn=kn (c,fs,k,jo n (Ry g x (g x+1)),()):=by
 unfold fL;rw[n4,zC hx,g_,b_,L4.Te,g_,b_,vI _ hx,g_,b_]
def BC(n:Nat)(g:Nat->Int):intsOf (jo n g)=some ((List.range n).map g):=by
 have:∀l:List Nat,intsOf (l.map λi=>PyData.int (g i))=some (l.map g):=by
  intro l
  induction l with
  | nil=>rfl
  | cons a l ih=>rw[aw,intsOf,ih];rfl
 exact this _
theorem DE(h:0<n):∃i,Av [.list (jo n g)]=some (.int i)/\(0<=i↔∀x,x<n->0<=g x):=by
 have e:∃i,yR ((List.range n).map g)=some i:=by
  cases n with
  | zero=>lia
  | succ n=>rw[N2];exact⟨_,rfl⟩
 obtain⟨i,e⟩:=e;obtain⟨s1,s2⟩:=tP e;refine⟨i,?_,λhi x hx=>Int.le_trans hi (s1 _ (List.mem_map.mpr ⟨x,List.mem_range.mpr hx,rfl⟩)),λhx=>?_⟩
 ·show(match intsOf (jo n g)with|some ns=>(yR ns).map PyData.int|none=>none)=_;rw[BC];show(yR _).map PyData.int=_;rw[e];rfl
 ·obtain⟨x,Rr,rfl⟩:=List.mem_map.mp s2;exact hx x (List.mem_range.mp Rr)
def outI(f:Nat->Nat)(m:Mt):Nat->Int:=let g1:=Ry (λi=>(f i:Int)) m.1 ((f m.1:Int) - 1);Ry g1 m.2.1 (g1 m.2.1 - 1)
theorem zX{m:Mt}(h:QO n m):(∀x,x<n->0<=outI f m x)↔gw f m=true:=by
 have ZC:=h.ab;have hb:=h.b;unfold gw;simp only[am,OB];constructor
 ·intro q;have q1:=q m.1 (by lia);have q2:=q m.2.1 hb;unfold outI Ry at q1 q2;dsimp only at q1 q2;by_cases e:m.1=m.2.1
  ·rw[al e]at q1;simp only[e,oP]at q1 q2 ⊢;lia
  ·rw[ar e]at q1;rw[ar e];simp only[oP,ar (λz=>e (Eq.symm z))]at q1 q2;lia
 ·intro q x hx;unfold outI Ry;dsimp only;by_cases e:m.1=m.2.1
  ·rw[al e]at q;split
   ·simp only[e,oP];rw[<-e];lia
   ·split<;>lia
  ·rw[ar e]at q;split
   ·rw[ar (λz=>e (Eq.symm z))];lia
   ·split<;>lia
theorem FC{m:Mt}(hc:gw f m=true):(λi=>((R_ f m i:Nat):Int))=Ry (Ry (outI f m) m.2.2.1 (outI f m m.2.2.1+1)) m.2.2.2 (Ry (outI f m) m.2.2.1 (outI f m m.2.2.1+1) m.2.2.2+1):=by
 obtain⟨p1,p2⟩:=qX hc;have g1:(λi=>((up f m.1 (f m.1 - 1) i:Nat):Int))=Ry (λi=>(f i:Int)) m.1 ((f m.1:Int) - 1):=by
  funext i;unfold up Ry;split
  ·lia
  ·rfl
 have g2:(λi=>((up (up f m.1 (f m.1 - 1)) m.2.1 (up f m.1 (f m.1 - 1) m.2.1 - 1) i:Nat):Int))=outI f m:=by
  unfold outI;dsimp only;rw[<-g1];funext i;unfold Ry;show((if i=m.2.1 then _ else _:Nat):Int)=_;split
  ·dsimp only;lia
  ·rfl
 rw[<-g2];funext i;unfold R_;dsimp only;generalize up (up f m.1 (f m.1 - 1)) m.2.1 (up f m.1 (f m.1 - 1) m.2.1 - 1)=f2;unfold up Ry;by_cases e1:i=m.2.2.2
 ·simp only[e1,oP];by_cases e2:m.2.2.2=m.2.2.1
  ·simp only[e2,oP];lia
  ·simp only[ar e2];lia
 ·simp only[ar e1];by_cases e2:i=m.2.2.1
  ·simp only[e2,oP];lia
  ·simp only[ar e2]
def ci(r:Rl)(l:List Nat)(ps:List (Mt×Nat)):List (Nat×List Nat):=ps.flatMap λp=>if gw (fl l) p.1 then[(p.2,led r.n l p.1)]else[]
def Pk{k:Nat}:(k,c)∈ci r l r.ms.zipIdx↔Goes r l k c:=by
 unfold ci;rw[List.mem_flatMap];constructor
 ·rintro⟨p,hp,h⟩;split at h
  ·rename_i hc;have:(k,c)=(p.2,led r.n l p.1):=by simpa using h
   injection this with h1 h2;subst h1 h2;exact⟨p.1,List.mem_zipIdx_iff_getElem?.mp hp,hc,rfl⟩
  ·cases h
 ·rintro⟨m,hm,hc,rfl⟩;exact⟨(m,k),List.mem_zipIdx_iff_getElem?.mpr hm,by rw[al hc];exact List.mem_singleton.mpr rfl⟩
theorem mP(r:Rl)(l:List Nat)(ps:List (Mt×Nat)):(ci r l ps).length<=ps.length:=by
 have:=gq (g:=λp:Mt×Nat=>if gw (fl l) p.1 then[(p.2,led r.n l p.1)]else[]) (B:=1) (λp=>by split<;>simp) ps;unfold ci;lia
theorem CG(w:Wf r)(hl:l.length=r.n){acc:List (Nat×List Nat)}(ha:acc.length<=90000){p:Mt×Nat}(ok:QO r.n p.1)(kn3:D×List D×Unit->M D) :
  fN (cT l) (acc.map ld) (.tuple [iN p.2,mD p.1]) kn3=kn3 (cT l,(acc++if gw (fl l) p.1 then[(p.2,led r.n l p.1)]else[]).map ld,()):=by
 obtain⟨m,k⟩:=p;have ok:QO r.n m:=ok;have ZC:=ok.ab;have hb:=ok.b;have RU:=ok.c;have hd:=ok.d;unfold fN;show QQ (.tuple [iN k,mD m]) _=_;unfold QQ;dsimp only;have l1:n8 [cT l]=some (jo r.n λi=>(fl l i:Int)):=by
  rw[vJ,u9 hl];rfl
 have c1:(bd (bd (QG (.int 2)) λhi7=>oM (fJ (mD m) none hi7)) λx8=>oM (dQ x8))=.ret [iN m.1,iN m.2.1]:=by kernel_rfl
 have c2:(bd (bd (QG (.int 2)) λUu=>oM (fJ (mD m) Uu none)) λR3=>oM (dQ R3))=.ret [iN m.2.2.1,iN m.2.2.2]:=by kernel_rfl
 rw[l1,g_,b_,c1,b_,cg,dn];refine(vO (show m.1<r.n by lia) kn3 _ _ _ _ _).trans ?_;rw[dn];refine(vO hb kn3 _ _ _ _ _).trans ?_;rw[dn];show fP kn3 (cT l) (acc.map ld) (iN k) (mD m) (jo r.n (outI (fl l) m))=_;unfold fP;obtain⟨i,e1,e2⟩:=DE (g:=outI (fl l) m) (show 0<r.n by have:=w.n1;lia);rw[e1,g_,b_,L4.geI,g_,b_];by_cases hc:gw (fl l) m=true
 ·have hi:0<=i:=e2.mpr ((zX ok).mpr hc);rw[al (by simpa using hi),al hc,c2,b_,cg,dn];refine(vM RU kn3 _ _ _ _).trans ?_;rw[dn];refine(vM hd kn3 _ _ _ _).trans ?_;rw[dn];show fO kn3 _ _ _ (jo r.n (Ry (Ry (outI (fl l) m) m.2.2.1 (outI (fl l) m m.2.2.1+1)) m.2.2.2 (Ry (outI (fl l) m) m.2.2.1 (outI (fl l) m m.2.2.1+1) m.2.2.2+1)))=_;rw[<-FC hc,vJ];unfold fO;rw[oD,g_,b_,b_,rG _ _ (by rw[L_];lia),g_,b_,ib];rfl
 ·have hi:¬ 0<=i:=λz=>hc ((zX ok).mp (e2.mp z))
  rw[ar (by simpa using hi),ar hc,li]
theorem CH(w:Wf r)(hl:l.length=r.n)(hm:r.ms.length<=90000):fW r.d (cT l)=.ret (.list ((ci r l r.ms.zipIdx).map ld)):=by
 unfold fW;have e1:kC [.tuple (r.ms.map mD)]=some (r.ms.zipIdx.map λp=>.tuple [iN p.2,mD p.1]):=by
  show some (gv _)=_;rw[j9]
 rw[aT,lg,g_,b_,e1,g_,b_];refine(gp (e:=λp:Mt×Nat=>.tuple [iN p.2,mD p.1]) (F:=λps=>(cT l,(ci r l ps).map ld,())) r.ms.zipIdx ?_).trans rfl;intro p x t RH kn;dsimp only;have hx:=List.mem_zipIdx_iff_getElem?.mp (show x∈r.ms.zipIdx by rw[RH];simp);have hlen:p.length<r.ms.zipIdx.length:=by rw[RH];simp
 rw[yp]at hlen;have:=mP r l p;refine(CG w hl (by lia) (w.ms x.1 (wE hx)) kn).trans ?_;unfold ci;rw[NA];simp
inductive Su(r:Rl)(s:List Nat):List Nat->Prop
 | refl:Su r s s
 | step {c:List Nat} {k:Nat} {c':List Nat}:Su r s c->Goes r c k c'->Su r s c'
def sumF(n:Nat)(f:Nat->Nat):Nat:=((List.range n).map f).sum
def h8(n:Nat)(f:Nat->Nat):sumF (n+1) f=sumF n f+f n:=by
 unfold sumF;rw[List.range_succ,ib,List.sum_append];simp
theorem ie(f g:Nat->Nat):∀n,sumF n (λi=>f i+g i)=sumF n f+sumF n g
 | 0=>rfl
 | n+1=>by rw[h8,h8,h8,ie f g n];lia
def ia(x:Nat):∀n,sumF n (λi=>if x=i then 1 else 0)=if x<n then 1 else 0
 | 0=>rfl
 | n+1=>by
  rw[h8,ia x n];by_cases h:x<n
  ·rw[al h,ar (by lia),al (by lia)]
  ·by_cases e:x=n
   ·rw[ar h,al e,al (by lia)]
   ·rw[ar h,ar e,ar (by lia)]
def uf(n:Nat)(f:Nat->Nat):(tab n f).sum=sumF n f:=rfl
theorem FT{m:Mt}(hl:l.length=n)(ok:QO n m)(hc:gw (fl l) m=true):(led n l m).sum=l.sum:=by
 have ZC:=ok.ab;have hb:=ok.b;have RU:=ok.c;have hd:=ok.d;have e:l.sum=sumF n (fl l):=by rw[<-uf,Cu hl]
 rw[e];unfold led;rw[uf];have k:=congrArg (sumF n) (funext λi=>FU hc i);rw[ie (λi=>R_ (fl l) m i+if m.1=i then 1 else 0),ie (R_ (fl l) m),ie (λi=>fl l i+if m.2.2.1=i then 1 else 0),ie (fl l),ia,ia,ia,ia,al (by lia),al hb,al RU,al hd]at k;lia
def Goes.fit(w:Wf r){c':List Nat}{k:Nat}(g:Goes r c k c')(hl:c.length=r.n):c'.length=r.n/\c'.sum=c.sum:=by
 obtain⟨m,hm,hc,rfl⟩:=g;exact⟨yD _ _ _,FT hl (w.ms m (wE hm)) hc⟩
def Su.fit(w:Wf r)(hl:s.length=r.n)(h:Su r s c):c.length=r.n/\c.sum=s.sum:=by
 induction h with
 | refl=>exact⟨hl,rfl⟩
 | step _ g ih =>
  obtain⟨h1,h2⟩:=g.fit w ih.1;exact⟨h1,h2.trans ih.2⟩
def comps:Nat->Nat->List (List Nat)
 | 0,h=>if h=0 then[[]]else[]
 | n+1,h=>(List.range (h+1)).flatMap λa=>(comps n (h - a)).map (a :: ·)
theorem tF:∀(n h:Nat) (l:List Nat),l.length=n->l.sum=h->l∈comps n h
 | 0,h,[],_,e=>by
  have:h=0:=by simpa using e.symm
  subst this;exact List.mem_singleton.mpr rfl
 | n+1,h,a::l,e1,e2=>by
  have e2:a+l.sum=h:=by simpa using e2
  refine List.mem_flatMap.mpr ⟨a,List.mem_range.mpr (by lia),List.mem_map.mpr ⟨l,tF n (h - a) l (by simpa using e1) (by lia),rfl⟩⟩
def Ju:∀n,n<6->∀h,h<6->(comps n h).length<=126:=by decide +kernel
def Jv:∀n,n<3->∀h,h<61->(comps n h).length<=126:=by decide +kernel
theorem dE{α:Type}[DecidableEq α]:∀{l m:List α},l.Nodup->(∀x∈l,x∈m)->l.length<=m.length
 | [],m,_,_=>be _
 | a::l,m,hn,hs=>by
  rw[List.nodup_cons]at hn;have ha:=hs a du;have h:=dE (m:=m.erase a) hn.2 λx hx=>by
   have:x≠a:=λz=>hn.1 (z▸hx)
   exact(List.mem_erase_of_ne this).mpr (hs x (QC _ hx))
  rw[List.length_erase_of_mem ha]at h;have:0<m.length:=List.length_pos_of_mem ha;rw[gs];lia
def bh(F cs:List (List Nat)):List (List Nat):=cs.foldl (λacc c=>if c∈acc then acc else acc++[c]) F
def fB(F cs:List (List Nat))(c:List Nat):bh F (c::cs)=bh (if c∈F then F else F++[c]) cs:=rfl
def jf:∀(cs F:List (List Nat)),∃E,bh F cs=F++E
 | [],F=>⟨[],(li _).symm⟩
 | c::cs,F=>by
  rw[fB];obtain⟨E,e⟩:=jf cs (if c∈F then F else F++[c]);rw[e];split
  ·exact⟨E,rfl⟩
  ·exact⟨c::E,by simp⟩
def fX:∀(cs F:List (List Nat)),F.Nodup->(bh F cs).Nodup
 | [],F,h=>h
 | c::cs,F,h=>by
  rw[fB];refine fX cs _ ?_;split
  ·exact h
  ·rename_i hc;rw[List.nodup_append];exact⟨h,by simp,λa ha b hb=>by rw[List.mem_singleton.mp hb];exact λz=>hc (z▸ha)⟩
def cP:∀(cs F:List (List Nat)) (x:List Nat),x∈bh F cs↔x∈F\/x∈cs
 | [],F,x=>by simp[bh]
 | c::cs,F,x=>by
  rw[fB,cP cs];split
  ·rename_i hc;rw[oR];constructor
   ·rintro(h|h)
    ·exact .inl h
    ·exact .inr (.inr h)
   ·rintro(h|h|h)
    ·exact .inl h
    ·exact .inl (h▸hc)
    ·exact .inr h
  ·rw[List.mem_append,List.mem_singleton,oR];constructor
   ·rintro((h|h)|h)
    ·exact .inl h
    ·exact .inr (.inl h)
    ·exact .inr (.inr h)
   ·rintro(h|h|h)
    ·exact .inl (.inl h)
    ·exact .inl (.inr h)
    ·exact .inr h
def Xm(l:List Nat):List Key:=l.map λn:Nat=>.inl (n:Int)
def zk(l:List Nat):cT l=cE (Xm l):=by
 unfold cE Xm;rw[ic];rfl
theorem Ae:∀{l l':List Nat},Xm l=Xm l'↔l=l'
 | [],[]=>by simp
 | [],_::_=>by simp[Xm]
 | _::_,[]=>by simp[Xm]
 | a::l,b::l'=>by
  have ih:=Ae (l:=l) (l':=l');unfold Xm at ih ⊢;rw[aw,aw,List.cons.injEq,List.cons.injEq,ih];constructor
  ·rintro⟨h,h2⟩;injection h with h;exact⟨by lia,h2⟩
  ·rintro⟨rfl,h2⟩;exact⟨rfl,h2⟩
def mm(l l':List Nat):fG (cT l) (cT l')=decide (l=l'):=by
 rw[zk,zk,lc];exact decide_eq_decide.mpr Ae
def fk(l:List Nat):cZ (cT l)=true:=by rw[zk];exact DS _
abbrev kE(v:List Nat->D)(c:List Nat):D×D:=(cT c,v c)
section
variable (v:List Nat->D)
def qJ(F:List (List Nat))(c:List Nat):keyOk (F.map (kE v)) (cT c)=true:=by
 unfold keyOk;rw[ua];left;rw[am,xz];refine⟨fk c,λx hx=>?_⟩;obtain⟨q,_,rfl⟩:=List.mem_map.mp hx;exact fk _
def j8(c:List Nat):∀F:List (List Nat),g6 (F.map (kE v)) (cT c)=if c∈F then some (v c)else none
 | []=>rfl
 | q::F=>by
  have ih:=j8 c F;unfold g6 at ih ⊢;rw[aw,ni,show fG (kE v q).1 (cT c)=_ from mm q c];by_cases e:q=c
  ·subst e;rw[cr rfl,al du];rfl
  ·rw[bu e];dsimp only;rw[ih];by_cases h:c∈F
   ·rw[al h,al (QC _ h)]
   ·rw[ar h,ar (λz=>by rcases List.mem_cons.mp z with z|z;exact e z.symm;exact h z)]
def lM(F:List (List Nat))(c:List Nat):bE (cT c) (.dict (F.map (kE v)))=some (!decide (c∈F)):=by
 show(if keyOk (F.map (kE v)) (cT c)then some (!(g6 (F.map (kE v)) (cT c)).isSome)else none)=_;rw[al (qJ v F c),j8];by_cases h:c∈F
 ·rw[al h,cr h];rfl
 ·rw[ar h,bu h];rfl
def kR(h:c∉F)(hl:F.length<=90000):iE true (F.map (kE v)) (cT c) (v c)=some ((F++[c]).map (kE v)):=by
 unfold iE;rw[al,vZ,ib]
 ·rfl
 ·intro p hp;obtain⟨q,hq,rfl⟩:=List.mem_map.mp hp;rw[show fG (kE v q).1 (cT c)=_ from mm q c,wP];exact λz=>h (z▸hq)
 ·rw[am,OB,L_];exact⟨fk c,wn hl (by decide)⟩
def wR(h:c∈F):aH (.dict (F.map (kE v))) (cT c)=some (v c):=by
 show(if keyOk (F.map (kE v)) (cT c)then g6 (F.map (kE v)) (cT c)else none)=_;rw[al (qJ v F c),j8,al h]
def FY(F:List (List Nat)):nC (F.map (kE v))=false:=by cases F<;>rfl
def uR(F:List (List Nat)):(F.map (kE v)).map (·.1)=F.map cT:=by rw[ic];rfl
def j7(F:List (List Nat)):kB [.dict (F.map (kE v))]=some (iN F.length):=by
 show(if nC (F.map (kE v))then none else some (PyData.int ((F.map (kE v)).length:Int)))=_;rw[FY,ar (by decide),L_]
end
abbrev iI:Ex:=⟨"TooMany",[]⟩
abbrev vT:List Nat->D:=λ_=>.bool true
abbrev vL(r:Rl):List Nat->D:=λc=>.list ((bU r c).map ld)
abbrev UX(r:Rl):D:=.dict (r.ms.zipIdx.map RP)
def ld1(p:Nat×List Nat):aH (ld p) (.int 1)=some (cT p.2):=by rw[aT,fH]
theorem Gd(hl:F.length<=90000)(R lim P:D)(L:List (D×D))(p:Nat×List Nat)(Pq kn:D×D×D×List (D×D)×List (D×D)×List D×Unit->M D) :
  fK Pq R lim P L (F.map (kE vT)) (F.map cT) (ld p) kn=kn (R,lim,P,L,(bh F [p.2]).map (kE vT),(bh F [p.2]).map cT,()):=by
 unfold fK;rw[ld1,g_,b_,lM,g_,b_];have e:bh F [p.2]=if p.2∈F then F else F++[p.2]:=rfl;by_cases h:p.2∈F
 ·rw[cr h,ar (by decide),e,al h]
 ·rw[bu h,al (show(!false)=true from rfl),b_,kR vT h hl,g_,b_,b_,rG _ _ (by rw[L_];lia),g_,b_,e,ar h,ib,ib];rfl
noncomputable abbrev sK(r:Rl):D×D×D×List (D×D)×List (D×D)×List D×Unit->(D×D×D×List (D×D)×List (D×D)×List D×Unit->M D)->M D:=λTN kn=>bN TN.1 TN.2.1 TN.2.2.1 TN.2.2.2.1 TN.2.2.2.2.1 TN.2.2.2.2.2.1 kn
section
variable (w:Wf r) (hn:r.n<=40) (hm:r.ms.length<=2000)
include w hn hm
theorem EV{limit:Nat}(hi:i<F.length)(hF:F.length<=1000)(VL:F.length<=limit)(nd:F.Nodup)(fit:∀c∈F,c.length=r.n)(kn:D×D×D×List (D×D)×List (D×D)×List D×Unit->M D) :
  bN r.d (iN limit) (UX r) ((F.take i).map (kE (vL r))) (F.map (kE vT)) (F.map cT) kn=kn (r.d,iN limit,UX r,(F.take (i+1)).map (kE (vL r)),(bh F ((bU r F[i]).map (·.2))).map (kE vT),(bh F ((bU r F[i]).map (·.2))).map cT,()):=by
 have hc:=fit F[i] (oC hi);have t1:(F.take i).length=i:=by rw[ss];lia
 have nin:F[i]∉F.take i:=λz=>by
  obtain⟨j,hj,e⟩:=ut z;rw[List.getElem_take]at e;have UI:j<i:=by rw[t1]at hj;exact hj
  exact absurd (List.pairwise_iff_getElem.mp nd j i (by lia) hi UI) (by rw[e];exact λz=>z rfl)
 have tk:F.take i++[F[i]]=F.take (i+1):=List.take_append_getElem hi;have ll:fm [.list (F.map cT)]=some (iN F.length):=by rw[L4.SU,L_]
 have g1:gI (iN (F.take i).length) (iN F.length)=some true:=by
  show wj (.int _) (.int _)=_;rw[L4.ltI,cr (by rw[t1];lia)]
 have g2:dX (iN F.length) (iN limit)=some false:=by rw[L4.Wu,bu (by lia)]
 have ix:aH (.list (F.map cT)) (iN (F.take i).length)=some (cT F[i]):=by
  rw[t1,n4,show dC (.list (F.map cT)) (iN i)=_ from wU cT F i hi]
 unfold bN;rw[j7,ll,g_,g_,b_,b_,g1,g_,b_,al rfl,b_,g2,g_,b_,ar (by decide),b_,ix,g_,b_,yG w hc hn (by lia),b_,kR (vL r) nin (by lia),g_,b_,tk,wR (vL r) (tk▸gh _ (List.mem_singleton.mpr rfl)),g_,b_,show dQ (vL r F[i])=some ((bU r F[i]).map ld)from rfl,g_,b_];have h0:bh F (([]:List (Nat×List Nat)).map (·.2))=F:=rfl;refine(gp (e:=ld) (F:=λps=>(r.d,iN limit,UX r,(F.take (i+1)).map (kE (vL r)),(bh F (ps.map (·.2))).map (kE vT),(bh F (ps.map (·.2))).map cT,())) (bU r F[i]) ?_).trans rfl;intro p x t RH kn';dsimp only;have hlen:(bh F (p.map (·.2))).length<=90000:=by
  have h1:∀(cs G:List (List Nat)),(bh G cs).length<=G.length+cs.length:=by
   intro cs
   induction cs with
   | nil=>intro G;simp[bh]
   | cons c cs ih =>
    intro G;rw[fB];refine di (ih _) ?_;split<;>simp<;>lia
  have h2:=h1 (p.map (·.2)) F;have h3:p.length<=(bU r F[i]).length:=by rw[RH];simp
  have h4:(bU r F[i]).length<=40*40:=by
   have rl:=mT F[i];unfold bU;refine di (gq (g:=λq:Nat×Nat=>((rooms F[i]).drop q.2).flatMap (cell r F[i] q.1)) (B:=40) (λq=>?_) _) (Me _ (by rw[yp];lia));have h5:=gq (g:=cell r F[i] q.1) (B:=1) (mH r F[i] q.1) ((rooms F[i]).drop q.2);rw[ul]at h5;lia
  rw[L_]at h2;lia
 refine(Gd hlen _ _ _ _ x _ _).trans ?_;rw[ib,show bh F (p.map (·.2)++[x].map (·.2))=bh (bh F (p.map (·.2))) [x.2]from by unfold bh;rw[List.foldl_append];rfl]
theorem CO{c0:List Nat}{R:List (List Nat)}(Tv:c0.length=r.n)(hR:R.Nodup)(mem:∀c,c∈R↔Su r c0 c)(hB:R.length<=900)(limit:Nat) :
  ∀(fuel i:Nat) (F:List (List Nat)),F.Nodup->(∀c∈F,c∈R)->c0∈F->i<=F.length->(∀(j:Nat) (h:j<F.length),j<i->∀k c,Goes r F[j] k c->c∈F)->(F.length<=limit\/i<F.length)->R.length<fuel+i ->
   (R.length<=limit/\∃F':List (List Nat),F'.Perm R/\bF (sK r) fuel (r.d,iN limit,UX r,(F.take i).map (kE (vL r)),F.map (kE vT),F.map cT,())=.ret (.dict (F'.map (kE (vL r))))) \/
   (limit<R.length/\bF (sK r) fuel (r.d,iN limit,UX r,(F.take i).map (kE (vL r)),F.map (kE vT),F.map cT,())=.exc iI)
 | 0,i,F,nd,sub,_,hi,_,_,hf=>by
  have:=dE nd sub;lia
 | fuel+1,i,F,nd,sub,h0,hi,cl,hj,hf=>by
  have hle:=dE nd sub;have fit:∀c∈F,c.length=r.n:=λc hc=>(((mem c).mp (sub c hc)).fit w Tv).1
  rw[bF];by_cases Oi:i<F.length
  ·by_cases VL:F.length<=limit
   ·have st:sK r (r.d,iN limit,UX r,(F.take i).map (kE (vL r)),F.map (kE vT),F.map cT,()) (λs'=>bF (sK r) fuel s')=bF (sK r) fuel (r.d,iN limit,UX r,((bh F ((bU r F[i]).map (·.2))).take (i+1)).map (kE (vL r)),(bh F ((bU r F[i]).map (·.2))).map (kE vT),(bh F ((bU r F[i]).map (·.2))).map cT,()):=by
     refine(EV w hn hm Oi (by lia) VL nd fit _).trans ?_;obtain⟨E,e⟩:=jf ((bU r F[i]).map (·.2)) F;have:(bh F ((bU r F[i]).map (·.2))).take (i+1)=F.take (i+1):=by rw[e,List.take_append_of_le_length (by lia)]
     rw[this]
    rw[st];have rF:∀c∈F,Su r c0 c:=λc hc=>(mem c).mp (sub c hc)
    have zaa:∀c∈bh F ((bU r F[i]).map (·.2)),c∈R:=λc hc=>by
     rcases(cP _ _ _).mp hc with h|h
     ·exact sub c h
     ·obtain⟨p,hp,rfl⟩:=List.mem_map.mp h;exact(mem _).mpr (.step (rF F[i] (oC Oi)) ((iB w (fit _ (oC Oi))).mp hp))
    obtain⟨E,e⟩:=jf ((bU r F[i]).map (·.2)) F;have zaM:F.length<=(bh F ((bU r F[i]).map (·.2))).length:=by rw[e,Qh];lia
    have at':∀(j:Nat) (h:j<F.length) (h':j<(bh F ((bU r F[i]).map (·.2))).length),(bh F ((bU r F[i]).map (·.2)))[j]=F[j]:=λj h h'=>by
     simp only[e];exact List.getElem_append_left h
    refine CO Tv hR mem hB limit fuel (i+1) _ (fX _ _ nd) zaa ((cP _ _ _).mpr (.inl h0)) (by lia) (λj h hji k c g=>?_) ?_ (by lia)
    ·rw[at' j (by lia) h]at g;rcases Nat.lt_or_ge j i with lt|ge
     ·exact(cP _ _ _).mpr (.inl (cl j (by lia) lt k c g))
     ·have:j=i:=by lia
      subst this;exact(cP _ _ _).mpr (.inr (List.mem_map.mpr ⟨(k,c),(iB w (fit _ (oC Oi))).mpr g,rfl⟩))
    ·by_cases z:(bh F ((bU r F[i]).map (·.2))).length<=limit
     ·exact .inl z
     ·exact .inr (by lia)
   ·right;have ll:fm [.list (F.map cT)]=some (iN F.length):=by rw[L4.SU,L_]
    have g1:gI (iN (F.take i).length) (iN F.length)=some true:=by
     show wj (.int _) (.int _)=_;rw[L4.ltI,cr (by rw[ss];lia)]
    have g2:dX (iN F.length) (iN limit)=some true:=by rw[L4.Wu,cr (by lia)]
    refine⟨by lia,?_⟩;show bN r.d (iN limit) (UX r) ((F.take i).map (kE (vL r))) (F.map (kE vT)) (F.map cT) _=_;unfold bN;rw[j7,ll,g_,g_,b_,b_,g1,g_,b_,al rfl,b_,g2,g_,b_,al rfl]
  ·left;have hiF:i=F.length:=by lia
   have all:∀c,Su r c0 c->c∈F:=λc hc=>by
    induction hc with
    | refl=>exact h0
    | step _ g ih =>
     obtain⟨j,hj,e⟩:=ut ih;exact cl j hj (by lia) _ _ (e▸g)
   have pm:F.Perm R:=(List.perm_ext_iff_of_nodup nd hR).mpr λc=>⟨sub c,λh=>all c ((mem c).mp h)⟩
   have ll:fm [.list (F.map cT)]=some (iN F.length):=by rw[L4.SU,L_]
   have g1:gI (iN (F.take i).length) (iN F.length)=some false:=by
    show wj (.int _) (.int _)=_;rw[L4.ltI,bu (by rw[ss];lia)]
   refine⟨by have:=pm.length_eq;lia,F,pm,?_⟩;show bN r.d (iN limit) (UX r) ((F.take i).map (kE (vL r))) (F.map (kE vT)) (F.map cT) _=_;unfold bN;rw[j7,ll,g_,g_,b_,b_,g1,g_,b_,ar (by decide)];unfold jl;rw[hiF,List.take_length]
theorem Ge{c0:List Nat}{R:List (List Nat)}(Tv:c0.length=r.n)(hR:R.Nodup)(mem:∀c,c∈R↔Su r c0 c)(hB:R.length<=900)(limit:Nat) :
  (R.length<=limit/\∃F:List (List Nat),F.Perm R/\dq r.d (cT c0) (iN limit)=.ret (.dict (F.map (kE (vL r)))))\/(limit<R.length/\dq r.d (cT c0) (iN limit)=.exc iI):=by
 have e:dq r.d (cT c0) (iN limit)=bF (sK r) 10000 (r.d,iN limit,UX r,(([c0]:List (List Nat)).take 0).map (kE (vL r)),([c0]:List (List Nat)).map (kE vT),([c0]:List (List Nat)).map cT,()):=by
  unfold dq;rw[Dn w (by lia),b_];unfold sZ;rw[fk];dsimp only;rw[hZ];rfl
 rw[e];refine CO w hn hm Tv hR mem hB limit 10000 0 [c0] (by simp) (λc hc=>?_) (List.mem_singleton.mpr rfl) (be _) (λj h z=>absurd z (Nat.not_lt_zero _)) (.inr (by simp)) (by lia);rw[List.mem_singleton.mp hc];exact(mem _).mpr .refl
end
abbrev vS(r:Rl):List Nat->D:=λc=>.list ((ci r c r.ms.zipIdx).map ld)
noncomputable abbrev GT:D×List (D×D)×List D×Unit->(D×List (D×D)×List D×Unit->M D)->M D:=λW7 kn=>e8 W7.1 W7.2.1 W7.2.2.1 kn
theorem Dz(L:List (List Nat)):dO (.list (L.map cT)) (.list [])=some (!L.isEmpty):=by
 have hd:(PyData.list (L.map cT)).depth<=1000:=by
  have:∀l:List (List Nat),PyData.depthAll (l.map cT)<=10:=by
   intro l
   induction l with
   | nil=>simp[PyData.depthAll]
   | cons a l ih =>
    have h1:(cT a).depth<=10:=by
     have:∀l:List Nat,PyData.depthAll (l.map iN)<=1:=by
      intro l
      induction l with
      | nil=>simp[PyData.depthAll]
      | cons a l ih=>simp only[aw,PyData.depthAll,PyData.depth];lia
     have h2:=this a;simp only[PyData.depth];lia
    simp only[aw,PyData.depthAll];lia
  have h:=this L;simp only[PyData.depth];lia
 have lay:(PyData.list (L.map cT)).canLay0=true:=by
  simp only[PyData.canLay0];exact lZ λd hd=>by
   obtain⟨l,_,rfl⟩:=List.mem_map.mp hd;exact(DJ l).1
 unfold dO sg;rw[al (by rw[lay,cr hd];rfl)]
 cases L with
 | nil=>rfl
 | cons a L=>rfl
theorem Ip(ps:List (Nat×List Nat)):aV (λd8=>QQ d8 λy9 y10=>M.ret (some y10)) (ps.map ld)=.ret ((ps.map (·.2)).map cT):=by
 rw[dI (e:=ld) (g:=λp=>cT p.2) ps (λp _=>rfl),ic];rfl
section
variable (w:Wf r) (hm:r.ms.length<=30)
include w hm
theorem uq{c0:List Nat}(Tv:c0.length=r.n)(B:Nat)(hB:B<=200)(bound:∀F:List (List Nat),F.Nodup->(∀c∈F,c.length=r.n/\c.sum=c0.sum)->F.length<=B) :
  ∀(fuel:Nat) (F L:List (List Nat)),F.Nodup->(∀c∈F,Su r c0 c)->(∀c∈L,Su r c0 c)->(c0∈F\/c0∈L)->(∀c∈F,∀k c',Goes r c k c'->c'∈F\/c'∈L)->L.length+31*(B - F.length)<fuel->fuel<=10000 ->
   ∃F':List (List Nat),F'.Nodup/\(∀c,c∈F'↔Su r c0 c)/\bF GT fuel (r.d,F.map (kE (vS r)),L.map cT,())=.ret (.dict (F'.map (kE (vS r))))
 | 0,F,L,_,_,_,_,_,hf,_=>by lia
 | fuel+1,F,L,nd,rF,rL,h0,cl,hf,hfu=>by
  rw[bF];show ∃F':List (List Nat),_/\_/\e8 r.d (F.map (kE (vS r))) (L.map cT) (λs'=>bF GT fuel s')=_;unfold e8;rw[Dz,g_,b_];rcases List.eq_nil_or_concat L with rfl|⟨L',x,rfl⟩
  ·rw[ar (by decide)];unfold kH;refine⟨F,nd,λc=>⟨rF c,λh=>?_⟩,rfl⟩
   induction h with
   | refl=>exact h0.resolve_right (by simp)
   | step _ g ih=>exact(cl _ ih _ _ g).resolve_right (by simp)
  ·rw[List.concat_eq_append]at *;rw[al (show(!(L'++[x]).isEmpty)=true by simp)];have gl:(List.map cT (L'++[x])).getLast? = some (cT x):=by simp
   have dl:List.dropLast (List.map cT (L'++[x]))=L'.map cT:=by rw[ib];simp
   unfold Ds;rw[gl,dl];dsimp only;have ZK:∀c∈F,c.length=r.n/\c.sum=c0.sum:=λc hc=>(rF c hc).fit w Tv
   have hFB:=bound F nd ZK;have hx:Su r c0 x:=rL x (by simp);rw[Qh,Ix]at hf;rw[lM,g_,b_];by_cases VN:x∈F
   ·rw[cr VN,ar (by decide)];refine uq Tv B hB bound fuel F L' nd rF (λc hc=>rL c (by simp[hc])) ?_ (λc hc k c' g=>?_) (by lia) (by lia)
    ·rcases h0 with h|h
     ·exact .inl h
     ·rcases List.mem_append.mp h with h|h
      ·exact .inr h
      ·rw[List.mem_singleton.mp h];exact .inl VN
    ·rcases cl c hc k c' g with h|h
     ·exact .inl h
     ·rcases List.mem_append.mp h with h|h
      ·exact .inr h
      ·rw[List.mem_singleton.mp h];exact .inl VN
   ·have hxf:=hx.fit w Tv;have nd':(F++[x]).Nodup:=by
     rw[List.nodup_append];exact⟨nd,by simp,λa ha b hb=>by rw[List.mem_singleton.mp hb];exact λz=>VN (z▸ha)⟩
    have zaI:=bound (F++[x]) nd' (λc hc=>by
     rcases List.mem_append.mp hc with h|h
     ·exact ZK c h
     ·rw[List.mem_singleton.mp h];exact hxf)
    rw[Qh,Ix]at zaI;have sl:=mP r x r.ms.zipIdx;rw[yp]at sl;rw[bu VN,al (show(!false)=true from rfl),CH w hxf.1 (by lia),b_,kR (vS r) VN (by lia),g_,b_,wR (vS r) (gh _ (List.mem_singleton.mpr rfl)),g_,b_,show dQ (vS r x)=some ((ci r x r.ms.zipIdx).map ld)from rfl,g_,b_,Ip,b_,D6 (by rw[L_,L_];lia),b_,Jl _ _ (by rw[L_,L_,L_];lia),g_,b_,<-ib];refine uq Tv B hB bound fuel (F++[x]) (L'++(ci r x r.ms.zipIdx).map (·.2)) nd' (λc hc=>?_) (λc hc=>?_) ?_ (λc hc k c' g=>?_) ?_ ?_
    ·rcases List.mem_append.mp hc with h|h
     ·exact rF c h
     ·rw[List.mem_singleton.mp h];exact hx
    ·rcases List.mem_append.mp hc with h|h
     ·exact rL c (by simp[h])
     ·obtain⟨p,hp,rfl⟩:=List.mem_map.mp h;exact .step hx (Pk.mp hp)
    ·rcases h0 with h|h
     ·exact .inl (pd _ h)
     ·rcases List.mem_append.mp h with h|h
      ·exact .inr (pd _ h)
      ·exact .inl (gh _ h)
    ·rcases List.mem_append.mp hc with h|h
     ·rcases cl c h k c' g with h|h
      ·exact .inl (pd _ h)
      ·rcases List.mem_append.mp h with h|h
       ·exact .inr (pd _ h)
       ·exact .inl (gh _ h)
     ·rw[List.mem_singleton.mp h]at g;exact .inr (gh _ (List.mem_map.mpr ⟨(k,c'),Pk.mpr g,rfl⟩))
    ·rw[Qh,Qh,L_,Ix];have:31*(B - F.length)=31*(B - (F.length+1))+31:=by
      have:B - F.length=(B - (F.length+1))+1:=by lia
      rw[this,Nat.mul_add]
     lia
    ·lia
theorem JN{c0:List Nat}(Tv:c0.length=r.n)(B:Nat)(hB:B<=200)(bound:∀F:List (List Nat),F.Nodup->(∀c∈F,c.length=r.n/\c.sum=c0.sum)->F.length<=B) :
  ∃F:List (List Nat),F.Nodup/\(∀c,c∈F↔Su r c0 c)/\F.length<=B/\eV r.d (cT c0)=.ret (.dict (F.map (kE (vS r)))):=by
 obtain⟨F,h1,h2,h3⟩:=uq w hm Tv B hB bound 10000 [] [c0] Ng (λc hc=>(nomatch hc)) (λc hc=>by rw[List.mem_singleton.mp hc];exact .refl) (.inr (List.mem_singleton.mpr rfl)) (λc hc=>(nomatch hc)) (by simp;lia) (ai _);refine⟨F,h1,h2,bound F h1 (λc hc=>((h2 c).mp hc).fit w Tv),?_⟩;unfold eV;rw[hZ];exact h3
end
def HB{S:Type}(a b c d:D)(k:D->D->D->D->M S):X7 (.tuple [a,b,c,d]) k=k a b c d:=id rfl
def JD{q c:D}(h:cF r.d q c (iN n)=.exc iI):eU (.tuple [r.d,q,c,iN n])=.exc iI:=by
 unfold eU;rw[HB,h];rfl
def IN(m:M D)(h:m=.exc iI):(EW (A:=D×Unit) (B:=Unit) (X8 (λe_=>.ret (.inr (e_,(())))) m λx1=>.ret (.inl ((.bool false),()))) (λs4=>cR s4.1) (λe2 s3=>tf ["TooMany"] e2.cls (X8 (λ_=>.bad) (bd (oM (gm [("TooMany",false)] (mC e2))) λb5=>.ret (.bool b5)) λx6=>X8 (λ_=>.bad) (bd (bd (oM (gm [("TooMany",true)] (mC e2))) λb9=>if b9 then bd (oM (gm [("TooMany",true)] (mC e2))) λb8=>if b8 then bd (oM (ki x6)) λb7=>.ret (!b7)else .ret false else .ret false) λTd=>.ret (.bool Td)) λPN=>cR PN)))=(.ret (.bool true):M D):=by
 subst h;kernel_rfl
def yb{q c:D}(h:cF r.d q c (iN n)=.exc iI):dG (WH "_law_ask") (.tuple [r.d,q,c,iN n])=.ret (.bool true):=by
 unfold dG;rw[show ID (WH "_law_ask") "_law_ask" (eU (.tuple [r.d,q,c,iN n]))=eU (.tuple [r.d,q,c,iN n])from by unfold ID;rw[show ZJ (WH "_law_ask") "_law_ask" = true from by decide +kernel]];exact IN _ (JD h)
inductive Qs where
 | least (s:List Nat) (n:Nat)
 | more (a b:List Nat)
 | rest (s:List Nat) (m r:Nat)
 | neg (q:Qs)
 | two (w:Bool) (p q:Qs)
def Qs.d:Qs->D
 | .least s n=>.tuple [.str "least",.tuple (s.map iN),iN n]
 | .more a b=>.tuple [.str "more",.tuple (a.map iN),.tuple (b.map iN)]
 | .rest s m r=>.tuple [.str "rest",.tuple (s.map iN),iN m,iN r]
 | .neg q=>.tuple [.str "not",q.d]
 | .two w p q=>.tuple [.str (if w then "both" else "either"),p.d,q.d]
def QN(k:Nat)(s:List Nat):Prop:=s.length<=4/\∀x∈s,x<k
def Qs.ok(k:Nat):Nat->Qs->Prop
 | _,.least s n=>QN k s/\1<=n/\n<=4
 | _,.more a b=>QN k a/\QN k b/\∀x∈a,x∉b
 | _,.rest s m r=>QN k s/\2<=m/\m<=4/\r<m
 | i+1,.neg q=>q.ok k i
 | i+1,.two _ p q=>p.ok k i/\q.ok k i
 | 0,_=>False
def Qs.ok.up{k:Nat}:∀{i:Nat} {q:Qs},q.ok k i->q.ok k (i+1)
 | i,.least _ _,h=>by cases i<;>exact h
 | i,.more _ _,h=>by cases i<;>exact h
 | i,.rest _ _ _,h=>by cases i<;>exact h
 | i+1,.neg q,h=>Qs.ok.up (i:=i) (q:=q) h
 | i+1,.two _ p q,h=>⟨Qs.ok.up (i:=i) (q:=p) h.1,Qs.ok.up (i:=i) (q:=q) h.2⟩
 | 0,.neg _,h=>h.elim
 | 0,.two _ _ _,h=>h.elim
def Ak(x:Nat)(l:List Nat):cf (iN x) (.tuple (l.map iN))=some (decide (x∈l))/\bE (iN x) (.tuple (l.map iN))=some (!decide (x∈l)):=by
 have hi:km (iN x) (l.map iN)=true:=by
  unfold km;rw[qG l];rfl
 have e:((l.map iN).any λy=>PyData.eqv y (iN x))=decide (x∈l):=by
  rw[wS,List.any_eq_true,OB];constructor
  ·rintro⟨d,hd,h⟩;obtain⟨y,hy,rfl⟩:=List.mem_map.mp hd;have:((y:Int)==(x:Int))=true:=h;rw[Aa,OB]at this;exact this▸hy
  ·intro h;refine⟨iN x,List.mem_map.mpr ⟨x,h,rfl⟩,?_⟩;show((x:Int)==(x:Int))=true;simp
 constructor
 ·rw[Lr,show wm (iN x) (.tuple (l.map iN))=if km (iN x) (l.map iN)then some ((l.map iN).any λy=>PyData.eqv y (iN x))else none from rfl,al hi,e]
 ·rw[Dw,show gH (iN x) (.tuple (l.map iN))=if km (iN x) (l.map iN)then some (!((l.map iN).any λy=>PyData.eqv y (iN x)))else none from rfl,al hi,e]
def X9{S:Type}(s:S):Wo (M.ret s)=.ret s:=id rfl
theorem CI{k:Nat}{f:List D}(hf:Fd T f)(hT:T<=900000)(hk:1<=k)(Xw:k<=4):∃(s:List Nat) (f':List D),d9 f (iN k)=.ret (.tuple (s.map iN),f')/\QN k s/\Fd (T+10) f':=by
 unfold d9;rw[cX k (by lia),g_,b_];have step:∀(l:List Nat) (i:Nat) (f:List D),(∀x∈l,x<k)->l.length+i<=4->Fd (T+i) f->∃(s:List Nat) (f':List D),d0 (λ(s2:List D×D×Unit) d3=>bd (az s2.1 (.int 2)) λr4=>bd (oM (aZ r4.1 (.int 0))) λb5=>if b5 then M.ret (some d3,(r4.2,s2.2.1,()))else .ret (none,(r4.2,s2.2.1,()))) (l.map iN) (f,iN k,())=.ret (s.map iN,(f',iN k,()))/\s.length<=l.length/\(∀x∈s,x∈l)/\Fd (T+4) f':=by
  intro l
  induction l with
  | nil=>exact λi f _ h hf=>⟨[],f,rfl,ai _,λ_ h=>h,hf.le (by simp at h;lia)⟩
  | cons a l ih =>
   intro i f hl h hf;rw[gs]at h;obtain⟨x,f1,e1,hx,P7⟩:=bM (m:=2) hf (by lia) (by lia) (by lia);have e1':az f (.int 2)=.ret (iN x,f1):=e1;obtain⟨s,f',e2,h1,h2,h3⟩:=ih (i+1) f1 (λx hx=>hl x (QC _ hx)) (by lia) P7;rw[aw,d0];dsimp only;rw[e1',b_];dsimp only;rw[show aZ (iN x) (.int 0)=some (decide (x=0))from Ta x 0,g_,b_];by_cases hx0:x=0
   ·rw[cr hx0,al rfl,X9,b_];dsimp only;rw[e2,b_];exact⟨a::s,f',rfl,by simp;lia,λy hy=>(List.mem_cons.mp hy).elim (λe=>e▸du) λq=>QC _ (h2 y q),h3⟩
   ·rw[bu hx0,ar (by decide),X9,b_];dsimp only;rw[e2,b_];exact⟨s,f',rfl,by simp;lia,λy hy=>QC _ (h2 y hy),h3⟩
 obtain⟨s,f1,e,h1,h2,h3⟩:=step (List.range k) 0 f (λx hx=>List.mem_range.mp hx) (by simp;lia) hf;rw[ur]at h1;rw[e,b_];dsimp only;rw[bX (by rw[L_];lia),b_,oD,g_,b_,show dO (.tuple (s.map iN)) (.tuple [])=_ from neT s [],g_,b_];by_cases hs:s=[]
 ·subst hs;obtain⟨x,f2,e2,hx,Qj⟩:=bM (m:=k) h3 (by lia) (by lia) (by lia);rw[ar (by simp)];rw[show az f1 (iN k)=_ from e2,b_];exact⟨[x],f2,rfl,⟨by simp,λy hy=>by simp at hy;lia⟩,Qj.le (by lia)⟩
 ·rw[al (by simp[hs])];exact⟨s,f1,rfl,⟨by lia,λx hx=>List.mem_range.mp (h2 x hx)⟩,h3.le (by lia)⟩
theorem gtN(a b:Nat):dX (iN a) (iN b)=some (decide (b<a)):=(L4.Wu _ _).trans (congrArg some (decide_eq_decide.mpr (by lia)))
theorem zA{k:Nat}{f:List D}{m:M (D×List D)}(hf:Fd T f)(hT:T<=890000)(hk:1<=k)(Xw:k<=4)(hm:m=(bd (d9 f (iN k)) λRO=>bd (bd (oM (cY (iN x) (.int 3))) λPM=>oM (aZ PM (.int 0))) λV7=>if V7 then
  bd (az RO.2 (.int 4)) λYX=>bd (oM (bn (.int 1) YX.1)) λQi=>.ret ((.tuple [(.str "least"),RO.1,Qi]),YX.2)
  else
  bd (bd (oM (cY (iN x) (.int 3))) λR0=>oM (aZ R0 (.int 1))) λXZ=>if XZ then
  bd (bd (bd (oM (bx [iN k])) λVy=>bd (aV (λWK=>bd (oM (bE WK RO.1)) λZV=>if ZV then .ret (some WK)else .ret none) Vy) cA) λSV=>.ret (PyData.list SV)) λUk=>bd (az RO.2 (.int 2)) λYV=>bd (oM (mB Uk YV.1)) λRb=>bd (oM (cj [Rb])) λSG=>.ret ((.tuple [(.str "more"),RO.1,SG]),YV.2)
  else
  bd (az RO.2 (.int 3)) λWm=>bd (oM (bn (.int 2) Wm.1)) λUS=>bd (az Wm.2 US) λVq=>.ret ((.tuple [(.str "rest"),RO.1,US,Vq.1]),Vq.2))) :
  ∃(q:Qs) (f':List D),m=.ret (q.d,f')/\q.ok k 0/\Fd (T+19) f':=by
 obtain⟨s,f1,e1,hs,P7⟩:=CI hf (by lia) hk Xw;have md:cY (iN x) (.int 3)=some (iN (x % 3)):=DD x 3 (by lia);rw[hm,e1,b_];dsimp only;rw[md,g_,b_,show aZ (iN (x % 3)) (.int 0)=_ from Ta _ 0,g_,b_];by_cases h0:x % 3=0
 ·obtain⟨n,f2,e2,hn,Qj⟩:=bM (m:=4) P7 (by lia) (by lia) (by lia);rw[cr h0,al rfl,show az f1 (.int 4)=_ from e2,b_];dsimp only;rw[xL,g_,b_];exact⟨.least s (n+1),f2,rfl,⟨hs,by lia,by lia⟩,Qj.le (by lia)⟩
 ·rw[bu h0,ar (by decide),b_,show aZ (iN (x % 3)) (.int 1)=_ from Ta _ 1,g_,b_];by_cases h1:x % 3=1
  ·obtain⟨n,f2,e2,hn,Qj⟩:=bM (m:=2) P7 (by lia) (by lia) (by lia);have cm:aV (λWK=>bd (oM (bE WK (.tuple (s.map iN)))) λZV=>if ZV then M.ret (some WK)else .ret none) ((List.range k).map iN)=.ret (((List.range k).filter λy=>!decide (y∈s)).map iN):=by
    rw[fw (e:=iN) (g:=λy=>if(!decide (y∈s))=true then some (iN y)else none) (List.range k) λy _=>by
     rw[(Ak y s).2,g_,b_]
     cases (!decide (y∈s))<;>rfl]
    refine congrArg M.ret ?_
    induction (List.range k)with
    | nil=>rfl
    | cons a l ih =>
     rw[ny,xv,ih]
     cases (!decide (a∈s))<;>rfl
   rw[cr h1,al rfl,cX k (by lia),g_,b_,cm,b_];generalize ho:(List.range k).filter (λy=>!decide (y∈s))=o;have ol:o.length<=k:=by rw[<-ho];exact di (tu _ _) (by simp)
   have om:∀y∈o,y<k/\y∉s:=λy hy=>by
    rw[<-ho,List.mem_filter,List.mem_range]at hy;exact⟨hy.1,by simpa using hy.2⟩
   rw[bX (by rw[L_];lia),b_,b_,show az f1 (.int 2)=_ from e2,b_];dsimp only;rw[show mB (.list (o.map iN)) (iN n)=some (.list (L4.cutD (o.map iN) (some (n:Int)) none))from rfl,g_,b_,Em,<-List.map_drop,oD,g_,b_];refine⟨.more s (o.drop n),f2,rfl,⟨hs,⟨by rw[ul];lia,λy hy=>(om y (List.mem_of_mem_drop hy)).1⟩,λy hy h=>(om y (List.mem_of_mem_drop h)).2 hy⟩,Qj.le (by lia)⟩
  ·obtain⟨n,f2,e2,hn,Qj⟩:=bM (m:=3) P7 (by lia) (by lia) (by lia);obtain⟨y,f3,e3,hy,SD⟩:=bM (m:=2+n) Qj (by lia) (by lia) (by lia);rw[bu h1,ar (by decide),show az f1 (.int 3)=_ from e2,b_];dsimp only;rw[show bn (.int 2) (iN n)=_ from Cb 2 n,g_,b_,show az f2 (iN (2+n))=_ from e3,b_];exact⟨.rest s (2+n) y,f3,rfl,⟨hs,by lia,by lia,hy⟩,SD.le (by lia)⟩
def Qs.ok0{k:Nat}{q:Qs}(h:q.ok k 0):∀i,q.ok k i
 | 0=>h
 | i+1=>(Qs.ok0 h i).up
theorem fc{k:Nat}(hk:1<=k)(Xw:k<=4):∀(i n T:Nat) (f:List D),i<n->Fd T f->T+20*3^i<=890000->∃(q:Qs) (f':List D),bH n f (iN k) (iN i)=.ret (q.d,f')/\q.ok k i/\Fd (T+20*3^i) f'
 | i,0,_,_,h,_,_=>by lia
 | 0,n+1,T,f,_,hf,hT=>by
  obtain⟨x,f1,e1,hx,P7⟩:=bM (m:=6) hf (by lia) (by lia) (by lia);show ∃q f',cy _ f (iN k) (iN 0)=_/\_;unfold cy;rw[show az f (.int 6)=_ from e1,b_];dsimp only;rw[show dX (iN x) (.int 2)=_ from gtN x 2,show dX (iN 0) (.int 0)=some false from rfl,g_,b_,g_,ite_self,b_,ar (by decide)];obtain⟨q,f',e,h1,h2⟩:=zA (x:=x) P7 (by lia) hk Xw rfl;exact⟨q,f',e,h1,h2.le (by lia)⟩
 | i+1,n+1,T,f,VN,hf,hT=>by
  rw[Nat.pow_succ]at hT ⊢;have p1:1<=3^i:=Nat.one_le_pow _ _ (by decide);obtain⟨x,f1,e1,hx,P7⟩:=bM (m:=6) hf (by lia) (by lia) (by lia);show ∃q f',cy _ f (iN k) (iN (i+1))=_/\_;unfold cy;rw[show az f (.int 6)=_ from e1,b_];dsimp only;rw[show dX (iN x) (.int 2)=_ from gtN x 2,show dX (iN (i+1)) (.int 0)=some true from(gtN (i+1) 0).trans (by simp),g_,b_,g_];by_cases h2:2<x
  ·obtain⟨q,f2,e2,hq,Qj⟩:=fc hk Xw i n (T+1) f1 (by lia) P7 (by lia);rw[al (by simpa using h2),b_,al rfl,show gG (iN (i+1)) (.int 1)=_ from CD _ (by lia),g_,b_,show i+1 - 1=i by lia,e2,b_];dsimp only;rw[show aZ (iN x) (.int 3)=_ from Ta x 3,g_,b_];by_cases h3:x=3
   ·rw[cr h3,al rfl];exact⟨.neg q,f2,rfl,hq,Qj.le (by lia)⟩
   ·obtain⟨q',f3,e3,hq',SD⟩:=fc hk Xw i n _ f2 (by lia) Qj (by lia);rw[bu h3,ar (by decide),show gG (iN x) (.int 4)=_ from L9 x 4 (by lia),g_,b_];have ix:aH (.list [.str "both",.str "either"]) (iN (x - 4))=some (.str (if(x==4)then "both" else "either")):=by
     rcases(by lia:x=4\/x=5)with rfl|rfl<;>rfl
    rw[ix,g_,b_,b_,e3,b_];exact⟨.two (x==4) q q',f3,rfl,⟨hq,hq'⟩,SD.le (by lia)⟩
  ·rw[ar (by simpa using h2),b_,ar (by decide)];obtain⟨q,f',e,h1,h2⟩:=zA (x:=x) P7 (by lia) hk Xw rfl;exact⟨q,f',e,Qs.ok0 h1 _,h2.le (by lia)⟩
theorem sM(s:List Nat)(k:Nat)(hk:k<=4):(bd (bd (bd (oM (bx [iN k])) λSV=>bd (aV (λV4=>bd (bd (bd (oM (cf V4 (.tuple (s.map iN)))) λUR=>.ret (.bool UR)) λQW=>oM (mz [QW])) λRx=>M.ret (some Rx)) SV) cA) λVx=>M.ret (PyData.list Vx)) λRL=>oM (cj [RL]))=.ret (.tuple (((List.range k).map λx=>if x∈s then 1 else 0).map iN)):=by
 have cm:aV (λV4=>bd (bd (bd (oM (cf V4 (.tuple (s.map iN)))) λUR=>.ret (.bool UR)) λQW=>oM (mz [QW])) λRx=>M.ret (some Rx)) ((List.range k).map iN)=.ret (((List.range k).map λx=>if x∈s then 1 else 0).map iN):=by
  rw[dI (e:=iN) (g:=λx=>iN (if x∈s then 1 else 0)) (List.range k) λy _=>by
   rw[(Ak y s).1,g_,b_,b_];by_cases h:y∈s
   ·rw[cr h,al h];rfl
   ·rw[bu h,ar h];rfl,ic]
  rfl
 rw[cX k (by lia),g_,b_,cm,b_,bX (by simp;lia),b_,b_,oD,g_]
def fF:Qs->List Mt
 | .least _ 1=>[(0,1,1,1)]
 | .least _ 2=>[(0,2,2,2),(1,1,2,2),(1,2,2,2)]
 | .least _ 3=>[(0,3,3,3),(1,1,0,2),(1,2,3,3),(1,3,3,3),(2,2,3,3),(2,3,3,3)]
 | .rest _ 2 0=>[(0,0,0,3),(0,1,1,2),(0,2,0,3),(1,1,0,3),(1,3,1,2)]
 | .rest _ 2 1=>[(0,0,0,2),(0,1,1,3),(0,3,0,2),(1,1,0,2),(1,2,1,3)]
 | .rest _ 3 0=>[(0,0,0,4),(0,1,1,3),(0,2,2,3),(0,3,0,4),(1,1,2,3),(1,2,0,4),(1,4,1,3),(2,2,1,3),(2,4,2,3)]
 | .rest _ 3 1=>[(0,0,0,3),(0,1,1,4),(0,2,2,3),(0,4,0,3),(1,1,2,3),(1,2,0,3),(1,3,1,4),(2,2,1,4),(2,4,2,3)]
 | .rest _ 3 _=>[(0,0,0,3),(0,1,1,3),(0,2,2,4),(0,4,0,3),(1,1,2,4),(1,2,0,3),(1,4,1,3),(2,2,1,3),(2,3,2,4)]
 | _=>[(0,1,2,3),(0,3,0,2),(1,2,1,3),(2,3,3,3)]
def made(q:Qs)(k:Nat):Rl:=match q with
 | .least s n=>⟨n+1,(List.range k).map λx=>if x∈s then 1 else 0,fF q,(List.range (n+1)).map λx=>decide (x=n)⟩
 | .rest s m r=>⟨m+2,(List.range k).map λx=>if x∈s then 1 else 0,fF q,(List.range (m+2)).map λx=>decide (x=r)||decide (x=m+1)⟩
 | .more a b=>⟨4,(List.range k).map λx=>if x∈a then 0 else if x∈b then 1 else 3,fF q,[true,false,true,false]⟩
 | _=>⟨1,[],[],[true]⟩
def Z3(k:Nat):Qs->Prop
 | .least s n=>QN k s/\1<=n/\n<=3
 | .more a b=>QN k a/\QN k b/\∀x∈a,x∉b
 | .rest s m r=>QN k s/\2<=m/\m<=3/\r<m
 | _=>False
set_option maxHeartbeats 4000000 in
theorem FP{k:Nat}(hk:k<=4){q:Qs}(h:Z3 k q):dM (iN k) q.d=.ret (made q k).d:=by
 cases q with
 | neg q=>exact h.elim
 | two w p q=>exact h.elim
 | more a b =>
  have cm:aV (λd5=>bd (bd (oM (cf d5 (.tuple (a.map iN)))) λTd=>if Td then .ret (.int 0)else bd (bd (bd (bd (oM (bE d5 (.tuple (b.map iN)))) λb6=>.ret (.bool b6)) λx7=>oM (mz [x7])) λx8=>oM (dW (.int 2) x8)) λx9=>oM (bn (.int 1) x9)) λPN=>M.ret (some PN)) ((List.range k).map iN)=.ret (((List.range k).map λx=>if x∈a then 0 else if x∈b then 1 else 3).map iN):=by
   rw[dI (e:=iN) (g:=λx=>iN (if x∈a then 0 else if x∈b then 1 else 3)) (List.range k) λy _=>by
    rw[(Ak y a).1,(Ak y b).2,g_,b_];by_cases h:y∈a
    ·rw[cr h,al h];rfl
    ·rw[bu h,ar h];by_cases h':y∈b
     ·rw[cr h',al h'];rfl
     ·rw[bu h',ar h'];rfl,ic]
   rfl
  unfold dM Qs.d;rw[aT,fH,g_,b_,aT,dZ,g_,b_,show aZ (.str "more") (.str "more")=some true from by decide +kernel,g_,b_,al rfl,aT,lg,g_,b_,cX k (by lia),g_,b_,cm,b_,bX (by simp;lia),b_,b_,oD,g_,b_,b_];rfl
 | least s n =>
  unfold dM Qs.d;rw[aT,fH,g_,b_,aT,dZ,g_,b_,show aZ (.str "least") (.str "more")=some false from by decide +kernel,g_,b_,ar (by decide),sM s k hk,b_,b_,show aZ (.str "least") (.str "least")=some true from by decide +kernel,g_,b_,al rfl,aT,lg,g_,b_];simp only[made];generalize (PyData.tuple (((List.range k).map λx=>if x∈s then 1 else 0).map iN))=S;rcases(by have:=h.2;lia:n=1\/n=2\/n=3)with rfl|rfl|rfl
  ·simp only[eh,cg];kernel_rfl
  ·simp only[eh,cg];kernel_rfl
  ·simp only[eh,cg];kernel_rfl
 | rest s m r =>
  unfold dM Qs.d;rw[aT,fH,g_,b_,aT,dZ,g_,b_,show aZ (.str "rest") (.str "more")=some false from by decide +kernel,g_,b_,ar (by decide),sM s k hk,b_,b_,show aZ (.str "rest") (.str "least")=some false from by decide +kernel,g_,b_,ar (by decide),Hv,b_,Eo,g_,b_];simp only[made];generalize (PyData.tuple (((List.range k).map λx=>if x∈s then 1 else 0).map iN))=S;generalize (PyData.tuple (s.map iN))=S';rcases(by have:=h.2;lia:m=2/\r=0\/m=2/\r=1\/m=3/\r=0\/m=3/\r=1\/m=3/\r=2)with ⟨rfl,rfl⟩|⟨rfl,rfl⟩|⟨rfl,rfl⟩|⟨rfl,rfl⟩|⟨rfl,rfl⟩
  ·simp only[cH,cg];kernel_rfl
  ·simp only[cH,cg];kernel_rfl
  ·simp only[cH,cg];kernel_rfl
  ·simp only[cH,cg];kernel_rfl
  ·simp only[cH,cg];kernel_rfl
def mtB(n:Nat)(m:Mt):Bool:=decide (m.1<=m.2.1)&&decide (m.2.1<n)&&decide (m.2.2.1<n)&&decide (m.2.2.2<n)&&decide (m.2.2≠(m.1,m.2.1))&&decide (m.2.2≠(m.2.1,m.1))
def KU(m m':Mt):Bool:=decide (m.1<m'.1)||decide (m.1=m'.1)&&decide (m.2.1<m'.2.1)
def msB(n:Nat):List Mt->Bool
 | []=>true
 | m::l=>mtB n m&&l.all (KU m)&&msB n l
def kr{n:Nat}:∀{l:List Mt},msB n l=true->(∀m∈l,QO n m)/\l.Pairwise λm m'=>W_ (m.1,m.2.1) (m'.1,m'.2.1)
 | [],_=>⟨λ_ h=>(nomatch h),.nil⟩
 | m::l,h=>by
  rw[msB,am,am,xz]at h;obtain⟨h1,h2⟩:=kr h.2;refine⟨λx hx=>?_,.cons (λx hx=>?_) h2⟩
  ·rcases List.mem_cons.mp hx with rfl|hx
   ·have:=h.1.1;simp only[mtB,am,OB]at this;exact⟨this.1.1.1.1.1,this.1.1.1.1.2,this.1.1.1.2,this.1.1.2,this.1.2,this.2⟩
   ·exact h1 x hx
  ·have:=h.1.2 x hx;simp only[KU,ua,am,OB]at this;exact this
theorem FO{k:Nat}{q:Qs}(h:Z3 k q):Wf (made q k)/\(made q k).n<=5/\(made q k).st.length=k/\(made q k).ms.length<=9:=by
 cases q with
 | neg q=>exact h.elim
 | two w p q=>exact h.elim
 | more a b =>
  obtain⟨m1,m2⟩:=kr (n:=4) (l:=fF (.more a b)) (by kernel_rfl);refine⟨⟨(by decide:1<=4),λs hs=>?_,rfl,m1,m2⟩,(by decide:4<=5),by simp[made],(by decide:4<=9)⟩;obtain⟨x,_,rfl⟩:=List.mem_map.mp hs;show _<4;split
  ·lia
  ·split<;>lia
 | least s n =>
  have st:∀x∈(made (.least s n) k).st,x<(made (.least s n) k).n:=λx hx=>by
   obtain⟨y,_,rfl⟩:=List.mem_map.mp hx;have:=h.2.1;show _<n+1;split<;>lia
  have sl:(made (.least s n) k).st.length=k:=by simp[made]
  have sy:(made (.least s n) k).sy.length=(made (.least s n) k).n:=by simp[made]
  rcases(by have:=h.2;lia:n=1\/n=2\/n=3)with rfl|rfl|rfl
  ·obtain⟨m1,m2⟩:=kr (n:=2) (l:=fF (.least s 1)) (by kernel_rfl);exact⟨⟨(by decide:1<=2),st,sy,m1,m2⟩,(by decide:2<=5),sl,(by decide:1<=9)⟩
  ·obtain⟨m1,m2⟩:=kr (n:=3) (l:=fF (.least s 2)) (by kernel_rfl);exact⟨⟨(by decide:1<=3),st,sy,m1,m2⟩,(by decide:3<=5),sl,(by decide:3<=9)⟩
  ·obtain⟨m1,m2⟩:=kr (n:=4) (l:=fF (.least s 3)) (by kernel_rfl);exact⟨⟨(by decide:1<=4),st,sy,m1,m2⟩,(by decide:4<=5),sl,(by decide:6<=9)⟩
 | rest s m r =>
  have st:∀x∈(made (.rest s m r) k).st,x<(made (.rest s m r) k).n:=λx hx=>by
   obtain⟨y,_,rfl⟩:=List.mem_map.mp hx;have:=h.2.1;show _<m+2;split<;>lia
  have sl:(made (.rest s m r) k).st.length=k:=by simp[made]
  have sy:(made (.rest s m r) k).sy.length=(made (.rest s m r) k).n:=by simp[made]
  rcases(by have:=h.2;lia:m=2/\r=0\/m=2/\r=1\/m=3/\r=0\/m=3/\r=1\/m=3/\r=2)with ⟨rfl,rfl⟩|⟨rfl,rfl⟩|⟨rfl,rfl⟩|⟨rfl,rfl⟩|⟨rfl,rfl⟩
  ·obtain⟨m1,m2⟩:=kr (n:=4) (l:=fF (.rest s 2 0)) (by kernel_rfl);exact⟨⟨(by decide:1<=4),st,sy,m1,m2⟩,(by decide:4<=5),sl,(by decide:5<=9)⟩
  ·obtain⟨m1,m2⟩:=kr (n:=4) (l:=fF (.rest s 2 1)) (by kernel_rfl);exact⟨⟨(by decide:1<=4),st,sy,m1,m2⟩,(by decide:4<=5),sl,(by decide:5<=9)⟩
  ·obtain⟨m1,m2⟩:=kr (n:=5) (l:=fF (.rest s 3 0)) (by kernel_rfl);exact⟨⟨(by decide:1<=5),st,sy,m1,m2⟩,(by decide:5<=5),sl,(by decide:9<=9)⟩
  ·obtain⟨m1,m2⟩:=kr (n:=5) (l:=fF (.rest s 3 1)) (by kernel_rfl);exact⟨⟨(by decide:1<=5),st,sy,m1,m2⟩,(by decide:5<=5),sl,(by decide:9<=9)⟩
  ·obtain⟨m1,m2⟩:=kr (n:=5) (l:=fF (.rest s 3 2)) (by kernel_rfl);exact⟨⟨(by decide:1<=5),st,sy,m1,m2⟩,(by decide:5<=5),sl,(by decide:9<=9)⟩
def Az(e:ι->D)(l:List ι)(n:Nat):L4.cutD (l.map e) none (some (n:Int))=(l.take n).map e:=by rw[Jt,List.map_take]
def u4(e:ι->D)(l:List ι)(n:Nat):L4.cutD (l.map e) (some (n:Int)) none=(l.drop n).map e:=by rw[Em,List.map_drop]
theorem Gy{f:List D}(hf:Fd T f)(hT:T<=890000)(w:Wf r)(hn:r.n<=40)(hs:1<=r.st.length/\r.st.length<=4)(hm:r.ms.length<=900) :
  ∃(r':Rl) (f':List D),dw f r.d=.ret (r'.d,f')/\Wf r'/\r'.n=r.n/\r'.st.length=r.st.length/\r'.ms.length<=r.ms.length/\Fd (T+3) f':=by
 have n1:=w.n1;obtain⟨way,f1,e1,hw,P7⟩:=bM (m:=4) hf (by lia) (by lia) (by lia);obtain⟨x,f2,e2,hx,Qj⟩:=bM (m:=max 1 r.ms.length) P7 (by lia) (by lia) (by lia);have mx:qQ [.int 1,.int (r.ms.length:Int)]=some (.int ((max 1 r.ms.length:Nat):Int)):=by
  have:qQ [.int 1,.int (r.ms.length:Int)]=some (.int (if(r.ms.length:Int)>1 then(r.ms.length:Int)else 1)):=rfl;rw[this];congr 2;split<;>lia
 unfold dw;rw[show X7 r.d (S:=D×List D)=λk=>k (iN r.n) (.tuple (r.st.map iN)) (.tuple (r.ms.map mD)) (.tuple (r.sy.map PyData.bool))from id rfl];dsimp only;rw[show az f (.int 4)=_ from e1,b_];dsimp only;rw[Lh,L_,g_,b_,mx,g_,b_,e2,b_];dsimp only;rw[show aZ (iN way) (.int 0)=_ from Ta way 0,g_,b_];by_cases h0:way=0
 ·rw[cr h0,al rfl,show QG (iN x)=M.ret (some (x:Int))from rfl,b_,Eo,g_,b_,Az,show bn (iN x) (.int 1)=_ from Cb x 1,g_,b_,show QG (iN (x+1))=M.ret (some ((x+1:Nat):Int))from rfl,b_,Eo,g_,b_,u4,GK _ _ (by simp;lia),g_,b_,b_,<-ib];have sub:(r.ms.take x++r.ms.drop (x+1)).Sublist r.ms:=by
   conv=>rhs;rw[<-List.take_append_drop x r.ms]
   exact(List.Sublist.refl _).append (by rw[<-List.drop_drop];exact List.drop_sublist 1 _)
  exact⟨⟨r.n,r.st,r.ms.take x++r.ms.drop (x+1),r.sy⟩,f2,rfl,⟨n1,w.st,w.sy,λm hm=>w.ms m (sub.subset hm),w.so.sublist sub⟩,rfl,rfl,sub.length_le,Qj.le (by lia)⟩
 ·obtain⟨y,f3,e3,hy,SD⟩:=bM (m:=r.n) Qj (by lia) (by lia) (by lia);rw[bu h0,ar (by decide),show az f2 (iN r.n)=_ from e3,b_];dsimp only;rw[show aZ (iN way) (.int 1)=_ from Ta way 1,g_,b_];by_cases h1:way=1
  ·have hyl:y<r.sy.length:=by rw[w.sy];exact hy
   rw[cr h1,al rfl,show QG (iN y)=M.ret (some (y:Int))from rfl,b_,Eo,g_,b_,Az,aT,show dC (.tuple (r.sy.map PyData.bool)) (iN y)=_ from tL PyData.bool r.sy y hyl,g_,b_,J7,g_,b_,b_,b_,b_,GK _ _ (by have:=w.sy;simp;lia),g_,b_,show bn (iN y) (.int 1)=_ from Cb y 1,g_,b_,show QG (iN (y+1))=M.ret (some ((y+1:Nat):Int))from rfl,b_,Eo,g_,b_,u4,GK _ _ (by have:=w.sy;simp;lia),g_,b_,b_];refine⟨⟨r.n,r.st,r.ms,r.sy.take y++[!r.sy[y]]++r.sy.drop (y+1)⟩,f3,?_,⟨n1,w.st,?_,w.ms,w.so⟩,rfl,rfl,ai _,SD.le (by lia)⟩
   ·simp only[Rl.d,ib,aw,N3]
   ·have:=w.sy;simp;lia
  ·rw[bu h1,ar (by decide),show aZ (iN way) (.int 2)=_ from Ta way 2,g_,b_];by_cases h2:way=2
   ·rw[cr h2,al rfl,Hv,b_,show fJ (.tuple (r.st.map iN)) (some 1) none=some (.tuple (L4.cutD (r.st.map iN) (some ((1:Nat):Int)) none))from rfl,g_,b_,u4,GK _ _ (by simp;lia),g_,b_,b_];refine⟨⟨r.n,y::r.st.drop 1,r.ms,r.sy⟩,f3,rfl,⟨n1,λs hs=>?_,w.sy,w.ms,w.so⟩,rfl,?_,ai _,SD.le (by lia)⟩
    ·rcases List.mem_cons.mp hs with rfl|hs
     ·exact hy
     ·exact w.st s (List.mem_of_mem_drop hs)
    ·simp only[gs,ul];lia
   ·rw[bu h2,ar (by decide)];exact⟨r,f3,rfl,w,rfl,rfl,ai _,SD.le (by lia)⟩
theorem D7{k:Nat}{q:Qs}(h:Z3 k q):q.ok k 0:=by
 cases q with
 | neg q=>exact h.elim
 | two w p q=>exact h.elim
 | more a b=>exact h
 | least s n=>exact⟨h.1,h.2.1,by have:=h.2;lia⟩
 | rest s m r=>exact⟨h.1,h.2.1,by have:=h.2;lia,h.2.2.2⟩
def pJ(T:Nat)(m:M (D×List D)):Prop:=∃(r:Rl) (q:Qs) (f':List D),m=.ret (.tuple [r.d,q.d],f')/\Wf r/\r.n<=5/\(1<=r.st.length/\r.st.length<=4)/\r.ms.length<=30/\q.ok r.st.length 2/\Fd T f'
theorem Fz{k:Nat}{f:List D}{q:Qs}(hf:Fd T f)(hT:T<=880000)(hk:1<=k/\k<=4)(hq:Z3 k q):pJ (T+10) (df f (iN k) q.d):=by
 obtain⟨w,hn,hs,hm⟩:=FO hq;have RQ:1<=(made q k).st.length/\(made q k).st.length<=4:=by lia
 obtain⟨x,f1,e1,hx,P7⟩:=bM (m:=2) hf (by lia) (by lia) (by lia);unfold df;rw[FP hk.2 hq,b_,show az f (.int 2)=_ from e1,b_];dsimp only;rw[show aZ (iN x) (.int 0)=_ from Ta x 0,g_,b_];by_cases h0:x=0
 ·rw[cr h0,al rfl];exact⟨made q k,q,f1,rfl,w,hn,RQ,by lia,by rw[hs];exact Qs.ok0 (D7 hq) _,P7.le (by lia)⟩
 ·obtain⟨r',f2,e2,w',h1,h2,h3,Qj⟩:=Gy P7 (by lia) w (by lia) RQ (by lia);rw[bu h0,ar (by decide),e2,b_];exact⟨r',q,f2,rfl,w',by lia,by lia,by lia,by rw[h2,hs];exact Qs.ok0 (D7 hq) _,Qj.le (by lia)⟩
theorem Fy{f:List D}(hf:Fd T f)(hT:T<=800000):pJ (T+8000) (gR f (.int 5)):=by
 obtain⟨r,f1,e1,w,hn,hs,hm,P7⟩:=zG (most:=5) hf (by lia) (by lia) (by lia);have zaA:r.ms.length<=30:=by
  have h5:r.n*r.n<=5*5:=NE hn hn;lia
 obtain⟨x,f2,e2,hx,Qj⟩:=bM (m:=2) P7 (by lia) (by lia) (by lia);unfold gR;rw[show dc f (.int 5)=_ from e1,b_];dsimp only;rw[aT,fH,g_,b_,Lh,L_,g_,b_,show az f1 (.int 2)=_ from e2,b_];dsimp only;rw[show aZ (iN x) (.int 0)=_ from Ta x 0,g_,b_];generalize hk:r.st.length=k at hs;by_cases h0:x=0
 ·obtain⟨q,f3,e3,hq,SD⟩:=fc hs.1 hs.2 2 8 _ f2 (by lia) Qj (by lia);rw[cr h0,al rfl,show bH 8 f2 (.int (k:Int)) (.int 2)=_ from e3,b_];exact⟨r,q,f3,rfl,w,hn,by rw[hk];exact hs,zaA,by rw[hk];exact hq,SD.le (by lia)⟩
 ·obtain⟨q,f3,e3,hq,SD⟩:=fc hs.1 hs.2 0 8 _ f2 (by lia) Qj (by lia);rw[bu h0,ar (by decide),show bH 8 f2 (.int (k:Int)) (.int 0)=_ from e3,b_];dsimp only;have fin:∀q':Qs,Z3 k q'->pJ (T+8000) (df f3 (iN k) q'.d):=λq' h=>by
   obtain⟨r,q,f4,e,a,b,c,d,g,h⟩:=Fz SD (by lia) hs h;exact⟨r,q,f4,e,a,b,c,d,g,h.le (by lia)⟩
  have lr:aZ (.str "least") (.str "rest")=some false:=by decide +kernel
  have mr:aZ (.str "more") (.str "rest")=some false:=by decide +kernel
  have rr:aZ (.str "rest") (.str "rest")=some true:=by decide +kernel
  have ll:aZ (.str "least") (.str "least")=some true:=by decide +kernel
  have ml:aZ (.str "more") (.str "least")=some false:=by decide +kernel
  have rl:aZ (.str "rest") (.str "least")=some false:=by decide +kernel
  cases q with
  | neg q=>exact hq.elim
  | two w p q=>exact hq.elim
  | least s n =>
   unfold cG Qs.d;rw[aT,dZ,g_,b_,lr,g_,b_,ar (by decide),b_,ar (by decide),b_,ll,g_,b_,al rfl,aT,fH,g_,b_,aT,lg,g_,b_,show cY (iN n) (.int 3)=_ from DD n 3 (by lia),g_,b_,xL,g_,b_,b_];exact fin (.least s (n % 3+1)) ⟨hq.1,by lia,by lia⟩
  | more a b =>
   unfold cG Qs.d;rw[aT,dZ,g_,b_,mr,g_,b_,ar (by decide),b_,ar (by decide),b_,ml,g_,b_,ar (by decide)];exact fin (.more a b) hq
  | rest s m y =>
   have j1:∀m y:Nat,QN k s->2<=m->m<=3->y<m->pJ (T+8000) (cG f3 (iN k) (Qs.rest s m y).d):=λm y h1 h2 h3 h4=>by
    unfold cG;rw[show(Qs.rest s m y).d=.tuple [.str "rest",.tuple (s.map iN),iN m,iN y]from rfl,aT,dZ,g_,b_,rl,g_,b_,ar (by decide)];exact fin (.rest s m y) ⟨h1,h2,h3,h4⟩
   rw[show(Qs.rest s m y).d=.tuple [.str "rest",.tuple (s.map iN),iN m,iN y]from rfl,aT,dZ,g_,b_,rr,g_,b_,al rfl,aT,lg,g_,b_,show aZ (iN m) (.int 4)=_ from Ta m 4,g_,b_];by_cases h4:m=4
   ·rw[cr h4,al rfl,aT,fH,g_,b_,aT,DO,g_,b_,show cY (iN y) (.int 3)=_ from DD y 3 (by lia),g_,b_,b_];exact j1 3 (y % 3) hq.1 (by lia) (by lia) (by lia)
   ·rw[bu h4,ar (by decide)];exact j1 m y hq.1 hq.2.1 (by have:=hq.2;lia) hq.2.2.2
def sd(r:Rl)(c:List Nat):D:=sP (((List.range r.n).filter λi=>decide (0<fl c i)).map λi=>r.sy.getD i false)
def HM(r:Rl)(c:List Nat):sd r c=.str "yes" \/ sd r c=.str "both" \/ sd r c=.str "no":=by
 unfold sd sP;split
 ·exact .inl rfl
 ·split
  ·exact .inr (.inl rfl)
  ·exact .inr (.inr rfl)
theorem E7(w:Wf r)(f:Nat->Nat)(hn:r.n<=1000):nH r.d (.tuple (eG r.n f))=.ret (sP (((List.range r.n).filter λi=>decide (0<f i)).map λi=>r.sy.getD i false)):=by
 unfold nH;have ez:rN (r.sy.map PyData.bool) (eG r.n f)=(List.range r.n).map λi=>.tuple [.bool (r.sy.getD i false),iN (f i)]:=by
  unfold rN;apply Db
  ·simp[cz,w.sy]
  ·intro i h1 h2;have hi:i<r.n:=by simpa using h2
   have Sf:i<r.sy.length:=by rw[w.sy];exact hi
   have ht:(tab r.n f)[i]'(by rw[cz];exact hi)=f i:=by
    have:=ui (f:=f) hi;rw[ac (by rw[cz];exact hi)]at this;exact Option.some.inj this
   rw[List.getElem_zipWith,M2,M2,M2,List.getElem_range,ht,eg,ac Sf];rfl
 rw[aT,DO,g_,b_,Au,g_,b_,ez,fw (g:=λi=>if decide (0<f i)then some (.bool (r.sy.getD i false))else none) (List.range r.n) (by
  intro i hi;have u2:∀(k:D->D->M (Option D)),QQ (.tuple [.bool (r.sy.getD i false),iN (f i)]) k=k (.bool (r.sy.getD i false)) (iN (f i)):=λk=>id rfl
  rw[u2,Wu,g_,b_];by_cases h:0<f i
  ·rw[al (by simpa using h),al (by simpa using h)]
  ·rw[ar (by simpa using h),ar (by simpa using h)]),b_]
 have e2:((List.range r.n).filterMap λi=>if decide (0<f i)=true then some (PyData.bool (r.sy.getD i false))else none)=(((List.range r.n).filter λi=>decide (0<f i)).map λi=>r.sy.getD i false).map PyData.bool:=by
  induction List.range r.n with
  | nil=>rfl
  | cons p l ih =>
   rw[ny,xv];by_cases h:0<f p
   ·simp[h];simpa using ih
   ·simp[h];simpa using ih
 rw[e2,bX (by
  rw[L_,L_]
  exact di (tu _ _) (by simpa using hn)),b_,b_,L4.allB,g_,b_]
 unfold sP
 cases (List.all _ id)
 ·rw[ar (by decide),ar (by decide),L4.anyB,g_,b_]
  cases (List.any _ id)<;>rfl
 ·rfl
def inB(bs:List Bool):bE (.bool false) (.list (bs.map PyData.bool))=some (bs.all id)/\cf (.bool true) (.list (bs.map PyData.bool))=some (bs.any id):=by
 have lay:∀b,km (.bool b) (bs.map PyData.bool)=true:=λb=>by
  unfold km;rw[lZ λd hd=>by obtain⟨c,_,rfl⟩:=List.mem_map.mp hd;rfl];rfl
 constructor
 ·rw[Dx,show gH (.bool false) (.list (bs.map PyData.bool))=if km (.bool false) (bs.map PyData.bool)then some (!((bs.map PyData.bool).any λy=>PyData.eqv y (.bool false)))else none from rfl,al (lay _)];congr 1;clear lay
  induction bs with
  | nil=>rfl
  | cons b bs ih =>
   rw[aw,wo,Nr,<-ih,Bool.not_or]
   cases b<;>rfl
 ·rw[Ls,show wm (.bool true) (.list (bs.map PyData.bool))=if km (.bool true) (bs.map PyData.bool)then some ((bs.map PyData.bool).any λy=>PyData.eqv y (.bool true))else none from rfl,al (lay _)];congr 1;clear lay
  induction bs with
  | nil=>rfl
  | cons b bs ih =>
   rw[aw,wo,wo,ih]
   cases b<;>rfl
theorem yH(w:Wf r)(f:Nat->Nat)(hn:r.n<=1000):dL r.d (.tuple (eG r.n f))=.ret (sP (((List.range r.n).filter λi=>decide (0<f i)).map λi=>r.sy.getD i false)):=by
 unfold dL
 rw[aT,dZ,g_,b_,cX _ (by lia),g_,b_,fw (e:=iN) (g:=λi=>if decide (0<f i)then some (.bool (r.sy.getD i false))else none) (List.range r.n) (by
  intro i hi;have hi:=List.mem_range.mp hi;rw[aT,uh hi,g_,b_,L4.Wu,g_,b_];by_cases h:0<f i
  ·rw[al (by rw[OB];lia),al (by simpa using h),aT,DO,g_,b_,aT,Lm PyData.bool r.sy i false (by rw[w.sy];exact hi),g_,b_]
  ·rw[ar (by rw[OB];lia),ar (by simpa using h)]),b_]
 have e2:((List.range r.n).filterMap λi=>if decide (0<f i)=true then some (PyData.bool (r.sy.getD i false))else none)=(((List.range r.n).filter λi=>decide (0<f i)).map λi=>r.sy.getD i false).map PyData.bool:=by
  induction List.range r.n with
  | nil=>rfl
  | cons p l ih =>
   rw[ny,xv];by_cases h:0<f p
   ·simp[h];simpa using ih
   ·simp[h];simpa using ih
 rw[e2,bX (by
  rw[L_,L_]
  exact di (tu _ _) (by simpa using hn)),b_,b_,(inB _).1,g_,b_]
 unfold sP
 cases (List.all _ id)
 ·rw[ar (by decide),ar (by decide),(inB _).2,g_,b_]
  cases (List.any _ id)<;>rfl
 ·rfl
def GV(w:Wf r)(hc:c.length=r.n)(hn:r.n<=1000):nH r.d (cT c)=.ret (sd r c)/\dL r.d (cT c)=.ret (sd r c):=by
 rw[u9 hc];exact⟨E7 w (fl c) hn,yH w (fl c) hn⟩
theorem BP{f:List D}{k most:Nat}(hf:Fd T f)(hT:T<=900000)(k1:1<=k)(k4:k<=4)(h1:1<=most)(h2:most<=60):∃(c:List Nat) (f':List D),e7 f (iN k) (iN most)=.ret (cT c,f')/\c.length=k/\c.sum<=most/\Fd (T+100) f':=by
 unfold e7;have z0:aV (λd2=>M.ret (some (.int 0))) ((List.range k).map iN)=.ret ((List.replicate k 0).map iN):=by
  rw[dI (e:=iN) (g:=λ_=>.int 0) (List.range k) (λ_ _=>rfl)];congr 1;rw[List.map_replicate];apply Db
  ·simp
  ·intro i h1 h2;simp
 rw[cX _ (by lia),g_,b_,z0,b_,bX (by simp;lia),b_];obtain⟨h0,f1,e1,hh,P7⟩:=bM (m:=most) hf (by lia) (by lia) (by lia);rw[e1,b_];dsimp only;rw[xL,g_,b_,cX _ (by lia),g_,b_]
 let R:M (D×List D)->Prop:=λm=>∃(c:List Nat) (f':List D),m=.ret (cT c,f')/\c.length=k/\c.sum<=most/\Fd (T+100) f'
 refine pj (R:=R) (P:=λi s=>∃(c:List Nat) (f:List D),s=(f,iN k,c.map iN,())/\c.length=k/\c.sum<=i/\Fd (T+1+i) f) _ _ ?_ ⟨List.replicate k 0,f1,rfl,by simp,by simp,P7⟩ ?_
 ·rintro i s d hd ⟨c,f,rfl,hc,hs,hf⟩ kn SA;obtain⟨rfl,hi⟩:=jA hd;dsimp only;unfold iF;obtain⟨x,f2,e2,hx,Qj⟩:=bM (m:=k) hf (by lia) (by lia) (by lia);have hxl:x<c.length:=by lia
  have ix:aH (.list (c.map iN)) (iN x)=some (iN c[x]):=by rw[n4,show dC (.list (c.map iN)) (iN x)=_ from wU iN c x hxl]
  have ad:bn (iN c[x]) (.int 1)=some (iN (c[x]+1)):=Cb c[x] 1;rw[e2,b_];dsimp only;rw[ix,g_,b_,ad,g_,b_,show putD (c.map iN) (iN x) (iN (c[x]+1))=_ from DA (c[x]+1) hxl,g_,b_];refine SA _ ⟨c.set x (c[x]+1),f2,rfl,by simp[hc],?_,Qj.le (by lia)⟩;have:∀(c:List Nat) (x:Nat) (h:x<c.length),(c.set x (c[x]+1)).sum=c.sum+1:=by
   intro c
   induction c with
   | nil=>intro x h;simp at h
   | cons a c ih =>
    intro x h
    cases x with
    | zero=>simp;lia
    | succ x =>
     have:=ih x (by simpa using h);simp only[List.set_cons_succ,List.getElem_cons_succ,Nq];lia
  rw[this c x hxl];lia
 ·rintro s ⟨c,f,rfl,hc,hs,hf⟩;rw[L_,ur]at hs hf;dsimp only;unfold iG;rw[oD,g_,b_];exact⟨c,f,rfl,hc,by lia,hf.le (by lia)⟩
def bg(r:Rl)(cs:List Nat):List Nat:=tab r.n (cnt (gT (r.st.zip cs)))
theorem Ez(w:Wf r)(cs:List Nat)(hn:r.n<=1000):py r.d (cT cs)=.ret (cT (bg r cs)):=by
 unfold py;rw[aT,dZ,g_,b_,DC _ _ (by lia),g_,b_,A4,aT,fH,g_,b_,Au,g_,b_,Cj];refine(gp (e:=pD) (F:=λpre=>(eG r.n (cnt (gT pre)),())) (r.st.zip cs) ?_).trans ?_
 ·intro p x t RH kn;have hx:x.1<r.n:=w.st _ (Nw (show x∈r.st.zip cs by rw[RH];simp)).1;dsimp only;unfold rc;rw[HC,lC hx,g_,b_,LO,g_,b_,oX _ hx,g_,b_,sO,AF]
 ·dsimp only;unfold rf;rw[oD,g_,b_];rfl
theorem nY(w:Wf r)(cs:List Nat)(hl:cs.length=r.st.length)(h4:cs.length<=4)(hn:r.n<=1000):eA r.d (cT cs)=.ret (cT (bg r cs)):=by
 unfold eA;have z0:aV (λd2=>M.ret (some (.int 0))) ((List.range r.n).map iN)=.ret (eG r.n (cnt (gT []))):=by
  rw[dI (e:=iN) (g:=λ_=>.int 0) (List.range r.n) (λ_ _=>rfl)];congr 1;unfold eG tab;rw[ic];exact ng λi _=>rfl
 have ln:fm [cT cs]=some (iN cs.length):=by
  show some (PyData.int ((cs.map iN).length:Int))=_;rw[L_]
 rw[aT,dZ,g_,b_,cX _ (by lia),g_,b_,z0,b_,bX (by simp[eG,tab];lia),b_,ln,g_,b_,cX _ (by lia),g_,b_];refine pj (R:=λm=>m=M.ret (cT (bg r cs))) (P:=λj s=>s=(r.d,cT cs,eG r.n (cnt (gT ((r.st.zip cs).take j))),())) _ _ ?_ (by rw[List.take_zero]) ?_
 ·rintro j s d hd rfl kn hk;obtain⟨rfl,hj⟩:=jA hd;have hs:j<r.st.length:=by lia
  have hz:j<(r.st.zip cs).length:=by rw[List.length_zip];lia
  dsimp only;unfold jm;have i1:aH (.tuple (r.st.map iN)) (iN j)=some (iN r.st[j]):=by rw[aT,show dC (.tuple (r.st.map iN)) (iN j)=_ from tL iN r.st j hs]
  have i2:aH (cT cs) (iN j)=some (iN cs[j]):=by rw[show cT cs=.tuple (cs.map iN)from rfl,aT,show dC (.tuple (cs.map iN)) (iN j)=_ from tL iN cs j hj]
  have hx:r.st[j]<r.n:=w.st _ (oC hs);rw[aT,fH,g_,b_,i1,g_,b_,n4,lC hx,g_,b_,i2,g_,b_,Cb,g_,b_,oX _ hx,g_,b_];refine hk _ ?_;rw[List.take_succ_eq_append_getElem hz,sO,AF,List.getElem_zip]
 ·rintro s rfl;dsimp only;unfold jn;rw[oD,g_,b_,L_,ur,wT (by rw[List.length_zip];lia)];rfl
def AD(n:Nat):∀l:List Nat,(∀x∈l,x<n)->sumF n (cnt l)=l.length
 | [],_=>by
  have:∀n,sumF n (cnt [])=0:=λn=>by
   induction n with
   | zero=>rfl
   | succ n ih=>rw[h8,ih];rfl
  exact this n
 | x::l,h=>by
  have e:cnt (x::l)=λi=>cnt l i+if x=i then 1 else 0:=by
   funext i;show(x::l).count i=l.count i+_;rw[List.count_cons];by_cases q:x=i<;>simp[q]
  rw[e,ie,ia,AD n l λy hy=>h y (by simp[hy]),al (h x (by simp))];rfl
def vU:∀l:List (Nat×Nat),(gT l).length=(l.map (·.2)).sum
 | []=>rfl
 | p::l=>by
  have ih:=vU l;unfold gT at ih ⊢;rw[NO,Qh,Oc,ih];rfl
theorem zy:∀(a b:List Nat),((a.zip b).map (·.2)).sum<=b.sum
 | [],b=>by simp
 | a::as,[]=>by simp
 | a::as,b::bs=>by
  have:=zy as bs;simp only[List.zip_cons_cons,aw,Nq];lia
def vb(r:Rl)(cs:List Nat):(bg r cs).length=r.n:=cz _ _
def Jz(w:Wf r)(cs:List Nat):(bg r cs).sum<=cs.sum:=by
 unfold bg;rw[uf,AD,vU]
 ·exact zy _ _
 ·intro x hx;obtain⟨p,hp,hx⟩:=List.mem_flatMap.mp hx;rw[List.eq_of_mem_replicate hx];exact w.st _ (Nw hp).1
def hs(c s:List Nat):Nat:=(s.map (fl c)).sum
def Qs.tr(c:List Nat):Qs->Bool
 | .least s n=>decide (n<=hs c s)
 | .more a b=>decide (hs c b<hs c a)
 | .rest s m r=>decide (hs c s % m=r)
 | .neg q=>!q.tr c
 | .two w p q=>if w then p.tr c&&q.tr c else p.tr c||q.tr c
def E4(ns:List Nat)(h:∀c∈ns,c<=1000)(hl:ns.length<=10):my [.list (ns.map iN)]=some (iN ns.sum):=by
 have e1:intsOf (ns.map iN)=some (ns.map λ(n:Nat)=>(n:Int)):=by
  have:=yO (ns.map λ(n:Nat)=>(n:Int));rw[ic]at this;exact this
 have e3:∀l:List Nat,(l.map λ(n:Nat)=>(n:Int)).sum=((l.sum:Nat):Int):=by
  intro l
  induction l with
  | nil=>rfl
  | cons a l ih=>rw[aw,Nq,Nq,ih,Ny]
 have e2:pT (ns.map λ(n:Nat)=>(n:Int))=true:=by
  unfold pT;rw[am,xz,OB];refine⟨λx hx=>?_,by rw[L_];exact di hl (by decide)⟩;obtain⟨c,hc,rfl⟩:=List.mem_map.mp hx;have:=h c hc;rw[OB,Int.natAbs_natCast];exact di this (by decide)
 unfold my;dsimp only;unfold Gj;dsimp only;rw[e1];dsimp only;rw[al e2,e3]
theorem wW(hb:∀x,fl c x<=1000)(h:∀x∈s,x<c.length)(hl:s.length<=4):(bd (bd (bd (oM (dQ (.tuple (s.map iN)))) λl3=>bd (aV (λd1=>bd (oM (aH (cT c) d1)) λx2=>.ret (some x2)) l3) cA) λl4=>.ret (PyData.list l4)) λx5=>oM (my [x5]))=.ret (iN (hs c s)):=by
 have hc:aV (λd1=>bd (oM (aH (cT c) d1)) λx2=>.ret (some x2)) (s.map iN)=.ret ((s.map (fl c)).map iN):=by
  rw[dI (e:=iN) (g:=λx=>iN (fl c x)) s λx hx=>by
   have hx:=h x hx;rw[show cT c=.tuple (c.map iN)from rfl,aT,show dC (.tuple (c.map iN)) (iN x)=_ from tL iN c x hx,g_,b_];show M.ret (some (iN c[x]))=.ret (some (iN (c.getD x 0)));rw[eg,ac hx]
   rfl,ic]
  rfl
 rw[yf,g_,b_,hc,b_,bX (by simp;lia),b_,b_,E4 _ (λy hy=>by obtain⟨x,_,rfl⟩:=List.mem_map.mp hy;exact hb x) (by simp;lia),g_];rfl
def D2(hb:∀x,fl c x<=1000)(h:∀x∈s,x<c.length)(hl:s.length<=4):eT (.tuple (s.map iN)) (cT c)=.ret (iN (hs c s)):=by
 unfold eT;rw[wW hb h hl,b_]
def Ly(a b:Nat):uA (iN a) (iN b)=some (decide (b<=a)):=by
 show some (decide ((b:Int)<=(a:Int)))=_;congr 1;rw[wS,OB,OB];omega
def Ga(a b:Nat):dX (iN a) (iN b)=some (decide (b<a)):=by
 show some (decide ((b:Int)<(a:Int)))=_;congr 1;rw[wS,OB,OB];omega
def oW:aZ (.str "least") (.str "not")=some false/\aZ (.str "least") (.str "both")=some false/\aZ (.str "least") (.str "either")=some false/\aZ (.str "least") (.str "least")=some true/\cf (.str "least") (.tuple [.str "both",.str "either"])=some false:=by decide +kernel
def pM:aZ (.str "more") (.str "not")=some false/\aZ (.str "more") (.str "both")=some false/\aZ (.str "more") (.str "either")=some false/\aZ (.str "more") (.str "least")=some false/\aZ (.str "more") (.str "more")=some true/\cf (.str "more") (.tuple [.str "both",.str "either"])=some false:=by decide +kernel
def pL:aZ (.str "rest") (.str "not")=some false/\aZ (.str "rest") (.str "both")=some false/\aZ (.str "rest") (.str "either")=some false/\aZ (.str "rest") (.str "least")=some false/\aZ (.str "rest") (.str "more")=some false/\cf (.str "rest") (.tuple [.str "both",.str "either"])=some false:=by decide +kernel
def w_not:aZ (.str "not") (.str "not")=some true:=by decide +kernel
def ud:aZ (.str "both") (.str "not")=some false/\aZ (.str "both") (.str "both")=some true/\cf (.str "both") (.tuple [.str "both",.str "either"])=some true:=by decide +kernel
def lB:aZ (.str "either") (.str "not")=some false/\aZ (.str "either") (.str "both")=some false/\aZ (.str "either") (.str "either")=some true/\cf (.str "either") (.tuple [.str "both",.str "either"])=some true:=by decide +kernel
def J8(b:Bool):ki (.bool b)=some b:=id rfl
def LK(b:Bool):X2 (.bool b)=.ret b:=id rfl
def Sk{α:Type}(a b:α):(if false=true then a else b)=b:=rfl
def mn{k:Nat}{c:List Nat}(hc:c.length=k)(hb:∀x,fl c x<=1000):∀(i j:Nat) (q:Qs),q.ok k j->j<i->mK i q.d (cT c)=.ret (.bool (q.tr c))
 | 0,j,q,_,h=>by omega
 | i+1,j,q,h,hj=>by
  show nI (mK i) q.d (cT c)=_;unfold nI;have sx:∀{s:List Nat},QN k s->eT (.tuple (s.map iN)) (cT c)=.ret (iN (hs c s)):=λh=>D2 hb (λx hx=>by rw[hc];exact h.2 x hx) h.1
  cases q with
  | least s n =>
   have h:QN k s/\1<=n/\n<=4:=by cases j<;>exact h
   rw[show(Qs.least s n).d=.tuple [.str "least",.tuple (s.map iN),iN n]from rfl];simp only[aT,dZ,fH,lg,g_,b_,oW,Sk,oP,sx h.1,Ly];rfl
  | more a b =>
   have h:QN k a/\QN k b/\∀x∈a,x∉b:=by cases j<;>exact h
   rw[show(Qs.more a b).d=.tuple [.str "more",.tuple (a.map iN),.tuple (b.map iN)]from rfl];simp only[aT,dZ,fH,lg,g_,b_,pM,Sk,oP,sx h.1,sx h.2.1,Ga];rfl
  | rest s m r =>
   have h:QN k s/\2<=m/\m<=4/\r<m:=by cases j<;>exact h
   rw[show(Qs.rest s m r).d=.tuple [.str "rest",.tuple (s.map iN),iN m,iN r]from rfl];simp only[aT,dZ,fH,lg,DO,g_,b_,pL,Sk,sx h.1,DD _ m (by have:=h.2.1;omega),Ta];rfl
  | neg q =>
   cases j with
   | zero=>exact h.elim
   | succ j =>
    have ih:=mn hc hb i j q h (by omega);rw[show q.neg.d=.tuple [.str "not",q.d]from rfl];simp only[aT,dZ,fH,g_,b_,w_not,oP,ih,J8];rfl
  | two w p q =>
   cases j with
   | zero=>exact h.elim
   | succ j =>
    have i1:=mn hc hb i j p h.1 (by omega);have i2:=mn hc hb i j q h.2 (by omega)
    cases w with
    | true =>
     rw[show(Qs.two true p q).d=.tuple [.str "both",p.d,q.d]from rfl];simp only[aT,dZ,fH,lg,g_,b_,ud,Sk,oP,i1,i2,LK];show _=M.ret (PyData.bool (p.tr c&&q.tr c))
     cases p.tr c<;>rfl
    | false =>
     rw[show(Qs.two false p q).d=.tuple [.str "either",p.d,q.d]from rfl];simp only[aT,dZ,fH,lg,g_,b_,lB,Sk,oP,i1,i2,LK];show _=M.ret (PyData.bool (p.tr c||q.tr c))
     cases p.tr c<;>rfl
def gN{k:Nat}{c:List Nat}(hc:c.length=k)(hb:∀x,fl c x<=1000):∀(i j:Nat) (q:Qs),q.ok k j->j<i->dv i q.d (cT c)=.ret (.bool (q.tr c))
 | 0,j,q,_,h=>by omega
 | i+1,j,q,h,hj=>by
  show gz (dv i) q.d (cT c)=_;unfold gz;have sx:∀{s:List Nat},QN k s->(bd (bd (bd (oM (dQ (.tuple (s.map iN)))) λl3=>bd (aV (λd1=>bd (oM (aH (cT c) d1)) λx2=>.ret (some x2)) l3) cA) λl4=>.ret (PyData.list l4)) λx5=>oM (my [x5]))=.ret (iN (hs c s)):=λh=>wW hb (λx hx=>by rw[hc];exact h.2 x hx) h.1
  cases q with
  | least s n =>
   have h:QN k s/\1<=n/\n<=4:=by cases j<;>exact h
   rw[show(Qs.least s n).d=.tuple [.str "least",.tuple (s.map iN),iN n]from rfl];rw[aT,dZ,g_,b_,oW.1,g_,b_,Sk,oW.2.2.2.2,g_,b_,Sk,aT,fH,g_,b_,sx h.1,b_,oW.2.2.2.1,g_,b_,al rfl,aT,lg,g_,b_,Ly,g_,b_,b_];rfl
  | more a b =>
   have h:QN k a/\QN k b/\∀x∈a,x∉b:=by cases j<;>exact h
   rw[show(Qs.more a b).d=.tuple [.str "more",.tuple (a.map iN),.tuple (b.map iN)]from rfl];rw[aT,dZ,g_,b_,pM.1,g_,b_,Sk,pM.2.2.2.2.2,g_,b_,Sk,aT,fH,g_,b_,sx h.1,b_,pM.2.2.2.1,g_,b_,Sk,pM.2.2.2.2.1,g_,b_,al rfl,aT,lg,g_,b_,sx h.2.1,b_,Ga,g_,b_,b_];rfl
  | rest s m r =>
   have h:QN k s/\2<=m/\m<=4/\r<m:=by cases j<;>exact h
   rw[show(Qs.rest s m r).d=.tuple [.str "rest",.tuple (s.map iN),iN m,iN r]from rfl];rw[aT,dZ,g_,b_,pL.1,g_,b_,Sk,pL.2.2.2.2.2,g_,b_,Sk,aT,fH,g_,b_,sx h.1,b_,pL.2.2.2.1,g_,b_,Sk,pL.2.2.2.2.1,g_,b_,Sk,aT,lg,g_,b_,DD _ m (by have:=h.2.1;omega),g_,b_,aT,DO,g_,b_,Ta,g_,b_,b_];rfl
  | neg q =>
   cases j with
   | zero=>exact h.elim
   | succ j =>
    have ih:=gN hc hb i j q h (by omega);rw[show q.neg.d=.tuple [.str "not",q.d]from rfl];simp only[aT,dZ,fH,g_,b_,w_not,oP,ih,J8];rfl
  | two w p q =>
   cases j with
   | zero=>exact h.elim
   | succ j =>
    have i1:=gN hc hb i j p h.1 (by omega);have i2:=gN hc hb i j q h.2 (by omega);have cm:∀x:D,fJ (.tuple [x,p.d,q.d]) (some 1) none=some (.tuple [p.d,q.d]):=λx=>rfl
    have cc:aV (λd11=>bd (dv i d11 (cT c)) λPM=>.ret (some PM)) [p.d,q.d]=.ret ([p.tr c,q.tr c].map PyData.bool):=by
     rw[aV,i1,b_,X9,b_,aV,i2,b_,X9,b_,aV,b_,b_];rfl
    have a1:QG (.int 1)=.ret (some 1):=id rfl
    cases w with
    | true =>
     rw[show(Qs.two true p q).d=.tuple [.str "both",p.d,q.d]from rfl];rw[aT,dZ,g_,b_,ud.1,g_,b_,Sk,ud.2.2,g_,b_,al rfl,a1,b_,cm,g_,b_,yf,g_,b_,cc,b_,bX (by simp),b_,b_,ud.2.1,g_,b_,al rfl,(inB _).1,g_,b_,b_];show _=M.ret (PyData.bool (p.tr c&&q.tr c));simp
    | false =>
     rw[show(Qs.two false p q).d=.tuple [.str "either",p.d,q.d]from rfl];rw[aT,dZ,g_,b_,lB.1,g_,b_,Sk,lB.2.2.2,g_,b_,al rfl,a1,b_,cm,g_,b_,yf,g_,b_,cc,b_,bX (by simp),b_,b_,lB.2.1,g_,b_,Sk,(inB _).2,g_,b_,b_];show _=M.ret (PyData.bool (p.tr c||q.tr c));simp
abbrev vG(g:List Nat->List (List Nat)):List Nat->D:=λx=>.list ((g x).map cT)
def iD(c:List Nat)(g:List Nat->List (List Nat))(x:List Nat):List Nat->List (List Nat):=λy=>if y=x then g y++[c]else g y
def mw(r:Rl)(g:List Nat->List (List Nat))(c:List Nat):List Nat->List (List Nat):=((bU r c).map (·.2)).foldl (iD c) g
def eR(r:Rl)(F:List (List Nat)):List Nat->List (List Nat):=F.foldl (mw r) λ_=>[]
theorem tJ(v:List Nat->D)(hv:∀c,v c=.list []):∀(F2 F1:List (List Nat)),(F1++F2).Nodup->(F1++F2).length<=1000->(F2.map cT).foldl gB (some (F1.map (kE v)))=some ((F1++F2).map (kE v))
 | [],F1,_,_=>by rw[li];rfl
 | c::F2,F1,nd,hl=>by
  have hc:c∉F1:=λh=>by
   have:=(List.nodup_append.mp nd).2.2 c h c (by simp);exact this rfl
  have e:gB (some (F1.map (kE v))) (cT c)=some ((F1++[c]).map (kE v)):=by
   unfold gB;dsimp only;rw[j8,ar hc];dsimp only;rw[al (cr (by rw[L_];rw[Qh,gs]at hl;lia)),ib];show some (F1.map (kE v)++[(cT c,PyData.list [])])=some (F1.map (kE v)++[(cT c,v c)]);rw[hv]
  rw[aw,lf,e];have:=tJ v hv F2 (F1++[c]) (by simpa using nd) (by simpa using hl);rw[this];simp
def GJ{g:List Nat->List (List Nat)}{x:List Nat}(hx:x∈F)(hl:(g x).length<90000):AK (F.map (kE (vG g))) (cT c) (cT x)=some (F.map (kE (vG (iD c g x)))):=by
 unfold AK;rw[j8,al hx];dsimp only;rw[al (by rw[fk,Bool.true_and,OB,L_];exact hl)];congr 1;unfold mV;rw[al]
 ·rw[ic];refine ng λy hy=>?_
  show(if fG (cT y) (cT x)=true then(cT y,PyData.list ((g x).map cT++[cT c]))else(cT y,vG g y))=(cT y,vG (iD c g x) y);rw[mm];by_cases e:y=x
  ·subst e;rw[al (by simp)];show _=(cT y,PyData.list ((if y=y then g y++[c]else g y).map cT));rw[al rfl,ib];rfl
  ·rw[ar (by simpa using e)];show _=(cT y,PyData.list ((if y=x then g y++[c]else g y).map cT));rw[ar e]
 ·rw[N4];exact List.any_eq_true.mpr ⟨x,hx,by show fG (cT x) (cT x)=true;rw[mm];simp⟩
theorem wM(c:List Nat)(g:List Nat->List (List Nat))(x y:List Nat):(iD c g x y).length<=(g y).length+1:=by
 unfold iD;split
 ·simp
 ·lia
theorem qF{F:List (List Nat)}{c:List Nat}:∀(ls:List (Nat×List Nat)) (g:List Nat->List (List Nat)) (N:Nat),(∀p∈ls,p.2∈F)->(∀y,(g y).length<=N)->N+ls.length<90000 ->
  (ls.map ld).foldl (fQ (cT c)) (some (F.map (kE (vG g))))=some (F.map (kE (vG ((ls.map (·.2)).foldl (iD c) g))))/\∀y,((ls.map (·.2)).foldl (iD c) g y).length<=N+ls.length
 | [],g,N,_,hN,_=>⟨rfl,hN⟩
 | p::ls,g,N,hp,hN,hl=>by
  rw[gs]at hl;have e:fQ (cT c) (some (F.map (kE (vG g)))) (ld p)=some (F.map (kE (vG (iD c g p.2)))):=GJ (hp p (by simp)) (by have:=hN p.2;lia);obtain⟨h1,h2⟩:=qF ls (iD c g p.2) (N+1) (λq hq=>hp q (by simp[hq])) (λy=>by have:=wM c g p.2 y;have:=hN y;lia) (by lia);rw[aw,lf,e,aw,lf,gs];exact⟨h1,λy=>by have:=h2 y;lia⟩
theorem qr{r:Rl}{F:List (List Nat)}(cl:∀c∈F,∀p∈bU r c,p.2∈F)(hL:∀c∈F,(bU r c).length<=60):∀(F2:List (List Nat)) (g:List Nat->List (List Nat)) (N:Nat),(∀c∈F2,c∈F)->(∀y,(g y).length<=N)->N+60*F2.length<90000 ->
  (F2.map (kE (vL r))).foldl cn (some (F.map (kE (vG g))))=some (F.map (kE (vG (F2.foldl (mw r) g))))
 | [],g,N,_,_,_=>rfl
 | c::F2,g,N,hc,hN,hl=>by
  rw[gs]at hl;have h60:=hL c (hc c (by simp));obtain⟨h1,h2⟩:=qF (F:=F) (c:=c) (bU r c) g N (cl c (hc c (by simp))) hN (by lia);have e:cn (some (F.map (kE (vG g)))) (kE (vL r) c)=some (F.map (kE (vG (mw r g c)))):=h1;rw[aw,lf,e,lf];exact qr cl hL F2 _ (N+60) (λc' h=>hc c' (by simp[h])) (λy=>by have:=h2 y;unfold mw;lia) (by lia)
theorem EA(ne:F≠[])(nd:F.Nodup)(hl:F.length<=900)(cl:∀c∈F,∀p∈bU r c,p.2∈F)(hL:∀c∈F,(bU r c).length<=60):i9 (.dict (F.map (kE (vL r))))=.ret (.dict (F.map (kE (vG (eR r F))))):=by
 have k0:nZ (F.map (kE (vL r)))=some (F.map cT):=by
  cases F with
  | nil=>exact absurd rfl ne
  | cons c F =>
   unfold nZ;rw[aw];dsimp only;rw[al (fk c),<-aw,uR]
 have e1:=tJ (λ_=>.list []) (λ_=>rfl) F [] (by simpa using nd) (by simp;lia);have e2:=qr cl hL F (λ_=>[]) 0 (λ_ h=>h) (λ_=>ai _) (by lia);have e3:vf (F.map (kE (vL r)))=some (F.map (kE (vG (eR r F)))):=by
  unfold vf;rw[uR,show(some []:Option (List (D×D)))=some (([]:List (List Nat)).map (kE λ_=>.list []))from rfl,e1];exact e2
 unfold i9 vd;dsimp only;rw[k0];dsimp only;rw[e3];rfl
def wJ{c:List Nat}{g:List Nat->List (List Nat)}{c' y:List Nat}:∀(xs:List (List Nat)) (g:List Nat->List (List Nat)),c'∈xs.foldl (iD c) g y↔c'∈g y\/(c'=c/\y∈xs)
 | [],g=>by simp
 | x::xs,g=>by
  rw[lf,wJ (g:=g) xs];unfold iD;by_cases e:y=x
  ·rw[al e];constructor
   ·rintro(h|⟨h1,h2⟩)
    ·rcases List.mem_append.mp h with h|h
     ·exact .inl h
     ·exact .inr ⟨List.mem_singleton.mp h,by simp[e]⟩
    ·exact .inr ⟨h1,by simp[h2]⟩
   ·rintro(h|⟨h1,_⟩)
    ·exact .inl (pd _ h)
    ·exact .inl (gh _ (by simp[h1]))
  ·rw[ar e];simp[e]
def wI{r:Rl}{c' y:List Nat}:∀(F:List (List Nat)) (g:List Nat->List (List Nat)),c'∈F.foldl (mw r) g y↔c'∈g y\/(c'∈F/\∃k,(k,y)∈bU r c')
 | [],g=>by simp
 | c::F,g=>by
  rw[lf,wI F];unfold mw;rw[wJ (g:=g)];constructor
  ·rintro((h|⟨rfl,h⟩)|⟨h1,h2⟩)
   ·exact .inl h
   ·obtain⟨p,hp,rfl⟩:=List.mem_map.mp h;exact .inr ⟨by simp,p.1,hp⟩
   ·exact .inr ⟨by simp[h1],h2⟩
  ·rintro(h|⟨h1,k,h2⟩)
   ·exact .inl (.inl h)
   ·rcases List.mem_cons.mp h1 with rfl|h1
    ·exact .inl (.inr ⟨rfl,List.mem_map.mpr ⟨_,h2,rfl⟩⟩)
    ·exact .inr ⟨h1,k,h2⟩
def Q4{y:List Nat}:c∈eR r F y↔c∈F/\∃k,(k,y)∈bU r c:=by
 unfold eR;rw[wI];simp
theorem Bu(r:Rl)(l:List Nat):(bU r l).length<=l.length*l.length:=by
 unfold bU;have h1:∀(a:Nat) (bs:List Nat),(bs.flatMap (cell r l a)).length<=bs.length:=by
  intro a bs
  induction bs with
  | nil=>simp
  | cons b bs ih =>
   rw[NO,Qh,gs];have:=mH r l a b;lia
 have hr:=mT l;have h2:∀ps:List (Nat×Nat),(ps.flatMap λp=>((rooms l).drop p.2).flatMap (cell r l p.1)).length<=ps.length*l.length:=by
  intro ps
  induction ps with
  | nil=>simp
  | cons p ps ih =>
   rw[NO,Qh,gs,NB];have:=h1 p.1 ((rooms l).drop p.2);rw[ul]at this;lia
 have:=h2 (rooms l).zipIdx;rw[yp]at this;exact di this (Me _ hr)
inductive RZ(r:Rl)(Gs:List (List Nat)):List Nat->Prop
 | goal {c:List Nat}:c∈Gs->RZ r Gs c
 | step {c c':List Nat} {k:Nat}:Goes r c k c'->RZ r Gs c'->RZ r Gs c
abbrev vN(v:List Nat->Nat):List Nat->D:=λc=>iN (v c)
def Lf(a b:Nat):gI (iN a) (iN b)=some (decide (a<b)):=by
 show wj (.int _) (.int _)=_;rw[L4.ltI];congr 1;rw[wS,OB,OB];omega
def C5{v:List Nat->Nat}(h:c∉A)(hl:A.length<=90000)(n:Nat):iE true (A.map (kE (vN v))) (cT c) (iN n)=some ((A++[c]).map (kE (vN λy=>if y=c then n else v y))):=by
 have e:A.map (kE (vN v))=A.map (kE (vN λy=>if y=c then n else v y)):=ng λy hy=>by
  show(cT y,iN (v y))=(cT y,iN (if y=c then n else v y));have ne:¬ y=c:=λz=>h (z▸hy)
  rw[ar ne]
 rw[e];have:=kR (vN λy=>if y=c then n else v y) h hl;rw[show vN (λy=>if y=c then n else v y) c=iN n from by show iN (if c=c then n else v c)=_;rw[al rfl]]at this;exact this
theorem yT{kn3:D×List (D×D)×List D×D×Unit->M D}{B pl:D}{here:List Nat}{k:D×List (D×D)×List D×D×D×Unit->M D}:∀(L A:List (List Nat)) (v:List Nat->Nat),here∈A->A.length+L.length<=90000 ->
  ∃v',dn (λ(Q2:D×List (D×D)×List D×D×D×Unit) V4 kn=>hG kn3 Q2.1 Q2.2.1 Q2.2.2.1 Q2.2.2.2.1 Q2.2.2.2.2.1 V4 kn) (L.map cT) (B,A.map (kE (vN v)),A.map cT,pl,cT here,()) k=k (B,(bh A L).map (kE (vN v')),(bh A L).map cT,pl,cT here,())
 | [],A,v,_,_=>⟨v,rfl⟩
 | c::L,A,v,hh,hl=>by
  rw[gs]at hl;rw[aw,dn];unfold hG;dsimp only;rw[lM,g_,b_,fB];by_cases h:c∈A
  ·rw[cr h,al h];exact yT (kn3:=kn3) L A v hh (by lia)
  ·rw[bu h,ar h];obtain⟨v',e⟩:=yT (kn3:=kn3) (B:=B) (pl:=pl) (k:=k) L (A++[c]) (λy=>if y=c then v here+1 else v y) (pd _ hh) (by simp;lia);refine⟨v',?_⟩;rw[<-e];show(bd (bd (oM (aH (.dict (A.map (kE (vN v)))) (cT here))) λPM=>oM (bn PM (.int 1))) _)=_;rw[wR _ hh,g_,b_,show bn (vN v here) (.int 1)=some (iN (v here+1))from Cb (v here) 1,g_,b_,C5 h (by lia),g_,b_,rG _ _ (by rw[L_];lia),g_,b_,ib (f:=cT)];rfl
noncomputable abbrev sL:D×List (D×D)×List D×D×Unit->(D×List (D×D)×List D×D×Unit->M D)->M D:=λVo kn=>cW Vo.1 Vo.2.1 Vo.2.2.1 Vo.2.2.2.1 kn
def D8(v:List Nat->Nat)(Oi:i<A.length)(hF:A[i]∈F)(hl:A.length+(eR r F A[i]).length<=90000)(kn:D×List (D×D)×List D×D×Unit->M D) :
  ∃v',cW (.dict (F.map (kE (vG (eR r F))))) (A.map (kE (vN v))) (A.map cT) (iN i) kn=kn (.dict (F.map (kE (vG (eR r F)))),(bh A (eR r F A[i])).map (kE (vN v')),(bh A (eR r F A[i])).map cT,iN (i+1),()):=by
 unfold cW;have ll:fm [.list (A.map cT)]=some (iN A.length):=by rw[L4.SU,L_]
 have ix:aH (.list (A.map cT)) (iN i)=some (cT A[i]):=by rw[n4,show dC (.list (A.map cT)) (iN i)=_ from wU cT A i Oi]
 rw[ll,g_,b_,Lf,g_,b_,cr Oi,al rfl,ix,g_,b_,wR _ hF,g_,b_,E6,g_,b_,cg];obtain⟨v',e⟩:=yT (kn3:=kn) (B:=.dict (F.map (kE (vG (eR r F))))) (pl:=iN i) (k:=λQ2=>hV kn Q2.1 Q2.2.1 Q2.2.2.1 Q2.2.2.2.1 Q2.2.2.2.2.1) (eR r F A[i]) A v (oC Oi) hl;refine⟨v',e.trans ?_⟩;dsimp only;unfold hV;rw[Hx,g_,b_]
section
variable (w:Wf r) (fit:∀c∈F,c.length=r.n) (hF:F.length<=900) (hg:∀y∈F,(eR r F y).length<=60000) (Sn:∀c∈F,∀k c',Goes r c k c'->c'∈F)
include w fit hF hg Sn
theorem xx:∀(fuel i:Nat) (A:List (List Nat)) (v:List Nat->Nat),A.Nodup->(∀c∈A,c∈F)->(∀c∈Gs,c∈A)->(∀c∈A,RZ r Gs c)->i<=A.length->(∀(j:Nat) (h:j<A.length),j<i->∀c∈F,∀k,Goes r c k A[j]->c∈A)->F.length<fuel+i ->
  ∃(A':List (List Nat)) (v':List Nat->Nat),bF sL fuel (.dict (F.map (kE (vG (eR r F)))),A.map (kE (vN v)),A.map cT,iN i,())=.ret (.dict (A'.map (kE (vN v'))))/\∀c,c∈A'↔c∈F/\RZ r Gs c
 | 0,i,A,v,nd,sub,_,_,hi,_,hf=>by
  have:=dE nd sub;lia
 | fuel+1,i,A,v,nd,sub,g0,bk,hi,cl,hf=>by
  have hle:=dE nd sub;rw[bF];by_cases Oi:i<A.length
  ·have hm:=oC Oi;have hF':=sub _ hm;have hgl:=hg _ hF';obtain⟨v',e⟩:=D8 (r:=r) v Oi hF' (by lia) (λs'=>bF sL fuel s');have e':sL (.dict (F.map (kE (vG (eR r F)))),A.map (kE (vN v)),A.map cT,iN i,()) (λs'=>bF sL fuel s')=_:=e;rw[e'];obtain⟨E,ee⟩:=jf (eR r F A[i]) A;have mem:∀x,x∈bh A (eR r F A[i])↔x∈A\/x∈eR r F A[i]:=λx=>cP _ _ x
   refine xx fuel (i+1) (bh A (eR r F A[i])) v' (fX _ _ nd) (λc hc=>?_) (λc hc=>(mem c).mpr (.inl (g0 c hc))) (λc hc=>?_) (by rw[ee,Qh];lia) (λj h hj c hc k g=>?_) (by lia)
   ·rcases(mem c).mp hc with h|h
    ·exact sub c h
    ·exact(Q4.mp h).1
   ·rcases(mem c).mp hc with h|h
    ·exact bk c h
    ·obtain⟨h1,k,h2⟩:=Q4.mp h;exact .step ((iB w (fit c h1)).mp h2) (bk _ hm)
   ·have UI:j<A.length:=by lia
    have ej:(bh A (eR r F A[i]))[j]=A[j]:=by
     have:(bh A (eR r F A[i]))[j]? = A[j]?:=by rw[ee,io UI]
     rw[ac h,ac UI]at this;exact Option.some.inj this
    rw[ej]at g;by_cases e:j=i
    ·subst e;exact(mem c).mpr (.inr (Q4.mpr ⟨hc,k,(iB w (fit c hc)).mpr g⟩))
    ·exact(mem c).mpr (.inl (cl j UI (by lia) c hc k g))
  ·have ll:fm [.list (A.map cT)]=some (iN A.length):=by rw[L4.SU,L_]
   have e':sL (.dict (F.map (kE (vG (eR r F)))),A.map (kE (vN v)),A.map cT,iN i,()) (λs'=>bF sL fuel s')=.ret (.dict (A.map (kE (vN v)))):=by
    show cW _ _ _ _ _=_;unfold cW;dsimp only;rw[ll,g_,b_,Lf,g_,b_,bu Oi,ar (by decide)];rfl
   rw[e'];have ei:i=A.length:=by lia
   refine⟨A,v,rfl,λc=>⟨λhc=>⟨sub c hc,bk c hc⟩,λ⟨h1,h2⟩=>?_⟩⟩;have go:∀c,RZ r Gs c->c∈F->c∈A:=by
    intro c h
    induction h with
    | goal h=>intro _;exact g0 _ h
    | @step c c' k g b ih =>
     intro hc;have QL:=ih (Sn c hc k c' g);obtain⟨j,hj,e⟩:=ut QL;exact cl j hj (by lia) c hc k (by rw[e];exact g)
   exact go c h2 h1
theorem D9(sub:∀c∈Gs,c∈F)(nd:Gs.Nodup):∃(A:List (List Nat)) (v:List Nat->Nat),gx (.dict (F.map (kE (vG (eR r F))))) (.list (Gs.map cT))=.ret (.dict (A.map (kE (vN v))))/\∀c,c∈A↔c∈F/\RZ r Gs c:=by
 have hl:=dE nd sub;unfold gx;rw[E6,g_,b_];have h0:dP (λ(P0:D×D×List (D×D)×Unit) ZN kn=>hJ P0.1 P0.2.1 P0.2.2.1 ZN kn) (Gs.map cT) (.dict (F.map (kE (vG (eR r F)))),.list (Gs.map cT),[],()) (λP0=>e6 P0.1 P0.2.1 P0.2.2.1)=e6 (.dict (F.map (kE (vG (eR r F))))) (.list (Gs.map cT)) (Gs.map (kE (vN λ_=>0))):=by
  refine(gp (e:=cT) (F:=λpre=>(PyData.dict (F.map (kE (vG (eR r F)))),PyData.list (Gs.map cT),pre.map (kE (vN λ_=>0)),())) Gs ?_).trans rfl;intro p x t RH kn;dsimp only;unfold hJ;have hx:x∉p:=λz=>by
   rw[RH]at nd;exact(List.nodup_append.mp nd).2.2 x z x (by simp) rfl
  have hp:p.length<=90000:=by rw[RH,Qh]at hl;lia
  rw[show(.int 0:D)=vN (λ_=>0) x from rfl,kR _ hx hp,g_,b_]
 rw[h0];unfold e6;rw[show n8 [.list (Gs.map cT)]=some (Gs.map cT)from rfl,g_,b_,hZ];exact xx w fit hF hg Sn 10000 0 Gs (λ_=>0) nd sub (λ_ h=>h) (λc h=>.goal h) (be _) (λj h z=>absurd z (Nat.not_lt_zero _)) (by lia)
end
def Lq(v:List Nat->D)(F:List (List Nat))(c:List Nat):cf (cT c) (.dict (F.map (kE v)))=some (decide (c∈F)):=by
 show(if keyOk (F.map (kE v)) (cT c)then some (g6 (F.map (kE v)) (cT c)).isSome else none)=_;rw[al (qJ v F c),j8];by_cases h:c∈F
 ·rw[al h,cr h];rfl
 ·rw[ar h,bu h];rfl
def Fj(hl:A.length<=90000):iE true (A.map (kE vT)) (cT c) (.bool true)=some ((bh A [c]).map (kE vT)):=by
 have e:bh A [c]=if c∈A then A else A++[c]:=rfl;rw[e];by_cases h:c∈A
 ·rw[al h];unfold iE;rw[al (by rw[am,OB,L_];exact⟨fk c,wn hl (by decide)⟩)];congr 1;unfold mV;rw[al (by rw[N4];exact List.any_eq_true.mpr ⟨c,h,by show fG (cT c) (cT c)=true;rw[mm];simp⟩),ic];refine ng λy _=>?_
  show(if fG (cT y) (cT c)=true then(cT y,PyData.bool true)else(cT y,PyData.bool true))=_;split<;>rfl
 ·rw[ar h];exact kR vT h hl
def into(r:Rl)(A:List (List Nat))(c:List Nat):Bool:=(ci r c r.ms.zipIdx).any λp=>decide (p.2∈A)
def turn(r:Rl)(A:List (List Nat))(c:List Nat):List (List Nat):=if into r A c then bh A [c]else A
def Sb:into r A c=true↔∃k c',Goes r c k c'/\c'∈A:=by
 unfold into;rw[List.any_eq_true];constructor
 ·rintro⟨⟨k,c'⟩,h1,h2⟩;exact⟨k,c',Pk.mp h1,by simpa using h2⟩
 ·rintro⟨k,c',h1,h2⟩;exact⟨(k,c'),Pk.mpr h1,by simpa using h2⟩
def FL(ps:List (Nat×List Nat)):dO (.list (ps.map ld)) (.list [])=some (!ps.isEmpty):=by
 have hl:PyData.canLayAll0 (ps.map ld)=true:=lZ λd hd=>by
  obtain⟨p,_,rfl⟩:=List.mem_map.mp hd;show(PyData.canLay0 (iN p.1)&&(PyData.canLay0 (cT p.2)&&true))=true;rw[show PyData.canLay0 (cT p.2)=PyData.canLayAll0 (p.2.map iN)from rfl,qG];rfl
 have hd:PyData.depthAll (ps.map ld)<=2:=jN λd hd=>by
  obtain⟨p,_,rfl⟩:=List.mem_map.mp hd;have:PyData.depthAll (p.2.map iN)<=0:=jN λd hd=>by
   obtain⟨x,_,rfl⟩:=List.mem_map.mp hd;exact ai _
  show PyData.depthAll [iN p.1,cT p.2]+1<=2;simp only[PyData.depthAll,cT,PyData.depth];omega
 have h2:(PyData.list (ps.map ld)).depth<=1000:=by simp only[PyData.depth];omega
 unfold dO sg;rw[al (by simp[PyData.canLay0,hl,h2,PyData.canLayAll0])]
 cases ps<;>simp[PyData.eqv,PyData.eqvAll]
theorem Gz{m:D}{VC kn:D×List (D×D)×D×Unit->M D}(hc:c∈F)(hs:(ci r c r.ms.zipIdx).length<=1000)(hl:A.length<=90000):eC VC (.dict (F.map (kE (vS r)))) (A.map (kE vT)) m (cT c) kn=kn (.dict (F.map (kE (vS r))),(turn r A c).map (kE vT),m,()):=by
 unfold eC;have e1:aV (λUP=>bd (bd (oM (aH UP (.int 1))) λQi=>oM (cf Qi (.dict (A.map (kE vT))))) λT7=>if T7 then .ret (some UP)else .ret none) ((ci r c r.ms.zipIdx).map ld)=.ret (((ci r c r.ms.zipIdx).filter λp=>decide (p.2∈A)).map ld):=by
  rw[fw (e:=ld) (g:=λp=>if decide (p.2∈A)then some (ld p)else none) (ci r c r.ms.zipIdx) λp _=>by
   rw[ld1,g_,b_,Lq,g_,b_]
   split<;>rfl]
  congr 1
  induction ci r c r.ms.zipIdx with
  | nil=>rfl
  | cons p l ih =>
   rw[ny,xv];by_cases h:p.2∈A
   ·simp only[h,decide_true,oP,aw];rw[ih]
   ·simp only[h,Er];exact ih
 rw[wR _ hc,g_,b_,E6,g_,b_,e1,b_,bX (by rw[L_];exact di (tu _ _) hs),b_,b_,FL,g_,b_];have ee:(!((ci r c r.ms.zipIdx).filter λp=>decide (p.2∈A)).isEmpty)=into r A c:=by
  unfold into
  induction ci r c r.ms.zipIdx with
  | nil=>rfl
  | cons p l ih =>
   rw[xv,wo];by_cases h:p.2∈A
   ·simp[h]
   ·simp only[h,Er,Bool.false_or];exact ih
 rw[ee];unfold turn;split
 ·rw[Fj hl,g_,b_]
 ·rfl
theorem vH:A.length<=(turn r A c).length/\(turn r A c).length<=A.length+1:=by
 unfold turn;have e:bh A [c]=if c∈A then A else A++[c]:=rfl;rw[e];split
 ·split
  ·lia
  ·simp
 ·lia
def pass(r:Rl)(F A:List (List Nat)):List (List Nat):=F.foldl (turn r) A
theorem xK{r:Rl}{F:List (List Nat)}{m:D}{VC:D×List (D×D)×D×Unit->M D}{k:D×List (D×D)×D×Unit->M D}(hs:∀c∈F,(ci r c r.ms.zipIdx).length<=1000):∀(l A:List (List Nat)),(∀c∈l,c∈F)->A.length+l.length<=90000 ->
  dn (λ(Rj:D×List (D×D)×D×Unit) V3 kn=>eC VC Rj.1 Rj.2.1 Rj.2.2.1 V3 kn) (l.map cT) (.dict (F.map (kE (vS r))),A.map (kE vT),m,()) k=k (.dict (F.map (kE (vS r))),(pass r l A).map (kE vT),m,())
 | [],A,_,_=>rfl
 | c::l,A,hc,hl=>by
  rw[gs]at hl;rw[aw,dn];refine(Gz (hc c (by simp)) (hs c (hc c (by simp))) (by lia)).trans ?_;exact xK hs l (turn r A c) (λx hx=>hc x (by simp[hx])) (by have:=vH (r:=r) (A:=A) (c:=c);lia)
section
def wH{x:List Nat}(h:x∈turn r A c):x∈A\/(x=c/\into r A c=true):=by
 unfold turn at h;split at h
 ·rename_i hi;rcases(cP _ _ _).mp h with h|h
  ·exact .inl h
  ·exact .inr ⟨List.mem_singleton.mp h,hi⟩
 ·exact .inl h
def CC{x:List Nat}(h:x∈A):x∈turn r A c:=by
 unfold turn;split
 ·exact(cP _ _ _).mpr (.inl h)
 ·exact h
theorem zW:∀(l A:List (List Nat)),(∀c∈l,c∈F)->A.Nodup->(∀c∈A,c∈F)->(∀c∈A,RZ r Gs c)->(pass r l A).Nodup/\(∀c∈A,c∈pass r l A)/\(∀c∈pass r l A,c∈F)/\(∀c∈pass r l A,RZ r Gs c)/\A.length<=(pass r l A).length/\((pass r l A).length=A.length->pass r l A=A/\∀c∈l,into r A c=true->c∈A)
 | [],A,_,nd,sub,bk=>⟨nd,λ_ h=>h,sub,bk,ai _,λ_=>⟨rfl,λ_ h=>nomatch h⟩⟩
 | c::l,A,hc,nd,sub,bk=>by
  have nd1:(turn r A c).Nodup:=by
   unfold turn;split
   ·exact fX _ _ nd
   ·exact nd
  obtain⟨h1,h2,h3,h4,h5,h6⟩:=zW l (turn r A c) (λx hx=>hc x (by simp[hx])) nd1 (λx hx=>by
   rcases wH hx with h|⟨rfl,_⟩
   ·exact sub x h
   ·exact hc x (by simp)) (λx hx=>by
   rcases wH hx with h|⟨rfl,h⟩
   ·exact bk x h
   ·obtain⟨k,c',g,QL⟩:=Sb.mp h
    exact .step g (bk c' QL))
  have ht:=vH (r:=r) (A:=A) (c:=c);refine⟨h1,λx hx=>h2 x (CC hx),h3,h4,by show A.length<=(pass r l (turn r A c)).length;lia,λe=>?_⟩;have e:(pass r l (turn r A c)).length=A.length:=e;have e1:turn r A c=A:=by
   have hlen:(turn r A c).length=A.length:=by lia
   unfold turn at hlen ⊢;split
   ·rename_i hi;rw[al hi]at hlen;have e:bh A [c]=if c∈A then A else A++[c]:=rfl;rw[e]at hlen ⊢;split
    ·rfl
    ·rename_i hn;rw[ar hn]at hlen;simp at hlen
   ·rfl
  obtain⟨g1,g2⟩:=h6 (e.trans (congrArg List.length e1).symm);refine⟨by show pass r l (turn r A c)=A;rw[g1,e1],λx hx hi=>?_⟩;rw[e1]at g2;rcases List.mem_cons.mp hx with rfl|hx
  ·have:x∈turn r A x:=by
    unfold turn;rw[al hi];exact(cP _ _ _).mpr (.inr (by simp))
   rw[e1]at this;exact this
  ·exact g2 x hx hi
def Lg(m:Int)(n:Nat):gI (.int m) (iN n)=some (decide (m<(n:Int))):=by
 show wj (.int _) (.int _)=_;rw[L4.ltI]
end
noncomputable abbrev sJ:D×List (D×D)×D×Unit->(D×List (D×D)×D×Unit->M D)->M D:=λW5 kn=>cI W5.1 W5.2.1 W5.2.2.1 kn
def oY(v:List Nat->D)(ne:F≠[]):uo (.dict (F.map (kE v)))=some (F.map cT):=by
 show nZ (F.map (kE v))=_
 cases F with
 | nil=>exact absurd rfl ne
 | cons c F =>
  unfold nZ;rw[aw];dsimp only;rw[al (fk c),<-aw,uR]
theorem zK:∀(Gs A:List (List Nat)),(A++Gs).Nodup->(A++Gs).length<=90000->qk true (A.map (kE vT)) (Gs.map λc=>.tuple [cT c,.bool true])=some ((A++Gs).map (kE vT))
 | [],A,_,_=>by rw[li];rfl
 | c::Gs,A,nd,hl=>by
  have hc:c∉A:=λh=>(List.nodup_append.mp nd).2.2 c h c (by simp) rfl
  have hp:iE true (A.map (kE vT)) (cT c) (.bool true)=some ((A++[c]).map (kE vT)):=kR vT hc (by rw[Qh]at hl;lia);rw[aw,qk,hp];show qk true ((A++[c]).map (kE vT)) _=_;rw[zK Gs (A++[c]) (by simpa using nd) (by simpa using hl)];simp
def B7(ne:F≠[])(hs:∀c∈F,(ci r c r.ms.zipIdx).length<=1000){m:Int}(Oi:m<(A.length:Int))(hl:A.length+F.length<=90000)(kn:D×List (D×D)×D×Unit->M D) :
  cI (.dict (F.map (kE (vS r)))) (A.map (kE vT)) (.int m) kn=kn (.dict (F.map (kE (vS r))),(pass r F A).map (kE vT),.int (A.length:Int),()):=by
 unfold cI;rw[j7,g_,b_,Lg,g_,b_,cr Oi,al rfl,b_,oY _ ne,g_,b_,cg];exact xK hs F A (λ_ h=>h) hl
section
variable (ne:F≠[]) (hF:F.length<=900) (hs:∀c∈F,(ci r c r.ms.zipIdx).length<=1000) (Sn:∀c∈F,∀k c',Goes r c k c'->c'∈F)
include ne hF hs Sn
theorem uc:∀(fuel:Nat) (A:List (List Nat)) (m:Int),A.Nodup->(∀c∈A,c∈F)->(∀c∈Gs,c∈A)->(∀c∈A,RZ r Gs c)->m<=(A.length:Int)->(m=(A.length:Int)->∀c∈F,into r A c=true->c∈A)->F.length+(if m<(A.length:Int)then 1 else 0)<fuel+A.length ->
  ∃A':List (List Nat),bF sJ fuel (.dict (F.map (kE (vS r))),A.map (kE vT),.int m,())=.ret (.dict (A'.map (kE vT)))/\∀c,c∈A'↔c∈F/\RZ r Gs c
 | 0,A,m,nd,sub,_,_,_,_,hf=>by
  have:=dE nd sub;lia
 | fuel+1,A,m,nd,sub,g0,bk,hm,cl,hf=>by
  have hle:=dE nd sub;rw[bF];by_cases Oi:m<(A.length:Int)
  ·have e':sJ (.dict (F.map (kE (vS r))),A.map (kE vT),.int m,()) (λs'=>bF sJ fuel s')=bF sJ fuel (.dict (F.map (kE (vS r))),(pass r F A).map (kE vT),.int (A.length:Int),()):=B7 ne hs Oi (by lia) _;rw[e'];obtain⟨p1,p2,p3,p4,p5,p6⟩:=zW (r:=r) (F:=F) (Gs:=Gs) F A (λ_ h=>h) nd sub bk;refine uc fuel (pass r F A) (A.length:Int) p1 p3 (λc h=>p2 c (g0 c h)) p4 (by lia) (λe=>?_) ?_
   ·obtain⟨q1,q2⟩:=p6 (by lia);rw[q1];exact q2
   ·rw[al Oi]at hf;split
    ·lia
    ·lia
  ·have e':sJ (.dict (F.map (kE (vS r))),A.map (kE vT),.int m,()) (λs'=>bF sJ fuel s')=.ret (.dict (A.map (kE vT))):=by
    show cI _ _ _ _=_;unfold cI;dsimp only;rw[j7,g_,b_,Lg,g_,b_,bu Oi,ar (by decide)];rfl
   rw[e'];have cl:=cl (by omega);refine⟨A,rfl,λc=>⟨λhc=>⟨sub c hc,bk c hc⟩,λ⟨h1,h2⟩=>?_⟩⟩;have go:∀c,RZ r Gs c->c∈F->c∈A:=by
    intro c h
    induction h with
    | goal h=>intro _;exact g0 _ h
    | @step c c' k g b ih =>
     intro hc;exact cl c hc (Sb.mpr ⟨k,c',g,ih (Sn c hc k c' g)⟩)
   exact go c h2 h1
theorem AN(sub:∀c∈Gs,c∈F)(nd:Gs.Nodup):∃A:List (List Nat),fy (.dict (F.map (kE (vS r)))) (.list (Gs.map cT))=.ret (.dict (A.map (kE vT)))/\∀c,c∈A↔c∈F/\RZ r Gs c:=by
 have hl:=dE nd sub;unfold fy;have e1:aV (λd1=>M.ret (some (.tuple [d1,(.bool true)]))) (Gs.map cT)=.ret (Gs.map λc=>.tuple [cT c,.bool true]):=dI (e:=cT) (g:=λc=>.tuple [cT c,.bool true]) Gs λ_ _=>rfl
 have e2:Ay true (.list (Gs.map λc=>.tuple [cT c,.bool true]))=some (Gs.map (kE vT)):=zK Gs [] (by simpa using nd) (by simp;lia);rw[E6,g_,b_,e1,b_,bX (by simp;lia),b_,b_,e2,g_,b_,show Dr (.int 1)=some (.int (-1))from rfl,g_,b_,hZ];exact uc ne hF hs Sn 10000 Gs (-1) nd sub (λ_ h=>h) (λc h=>.goal h) (by lia) (λe=>by lia) (by split<;>lia)
end
inductive RJ(r:Rl)(P:List Nat->Prop):List Nat->Prop
 | goal {c:List Nat}:P c->RJ r P c
 | step {c c':List Nat} {k:Nat}:Goes r c k c'->RJ r P c'->RJ r P c
def AM{P:List Nat->Prop}(h:∀c,c∈Gs↔P c)(c:List Nat):RZ r Gs c↔RJ r P c:=by
 constructor
 ·intro b
  induction b with
  | goal q=>exact .goal ((h _).mp q)
  | step g _ ih=>exact .step g ih
 ·intro b
  induction b with
  | goal q=>exact .goal ((h _).mpr q)
  | step g _ ih=>exact .step g ih
def nq(r:Rl)(W:D)(c:List Nat):Bool:=(dO (sd r c) W).getD false
abbrev wd(t:Bool):D:=.str (if t then "yes" else "no")
theorem Hl(r:Rl)(t:Bool)(c:List Nat):dO (sd r c) (wd t)=some (nq r (wd t) c):=by
 unfold nq;have h:=HM r c;generalize sd r c=x at h ⊢;rcases h with rfl|rfl|rfl<;>cases t<;>decide +kernel
def Ans(r:Rl)(U:List Nat->Prop)(W:D):Prop:=∀c,U c->RJ r (λc'=>U c'/\¬ RJ r (λx=>U x/\nq r W x=true) c') c
theorem Ar{f:D->M D}{W:D}{h:List Nat->Bool}(hl:F.length<=900)(e:∀c∈F,(bd (f (cT c)) λx4=>oM (dO x4 W))=.ret (h c)):(bd (aV (λd3=>bd (bd (f d3) λx4=>oM (dO x4 W)) λb5=>if b5 then .ret (some d3)else .ret none) (F.map cT)) cA)=.ret ((F.filter h).map cT):=by
 rw[fw (e:=cT) (g:=λc=>if h c then some (cT c)else none) F λc hc=>by
  rw[e c hc,b_]
  split<;>rfl,b_]
 have e2:(F.filterMap λc=>if h c=true then some (cT c)else none)=(F.filter h).map cT:=by
  clear e hl
  induction F with
  | nil=>rfl
  | cons c F ih =>
   rw[ny,xv];by_cases q:h c=true
   ·simp only[q,oP,aw];rw[ih]
   ·simp only[q];exact ih
 rw[e2,bX (by rw[L_];exact di (tu _ _) (by lia))]
theorem pc{v:List Nat->D}(hl:F.length<=900):(bd (aV (λd4=>bd (oM (bE d4 (.dict (A.map (kE v))))) λb5=>if b5 then .ret (some d4)else .ret none) (F.map cT)) cA)=.ret ((F.filter λc=>!decide (c∈A)).map cT):=by
 rw[fw (e:=cT) (g:=λc=>if(!decide (c∈A))then some (cT c)else none) F λc hc=>by
  rw[lM,g_,b_]
  split<;>rfl,b_]
 have e2:(F.filterMap λc=>if(!decide (c∈A))=true then some (cT c)else none)=(F.filter λc=>!decide (c∈A)).map cT:=by
  clear hl
  induction F with
  | nil=>rfl
  | cons c F ih =>
   rw[ny,xv];by_cases q:(!decide (c∈A))=true
   ·simp only[q,oP,aw];rw[ih]
   ·simp only[q];exact ih
 rw[e2,bX (by rw[L_];exact di (tu _ _) (by lia))]
def tH{A1 A2:List (List Nat)}{W:D}{U:List Nat->Prop}(hU:∀c,c∈F↔U c)(h1:∀c,c∈A1↔c∈F/\RZ r (F.filter (nq r W)) c)(h2:∀c,c∈A2↔c∈F/\RZ r (F.filter λc=>!decide (c∈A1)) c):(F.filter λc=>!decide (c∈A2))=[]↔Ans r U W:=by
 have b1:∀c,RZ r (F.filter (nq r W)) c↔RJ r (λx=>U x/\nq r W x=true) c:=λc=>AM (λx=>by rw[List.mem_filter,hU]) c
 have b2:∀c,RZ r (F.filter λc=>!decide (c∈A1)) c↔RJ r (λc'=>U c'/\¬ RJ r (λx=>U x/\nq r W x=true) c') c:=λc=>AM (λx=>by
  rw[List.mem_filter,hU,Ni,wP,h1,hU,b1];constructor
  ·rintro⟨p,q⟩;exact⟨p,λz=>q ⟨p,z⟩⟩
  ·rintro⟨p,q⟩
   exact⟨p,λz=>q z.2⟩) c
 unfold Ans;rw[List.filter_eq_nil_iff];constructor
 ·intro h c hc;have:=h c ((hU c).mpr hc);rw[Ni,wP,Classical.not_not]at this;exact(b2 c).mp ((h2 c).mp this).2
 ·intro h c hc;rw[Ni,wP,Classical.not_not];exact(h2 c).mpr ⟨hc,(b2 c).mpr (h c ((hU c).mp hc))⟩
theorem xu(c:List Nat):∀(xs:List (List Nat)) (g:List Nat->List (List Nat)) (y:List Nat),(xs.foldl (iD c) g y).length<=(g y).length+xs.length
 | [],g,y=>by simp
 | x::xs,g,y=>by
  rw[lf,gs];have h1:=xu c xs (iD c g x) y;have h2:=wM c g x y;lia
theorem wZ{r:Rl}{N:Nat}:∀(F:List (List Nat)) (g:List Nat->List (List Nat)) (y:List Nat),(∀c∈F,(bU r c).length<=N)->(F.foldl (mw r) g y).length<=(g y).length+N*F.length
 | [],g,y,_=>by simp
 | c::F,g,y,h=>by
  rw[lf,gs,Nat.mul_succ];have h1:=wZ F (mw r g c) y λx hx=>h x (by simp[hx])
  have h2:=xu c ((bU r c).map (·.2)) g y;have h3:=h c (by simp);rw[L_]at h2;unfold mw at h1 ⊢;lia
section
variable (w:Wf r) (hn:r.n<=5) (hm:r.ms.length<=90) (ne:F≠[]) (nd:F.Nodup) (hF:F.length<=900) (fit:∀c∈F,c.length=r.n) (Sn:∀c∈F,∀k c',Goes r c k c'->c'∈F) {U:List Nat->Prop} (hU:∀c,c∈F↔U c)
include w hn hm ne nd hF fit Sn hU
theorem FR(t:Bool):∃L:List (List Nat),kb r.d (.dict (F.map (kE (vL r)))) (.bool t)=.ret (.list (L.map cT))/\(L=[]↔Ans r U (wd t)):=by
 have h25:∀c∈F,(bU r c).length<=60:=λc hc=>by
  have:=Bu r c;rw[fit c hc]at this;have h5:r.n*r.n<=5*5:=NE hn hn;lia
 have hg:∀y∈F,(eR r F y).length<=60000:=λy _=>by
  have:=wZ (r:=r) (N:=60) F (λ_=>[]) y h25;unfold eR;simp only[At]at this;lia
 have Y5:∀p:List Nat->Bool,(F.filter p).Nodup:=λp=>(List.filter_sublist).nodup nd
 obtain⟨A1,v1,e1,m1⟩:=D9 w fit hF hg Sn (Gs:=F.filter (nq r (wd t))) (λc hc=>(List.mem_filter.mp hc).1) (Y5 _);obtain⟨A2,v2,e2,m2⟩:=D9 w fit hF hg Sn (Gs:=F.filter λc=>!decide (c∈A1)) (λc hc=>(List.mem_filter.mp hc).1) (Y5 _);refine⟨F.filter λc=>!decide (c∈A2),?_,tH hU m1 m2⟩;have ea:gQ r.d (.dict (F.map (kE (vL r)))) (.bool t)=.ret (.list ((F.filter (nq r (wd t))).map cT)):=by
  unfold gQ;have f0:=Ar (F:=F) (f:=λd=>nH r.d d) (W:=wd t) (h:=nq r (wd t)) hF λc hc=>by
   rw[(GV w (fit c hc) (by lia)).1,b_,Hl,g_]
  have hw:(bd (oM (ki (.bool t))) λb1=>if b1 then(.ret (.str "yes"):M D)else .ret (.str "no"))=.ret (wd t):=by cases t<;>rfl
  rw[hw,b_,oY _ ne,g_,b_,f0,b_,b_]
 unfold kb;rw[EA ne nd hF (λc hc p hp=>Sn c hc p.1 p.2 ((iB w (fit c hc)).mp hp)) h25,b_,ea,b_,e1,b_,oY _ ne,g_,b_,pc hF,b_,b_,e2,b_];rw[b_,pc hF,b_,b_]
end
structure Gv(r:Rl)(cs:List Nat):Prop where
 w:Wf r
 n5:r.n<=5
 Vw:r.ms.length<=30
 s4:r.st.length<=4
 len:cs.length=r.st.length
 Ue:cs.sum<=4\/(r.n<=2/\cs.sum<=60)
structure Rc(r:Rl)(cs:List Nat)(F:List (List Nat)):Prop where
 nd:F.Nodup
 mem:∀c,c∈F↔Su r (bg r cs) c
 len:F.length<=126
 all:eV r.d (cT (bg r cs))=.ret (.dict (F.map (kE (vS r))))
theorem Gv.reach(V:Gv r cs):∃F,Rc r cs F:=by
 have w:=V.w;have n5:=V.n5;have hs:=Jz w cs;have bound:∀F:List (List Nat),F.Nodup->(∀x∈F,x.length=r.n/\x.sum=(bg r cs).sum)->F.length<=126:=λF nd hF=>by
  refine di (dE nd (m:=comps r.n (bg r cs).sum) λx hx=>tF _ _ x (hF x hx).1 (hF x hx).2) ?_;rcases V.Ue with h|⟨h1,h2⟩
  ·exact Ju r.n (by lia) _ (by lia)
  ·exact Jv r.n (by lia) _ (by lia)
 obtain⟨F,nd,mem,hl,e2⟩:=JN w (by have:=V.Vw;lia) (vb r cs) 126 (by lia) bound;exact⟨F,nd,mem,hl,e2⟩
theorem Hs(c:List Nat)(x:Nat):fl c x<=c.sum:=by
 unfold fl;rw[eg]
 cases e:c[x]? with
 | none=>exact be _
 | some y =>
  have hm:=wE e;clear e;show y<=c.sum
  induction c with
  | nil=>cases hm
  | cons a c ih =>
   rw[Nq];rcases List.mem_cons.mp hm with rfl|h
   ·lia
   ·have:=ih h;lia
def Jn(L:List (List Nat)):aZ (.list (L.map cT)) (.list [])=some L.isEmpty:=by
 have h:=Dz L;unfold dO at h;unfold aZ;split at h
 ·rename_i hc;rw[al hc];have t:=congrArg (λb=>!b) (Option.some.inj h);simp only[Bool.not_not]at t;rw[t]
 ·cases h
section
variable (V:Gv r cs) (C:Rc r cs F) {q:Qs} (hq:q.ok r.st.length 3)
include V C hq
theorem yI:∃L:List (List Nat),dN r.d q.d (cT cs)=.ret (.list (L.map cT))/\(L=[]↔Ans r (Su r (bg r cs)) (wd (q.tr cs))):=by
 have w:=V.w;have n5:=V.n5;have Zh:cs.sum<=60:=by rcases V.Ue with h|h<;>lia
 have hl:=C.len;have ne:F≠[]:=λz=>by
  have:=(C.mem (bg r cs)).mpr .refl;rw[z]at this
  cases this
 have fit:∀c∈F,c.length=r.n:=λc hc=>(((C.mem c).mp hc).fit w (vb r cs)).1
 have Sn:∀c∈F,∀k c',Goes r c k c'->c'∈F:=λc hc k c' g=>(C.mem c').mpr (.step ((C.mem c).mp hc) g)
 have hs:∀c∈F,(ci r c r.ms.zipIdx).length<=1000:=λc _=>by
  have:=mP r c r.ms.zipIdx;rw[yp]at this;have:=V.Vw;lia
 have Y5:∀p:List Nat->Bool,(F.filter p).Nodup:=λp=>(List.filter_sublist).nodup C.nd
 obtain⟨A1,e1,m1⟩:=AN ne (by lia) hs Sn (Gs:=F.filter (nq r (wd (q.tr cs)))) (λc hc=>(List.mem_filter.mp hc).1) (Y5 _);obtain⟨A2,e2,m2⟩:=AN ne (by lia) hs Sn (Gs:=F.filter λc=>!decide (c∈A1)) (λc hc=>(List.mem_filter.mp hc).1) (Y5 _);refine⟨F.filter λc=>!decide (c∈A2),?_,tH C.mem m1 m2⟩;have f0:=Ar (F:=F) (f:=λd=>dL r.d d) (W:=wd (q.tr cs)) (h:=nq r (wd (q.tr cs))) (by lia) λc hc=>by
  rw[(GV w (fit c hc) (by lia)).2,b_,Hl,g_]
 have hw:(bd (bd (M.ret (.bool (q.tr cs))) λx3=>oM (mz [x3])) λx4=>oM (aH (PyData.list [(.str "no"),(.str "yes")]) x4))=.ret (wd (q.tr cs)):=by cases q.tr cs<;>rfl
 unfold dN;rw[nY w cs V.len (by have:=V.s4;have:=V.len;lia) (by lia),b_,C.all,b_,gN V.len (λx=>by have:=Hs cs x;lia) 8 3 q hq (by decide),hw,b_,oY _ ne,g_,b_,f0,b_,b_,e1,b_];rw[b_,pc (by lia),b_,b_,e2,b_,b_,pc (by lia),b_,b_]
theorem judge:∃b:Bool,(bd (dN r.d q.d (cT cs)) λRb=>oM (aZ Rb (PyData.list [])))=.ret b/\∀limit:Nat,(F.length<=limit->cF r.d q.d (cT cs) (iN limit)=.ret (.bool b))/\(limit<F.length->cF r.d q.d (cT cs) (iN limit)=.exc iI):=by
 have w:=V.w;have n5:=V.n5;have Vw:=V.Vw;have hl:=C.len;have Zh:cs.sum<=60:=by rcases V.Ue with h|h<;>lia
 obtain⟨L,e1,m1⟩:=yI V C hq;refine⟨L.isEmpty,by rw[e1,b_,Jn,g_],λlimit=>?_⟩;unfold cF;rw[Ez w cs (by lia),b_];rcases Ge w (by lia) (by lia) (vb r cs) C.nd C.mem (by lia) limit with ⟨h1,F',pm,e⟩|⟨h1,e⟩
 ·refine⟨λ_=>?_,λh=>by lia⟩;have Us:∀c,c∈F'↔Su r (bg r cs) c:=λc=>by rw[pm.mem_iff,C.mem]
  have ne:F'≠[]:=λz=>by
   have:=(Us (bg r cs)).mpr .refl;rw[z]at this
   cases this
  have fit:∀c∈F',c.length=r.n:=λc hc=>(((Us c).mp hc).fit w (vb r cs)).1
  have Sn:∀c∈F',∀k c',Goes r c k c'->c'∈F':=λc hc k c' g=>(Us c').mpr (.step ((Us c).mp hc) g)
  obtain⟨L',e2,m2⟩:=FR w n5 (by lia) ne (pm.symm.nodup C.nd) (by rw[pm.length_eq];lia) fit Sn Us (q.tr cs);rw[e,b_,mn V.len (λx=>by have:=Hs cs x;lia) 8 3 q hq (by decide),b_,e2,b_];rw[show kB [.list (L'.map cT)]=some (iN L'.length)from by show fm [.list (L'.map cT)]=_;rw[L4.SU,L_],g_,b_,show aZ (iN L'.length) (.int 0)=_ from Ta L'.length 0,g_,b_,b_];have eb:decide (L'.length=0)=L.isEmpty:=by
   rw[wS,OB,List.isEmpty_iff,m1,<-m2];exact List.length_eq_zero_iff
  rw[eb]
 ·exact⟨λh=>by lia,λ_=>by rw[e];rfl⟩
end
theorem DB(l:List Nat):(PyData.tuple (l.map iN)).depth<=2:=bR (n:=1) λd hd=>by obtain⟨i,_,rfl⟩:=List.mem_map.mp hd;simp[PyData.depth]
theorem FM(l:List Nat):L4.sz (.tuple (l.map iN))=l.length+1:=by
 show 1+RN (l.map iN)=_;rw[lD (B:=1) (λi=>by simp[L4.sz])];lia
def LV:L4.Ou "not" = true:=by decide +kernel
def J5:L4.Ou "both" = true:=by decide +kernel
def EU:L4.Ou "either" = true:=by decide +kernel
def Hz:L4.Ou "least" = true:=by decide +kernel
def J4:L4.Ou "more" = true:=by decide +kernel
def J0:L4.Ou "rest" = true:=by decide +kernel
def bz:Nat->Nat
 | 0=>20
 | i+1=>2*bz i+5
theorem Mm{k:Nat}(hk:k<=4):∀(i:Nat) (q:Qs),q.ok k i->L4.Sm q.d/\L4.sz q.d<=bz i/\q.d.depth<=i+4:=by
 have sn:∀{s:List Nat},QN k s->L4.Sm (.tuple (s.map iN))/\L4.sz (.tuple (s.map iN))<=5/\(PyData.tuple (s.map iN)).depth<=2:=λh=>⟨zE λx hx=>by have:=h.2 x hx;lia,by rw[FM];have:=h.1;lia,DB _⟩
 have i1:∀n:Nat,n<=100->L4.Sm (iN n):=λn h=>by simp only[L4.Sm];omega
 have b0:∀i,20<=bz i:=λi=>by
  induction i with
  | zero=>decide
  | succ i ih=>show 20<=2*bz i+5;lia
 intro i q
 induction q generalizing i with
 | least s n =>
  intro h;have h:QN k s/\1<=n/\n<=4:=by cases i<;>exact h
  obtain⟨a1,a2,a3⟩:=sn h.1;have:=b0 i;refine⟨by simp only[Qs.d,L4.Sm,L4.Pt];exact⟨Hz,by simpa only[L4.Sm]using a1,by simpa only[L4.Sm]using i1 n (by lia),trivial⟩,by simp only[Qs.d,L4.sz,L4.RN]at a2 ⊢;lia,bR (n:=i+3) λd hd=>?_⟩;simp only[oR,si,Li]at hd;rcases hd with rfl|rfl|rfl
  ·simp[PyData.depth]
  ·lia
  ·simp[PyData.depth]
 | more a b =>
  intro h;have h:QN k a/\QN k b/\∀x∈a,x∉b:=by cases i<;>exact h
  obtain⟨a1,a2,a3⟩:=sn h.1;obtain⟨c1,c2,c3⟩:=sn h.2.1;have:=b0 i;refine⟨by simp only[Qs.d,L4.Sm,L4.Pt];exact⟨J4,by simpa only[L4.Sm]using a1,by simpa only[L4.Sm]using c1,trivial⟩,by simp only[Qs.d,L4.sz,L4.RN]at a2 c2 ⊢;lia,bR (n:=i+3) λd hd=>?_⟩;simp only[oR,si,Li]at hd;rcases hd with rfl|rfl|rfl
  ·simp[PyData.depth]
  ·lia
  ·lia
 | rest s m r =>
  intro h;have h:QN k s/\2<=m/\m<=4/\r<m:=by cases i<;>exact h
  obtain⟨a1,a2,a3⟩:=sn h.1;have:=b0 i;refine⟨by simp only[Qs.d,L4.Sm,L4.Pt];exact⟨J0,by simpa only[L4.Sm]using a1,by simpa only[L4.Sm]using i1 m (by lia),by simpa only[L4.Sm]using i1 r (by lia),trivial⟩,by simp only[Qs.d,L4.sz,L4.RN]at a2 ⊢;lia,bR (n:=i+3) λd hd=>?_⟩;simp only[oR,si,Li]at hd;rcases hd with rfl|rfl|rfl|rfl
  ·simp[PyData.depth]
  ·lia
  ·simp[PyData.depth]
  ·simp[PyData.depth]
 | neg q ih =>
  intro h
  cases i with
  | zero=>exact h.elim
  | succ i =>
   obtain⟨a1,a2,a3⟩:=ih i h;refine⟨by simp only[Qs.d,L4.Sm,L4.Pt];exact⟨LV,a1,trivial⟩,by simp only[Qs.d,L4.sz,L4.RN,bz]at a2 ⊢;lia,di (bR (n:=i+4) λd hd=>?_) (by lia)⟩;simp only[oR,si,Li]at hd;rcases hd with rfl|rfl
   ·simp[PyData.depth]
   ·lia
 | two w p q ih1 ih2 =>
  intro h
  cases i with
  | zero=>exact h.elim
  | succ i =>
   obtain⟨a1,a2,a3⟩:=ih1 i h.1;obtain⟨c1,c2,c3⟩:=ih2 i h.2;refine⟨by simp only[Qs.d,L4.Sm,L4.Pt];exact⟨by cases w;exact EU;exact J5,a1,c1,trivial⟩,by simp only[Qs.d,L4.sz,L4.RN,bz]at a2 c2 ⊢;lia,di (bR (n:=i+4) λd hd=>?_) (by lia)⟩;simp only[oR,si,Li]at hd;rcases hd with rfl|rfl|rfl
   ·simp[PyData.depth]
   ·lia
   ·lia
theorem HV(r:Rl):r.d.depth<=20:=by
 refine bR (n:=19) λd hd=>?_
 simp only[oR,List.mem_nil_iff,Li]at hd;rcases hd with rfl|rfl|rfl|rfl
 ·simp[PyData.depth]
 ·exact di (bR (n:=1) λd hd=>by obtain⟨i,_,rfl⟩:=List.mem_map.mp hd;simp[PyData.depth]) (by lia)
 ·exact di (bR (n:=5) λd hd=>by obtain⟨i,_,rfl⟩:=List.mem_map.mp hd;simp[PyData.depth,PyData.depthAll]) (by lia)
 ·exact di (bR (n:=1) λd hd=>by obtain⟨i,_,rfl⟩:=List.mem_map.mp hd;simp[PyData.depth]) (by lia)
theorem B4(w:Wf r)(hn:r.n<=5)(hs:r.st.length<=4)(hm:r.ms.length<=30){q:Qs}(hq:q.ok r.st.length 2) :
  ∃x,jM [.tuple [r.d,q.d]]=some x/\dO x x=some false:=by
 obtain⟨a1,a2,a3⟩:=Mm hs 2 q hq;have sm:L4.Sm (.tuple [r.d,q.d]):=by
  simp only[L4.Sm,L4.Pt];exact⟨Kv w (by lia),a1,trivial⟩
 refine⟨_,G4 sm ?_ ?_,Dy sm⟩
 ·have h1:=Ku r;have h3:=w.sy;simp only[bz]at a2;simp only[L4.sz,L4.RN]at *;lia
 ·have h1:=HV r;have:=bR (ds:=[r.d,q.d]) (n:=20) λd hd=>by
   simp only[oR,List.mem_nil_iff,Li]at hd;rcases hd with rfl|rfl<;>lia
  lia
def tY(b:Bool):∃x,jM [.bool b]=some x/\dO x x=some false:=⟨_,G4 (by simp[L4.Sm]) (by simp[L4.sz]) (by simp[PyData.depth]),Dy (by simp[L4.Sm])⟩
structure Hd(r:Rl)(q o:Qs)(h:Nat):Prop where
 w:Wf r
 n5:r.n<=5
 Vw:r.ms.length<=30
 s1:1<=r.st.length
 s4:r.st.length<=4
 Ue:h=4\/(r.n<=2/\h=60)
 hq:q.ok r.st.length 2
 ho:o.ok r.st.length 3
def CU{q:Qs}{Pq:D×Unit->M D}{RE:D×List D×D×D×D×D×D×Unit->M D}{s hh oo wr ZM:D}{f:List D}{x:Qs}{b:Bool}{kn:D×List D×D×D×D×D×D×D×D×Unit->M D}(e:cF r.d x.d (cT cs) (iN 1000)=.ret (.bool b)) :
  qZ Pq RE s f r.d q.d hh oo wr (cT cs) ZM (.tuple [x.d,.bool b]) kn=kn (s,f,r.d,q.d,hh,oo,wr,cT cs,ZM,()):=by
 unfold qZ;obtain⟨y,e1,e2⟩:=tY b;rw[show ∀k:D->D->M D,QQ (.tuple [x.d,.bool b]) k=k x.d (.bool b)from λk=>id rfl,show cF r.d x.d (cT cs) (.int 1000)=_ from e,b_,e1,g_,b_,b_,e2,g_,b_,ar (by decide)]
section
variable {q o:Qs} {h:Nat} (V:Hd r q o h)
include V
theorem Kr{Pq:D×Unit->M D}{s wr d:D}{f:List D}{res:M D}{kn:D×List D×D×D×D×D×D×Unit->M D}(hf:Fd T f)(hT:T<=500000)(hk:∀f',Fd (T+100) f'->kn (s,f',r.d,q.d,iN h,o.d,wr,())=res) :
  q8 Pq s f r.d q.d (iN h) o.d wr d kn=res:=by
 have w:=V.w;have n5:=V.n5;have s1:=V.s1;have s4:=V.s4;have h60:1<=h/\h<=60:=by rcases V.Ue with h|h<;>lia
 obtain⟨cs,f1,e1,hl,Zh,P7⟩:=BP (k:=r.st.length) (most:=h) hf (by lia) s1 s4 h60.1 h60.2;have Ue:cs.sum<=4\/(r.n<=2/\cs.sum<=60):=by
  rcases V.Ue with e|⟨e1,e2⟩
  ·exact .inl (by lia)
  ·exact .inr ⟨e1,by lia⟩
 have G:Gv r cs:=⟨w,n5,V.Vw,s4,hl,Ue⟩;obtain⟨F,C⟩:=G.reach;have hF:=C.len;have SW:1<=F.length:=List.length_pos_of_mem ((C.mem (bg r cs)).mpr .refl);obtain⟨b,j1,j2⟩:=judge G C V.hq.up;obtain⟨b',k1,k2⟩:=judge G C V.ho;obtain⟨y,t1,t2⟩:=tY b;unfold q8;have ln:fm [.tuple (r.st.map iN)]=some (iN r.st.length):=by
  show some (PyData.int ((r.st.map iN).length:Int))=_;rw[L_]
 have cc:aV (λV3=>bd (bd (bd (dN r.d V3 (cT cs)) λRb=>oM (aZ Rb (PyData.list []))) λZS=>.ret (.bool ZS)) λUj=>.ret (some Uj)) [q.d,o.d]=.ret [.bool b,.bool b']:=by
  rw[aV,j1,b_,b_,X9,b_,aV,k1,b_,b_,X9,b_,aV,b_,b_];rfl
 have i0:aH (.list [.bool b,.bool b']) (.int 0)=some (.bool b):=rfl;have i1:aH (.list [.bool b,.bool b']) (.int 1)=some (.bool b'):=rfl;rw[aT,fH,g_,b_,ln,g_,b_,e1,b_];dsimp only;rw[yf,g_,b_,cc,b_,bX (by simp),b_,b_,i0,g_,b_,b_,i1,g_,b_,b_,b_,b_,yf,g_,b_];refine uZ (P:=λ_ st=>st=(s,f1,r.d,q.d,iN h,o.d,wr,cT cs,PyData.list [.bool b,.bool b'],())) _ 0 _ _ ?_ rfl ?_
 ·intro j st d hd _ _ hp kn' SA;subst hp;dsimp only;simp only[oR,si,Li]at hd;rcases hd with rfl|rfl|rfl
  ·rw[CU ((j2 1000).1 (by lia))];exact SA _ rfl
  ·rw[CU ((k2 1000).1 (by lia))];exact SA _ rfl
  ·rw[CU ((j2 1000).1 (by lia))];exact SA _ rfl
 ·intro st hp;subst hp;dsimp only;unfold xH;rw[nY w cs hl (by lia) (by lia),b_,C.all,b_,j7,g_,b_,(j2 F.length).1 (ai _),b_,t1,g_,b_,i0,g_,b_,t1,g_,b_,t2,g_,b_,ar (by decide),CD _ SW,g_,b_,b_];by_cases h1:1<F.length
  ·have tm:=yb ((j2 (F.length - 1)).2 (by lia));rw[show dX (iN F.length) (.int 1)=some true from by rw[show dX (iN F.length) (.int 1)=_ from Ga F.length 1,cr h1],g_,b_,al rfl,tm,b_,show ki (.bool true)=some true from rfl,g_,b_,b_];exact hk f1 P7
  ·rw[show dX (iN F.length) (.int 1)=some false from by rw[show dX (iN F.length) (.int 1)=_ from Ga F.length 1,bu h1],g_,b_,ar (by decide),b_,ar (by decide)];exact hk f1 P7
end
theorem Hm{q:Qs}{h:Nat}(w:Wf r)(n5:r.n<=5)(Vw:r.ms.length<=30)(s1:1<=r.st.length)(s4:r.st.length<=4)(Ue:h=4\/(r.n<=2/\h=60))(hq:q.ok r.st.length 2){Pq:D×Unit->M D}{s:D}{f:List D}{res:M D}(hf:Fd T f)(hT:T<=400000)(hk:Pq (s,())=res):mJ Pq s f r.d q.d (iN h)=res:=by
 unfold mJ;obtain⟨x,r1,r2⟩:=B4 w n5 s4 Vw hq;have VN:∃o:Qs,(bd (bd (oM (aH q.d (.int 0))) λPM=>oM (cf PM (.tuple [(.str "not"),(.str "both"),(.str "either")]))) λV7=>if V7 then oM (aH q.d (.int 1))else .ret (.tuple [(.str "not"),q.d]))=.ret o.d/\o.ok r.st.length 3:=by
  have w1:cf (.str "least") (.tuple [.str "not",.str "both",.str "either"])=some false:=by decide +kernel
  have w2:cf (.str "more") (.tuple [.str "not",.str "both",.str "either"])=some false:=by decide +kernel
  have w3:cf (.str "rest") (.tuple [.str "not",.str "both",.str "either"])=some false:=by decide +kernel
  have w4:cf (.str "not") (.tuple [.str "not",.str "both",.str "either"])=some true:=by decide +kernel
  have w5:cf (.str "both") (.tuple [.str "not",.str "both",.str "either"])=some true:=by decide +kernel
  have w6:cf (.str "either") (.tuple [.str "not",.str "both",.str "either"])=some true:=by decide +kernel
  cases q with
  | least a n=>exact⟨.neg (.least a n),by rw[show(Qs.least a n).d=.tuple [.str "least",.tuple (a.map iN),iN n]from rfl,aT,dZ,g_,b_,w1,g_,b_,ar (by decide)];rfl,hq⟩
  | more a b=>exact⟨.neg (.more a b),by rw[show(Qs.more a b).d=.tuple [.str "more",.tuple (a.map iN),.tuple (b.map iN)]from rfl,aT,dZ,g_,b_,w2,g_,b_,ar (by decide)];rfl,hq⟩
  | rest a m y=>exact⟨.neg (.rest a m y),by rw[show(Qs.rest a m y).d=.tuple [.str "rest",.tuple (a.map iN),iN m,iN y]from rfl,aT,dZ,g_,b_,w3,g_,b_,ar (by decide)];rfl,hq⟩
  | neg p=>exact⟨p,by rw[show p.neg.d=.tuple [.str "not",p.d]from rfl,aT,dZ,g_,b_,w4,g_,b_,al rfl,aT,fH,g_],(show p.ok r.st.length 1 from hq).up.up⟩
  | two t p p' =>
   refine⟨p,?_,(show p.ok r.st.length 1 from hq.1).up.up⟩
   cases t with
   | true=>rw[show(Qs.two true p p').d=.tuple [.str "both",p.d,p'.d]from rfl,aT,dZ,g_,b_,w5,g_,b_,al rfl,aT,fH,g_]
   | false=>rw[show(Qs.two false p p').d=.tuple [.str "either",p.d,p'.d]from rfl,aT,dZ,g_,b_,w6,g_,b_,al rfl,aT,fH,g_]
 obtain⟨o,e,ho⟩:=VN;have V:Hd r q o h:=⟨w,n5,Vw,s1,s4,Ue,hq,ho⟩;rw[e,b_,r1,g_,b_,show bx [.int 2]=some ((List.range 2).map iN)from cX 2 (by lia),g_,b_];refine uZ (P:=λj st=>∃f',st=(s,f',r.d,q.d,iN h,o.d,x,())/\Fd (T+100*j) f') _ 0 _ _ ?_ ⟨f,rfl,hf.le (by lia)⟩ ?_
 ·rintro j st d hd _ hj ⟨f',rfl,Ws⟩ kn SA;have hj:j<2:=by simpa using hj
  dsimp only;exact Kr V Ws (by lia) λf2 Qj=>SA _ ⟨f2,rfl,Qj.le (by lia)⟩
 ·rintro st ⟨f',rfl,Ws⟩;dsimp only;unfold xI;rw[r1,g_,b_,r2,g_,b_,ar (by decide)];exact hk
theorem IS(ns:List Int)(hn:ns.length<=63)(k:Nat)(hk:k<4)(Pq:D×Unit->M D)(kk:Pq (.list (ns.map PyData.int),())=.ret (.bool true)):q9 (.list (ns.map PyData.int)) (iN k) Pq=.ret (.bool true):=by
 obtain⟨f0,e0,hf0⟩:=Gi ns k (by lia) hn;obtain⟨r,q,f1,e1,w,hn5,hs,hm,hq,P7⟩:=Fy hf0 (by lia);unfold q9;rw[e0,b_,e1,b_,show ∀g:D->D->M D,QQ (.tuple [r.d,q.d]) g=g r.d q.d from λg=>id rfl,show aZ (iN k) (.int 3)=_ from Ta k 3,g_,b_];by_cases h3:k=3
 ·rw[cr h3,al rfl];obtain⟨r',f2,e2,w',Zn,RQ,U1,Qj⟩:=zG (most:=2) P7 (by lia) (by lia) (by lia);obtain⟨q',f3,e3,hq',SD⟩:=fc RQ.1 RQ.2 1 8 _ f2 (by lia) Qj (by lia);have ln:fm [.tuple (r'.st.map iN)]=some (iN r'.st.length):=by
   show some (PyData.int ((r'.st.map iN).length:Int))=_;rw[L_]
  have hm6:r'.ms.length<=30:=by
   have h5:r'.n*r'.n<=2*2:=NE Zn Zn;lia
  rw[show dc f1 (.int 2)=_ from e2,b_];dsimp only;rw[aT,fH,g_,b_,ln,g_,b_,show bH 8 f2 (iN r'.st.length) (.int 1)=_ from e3,b_];exact Hm (h:=60) w' (by lia) hm6 RQ.1 RQ.2 (.inr ⟨Zn,rfl⟩) hq'.up SD (by lia) kk
 ·rw[bu h3,ar (by decide)];exact Hm (h:=4) w hn5 hm hs.1 hs.2 (.inl rfl) hq P7 (by lia) kk
theorem main:∀ns:List Int,ns.length<=63->AJ (.list (ns.map PyData.int))=.ret (.bool true):=by
 intro ns hn;unfold AJ;have r4:bx [.int 4]=some ((List.range 4).map iN):=cX 4 (by lia);rw[r4,g_,b_];refine uZ (P:=λi s=>s=(PyData.list (ns.map PyData.int),())) _ 0 _ _ ?_ rfl ?_
 ·rintro j s d hd _ hj rfl kn SA;obtain⟨k,hk,rfl⟩:=List.mem_map.mp hd;dsimp only;exact IS ns hn k (List.mem_range.mp hk) kn (SA _ rfl)
 ·rintro s rfl;rfl
end WO
namespace PySem.W.Fast
def tw6819827776290434054:=()
def tw11268109831939028078:=()
def tw15540501962123948875:=()
def tw11346915321888368128:=()
def tw6064227174275294651:=()
def tw3313241310151798506:=()
def tw8112564876466973583:=()
def tw8422962055388549373:=()
def tw1398069326553924394:=()
def tw12617778371317473338:=()
def tw11536149599376730102:=()
def tw17550939679183816249:=()
def tw14297290190461501447:=()
def tw17862460028498087451:=()
def tw16706365670640063466:=()
def tw18198061310931316857:=()
def tw900632426477026370:=()
def tw17151349038570917767:=()
def tw15252892385171612245:=()
def tw14545964235091689621:=()
def tw5296806402616938813:=()
def tw1459772672293381808:=()
def tw17306525049581434340:=()
def tw14463344723312075398:=()
def tw4614589518568050255:=()
def tw2025000966712036668:=()
def tw15266623398115640490:=()
def tw2048918778139473428:=()
def tw15290340686244312880:=()
def tw9541106159138976365:=()
def tw1143081742360431814:=()
def tw17577677734048606608:=()
def tw8933271828528424441:=()
def tw7941212087012082361:=()
def tw6138636985142105419:=()
def tw907924011014376786:=()
def tw9441929048183418604:=()
def tw6877389288611034903:=()
def tw13151866598359121609:=()
def tw485953423980514267:=()
def tw8145512018370762320:=()
def tw7837452090747429773:=()
def tw18262348885937389447:=()
def tw10431833614879371302:=()
def tw3151573436860771493:=()
def tw10212401001781702765:=()
def tw599110101116089900:=()
def tw9292149806802189516:=()
def tw6621189110599780019:=()
def tw5837146348016550440:=()
def tw18335264115760440189:=()
def tw15135965311582527377:=()
def tw12029833010062105107:=()
def tw8466899737609851694:=()
def tw1739756933132069071:=()
def tw10385056422049603305:=()
def tw3527144578282452903:=()
def tw15972686613688186443:=()
def tw6102847861077618956:=()
def tw7526340318401247495:=()
def tw7572728836838010268:=()
def tw5504874764879616251:=()
def tw15335737918330418669:=()
def tw17273909084427412894:=()
def tw7786471810564071048:=()
def tw16541179579759568557:=()
def tw1183096139395541505:=()
def tw6999147086182918663:=()
def tw4484531810710828453:=()
def tw9497822669347227933:=()
def tw10030976560522326729:=()
def tw9862683111913102893:=()
def tw8741425567832945902:=()
def tw511721930855968751:=()
def tw2013101045593438177:=()
def tw6460474879256886331:=()
def tw11790251292899609574:=()
def tw11363448553489490811:=()
def tw14382545176333488453:=()
def tw5293056152978204242:=()
def tw2260050204243776754:=()
def tw2115387227563656219:=()
def tw13163000369608477850:=()
def tw1940028924715679707:=()
def tw16875587912513734573:=()
def tw4233993368346224275:=()
def tw6014402403953705656:=()
def tw14826958101959512200:=()
def tw18075145305148977178:=()
def tw5600791338563246722:=()
end PySem.W.Fast
namespace WO
open PySem PySem.Spec PyProof.Rows L2 L3 L4
def all_mk{l:PySem.W.OpenLaw}{w:World}{K:Fg}{h:Heap}{mg:Pn}{fa Oj PL QB O3 PK QA Qz Qg:Addr}(X:K.In h)(G:h.Ns mainGlobals mg)(hfa:mg "law"=some (.ref fa))(p0:Fa K "begun" uu)(p1:Fa K "can_be" qc)(p2:Fa K "led_to" qb)(p3:Fa K "pairs_of" kJ)(p4:Fa K "leads_at" kL)(p5:Fa K "said" yk)(p6:Fa K "leads_from" iK)(p7:Fa K "backs_of" kO)(p8:Fa K "far_from" kN)(p9:Fa K "hands_of" kM)(p10:Fa K "holds" oZ)(p11:Fa K "astray_in" jp)(p12:Fa K "lost_in" mS)(p13:FaV K "answers" il 1000)(p14:Fa K "_law_feed" jv)(p15:Fa K "_law_draw" jw)(p16:Fa K "_law_rule" jr)(p17:Fa K "_law_sorts" iM)(p18:Fa K "_law_question" dF)(p19:Fa K "_law_holds" fT)(p20:Fa K "_law_made" jt)(p21:Fa K "_law_bent_rule" eL)(p22:Fa K "_law_pair" js)(p23:Fa K "_law_steps" iL)(p24:Fa K "_law_all" kQ)(p25:Fa K "_law_counts" gU)(p26:Fa K "_law_begun" iO)(p27:Fa K "_law_said" jq)(p28:Fa K "_law_back" jx)(p29:Fa K "_law_lost" ju)(p30:Fa K "_law_ask" kP)(p31:Fa K "_law_too_many" fD)(p32:Fa K "law" CP)(q0:Xa K "TooMany" "TooMany.__init__" gf [])(WA:PySem.W.nsIn K mainGlobals "TooMany"=some (some (.ref Oj)))(gbM:PySem.W.nsIn K mainGlobals "NoCrowd"=some (some (.ref PL)))(gbQ:PySem.W.nsIn K mainGlobals "NoLine"=some (some (.ref QB)))(gbu:PySem.W.nsIn K mainGlobals "NoMeeting"=some (some (.ref O3)))(gbN:PySem.W.nsIn K mainGlobals "NoPaper"=some (some (.ref PK)))(gbR:PySem.W.nsIn K mainGlobals "NoRule"=some (some (.ref QA)))(gbS:PySem.W.nsIn K mainGlobals "NoText"=some (some (.ref Qz)))(gbv:PySem.W.nsIn K mainGlobals "PassError"=some (some (.ref Qg)))(gam:PySem.W.kitAny K (.ref Oj) [.ref PL,.ref QB,.ref O3,.ref PK,.ref QA,.ref Qz]=some false)(gaY:PySem.W.kitOne K (.ref Oj) (.ref Oj)=some true)(gaQ:PySem.W.kitOne K (.ref Oj) (.type "ValueError")=some true)(gaS:PySem.W.exmOne K (.ref Oj) (.ref Qg)=some true)(bz:(BL.all λx=>Ln (PySem.W.nsIn K mainGlobals x))=true) :
  ∃fd:FuncData,(∀(s:Shared) (v:Value),BindsTo s fd ⟨[v],[]⟩ [("_law_script",v)])/\∀base:Heap,K.In base->base.Ns mainGlobals mg->Oz l.prog w K mg base (PF l.prog w) 14 fa fd ["_law_script"] (C_ K 1 uO):=by
 obtain⟨f0,fd0,a0,F0⟩:=p0;obtain⟨f1,fd1,a1,F1⟩:=p1;obtain⟨f2,fd2,a2,F2⟩:=p2;obtain⟨f3,fd3,a3,F3⟩:=p3;obtain⟨f4,fd4,a4,F4⟩:=p4;obtain⟨f5,fd5,a5,F5⟩:=p5;obtain⟨f6,fd6,a6,F6⟩:=p6;obtain⟨f7,fd7,a7,F7⟩:=p7;obtain⟨f8,fd8,a8,F8⟩:=p8;obtain⟨f9,fd9,a9,F9⟩:=p9;obtain⟨f10,zbj,a10,F10⟩:=p10;obtain⟨f11,zbi,a11,F11⟩:=p11;obtain⟨f12,zbh,a12,F12⟩:=p12;obtain⟨f13,zbg,T13,a13,F13,t13⟩:=p13;obtain⟨f14,zbf,a14,F14⟩:=p14;obtain⟨f15,zbe,a15,F15⟩:=p15;obtain⟨f16,zbd,a16,F16⟩:=p16;obtain⟨f17,zbc,a17,F17⟩:=p17;obtain⟨f18,zbb,a18,F18⟩:=p18;obtain⟨f19,zba,a19,F19⟩:=p19;obtain⟨f20,zaZ,a20,F20⟩:=p20;obtain⟨f21,zaY,a21,F21⟩:=p21;obtain⟨f22,zaX,a22,F22⟩:=p22;obtain⟨f23,zaW,a23,F23⟩:=p23;obtain⟨f24,zaV,a24,F24⟩:=p24;obtain⟨f25,zaU,a25,F25⟩:=p25;obtain⟨f26,zaT,a26,F26⟩:=p26;obtain⟨f27,zaS,a27,F27⟩:=p27;obtain⟨f28,zaR,a28,F28⟩:=p28;obtain⟨f29,zaQ,a29,F29⟩:=p29;obtain⟨f30,zaP,ZW,F30⟩:=p30;obtain⟨f31,zaO,a31,F31⟩:=p31;obtain⟨f32,zaJ,a32,F32⟩:=p32;obtain⟨C0,D0,g0,gd0,b0,G0,x0,y0,z0,u0,v0⟩:=q0
 cases IK b0 WA
 cases hfa.symm.trans (bj X G a32)
 have B:BN mg:=LH X G bz;have Kx:KX K mg:=⟨⟨[PL,QB,O3,PK,QA,Qz],⟨bj X G gbM,bj X G gbQ,bj X G gbu,bj X G gbN,bj X G gbR,bj X G gbS,trivial⟩,⟨⟨_,WA,gam⟩,trivial⟩⟩,⟨_,bj X G WA,⟨⟨_,WA,gaY⟩,trivial⟩⟩,⟨⟨_,WA,gaQ⟩,trivial⟩,⟨_,bj X G gbv,⟨⟨_,WA,gaS⟩,trivial⟩⟩,⟨_,bj X G ZW,ZW⟩⟩;refine⟨zaJ,λs v=>?_,λbase _ _=>?_⟩
 ·obtain⟨_,_,_,_,_,_,_,_,_,rfl,_⟩:=F32.ex;exact .of_eq rfl
 have Qw:=yZ (P:=l.prog) (w:=w) (base:=base) G0 x0 (bj X G b0) y0 z0 u0 v0;have Ww:=Dv (P:=l.prog) (w:=w) (base:=base) F0 (bj X G a0) B Kx;have gbU:=Bq (P:=l.prog) (w:=w) (base:=base) F1 (bj X G a1) B Kx;have gbV:=Bp (P:=l.prog) (w:=w) (base:=base) F2 (bj X G a2) B Kx;have gbG:=wt (P:=l.prog) (w:=w) (base:=base) F3 (bj X G a3) B Kx;have gbH:=wu (P:=l.prog) (w:=w) (base:=base) F4 (bj X G a4) B Kx gbU gbV;have gb0:=FG (P:=l.prog) (w:=w) (base:=base) F5 (bj X G a5) B Kx;have WE:=rQ (P:=l.prog) (w:=w) (base:=base) F6 (bj X G a6) B Kx gbG gbH Qw;have gbI:=wy (P:=l.prog) (w:=w) (base:=base) F7 (bj X G a7) B Kx;have gbw:=ww (P:=l.prog) (w:=w) (base:=base) F8 (bj X G a8) B Kx;have Yp:=wv (P:=l.prog) (w:=w) (base:=base) F9 (bj X G a9) B Kx;have Wv:=Du (P:=l.prog) (w:=w) (base:=base) F10 (bj X G a10) B Kx Yp 8;have gbz:=uE (P:=l.prog) (w:=w) (base:=base) F11 (bj X G a11) B Kx gb0;have WG:=yt (P:=l.prog) (w:=w) (base:=base) F12 (bj X G a12) B Kx gbI gbw gbz;have Yj:=yu (P:=l.prog) (w:=w) (base:=base) F13 t13 (bj X G a13) B Kx WE Ww WG Wv;have Qy:=yv (P:=l.prog) (w:=w) (base:=base) F13 t13 (bj X G a13) B Kx WE Ww WG Wv;have gbC:=uK (P:=l.prog) (w:=w) (base:=base) F14 (bj X G a14) B Kx;have O6:=uL (P:=l.prog) (w:=w) (base:=base) F15 (bj X G a15) B Kx;have Yq:=uG (P:=l.prog) (w:=w) (base:=base) F16 (bj X G a16) B Kx O6;have ZH:=rS (P:=l.prog) (w:=w) (base:=base) F17 (bj X G a17) B Kx O6;have XH:=m9 (P:=l.prog) (w:=w) (base:=base) F18 (bj X G a18) B Kx O6 ZH 8;have gbt:=rT (P:=l.prog) (w:=w) (base:=base) F19 (bj X G a19) B Kx 8;have gbA:=uI (P:=l.prog) (w:=w) (base:=base) F20 (bj X G a20) B Kx;have ga4:=lL (P:=l.prog) (w:=w) (base:=base) F21 (bj X G a21) B Kx O6;have gbD:=uH (P:=l.prog) (w:=w) (base:=base) F22 (bj X G a22) B Kx Yq XH gbA O6 ga4;have gbs:=rR (P:=l.prog) (w:=w) (base:=base) F23 (bj X G a23) B Kx;have Yl:=wA (P:=l.prog) (w:=w) (base:=base) F24 (bj X G a24) B Kx gbs;have gbo:=qB (P:=l.prog) (w:=w) (base:=base) F25 (bj X G a25) B Kx O6;have Yk:=rV (P:=l.prog) (w:=w) (base:=base) F26 (bj X G a26) B Kx;have gbB:=uF (P:=l.prog) (w:=w) (base:=base) F27 (bj X G a27) B Kx;have gbn:=uM (P:=l.prog) (w:=w) (base:=base) F28 (bj X G a28) B Kx;have gbE:=uJ (P:=l.prog) (w:=w) (base:=base) F29 (bj X G a29) B Kx Yl gbn Yk gbt gbB;have gbK:=wz (P:=l.prog) (w:=w) (base:=base) F30 (bj X G ZW) B Kx Yj;have gba:=m6 (P:=l.prog) (w:=w) (base:=base) F31 (bj X G a31) B Kx gbK;exact Jf F32 B Kx gbC gbD Yq XH gbo Yl gbE Yk Yj gba Qy
def walk{l:PySem.W.OpenLaw}{q:Program}{loose:List Str}{XP:(Str->Option Value)->Heap->Prop}{YP:World->Heap->Prop}{d:DefRec}{K:Params->Fg}(main:∀ns:List Int,ns.length<=63->AJ (.list (ns.map PyData.int))=.ret (.bool true))(hn:l.most=some 63)(Zx:d.params.defaults=[])
  (hY:∀(w:World) (h:Heap),YP w h->(K w.params).In h)
  (F:∀(w:World) (mg:Pn) (fa:Addr) (h:Heap),(K w.params).In h->h.Ns mainGlobals mg->mg d.name=some (.ref fa) ->
   ∃fd:FuncData,(∀(s:Shared) (u:Value),BindsTo s fd ⟨[u],[]⟩ [("_law_script",u)])/\∀base:Heap,(K w.params).In base->base.Ns mainGlobals mg->Oz l.prog w (K w.params) mg base (PF l.prog w) 14 fa fd ["_law_script"] (C_ (K w.params) 1 uO)) :
  PySem.W.WalkO q loose XP YP l.row.toRowW d [] (λf vs=>PySem.call f vs) :=
 L2.Va (n:=63) (k:=14) (x := "_law_script") (CX:=λw=>PF l.prog w) (sp:=λw=>C_ (K w.params) 1 uO) hn (by decide) Zx ⟨rfl,by decide,by decide,rfl⟩ hY F (λw H a ns hl _ hS=>Bw hS (main ns hl)) λ_ _ _ _ _ ⟨_,_,_,_,_,_,_,_,_,_,z⟩=>z
end WO
open PySem PySem.W PyProof.Rows L4
set_option maxRecDepth 100000 in
set_option maxHeartbeats 0 in
theorem PySem.Challenge.cw_passersby_k33_answers_holds : PySem.Challenge.rw_passersby_k33_answers.Holds := by
 w_on;o_law;k_head;(case hw=>w_witness2)
 k_fill
 refine WO.walk (l:=PySem.Challenge.rw_passersby_k33_answers) WO.main rfl rfl (λw h Y=>PySem.W.kIn_of Y) ?F
 case F =>
  intro w mg fa h KX G H_;refine' WO.all_mk KX G H_ (bY ?a0 ?l0 ?c0 ?k0) (bY ?a1 ?l1 ?c1 ?k1) (bY ?a2 ?l2 ?c2 ?k2) (bY ?a3 ?l3 ?c3 ?k3) (bY ?a4 ?l4 ?c4 ?k4) (bY ?a5 ?l5 ?c5 ?k5) (bY ?a6 ?l6 ?c6 ?k6) (bY ?a7 ?l7 ?c7 ?k7) (bY ?a8 ?l8 ?c8 ?k8) (bY ?a9 ?l9 ?c9 ?k9) (bY ?a10 ?Y_ ?c10 ?k10) (bY ?a11 ?U0 ?c11 ?k11) (bY ?a12 ?TR ?c12 ?k12) (Jj ?a13 ?Uv ?c13 ?k13 ?Ys ?e13 ?r13) (bY ?a14 ?VA ?c14 ?k14) (bY ?a15 ?Xl ?c15 ?k15) (bY ?a16 ?Y9 ?c16 ?k16) (bY ?a17 ?Xk ?c17 ?k17) (bY ?a18 ?Vz ?c18 ?k18) (bY ?a19 ?l19 ?c19 ?k19) (bY ?a20 ?Vy ?c20 ?k20) (bY ?a21 ?SV ?c21 ?k21) (bY ?a22 ?Vx ?c22 ?k22) (bY ?a23 ?l23 ?c23 ?k23) (bY ?a24 ?l24 ?c24 ?k24) (bY ?a25 ?l25 ?c25 ?k25) (bY ?a26 ?l26 ?c26 ?k26) (bY ?a27 ?Y8 ?c27 ?k27) (bY ?a28 ?l28 ?c28 ?k28) (bY ?a29 ?l29 ?c29 ?k29) (bY ?ZW ?l30 ?c30 ?k30) (bY ?a31 ?l31 ?c31 ?k31) (bY ?a32 ?l32 ?c32 ?k32) (JZ ?xa0 ?xb0 ?xc0 ?xd0 ?xe0 ?xf0 ?xg0 ?xh0 ?xi0 ?xj0 ?xk0 ?xl0 ?xm0 ?xp0 ?xq0 ?xr0 ?xo0 na0) ?WA ?gbM ?gbQ ?gbu ?gbN ?gbR ?gbS ?gbv ?gam ?gaY ?gaQ ?gaS ?bz
  (case a0|l0|c0|k0|a1|l1|c1|k1|a2|l2|c2|k2|a3|l3|c3|k3|a4|l4|c4|k4|a5|l5|c5|k5|a6|l6|c6|k6|a7|l7|c7|k7|a8|l8|c8|k8|a9|l9|c9|k9|a10|Y_|c10|k10|a11|U0|c11|k11|a12|TR|c12|k12|a13|Uv|c13|k13|Ys=>k_is)
  (case e13=>rfl)
  (case r13=>exact⟨_,rfl⟩)
  (case a14|VA|c14|k14|a15|Xl|c15|k15|a16|Y9|c16|k16|a17|Xk|c17|k17|a18|Vz|c18|k18|a19|l19|c19|k19|a20|Vy|c20|k20|a21|SV|c21|k21|a22|Vx|c22|k22|a23|l23|c23|k23|a24|l24|c24|k24|a25|l25|c25|k25|a26|l26|c26|k26|a27|Y8|c27|k27|a28|l28|c28|k28|a29|l29|c29|k29|ZW|l30|c30|k30|a31|l31|c31|k31|a32|l32|c32|k32|xa0|xb0|xc0|xd0|xe0|xf0|xg0=>k_is)
  (case xh0=>kernel_rfl)
  (case xi0|xj0|xk0|xl0=>k_is)
  (case xm0=>kernel_rfl)
  (case xp0|xq0|xr0=>k_is)
  (case xo0=>kernel_rfl)
  (case WA|gbM|gbQ|gbu|gbN|gbR|gbS|gbv=>k_is)
  (case gam|gaY|gaQ|gaS|bz=>kernel_rfl)
