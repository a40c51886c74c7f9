import PyProof.Rows.All
import Wide.All
import OpenK.AllK
import Wide.FinOn
import Lean
import PyProof.EqAt
import PyProof.EqKinds
import PyProof.TupleCall
import PySem.Challenge.RW_passersby_k62_refutations_judged
noncomputable section
set_option Elab.async false
set_option linter.all false
set_option maxRecDepth 100000
noncomputable def zza:=@PySem.wpAny_bind
noncomputable def zzb:=@PySem.wpAny_pure
noncomputable def zzc:=@PySem.Heap.get?_push_of_some
noncomputable def zzd:=@List.length_map
noncomputable def zze:=@PySem.Heap.get?_push_size
noncomputable def zzf:=@List.length_append
noncomputable def zzg:=@List.mem_cons_of_mem
noncomputable def zzi:=@decide_eq_true_eq
abbrev zzj:=PySem.Value->PySem.Shared->Prop
abbrev zzk:=List (PySem.Addr×PySem.Obj)
abbrev zzl:=PySem.Str->Option PySem.Value
section
open PySem PySem.Spec PyProof.Rows
def ac:=@Bool.eq_false_or_eq_true
def ag:=@Bool.and_eq_true
def ai:=@List.not_mem_nil
def ak:=@List.mem_cons
def al:=@List.getD_eq_getElem?_getD
def am:=@PySem.W.mg_of
def ar:=@Bool.not_true
def aw:=@if_true
def ax:=@List.getElem?_eq_getElem
def ay:=@PySem.boot_len
def ba:=@Heap.lt_size
def be:=@if_pos
def bj:=@List.size_toArray
def bo:=@Nat.le_refl
def br:=@beq_eq_false_iff_ne
def bu:=@List.length_cons
def ce:=@Bool.true_and
def cr:=@Nat.lt_of_lt_of_le
def de:=@decide_eq_true
def di:=@Bool.not_false
def ef:=@if_neg
def eg:=@Nat.le_trans
def el:=@or_false
def ev:=@List.getElem?_append_left
def eE:=@decide_eq_false
def eT:=@wpAny_field
def fu:=@List.mem_cons_self
def ge:=@Int.eq_ofNat_of_zero_le
def gh:=@Nat.zero_le
def gi:=@wpAny_newObj_type
def gn:=@List.eq_of_mem_replicate
def gt:=@List.replicate_succ
def ia:=@wpAny_callSpecial?_slot
def ib:=@List.getElem?_take_of_lt
def ic:=@List.length_range
def ig:=@List.mem_append_right
def im:=@Bool.false_and
def io:=@Nat.ne_of_lt
def ir:=@List.all_cons
def ix:=@wpAny_seqItems
def iz:=@F.slot_tuple_iterator_next
def je:=@List.map_cons
def ke:=@Bool.and_true
def ki:=@wpAny_setField_rec
def kv:=@Obj.data_mapFields
def kw:=@Heap.size_push
def ll:=@wpAny_call_entry
def ls:=@List.length_take
def lu:=@Int.toNat_natCast
def mm:=@PyProof.Rows.slot_tuple_getitem
def mo:=@List.mem_of_mem_take
def ng:=@List.mem_of_mem_drop
def ni:=@Bool.false_ne_true
def nu:=@Nat.ne_of_gt
def ny:=@List.zipWith_cons_cons
def og:=@List.getElem_map
def om:=@PySem.mem_of_lookup
def ot:=@List.filterMap_cons
def ou:=@List.getElem?_map
def pi:=@List.flatten_cons
def pr:=@List.map_map
def pI:=@List.getElem_mem
def rm:=@List.getElem?_set_ne
def rn:=@List.cons_append
def sd:=@PyProof.Rows.callWith_type1
def se:=@Nat.lt_irrefl
def ss:=@wpAny_truthy_bool
def su:=@List.map_congr_left
def tt:=@List.length_nil
def tu:=@List.lookup_cons
def ue:=@Bool.or_eq_true
def ug:=@List.getElem?_set_self
def ul:=@List.all_map
def um:=@List.length_drop
def ur:=@wpAny_pyIter_tuple
def u8:=@List.getElem?_append_right
def ve:=@List.length_replicate
def wa:=@Heap.get?_update_self
def we:=@PySem.W.kia_one
def wn:=@List.append_nil
def wo:=@F.slot_zip_next
def wE:=@List.append_assoc
def wP:=@Bool.not_eq_true'
def wS:=@Heap.get?_update_other
def wT:=@Option.map_some
def xt:=@List.of_mem_zip
def xv:=@F.args_tuple_iterator_next_1
def xz:=@Obj.isFreed_of_fields
def ye:=@F.entry_tuple_iterator_next
def yp:=@wpAny_updateSeq_pair
def ze:=@wpAny_setField
def zi:=@List.all_nil
def At:=@List.drop_eq_getElem_cons
def Ba:=@List.length_zipWith
def Ch:=@wpAny_onRaise
def Cn:=@wpAny_holding
def CA:=@List.forIn_cons
def Db:=@wpAny_mono
def DE:=@List.reverse_cons
def DI:=@Bool.and_false
def Er:=@wpAny_rule
def EA:=@Nat.min_le_right
def ES:=@wpAny_attempt
def Go:=@wpAny_letGo
def GR:=@wpAny_passesOwn
def HI:=@List.map_append
def Ix:=@List.foldl_cons
def ID:=@Bool.eq_iff_iff
def IN:=@Array.length_toList
def IT:=@Nat.le_of_lt
def Jn:=@wpAny_Call_Name_kw
def Jo:=@call_meets
def Jp:=@beq_iff_eq
def Jq:=@List.getElem_range
def Jr:=@List.forIn_nil
def Js:=@decide_true
def Jt:=@Obj.cls_mapFields
def Ju:=@F.args_zip_next_1
def Jv:=@PySem.F.args_tuple_mul_2
def Jw:=@PySem.F.args_tuple_add_2
def Jx:=@Int.emod_self
def Jy:=@AutoSeq1.sub_tuple_tuple
def Jz:=@wpAny_pyIter_zip
def JA:=@PySem.F.entry_tuple_mul
def JB:=@PySem.F.entry_tuple_add
def JC:=@Option.bind_some
def JD:=@List.zipIdx_cons
def JE:=@List.getElem?_replicate
def JF:=@List.ext_getElem
def JG:=@F.entry_zip_next
def JH:=@PySem.F.slot_tuple_mul
def JI:=@PySem.F.slot_tuple_add
def JJ:=@Nat.min_eq_left
def JK:=@List.zipIdx_nil
def JL:=@List.nil_append
def JM:=@F.slot_int_rmul
def JN:=@List.length_singleton
def JO:=@List.getElem?_toArray
end
namespace L2
open PySem PySem.Spec PyProof.Rows
variable {s:Shared}{pos p:Pos}{pins:zzk}{x:Str}{u:Value}{a b:Addr}{h h':Heap}{P:Program}{w:World}{A:Around}{t' i k:Nat}{E:zzj}{e tg c:Expr}{o:Obj}{us:List Value}{es:List Expr}{op:CmpOp}{ch fp:List Addr}{Q:Unit->Shared->Prop}
abbrev Key:=Sum Int Str
def tf:Key->Value->Bool
 | .inl k,v=>Value.isInt k v
 | .inr x,v=>Value.isStrOf x v
def IK(w:World):Key->Int
 | .inl k=>hashInt k
 | .inr x=>hashStr w x
theorem cX:∀{k:Key} {v:Value},tf k v=true->(∃i t,k=Sum.inl i/\v=Value.int i t)\/(∃x t,k=Sum.inr x/\v=Value.str x t)
 | .inl i,v,h=>by
  obtain⟨t,e⟩:=Value.isInt_shape (k:=i) (v:=v) h
  exact .inl ⟨i,t,rfl,e⟩
 | .inr x,v,h=>by
  obtain⟨t,e⟩:=Value.isStrOf_shape (x:=x) (v:=v) h
  exact .inr ⟨x,t,rfl,e⟩
theorem zZ(i:Int)(t:Tok):tf (.inl i) (.int i t)=true:=by simp[tf,Value.isInt]
theorem zY(x:Str)(t:Tok):tf (.inr x) (.str x t)=true:=by simp[tf,Value.isStrOf]
theorem FM(a b:Int):decide ((Sum.inl a:Key)=Sum.inl b)=(a==b):=by
 by_cases e:a=b
 ·subst e;simp
 ·have h:¬ (Sum.inl a:Key)=Sum.inl b:=λq=>e (Sum.inl.inj q)
  rw[eE h]
  exact(beq_eq_false_iff_ne.mpr e).symm
theorem FI(a b:Str):decide ((Sum.inr a:Key)=Sum.inr b)=decide (a=b):=by
 by_cases e:a=b
 ·subst e;simp
 ·have h:¬ (Sum.inr a:Key)=Sum.inr b:=λq=>e (Sum.inr.inj q)
  rw[eE h,eE e]
theorem FL(a:Int)(b:Str):decide ((Sum.inl a:Key)=Sum.inr b)=false:=eE (λq=>nomatch q)
theorem FJ(a:Str)(b:Int):decide ((Sum.inr a:Key)=Sum.inl b)=false:=eE (λq=>nomatch q)
def eu(prog:Program)(w:World):PySem.KeyKind prog w Key where
 is:=tf
 hash:=IK w
 inj:=λv a b ha hb=>by
  rcases cX ha with ⟨i,t,rfl,rfl⟩|⟨x,t,rfl,rfl⟩
  ·rcases cX hb with ⟨j,u,rfl,e⟩|⟨y,u,rfl,e⟩
   ·injection e with e1 _;rw[e1]
   ·exact nomatch e
  ·rcases cX hb with ⟨j,u,rfl,e⟩|⟨y,u,rfl,e⟩
   ·exact nomatch e
   ·injection e with e1 _;rw[e1]
 byValue:=λk v h=>by
  rcases cX h with ⟨i,t,rfl,rfl⟩|⟨x,t,rfl,rfl⟩<;>rfl
 pyHash:=λhv h=>by
  rcases cX hv with ⟨i,t,rfl,rfl⟩|⟨x,t,rfl,rfl⟩
  ·exact wpAny_pyHash_int h
  ·exact wpAny_pyHash_str h
 eqBool:=λhu hv h=>by
  rcases cX hu with ⟨i,t,rfl,rfl⟩|⟨x,t,rfl,rfl⟩
  ·rcases cX hv with ⟨j,u,rfl,rfl⟩|⟨y,u,rfl,rfl⟩
   ·rw[FM]at h;exact wpAny_eqBool_int h
   ·rw[FL]at h;exact SeqAt.EqAt.int_str i t y u _ _ _ _ h
  ·rcases cX hv with ⟨j,u,rfl,rfl⟩|⟨y,u,rfl,rfl⟩
   ·rw[FJ]at h;exact SeqAt.EqAt.str_int x t j u _ _ _ _ h
   ·rw[FI]at h;exact wpAny_eqBool_str h
 «strs»:=λk x t v h=>by
  rcases cX h with ⟨i,u,rfl,e⟩|⟨y,u,rfl,e⟩
  ·exact nomatch e
  ·injection e with e1 _
   subst e1
   cases v<;>rfl
theorem vV(prog:Program)(w:World)(i:Int)(t:Tok):(eu prog w).is (.inl i) (.int i t)=true:=zZ i t
theorem vU(prog:Program)(w:World)(x:Str)(t:Tok):(eu prog w).is (.inr x) (.str x t)=true:=zY x t
inductive V where
 | non|bl (b:Bool)|int (i:Int)|str (x:Str)|byt (b:Array UInt8)|flt (b:UInt64)|ref (a:Addr)|ty (n:String)
 deriving DecidableEq
def RelV:V->Value->Prop
 | .non,u=>u=Value.none
 | .bl b,u=>u=Value.bool b
 | .int i,u=>∃t,u=Value.int i t
 | .str x,u=>∃t,u=Value.str x t
 | .byt b,u=>∃t,u=Value.bytes b t
 | .flt b,u=>∃t,u=Value.float b t
 | .ref a,u=>u=Value.ref a
 | .ty n,u=>u=Value.type n
abbrev Vals:List V->List Value->Prop:=Paired RelV
theorem Vals.length{xs:List V}(r:Vals xs us):xs.length=us.length:=Paired.length r
theorem Vals.get:∀{xs:List V} {us:List Value} {i:Nat} {x:V},Vals xs us->xs[i]? = some x->∃u,us[i]? = some u/\RelV x u
 | _,_,_,_,.nil,e=>by simp at e
 | _,_,0,_,.cons r _,e=>by simp at e;subst e;exact⟨_,rfl,r⟩
 | _,_,i+1,x,.cons _ t,e=>by
  obtain⟨u,h1,h2⟩:=Vals.get (i:=i) (x:=x) t (by simpa using e)
  exact⟨u,by simpa using h1,h2⟩
theorem Vals.set{x:V}(r:RelV x u):∀{xs:List V} {us:List Value} (i:Nat),Vals xs us->Vals (xs.set i x) (us.set i u)
 | _,_,_,.nil=>.nil
 | _,_,0,.cons _ t=>.cons r t
 | _,_,i+1,.cons q t=>.cons q (Vals.set r i t)
theorem Vals.append:∀{xs ys:List V} {us ws:List Value},Vals xs us->Vals ys ws->Vals (xs++ys) (us++ws):=by
 intro xs ys us ws h s
 induction h with
 | nil=>exact s
 | cons r _ ih=>exact .cons r ih
theorem Vals.take:∀{xs:List V} {us:List Value} (n:Nat),Vals xs us->Vals (xs.take n) (us.take n)
 | _,_,0,_=>.nil
 | _,_,_+1,.nil=>.nil
 | _,_,n+1,.cons r t=>.cons r (Vals.take n t)
theorem Vals.drop:∀{xs:List V} {us:List Value} (n:Nat),Vals xs us->Vals (xs.drop n) (us.drop n)
 | _,_,0,r=>r
 | _,_,_+1,.nil=>.nil
 | _,_,n+1,.cons _ t=>Vals.drop n t
def Gn:Option V->Option Value->Prop
 | some v,some u=>RelV v u
 | none,none=>True
 | _,_=>False
def KV{κ:Type}:List (κ×V)->List (κ×Value)->Prop:=Paired λ(p:κ×V) (q:κ×Value)=>p.1=q.1/\RelV p.2 q.2
def kV:Key->V
 | .inl i=>.int i
 | .inr x=>.str x
inductive HO where
 | lst (xs:List V)
 | tup (xs:List V)
 | dK (kvs:List (Key×V))|dT (kvs:List (List Key×V))
 | set (S:Int->Bool) (n:Nat)
 | ins (C dx:Addr) (fs:List (Str×V))
 | own (x:Addr)
 | xd (fs:List (Str×V))
 | met (f x:Addr)
 | rng (lo hi:Int)
 | frz (o:Obj) (u:HO)
 | tbl (ps:Array Value)
 | obj (o:Obj)
 | ext (φ:Heap->Prop)
abbrev Hp:=Addr->Option HO
def upd(H:Hp)(a:Addr)(o:HO):Hp:=λb=>if b=a then some o else H b
theorem dq{H:Hp}{o:HO}:upd H a o a=some o:=by unfold upd;rw[be rfl]
theorem bv{H:Hp}{o:HO}(h:b≠a):upd H a o b=H b:=by unfold upd;rw[ef h]
theorem bE{H:Hp}{o:HO}(h:H a=some o)(h':H b=none):a≠b:=by
 intro e;subst e;rw[h]at h';cases h'
section
variable (P:Program) (w:World)
def _root_.L2.TupN(h:Heap)(a:Addr):Prop:=∃o,h.get? a=some o/\o.dict=none
theorem _root_.L2.TupN.new(h:Heap)(items:Array Value):TupN (h.push { cls:=.type "tuple",data:=.seq items }) h.objs.size:=⟨_,zze _ rfl,rfl⟩
def ObjOk(H:Hp)(h:Heap)(a:Addr):HO->Prop
 | .lst xs=>xs.length<=sizeLine/\∃(its:List Value) (n:Nat),Vals xs its/\h.get? a=some { cls:=.type "list",data:=.seq its.toArray n }
 | .tup xs=>xs.length<=sizeLine/\∃its:List Value,Vals xs its/\IsTup h a its.toArray/\TupN h a
 | .dK kvs=>kvs.length<=sizeLine/\(a==sysModules)=false/\∃vs,KV kvs vs/\h.DictOf (eu P w) a vs
 | .dT kvs=>kvs.length<=sizeLine/\(a==sysModules)=false/\∃xs:List (List Key×Addr×Value),
   Paired (λ(p:List Key×V) (q:List Key×Addr×Value)=>p.1=q.1/\H q.2.1=some (.tup (p.1.map kV))/\RelV p.2 q.2.2) kvs xs /\
   ∃o es ep,h.get? a=some o/\o.ExactDict/\o.data=.dict es ep/\es.toList=xs.map (entryOfKey (tupleKind (eu P w)))/\(xs.map (·.1)).Nodup
 | .set S n=>h.SetOf (intKind P w) a S n
 | .ins C dx fs=>H dx=some (.own a)/\fs.length<=1000/\dx≠a/\h.get? a=some (PySem.W.instObj C dx) /\
   ∃mA,h.Ns1 dx mA/\(∀f,Gn (fs.lookup f) (mA f))/\PySem.Within mA (fs.map (·.1))
 | .own _=>∃o,h.get? a=some o
 | .xd fs=>∃mA,h.Ns1 a mA/\∀f,Gn (fs.lookup f) (mA f)
 | .rng lo hi=>∃t u v,h.get? a=some { cls:=.type "range",data:=.fields #[.int lo t,.int hi u,.int 1 v] }
 | .frz o u=>h.get? a=some o/\ObjOk H h a u
 | .tbl ps=>h.get? a=some { cls:=.none,data:=.fields ps }
 | .obj o=>h.get? a=some o
 | .met f x=>h.get? a=some (PySem.W.methodObj (.ref f) (.ref x))
 | .ext φ=>φ h/\(∃o,h.get? a=some o)/\∀h1 h2:Heap,φ h1->(∀o,h1.get? a=some o->h2.get? a=some o)->φ h2
def HOk(H:Hp)(h:Heap):Prop:=∀a o,H a=some o->ObjOk P w H h a o
end
section
variable {H H':Hp} {o:HO}
theorem ObjOk.lt(x:ObjOk P w H h a o):a<h.objs.size:=by
 cases o with
 | lst xs=>obtain⟨_,_,_,_,e⟩:=x;exact ba e
 | tup xs=>obtain⟨_,_,_,p⟩:=x;exact p.1.lt
 | dK kvs=>obtain⟨_,_,_,_,o,_,_,e,_⟩:=x;exact ba e
 | dT kvs=>obtain⟨_,_,_,_,o,_,_,e,_⟩:=x;exact ba e
 | set S n=>obtain⟨o,_,_,_,e,_⟩:=x;exact ba e
 | ins C dx fs=>obtain⟨_,_,_,e,_⟩:=x;exact ba e
 | own y=>obtain⟨_,e⟩:=x;exact ba e
 | xd fs=>obtain⟨_,⟨_,_,_,e,_⟩,_⟩:=x;exact ba e
 | rng lo hi=>obtain⟨_,_,_,e⟩:=x;exact ba e
 | frz ob u=>obtain⟨e,_⟩:=x;exact ba e
 | tbl ps=>exact ba (show h.get? a=some _ from x)
 | obj ob=>exact ba (show h.get? a=some _ from x)
 | met f y=>exact ba (show h.get? a=some _ from x)
 | ext φ=>obtain⟨_,⟨_,e⟩,_⟩:=x;exact ba e
theorem Paired.mapP{α β:Type}{F G:α->β->Prop}:∀{l₁:List α} {l₂:List β},Paired F l₁ l₂->(∀a b,F a b->G a b)->Paired G l₁ l₂:=by
 intro l₁ l₂ h f
 induction h with
 | nil=>exact .nil
 | cons r _ ih=>exact .cons (f _ _ r) ih
theorem ObjOk.stay(x:ObjOk P w H h a o)(k:∀b u,(b=a\/H b=some (.own a))->h.get? b=some u->h'.get? b=some u)
  (ho:∀b,H b=some (.own a)->H' b=some (.own a)) (ht:∀b xs,H b=some (.tup xs)->H' b=some (.tup xs)):ObjOk P w H' h' a o:=by
 induction o with
 | lst xs=>obtain⟨z,its,n,r,e⟩:=x;exact⟨z,its,n,r,k _ _ (.inl rfl) e⟩
 | tup xs=>obtain⟨z,its,r,⟨ob,e,c⟩,ob2,e2,c2⟩:=x;exact⟨z,its,r,⟨ob,k _ _ (.inl rfl) e,c⟩,ob2,k _ _ (.inl rfl) e2,c2⟩
 | dK kvs=>obtain⟨z,y,vs,r,ob,es,ep,e,c⟩:=x;exact⟨z,y,vs,r,ob,es,ep,k _ _ (.inl rfl) e,c⟩
 | dT kvs =>
  obtain⟨z,y,xs,r,ob,es,ep,e,c⟩:=x
  exact⟨z,y,xs,Paired.mapP r λp q z=>⟨z.1,ht _ _ z.2.1,z.2.2⟩,ob,es,ep,k _ _ (.inl rfl) e,c⟩
 | set S n=>obtain⟨ob,es,ep,t,e,c⟩:=x;exact⟨ob,es,ep,t,k _ _ (.inl rfl) e,c⟩
 | ins C dx fs =>
  obtain⟨d,z,ne,e,mA,⟨od,es,ep,e2,c⟩,r⟩:=x
  exact⟨ho _ d,z,ne,k _ _ (.inl rfl) e,mA,⟨od,es,ep,k _ _ (.inr d) e2,c⟩,r⟩
 | own y=>obtain⟨ob,e⟩:=x;exact⟨ob,k _ _ (.inl rfl) e⟩
 | xd fs=>obtain⟨mA,⟨od,es,ep,e,c⟩,r⟩:=x;exact⟨mA,⟨od,es,ep,k _ _ (.inl rfl) e,c⟩,r⟩
 | rng lo hi=>obtain⟨t,u,v,e⟩:=x;exact⟨t,u,v,k _ _ (.inl rfl) e⟩
 | frz ob u ih=>obtain⟨e,q⟩:=x;exact⟨k _ _ (.inl rfl) e,ih q⟩
 | tbl ps =>
  have e:h.get? a=some { cls:=.none,data:=.fields ps }:=x
  show h'.get? a=some { cls:=.none,data:=.fields ps }
  exact k a _ (.inl rfl) e
 | met f y =>
  have e:h.get? a=some (PySem.W.methodObj (.ref f) (.ref y)):=x
  show h'.get? a=some (PySem.W.methodObj (.ref f) (.ref y))
  exact k a _ (.inl rfl) e
 | obj ob=>exact k a _ (.inl rfl) (show h.get? a=some ob from x)
 | ext φ=>obtain⟨p,⟨o,e⟩,st⟩:=x;exact⟨st _ _ p λo q=>k _ _ (.inl rfl) q,⟨o,k _ _ (.inl rfl) e⟩,st⟩
theorem HOk.lt(x:HOk P w H h)(e:H a=some o):a<h.objs.size:=(x a o e).lt
theorem HOk.fresh(x:HOk P w H h)(e:h.objs.size<=a):H a=none:=by
 cases q:H a with
 | none=>rfl
 | some u=>exact absurd (cr (x.lt q) e) (se _)
theorem HOk.kept(x:HOk P w H h)(k:∀b u,h.get? b=some u->h'.get? b=some u):HOk P w H h':=λa o e =>
 (x a o e).stay (λb u _ q=>k b u q) (λ_ q=>q) λ_ _ q=>q
theorem HOk.laid(x:HOk P w H h)(k:∀b u,h.get? b=some u->h'.get? b=some u)(hp:h.objs.size<=a)(new:ObjOk P w (upd H a o) h' a o):HOk P w (upd H a o) h':=λb u e=>by
 have hn:=x.fresh hp
 by_cases hb:b=a
 ·subst hb;rw[dq]at e;cases e;exact new
 ·rw[bv hb]at e
  exact(x b u e).stay (λc v _ q=>k c v q) (λc q=>by rw[bv (bE q hn)];exact q) λc xs q=>by rw[bv (bE q hn)];exact q
end
def Rd(H:Hp)(a:Addr)(u:HO):Prop:=H a=some u\/∃o,H a=some (.frz o u)
theorem Rd.ok{H:Hp}{u:HO}(r:Rd H a u)(x:HOk P w H h):ObjOk P w H h a u:=by
 rcases r with r|⟨o,r⟩
 ·exact x a u r
 ·obtain⟨_,q⟩:=x a _ r
  exact q
def Mut:Option HO->Prop
 | some (.lst _)=>True
 | some (.dK _)=>True
 | some (.dT _)=>True
 | some (.set _ _)=>True
 | some (.obj _)=>True
 | some (.ins _ _ _)=>True
 | some (.ext _)=>True
 | _=>False
section
variable {H:Hp} {x e:Addr} {o':HO}
theorem HOk.write(ok:HOk P w H h)(mu:Mut (H x))(he:e=x\/H e=some (.own x))(k:∀b u,b≠e->h.get? b=some u->h'.get? b=some u)(heo:∃u,h'.get? e=some u)
  (new:ObjOk P w (upd H x o') h' x o'):HOk P w (upd H x o') h':=λb u q=>by
 have nown:∀c y,H c=some (.own y)->c≠x:=λc y r z=>by subst z;rw[r]at mu;exact mu
 have ntup:∀c xs,H c=some (.tup xs)->c≠x:=λc xs r z=>by subst z;rw[r]at mu;exact mu
 by_cases hb:b=x
 ·subst hb;rw[dq]at q;cases q;exact new
 ·rw[bv hb]at q
  by_cases hbe:b=e
  ·have q':H b=some (.own x):=by
    rcases he with z|z
    ·exact absurd (hbe.trans z) hb
    ·rw[hbe];exact z
   rw[q]at q';cases q'
   obtain⟨v,hv⟩:=heo
   exact⟨v,by rw[hbe];exact hv⟩
  ·refine(ok b u q).stay (λc v hc r=>k c v ?_ r) (λc r=>by rw[bv (nown c b r)];exact r) λc xs r=>by rw[bv (ntup c xs r)];exact r
   rcases hc with rfl|hc
   ·exact hbe
   ·rintro rfl
    rcases he with z|z
    ·exact nown c b hc z
    ·rw[hc]at z;cases z;exact hb rfl
end
structure Un(fs ex:List Addr)(H H':Hp)(h h':Heap):Prop where
 keep:∀b o,h.get? b=some o->H b=none->b∉fs->b∉ex->h'.get? b=some o
 slot:∀b o,h.get? b=some o->H b=none->b∈fs->b∉ex->∃sl,h'.get? b=some { o with slots:=sl }
 free:∀b o,h.get? b=some o->H b=none->b∉ex->H' b=none
 there:∀b o,h.get? b=some o->b∉ex->∃o',h'.get? b=some o'
 tups:∀b xs,H b=some (.tup xs)->H' b=some (.tup xs)
 frzs:∀b o u,H b=some (.frz o u)->H' b=some (.frz o u)
 tbls:∀b ps,H b=some (.tbl ps)->∃more,H' b=some (.tbl (ps++more))
section
variable {fs fs' ex ex':List Addr} {H H1 H2:Hp} {h1 h2:Heap} {x e:Addr} {o:HO}
theorem Un.any(u:Un fs ex H H1 h h1){ob:Obj}(q:h.get? b=some ob)(n:H b=none)(hx:b∉ex):∃sl,h1.get? b=some { ob with slots:=sl }:=by
 by_cases hb:b∈fs
 ·exact u.slot b ob q n hb hx
 ·exact⟨ob.slots,u.keep b ob q n hb hx⟩
theorem Un.kept(k:∀b u,h.get? b=some u->h'.get? b=some u):Un fs ex H H h h' :=
 ⟨λb ob q _ _ _=>k b ob q,λb ob q _ _ _=>⟨ob.slots,k b ob q⟩,λ_ _ _ n _=>n,λb ob q _=>⟨ob,k b ob q⟩,λ_ _ q=>q,λ_ _ _ q=>q,λ_ ps q=>⟨#[],by rw[q];simp⟩⟩
theorem Un.refl:Un fs ex H H h h:=Un.kept λ_ _ q=>q
theorem Un.laid(k:∀b u,h.get? b=some u->h'.get? b=some u)(hp:h.objs.size<=a)(hn:H a=none):Un fs ex H (upd H a o) h h' where
 keep:=λb u q _ _ _=>k b u q
 slot:=λb u q _ _ _=>⟨u.slots,k b u q⟩
 free:=λb u q n _=>by rw[bv (io (cr (ba q) hp))];exact n
 there:=λb u q _=>⟨u,k b u q⟩
 tups:=λb xs q=>by rw[bv (bE q hn)];exact q
 frzs:=λb u xs q=>by rw[bv (bE q hn)];exact q
 tbls:=λb ps q=>⟨#[],by rw[bv (bE q hn),q];simp⟩
theorem Un.write(mu:Mut (H x))(he:e=x\/H e=some (.own x))(k:∀b u,b≠e->h.get? b=some u->h'.get? b=some u)(heo:∃u,h'.get? e=some u):Un fs ex H (upd H x o) h h':=by
 have hx:∀b,H b=none->b≠x:=λb n z=>by subst z;rw[n]at mu;exact mu
 have hb:∀b,H b=none->b≠e:=λb n z=>by
  subst z
  rcases he with r|r
  ·exact hx b n r
  ·rw[n]at r;cases r
 have hm:∀b u,H b=some u->¬ Mut (some u)->b≠x:=λb u q nm z=>by subst z;rw[q]at mu;exact nm mu
 refine⟨λb u q n _ _=>k b u (hb b n) q,λb u q n _ _=>⟨u.slots,k b u (hb b n) q⟩,λb u q n _=>by rw[bv (hx b n)];exact n,λb u q _=>?_,
  λb xs q=>by rw[bv (hm b _ q λz=>z)];exact q,λb u xs q=>by rw[bv (hm b _ q λz=>z)];exact q,λb ps q=>⟨#[],by rw[bv (hm b _ q λz=>z),q];simp⟩⟩
 by_cases hbe:b=e
 ·subst hbe;exact heo
 ·exact⟨u,k b u hbe q⟩
end
def trk(h:Heap)(H:Hp):List Addr:=(List.range h.objs.size).filter λa=>(H a).isSome
def uM(h:Heap)(H:Hp):Heap:=PySem.W.hideAll h (trk h H)
theorem Ab(h:Heap)(H:Hp):(uM h H).objs.size=h.objs.size:=PySem.W.hideAll_size _ _
theorem B5{H:Hp}(e:h.get? b=some o)(n:H b=none):(uM h H).get? b=some o :=
 PySem.W.hideAll_get _ e λhm=>by
  have q:(H b).isSome=true:=(List.mem_filter.mp hm).2
  rw[n]at q;simp at q
theorem Dt{H:Hp}(e:(uM h H).get? b=some o):h.get? b=some o/\H b=none:=by
 have e':h.get? b=some o:=PySem.W.of_hideAll (trk h H) e
 refine⟨e',?_⟩
 cases q:H b with
 | none=>rfl
 | some x =>
  have hm:b∈trk h H:=List.mem_filter.mpr ⟨List.mem_range.mpr (ba e'),by simp[q]⟩
  have z:(uM h H).get? b=none:=PySem.W.hideAll_none (trk h H) hm
  rw[z]at e;cases e
structure Mod(K:PySem.W.Frag)(mg:zzl)(base:Heap):Prop where
 kin:K.In base
 glob:base.Ns mainGlobals mg
 blt:∃mb,base.Ns builtinsNs mb/\∀x:Str,x ≠ "__name__" -> mb x=bootBuiltins x
 nolimit:base.NoLimit
structure Cx where
 prog:Program
 w:World
 K:PySem.W.Frag
 mg:Str->Option Value
 base:Heap
 A:Around
 N:List Str
 s₀:Shared
 H₀:Hp
 env:Env
 outer:List Env
 stack:List Env
 ex:List Addr
 fn:Str->Bool
 calm:Bool
 pn:List (Addr×Obj)
 xe:Value->Shared->Prop
def frs(l:List Env):List Addr:=l.filterMap (·.frame)
abbrev Cx.fs(X:Cx):List Addr:=frs X.outer
def Vis(sc:Scope)(x:Str):Prop:=sc.names.lookup x=some .local\/sc.names.lookup x=some .cell\/sc.names.lookup x=some .free
def Loc(sc:Scope)(x:Str):Prop:=sc.names.lookup x=some .local\/sc.names.lookup x=some .cell
def Look(env:Env)(h:Heap)(m:zzl)(x:Str)(u:Value):Prop :=
 (env.kindOf x=some .local/\m x=some u)\/((env.kindOf x=some .cell\/env.kindOf x=some .free)/\∃c,env.cells.lookup x=some c/\h.IsCell c (some u))
structure Cx.Ok(X:Cx):Prop where
 mod:Mod X.K X.mg X.base
 kind:X.env.scope.kind=.function
 glob:X.env.globals=mainGlobals
 blt:X.env.builtins=builtinsNs
 above:X.s₀.heap.objs.size<=X.env.locals
 inj:∀x y c,X.env.cells.lookup x=some c->X.env.cells.lookup y=some c->x=y
 has:∀x,(X.env.kindOf x=some .cell\/X.env.kindOf x=some .free)->∃c,X.env.cells.lookup x=some c
 cab:∀x c,X.fn x=true->X.env.cells.lookup x=some c->X.s₀.heap.objs.size<=c
 hd:X.calm=true->X.A.handled=none
 frames:X.A.frames=some X.stack
 stk:X.stack=X.outer\/(X.stack=X.env::X.outer/\X.env.frame=some X.env.locals)
 exf:∀b∈X.ex,b≠X.env.locals/\∀x c,X.env.cells.lookup x=some c->c≠b
 bs:∀b o,X.base.get? b=some o->X.s₀.heap.get? b=some o/\X.H₀ b=none
 bsz:X.base.objs.size<=X.s₀.heap.objs.size
 noex:∀b o,X.base.get? b=some o->b∉X.ex
 exfs:∀b∈X.ex,b∉X.fs
 funs:X.s₀.heap.FunFrames X.base X.outer
 frf:∀b∈X.fs,X.H₀ b=none
structure Inv(X:Cx)(pins:zzk)(Z:List (Option V))(H:Hp)(s:Shared):Prop where
 ok:X.Ok
 os:s.os=X.s₀.os
 bare:AllBare s.gens
 base:Un X.fs X.ex X.H₀ H X.s₀.heap s.heap
 loc:∃m,s.heap.Ns X.env.locals m/\∀(i:Nat) (x:Str) (v:V),X.N[i]? = some x->Z[i]? = some (some v)->Vis X.env.scope x->∃u,RelV v u/\Look X.env s.heap m x u
 cell:∀x c,X.env.cells.lookup x=some c->∃v,s.heap.IsCell c v
 free:H X.env.locals=none
 freeC:∀x c,X.env.cells.lookup x=some c->H c=none
 pin:∀p∈X.pn++pins,s.heap.get? p.1=some p.2/\H p.1=none/\p.1≠X.env.locals/\p.1∉X.fs/\∀v,p.2.data≠.cell v
 hok:HOk X.prog X.w H s.heap
 len:Z.length=X.N.length
section
variable {X:Cx} {Z:List (Option V)} {H H':Hp}
theorem Cx.Ok.nofr(ok:X.Ok)(e:X.base.get? b=some o):b∉X.fs:=λhb=>by
 have:=(ok.funs.mem hb).1
 rw[e]at this;cases this
theorem Inv.bs(I:Inv X pins Z H s):∀b o,X.base.get? b=some o->s.heap.get? b=some o/\H b=none:=λb o e =>
 ⟨I.base.keep b o (I.ok.bs b o e).1 (I.ok.bs b o e).2 (I.ok.nofr e) (I.ok.noex b o e),I.base.free b o (I.ok.bs b o e).1 (I.ok.bs b o e).2 (I.ok.noex b o e)⟩
theorem Inv.bk(I:Inv X pins Z H s):∀b o,X.base.get? b=some o->s.heap.get? b=some o:=λb o e=>(I.bs b o e).1
theorem Inv.mod(I:Inv X pins Z H s):Mod X.K X.mg X.base:=I.ok.mod
theorem Inv.kIn(I:Inv X pins Z H s):X.K.In s.heap:=I.ok.mod.kin.keeps I.bk
theorem Inv.lt(I:Inv X pins Z H s):X.env.locals<s.heap.objs.size:=let ⟨_,hn,_⟩:=I.loc;hn.lt
theorem Inv.sz(I:Inv X pins Z H s):X.s₀.heap.objs.size<=s.heap.objs.size:=eg I.ok.above (IT I.lt)
theorem Inv.nofs(I:Inv X pins Z H s)(h:s.heap.objs.size<=a):a∉X.fs:=λhb=>by
 obtain⟨_,o,ho,_⟩:=I.ok.funs.mem hb
 exact absurd (cr (ba ho) (eg I.sz h)) (se _)
theorem Inv.cne(I:Inv X pins Z H s):∀x c,X.env.cells.lookup x=some c->c≠X.env.locals:=λx c e z=>by
 obtain⟨v,o,ho,hd⟩:=I.cell x c e
 obtain⟨m,⟨o',es,ep,ho',hd',_⟩,_⟩:=I.loc
 rw[z,ho']at ho;cases ho;rw[hd']at hd;cases hd
theorem Inv.funs(I:Inv X pins Z H s):s.heap.FunFrames X.base X.outer:=by
 have all:∀(l:List Env),(∀b∈frs l,b∈X.fs)->X.s₀.heap.FunFrames X.base l->s.heap.FunFrames X.base l:=by
  intro l
  induction l with
  | nil=>intro _ _;trivial
  | cons env r ih =>
   intro hs hl
   obtain⟨hk,⟨L,o,hf,hn,ho,hd⟩,hr⟩:=hl
   have hL:L∈X.fs:=hs L (by unfold frs;rw[ot,hf];exact fu)
   obtain⟨sl,e⟩:=I.base.slot L o ho (I.ok.frf L hL) hL λz=>I.ok.exfs L z hL
   exact⟨hk,⟨L,_,hf,hn,e,hd⟩,ih (λb hb=>hs b (by unfold frs;rw[ot,hf];exact zzg _ hb)) hr⟩
 exact all X.outer (λ_ hb=>hb) I.ok.funs
theorem Inv.stack(I:Inv X pins Z H s):s.heap.FunFrames X.base X.stack:=by
 rcases I.ok.stk with e|⟨e,hf⟩
 ·rw[e];exact I.funs
 ·rw[e]
  obtain⟨m,hn,_⟩:=I.loc
  refine .cons (by rw[I.ok.kind];decide) hf hn ?_ I.funs
  exact Heap.get?_none_of_le (eg I.ok.bsz I.ok.above)
theorem Inv.stkSub(I:Inv X pins Z H s):∀b∈frs X.stack,b∈X.env.locals::X.fs:=λb hb=>by
 rcases I.ok.stk with e|⟨e,hf⟩
 ·rw[e]at hb;exact zzg _ hb
 ·rw[e]at hb
  unfold frs at hb
  rw[ot,hf]at hb
  exact hb
theorem Inv.stkFree(I:Inv X pins Z H s):∀b∈frs X.stack,H b=none:=λb hb=>by
 rcases List.mem_cons.mp (I.stkSub b hb)with e|hb
 ·rw[e];exact I.free
 ·obtain⟨_,o,ho,_⟩:=I.ok.funs.mem hb
  exact I.base.free b o ho (I.ok.frf b hb) λz=>I.ok.exfs b z hb
theorem Inv.step{g':Array GenState}{d':Drawn}(I:Inv X pins Z H s)
  (hch:∀b∈ch,(b∈X.ex\/X.s₀.heap.objs.size<=b)/\b≠X.env.locals/\(∀x c,X.env.cells.lookup x=some c->c≠b)/\∀p∈X.pn++pins,p.1≠b)
  (keep:∀b o,b≠X.env.locals->b∉X.fs->b∉ch->s.heap.get? b=some o->H b=none->h'.get? b=some o)
  (slot:∀b o,b≠X.env.locals->b∈X.fs->b∉ch->s.heap.get? b=some o->H b=none->∃sl,h'.get? b=some { o with slots:=sl }) (free:∀b o,b∉ch->s.heap.get? b=some o->H b=none->H' b=none)
  (there:∀b o,b∉ch->s.heap.get? b=some o->∃o',h'.get? b=some o')
  (tups:∀b xs,H b=some (.tup xs)->H' b=some (.tup xs)) (frzs:∀b o u,H b=some (.frz o u)->H' b=some (.frz o u)) (tbls:∀b ps,H b=some (.tbl ps)->∃more,H' b=some (.tbl (ps++more)))
  (ns:∀m,s.heap.Ns X.env.locals m->h'.Ns X.env.locals m) (hok:HOk X.prog X.w H' h') (hg:AllBare g') :
  Inv X pins Z H' { s with heap:=h',gens:=g',drawn:=d',toks:=t' }:=by
 have neL:∀b o,X.s₀.heap.get? b=some o->b≠X.env.locals:=λb o e=>io (cr (ba e) I.ok.above)
 have neC:∀b o,X.s₀.heap.get? b=some o->b∉X.ex->b∉ch:=λb o e hx hb=>by
  rcases(hch b hb).1 with z|z
  ·exact hx z
  ·exact absurd (cr (ba e) z) (se _)
 have cellK:∀x c,X.env.cells.lookup x=some c->∀v,s.heap.IsCell c v->h'.IsCell c v:=λx c e v ⟨o,ho,hd⟩=>by
  have nch:c∉ch:=λz=>(hch c z).2.2.1 x c e rfl
  by_cases hc:c∈X.fs
  ·obtain⟨sl,q⟩:=slot c o (I.cne x c e) hc nch ho (I.freeC x c e)
   exact⟨_,q,hd⟩
  ·exact⟨o,keep c o (I.cne x c e) hc nch ho (I.freeC x c e),hd⟩
 refine⟨I.ok,I.os,hg,⟨λb o e n hb hx=>?_,λb o e n hb hx=>?_,λb o e n hx=>?_,λb o e hx=>?_,λb xs e=>tups b xs (I.base.tups b xs e),λb o xs e=>frzs b o xs (I.base.frzs b o xs e),λb ps e=>?_⟩,?_,λx c e=>?_,?_,λx c e=>?_,λp hp=>?_,hok,I.len⟩
 ·exact keep b o (neL b o e) hb (neC b o e hx) (I.base.keep b o e n hb hx) (I.base.free b o e n hx)
 ·obtain⟨sl,e1⟩:=I.base.slot b o e n hb hx
  obtain⟨sl',e2⟩:=slot b _ (neL b o e) hb (neC b o e hx) e1 (I.base.free b o e n hx)
  exact⟨sl',e2⟩
 ·obtain⟨o',e1⟩:=I.base.there b o e hx
  exact free b o' (neC b o e hx) e1 (I.base.free b o e n hx)
 ·obtain⟨o',e1⟩:=I.base.there b o e hx
  exact there b o' (neC b o e hx) e1
 ·obtain⟨m1,e1⟩:=I.base.tbls b ps e
  obtain⟨m2,e2⟩:=tbls b _ e1
  exact⟨m1++m2,by rw[e2,Array.append_assoc]⟩
 ·obtain⟨m,hn,hl⟩:=I.loc
  refine⟨m,ns m hn,λi x v e1 e2 e3=>?_⟩
  obtain⟨u,r,l⟩:=hl i x v e1 e2 e3
  refine⟨u,r,?_⟩
  rcases l with l|⟨k,c,e,z⟩
  ·exact .inl l
  ·exact .inr ⟨k,c,e,cellK x c e _ z⟩
 ·obtain⟨v,z⟩:=I.cell x c e
  exact⟨v,cellK x c e v z⟩
 ·obtain⟨m,⟨o,_,_,ho,_⟩,_⟩:=I.loc
  exact free _ o (λz=>(hch _ z).2.1 rfl) ho I.free
 ·obtain⟨v,o,ho,hd⟩:=I.cell x c e
  exact free c o (λz=>(hch c z).2.2.1 x c e rfl) ho (I.freeC x c e)
 ·obtain⟨e,n,ne,nf,d⟩:=I.pin p hp
  have nch:p.1∉ch:=λz=>(hch p.1 z).2.2.2 p hp rfl
  exact⟨keep p.1 p.2 ne nf nch e n,free p.1 p.2 nch e n,ne,nf,d⟩
theorem Inv.un(I:Inv X pins Z H s)(u:Un X.fs [] H H' s.heap h')(hok:HOk X.prog X.w H' h'):Inv X pins Z H' { s with heap:=h',toks:=t' }:=by
 obtain⟨m,⟨o,es,ep,ho,r⟩,_⟩:=id I.loc
 obtain⟨sl,hL⟩:=u.any ho I.free (by simp)
 exact I.step (g':=s.gens) (d':=s.drawn) (ch:=[]) (λ_ z=>nomatch z) (λb o _ hb _ e n=>u.keep b o e n hb (by simp)) (λb o _ hb _ e n=>u.slot b o e n hb (by simp)) (λb o _ e n=>u.free b o e n (by simp)) (λb o _ e=>u.there b o e (by simp)) u.tups u.frzs u.tbls (λm' hm=>by
  obtain⟨o',es',ep',ho',r'⟩:=hm
  rw[ho]at ho';cases ho'
  exact⟨_,es',ep',hL,r'⟩) hok I.bare
theorem Inv.call{g':Array GenState}{d':Drawn}(I:Inv X pins Z H s)(u:Un (frs X.stack) ch H H' s.heap h')(hok:HOk X.prog X.w H' h')(hg:AllBare g')
  (hch:∀b∈ch,(b∈X.ex\/X.s₀.heap.objs.size<=b)/\b≠X.env.locals/\(∀x c,X.env.cells.lookup x=some c->c≠b)/\∀p∈X.pn++pins,p.1≠b) :
  Inv X pins Z H' { s with heap:=h',gens:=g',drawn:=d',toks:=t' }:=by
 obtain⟨m,⟨o,es,ep,ho,r⟩,_⟩:=id I.loc
 obtain⟨sl,hL⟩:=u.any ho I.free λz=>(hch _ z).2.1 rfl
 exact I.step (ch:=ch) hch (λb o hL hb hc e n=>u.keep b o e n (λz=>(List.mem_cons.mp (I.stkSub b z)).elim hL hb) hc) (λb o _ _ hc e n=>u.any e n hc) (λb o hc e n=>u.free b o e n hc) (λb o hc e=>u.there b o e hc) u.tups u.frzs u.tbls (λm' hm=>by
  obtain⟨o',es',ep',ho',r'⟩:=hm
  rw[ho]at ho';cases ho'
  exact⟨_,es',ep',hL,r'⟩) hok hg
theorem Inv.turned{it:Addr}(I:Inv X pins Z H s)(k:∀b o,b≠it->s.heap.get? b=some o->h'.get? b=some o)(hn:H it=none)(hL:it≠X.env.locals)
  (h1:it∈X.ex\/X.s₀.heap.objs.size<=it) (h2:∀x c,X.env.cells.lookup x=some c->c≠it) (h3:∀p∈X.pn++pins,p.1≠it):Inv X pins Z H { s with heap:=h',toks:=t' }:=by
 have nit:∀b u,H b=some u->b≠it:=λb u e z=>by rw[z,hn]at e;cases e
 refine I.step (g':=s.gens) (d':=s.drawn) (ch:=[it]) (λb hb=>?_) (λb o _ _ hc e _=>k b o (λz=>hc (by simp[z])) e) (λb o _ _ hc e _=>⟨o.slots,k b o (λz=>hc (by simp[z])) e⟩) (λ_ _ _ _ n=>n)
  (λb o hc e=>⟨o,k b o (λz=>hc (by simp[z])) e⟩) (λ_ _ e=>e) (λ_ _ _ e=>e) (λb ps e=>⟨#[],by rw[e];simp⟩) (λm hm=>?_) (λb u e=>?_) I.bare
 ·have e:b=it:=by simpa using hb
  subst e
  exact⟨h1,hL,h2,h3⟩
 ·obtain⟨o,es,ep,ho,r⟩:=hm
  exact⟨o,es,ep,k _ o (Ne.symm hL) ho,r⟩
 ·refine(I.hok b u e).stay (λc v hc q=>k c v ?_ q) (λ_ q=>q) λ_ _ q=>q
  rcases hc with z|z
  ·rw[z];exact nit b u e
  ·exact nit c _ z
theorem Inv.tok(I:Inv X pins Z H s)(t:Nat):Inv X pins Z H { s with toks:=t }:=I.un (h':=s.heap) (t':=t) Un.refl I.hok
theorem Inv.kept(I:Inv X pins Z H s)(k:∀b u,s.heap.get? b=some u->h'.get? b=some u):Inv X pins Z H { s with heap:=h',toks:=t' }:=I.un (Un.kept k) (I.hok.kept k)
theorem Inv.laid{o:HO}(I:Inv X pins Z H s)(k:∀b u,s.heap.get? b=some u->h'.get? b=some u)(hp:s.heap.objs.size<=a)(new:ObjOk X.prog X.w (upd H a o) h' a o) :
  Inv X pins Z (upd H a o) { s with heap:=h',toks:=t' }:=I.un (Un.laid k hp (I.hok.fresh hp)) (I.hok.laid k hp new)
theorem Inv.write{x e:Addr}{o:HO}(I:Inv X pins Z H s)(mu:Mut (H x))(he:e=x\/H e=some (.own x))(k:∀b u,b≠e->s.heap.get? b=some u->h'.get? b=some u)(heo:∃u,h'.get? e=some u)
  (new:ObjOk X.prog X.w (upd H x o) h' x o):Inv X pins Z (upd H x o) { s with heap:=h',toks:=t' }:=I.un (Un.write mu he k heo) (I.hok.write mu he k heo new)
theorem Inv.pins_of{pins':zzk}(I:Inv X pins Z H s)(h:∀p∈pins',s.heap.get? p.1=some p.2/\H p.1=none/\p.1≠X.env.locals/\p.1∉X.fs/\∀v,p.2.data≠.cell v):Inv X pins' Z H s :=
 ⟨I.ok,I.os,I.bare,I.base,I.loc,I.cell,I.free,I.freeC,λp hp=>(List.mem_append.mp hp).elim (λz=>I.pin p (List.mem_append_left _ z)) (h p),I.hok,I.len⟩
theorem vS{N:List Str}(hN:N.Nodup){j:Nat}(a:N[i]? = some x)(b:N[j]? = some x):i=j:=by
 obtain⟨h1,e1⟩:=List.getElem?_eq_some_iff.mp a
 obtain⟨h2,e2⟩:=List.getElem?_eq_some_iff.mp b
 exact(List.getElem_inj hN).mp (e1.trans e2.symm)
theorem sK{M:Model}{v:V}(I:Inv X pins Z H s)(hN:X.N.Nodup)(hi:X.N[i]? = some x)(hx:Loc X.env.scope x)(r:RelV v u)
  (h:∀s',Inv X pins (Z.set i (some v)) H s'->(∃a,Heap.SameBut a s.heap s'.heap/\(a=X.env.locals\/X.env.cells.lookup x=some a))->Q () s') (hf:X.fn x=true\/X.env.scope.names.lookup x=some .local:=by first|exact .inl rfl|exact .inr rfl|assumption):wpAny M A (storeName X.env x u) Q E s:=by
 obtain⟨m,hn,hl⟩:=id I.loc
 have hcls:(X.env.scope.kind==.class||(X.env.scope.kind==.module&&X.env.locals != X.env.globals))=false:=by rw[I.ok.kind];rfl
 have hiσ:i<Z.length:=by rw[I.len];exact(List.getElem?_eq_some_iff.mp hi).1
 have cne:=I.cne
 have tracked:∀{a:Addr} {h':Heap},(∃o,s.heap.get? a=some o/\H a=none)->Heap.SameBut a s.heap h'->HOk X.prog X.w H h':=λ{a h'} ha hs b ob e=>by
  obtain⟨_,_,hfree⟩:=ha
  refine(I.hok b ob e).stay (λc w' hc q=>(hs.2 c ?_).trans q) (λ_ q=>q) λ_ _ q=>q
  rintro rfl
  rcases hc with rfl|hc
  ·rw[hfree]at e;cases e
  ·rw[hfree]at hc;cases hc
 rcases hx with hk|hk
 ·refine wpAny_storeName_local hk hn (λh' hn' hs=>?_) hcls
  obtain⟨oL,_,_,hoL,_⟩:=id hn
  refine h _ ⟨I.ok,I.os,I.bare,⟨λb o e n hb hx=>?_,λb o e n hb hx=>?_,I.base.free,λb o e hx=>?_,I.base.tups,I.base.frzs,I.base.tbls⟩,⟨_,hn',λj y v' e1 e2 e3=>?_⟩,λy c e=>?_,I.free,I.freeC,λp hp=>?_,tracked ⟨oL,hoL,I.free⟩ hs,by simpa using I.len⟩ ⟨_,hs,.inl rfl⟩
  ·exact(hs.2 b (io (cr (ba e) I.ok.above))).trans (I.base.keep b o e n hb hx)
  ·obtain⟨sl,e1⟩:=I.base.slot b o e n hb hx
   exact⟨sl,(hs.2 b (io (cr (ba e) I.ok.above))).trans e1⟩
  ·obtain⟨o',e1⟩:=I.base.there b o e hx
   exact⟨o',(hs.2 b (io (cr (ba e) I.ok.above))).trans e1⟩
  ·by_cases hj:j=i
   ·subst hj
    rw[hi]at e1;cases e1
    rw[ug hiσ]at e2
    cases e2
    exact⟨u,r,.inl ⟨hk,by simp⟩⟩
   ·rw[rm (Ne.symm hj)]at e2
    obtain⟨u',r',q⟩:=hl j y v' e1 e2 e3
    refine⟨u',r',?_⟩
    rcases q with ⟨k,e⟩|⟨k,c,e,z⟩
    ·refine .inl ⟨k,?_⟩
     have:y≠x:=λe=>hj (vS hN e1 (e▸hi))
     simp[this,e]
    ·exact .inr ⟨k,c,e,z.sameBut hs (cne y c e)⟩
  ·obtain⟨w',z⟩:=I.cell y c e
   exact⟨w',z.sameBut hs (cne y c e)⟩
  ·obtain⟨e,n,ne,nf,d⟩:=I.pin p hp
   exact⟨(hs.2 p.1 ne).trans e,n,ne,nf,d⟩
 ·have hfn:X.fn x=true:=by
   rcases hf with z|z
   ·exact z
   ·rw[z]at hk;cases hk
  obtain⟨c,hc⟩:=I.ok.has x (.inl hk)
  obtain⟨w',z⟩:=I.cell x c hc
  refine wpAny_storeName_cell I.ok.kind hk hc z (λh' hc' hs=>?_)
  obtain⟨oc,hoc,hocd⟩:=id z
  refine h { s with heap:=h' } ⟨I.ok,I.os,I.bare,⟨λb o e n hb hx=>?_,λb o e n hb hx=>?_,I.base.free,λb o e hx=>?_,I.base.tups,I.base.frzs,I.base.tbls⟩,⟨m,hn.sameBut hs (Ne.symm (cne x c hc)),λj y v' e1 e2 e3=>?_⟩,λy c' e=>?_,I.free,I.freeC,λp hp=>?_,tracked ⟨oc,hoc,I.freeC x c hc⟩ hs,by simpa using I.len⟩ ⟨c,hs,.inr hc⟩
  ·exact(hs.2 b (io (cr (ba e) (I.ok.cab x c hfn hc)))).trans (I.base.keep b o e n hb hx)
  ·obtain⟨sl,e1⟩:=I.base.slot b o e n hb hx
   exact⟨sl,(hs.2 b (io (cr (ba e) (I.ok.cab x c hfn hc)))).trans e1⟩
  ·obtain⟨o',e1⟩:=I.base.there b o e hx
   exact⟨o',(hs.2 b (io (cr (ba e) (I.ok.cab x c hfn hc)))).trans e1⟩
  ·by_cases hj:j=i
   ·subst hj
    rw[hi]at e1;cases e1
    rw[ug hiσ]at e2
    cases e2
    exact⟨u,r,.inr ⟨.inl hk,c,hc,hc'⟩⟩
   ·rw[rm (Ne.symm hj)]at e2
    obtain⟨u',r',q⟩:=hl j y v' e1 e2 e3
    refine⟨u',r',?_⟩
    rcases q with q|⟨k,c',e,z'⟩
    ·exact .inl q
    ·refine .inr ⟨k,c',e,z'.sameBut hs ?_⟩
     rintro rfl
     exact hj (vS hN e1 (I.ok.inj _ _ _ e hc▸hi))
  ·by_cases hcc:c'=c
   ·subst hcc;exact⟨_,hc'⟩
   ·obtain⟨w2,z2⟩:=I.cell y c' e
    exact⟨w2,z2.sameBut hs hcc⟩
  ·obtain⟨e,n,ne,nf,d⟩:=I.pin p hp
   refine⟨(hs.2 p.1 ?_).trans e,n,ne,nf,d⟩
   intro q
   rw[q,hoc]at e
   have q':oc=p.2:=Option.some.inj e
   exact d w' (by rw[<-q'];exact hocd)
theorem vC{M:Model}{v:V}(I:Inv X pins Z H s)(hN:X.N.Nodup)(hi:X.N[i]? = some x)(hx:Loc X.env.scope x)(r:RelV v u)
  (h:∀s',Inv X pins (Z.set i (some v)) H s'->Q () s') (hf:X.fn x=true\/X.env.scope.names.lookup x=some .local:=by first|exact .inl rfl|exact .inr rfl|assumption):wpAny M A (storeName X.env x u) Q E s :=
 sK I hN hi hx r (λs' I' _=>h s' I') hf
theorem Inv.call'{s':Shared}(I:Inv X pins Z H s)(ho:s'.os=s.os)(u:Un (frs X.stack) ch H H' s.heap s'.heap)(hok:HOk X.prog X.w H' s'.heap)(hg:AllBare s'.gens)
  (hch:∀b∈ch,(b∈X.ex\/X.s₀.heap.objs.size<=b)/\b≠X.env.locals/\(∀x c,X.env.cells.lookup x=some c->c≠b)/\∀p∈X.pn++pins,p.1≠b):Inv X pins Z H' s':=by
 obtain⟨h',g',d',t',o'⟩:=s'
 have e:o'=s.os:=ho
 subst e
 exact I.call (g':=g') (t':=t') (d':=d') u hok hg hch
end
abbrev XK:=Value->Option Addr->Hp->Prop
abbrev St:=List (Option V)
abbrev VK:=V->Hp->Prop
abbrev TE:=St->Hp->VK->Prop
abbrev TT:=St->Hp->(Bool->Hp->Prop)->Prop
abbrev TA:=St->Hp->(List V->Hp->Prop)->Prop
structure Ends where
 nx:St->Hp->Prop
 rt:VK
 bk:St->Hp->Prop:=λ_ _=>False
 ct:St->Hp->Prop:=λ_ _=>False
abbrev TS:=Ends->St->Hp->Prop
def EP(X:Cx)(pins:zzk)(Z:St)(Q:VK)(u:Value)(s':Shared):Prop:=∃v H',Inv X pins Z H' s'/\RelV v u/\Q v H'
def TP(X:Cx)(pins:zzk)(Z:St)(Q:Bool->Hp->Prop)(b:Bool)(s':Shared):Prop:=∃H',Inv X pins Z H' s'/\Q b H'
def AP(X:Cx)(pins:zzk)(Z:St)(Q:List V->Hp->Prop)(us:List Value)(s':Shared):Prop:=∃vs H',Inv X pins Z H' s'/\Vals vs us/\Q vs H'
def SP(X:Cx)(pins:zzk)(D:Ends)(f:Flow)(s':Shared):Prop :=
 match f with
 | .next=>∃σ' H',Inv X pins σ' H' s'/\D.nx σ' H'
 | .brk=>∃σ' H',Inv X pins σ' H' s'/\D.bk σ' H'
 | .cont=>∃σ' H',Inv X pins σ' H' s'/\D.ct σ' H'
 | .ret u=>∃v σ' H',Inv X pins σ' H' s'/\RelV v u/\D.rt v H'
def PE(X:Cx)(e:Expr)(t:TE):Prop :=
 ∀(pins:zzk) (s:Shared) (Z:St) (H:Hp) (Q:VK),Inv X pins Z H s->t Z H Q->wpAny (model X.prog X.w) X.A (eval e X.env) (EP X pins Z Q) X.xe s
def PT(X:Cx)(e:Expr)(t:TT):Prop :=
 ∀(pins:zzk) (s:Shared) (Z:St) (H:Hp) (Q:Bool->Hp->Prop),Inv X pins Z H s->t Z H Q->wpAny (model X.prog X.w) X.A (isTrue e X.env (eval e X.env)) (TP X pins Z Q) X.xe s
def PW(X:Cx)(e:Expr)(t:TT):Prop :=
 ∀(whole:Sem Value) (pins:zzk) (s:Shared) (Z:St) (H:Hp) (Q:Bool->Hp->Prop),Inv X pins Z H s->t Z H Q->wpAny (model X.prog X.w) X.A (isTrue e X.env whole) (TP X pins Z Q) X.xe s
def PA(X:Cx)(es:List Expr)(t:TA):Prop :=
 ∀(pos:Pos) (pins:zzk) (s:Shared) (Z:St) (H:Hp) (Q:List V->Hp->Prop),Inv X pins Z H s->t Z H Q->wpAny (model X.prog X.w) X.A (spliced (backTo pos (starEach es X.env))) (AP X pins Z Q) X.xe s
def PS(X:Cx)(st:Stmt)(t:TS):Prop :=
 ∀(pins:zzk) (s:Shared) (Z:St) (H:Hp) (D:Ends),Inv X pins Z H s->t D Z H->wpAny (model X.prog X.w) X.A (exec st X.env) (SP X pins D) X.xe s
def PSs(X:Cx)(st:List Stmt)(t:TS):Prop :=
 ∀(pins:zzk) (s:Shared) (Z:St) (H:Hp) (D:Ends),Inv X pins Z H s->t D Z H->wpAny (model X.prog X.w) X.A (execs st X.env) (SP X pins D) X.xe s
theorem thn{α:Type}{t:Sem α}{Q Q':α->Shared->Prop}{M:Model}(h:wpAny M A t Q E s)(hQ:∀a s,Q a s->Q' a s):wpAny M A t Q' E s:=Db h hQ λ_ _ x=>x
section
variable {X:Cx}
def Gw(i:Nat):TE:=λZ H Q=>∃v,Z[i]? = some (some v)/\Q v H
def tC(v:V):TE:=λ_ H Q=>Q v H
theorem qi(hN:X.N[i]? = some x)(hv:Vis X.env.scope x)(hd:(x==("__debug__" : Str))=false:=by decide)(hcd:(x==("__classdict__" : Str))=false:=by decide):PE X (.Name x pos) (Gw i):=by
 intro pins s Z H Q I h
 obtain⟨v,e,h⟩:=h
 obtain⟨m,hn,hl⟩:=I.loc
 obtain⟨u,r,l⟩:=hl i x v hN e hv
 have fin:EP X pins Z Q u s:=⟨v,H,I,r,h⟩
 rcases l with ⟨hk,hm⟩|⟨hk,c,hc,hcell⟩
 ·exact wpAny_Name (wpAny_loadName_local I.ok.kind hk hn hm fin) hd
 ·rcases hk with hk|hk
  ·exact wpAny_Name (wpAny_loadName_cell I.ok.kind hk hc hcell fin) hd
  ·exact wpAny_Name (wpAny_loadName_free I.ok.kind hk hc hcell fin hcd) hd
theorem xn{i j pos}:PE X (.Constant (.int i) j pos) (tC (.int i)):=λ_ _ _ H _ I h=>wpAny_Constant_int ⟨.int i,H,I.tok _,⟨_,rfl⟩,h⟩
theorem G5{b j pos}:PE X (.Constant (.bool b) j pos) (tC (.bl b)):=λ_ _ _ H _ I h=>Constant_bool ⟨.bl b,H,I,rfl,h⟩
theorem Fp{j pos}:PE X (.Constant .none j pos) (tC .non):=λ_ _ _ H _ I h=>Constant_none ⟨.non,H,I,rfl,h⟩
theorem Fk{x j pos}:PE X (.Constant (.str x) j pos) (tC (.str x)):=λ_ _ _ H _ I h=>Calls.Constant_str ⟨.str x,H,I.tok _,⟨_,rfl⟩,h⟩
def Gl(X:Cx)(x:Str):Prop:=X.env.kindOf x=some .globalImplicit
theorem yP{Z:St}{H:Hp}{Q:zzj}(I:Inv X pins Z H s)(hg:Gl X x)(hm:X.mg x=some u)(h:Q u s)
  (hd:(x==("__debug__" : Str))=false:=by decide):wpAny (model X.prog X.w) X.A (eval (.Name x pos) X.env) Q E s :=
 Calls.Name_function_global I.ok.kind hg (Calls.loadGlobal_global (by rw[I.ok.glob];exact I.mod.glob.keeps I.bk) hm h) hd
theorem kD{Z:St}{H:Hp}{Q:zzj}(I:Inv X pins Z H s)(hg:Gl X x)(hm:X.mg x=none)(hv:bootBuiltins x=some u)(h:Q u s)
  (hn:x ≠ "__name__":=by decide) (hd:(x==("__debug__" : Str))=false:=by decide):wpAny (model X.prog X.w) X.A (eval (.Name x pos) X.env) Q E s:=by
 obtain⟨mb,h1,h2⟩:=I.mod.blt
 exact Calls.Name_function_global I.ok.kind hg (Calls.loadGlobal_builtin (by rw[I.ok.glob];exact I.mod.glob.keeps I.bk) hm (by rw[I.ok.blt];exact h1.keeps I.bk) ((h2 x hn).trans hv) h) hd
theorem Dj{v:V}(hg:Gl X x)(hm:X.mg x=some u)(r:RelV v u)(hd:(x==("__debug__" : Str))=false:=by decide):PE X (.Name x pos) (tC v) :=
 λ_ _ _ H _ I h=>yP I hg hm ⟨v,H,I,r,h⟩ hd
theorem Dm{v:V}(hg:Gl X x)(hm:X.mg x=none)(hv:bootBuiltins x=some u)(r:RelV v u)(hn:x ≠ "__name__":=by decide)(hd:(x==("__debug__" : Str))=false:=by decide):PE X (.Name x pos) (tC v) :=
 λ_ _ _ H _ I h=>kD I hg hm hv ⟨v,H,I,r,h⟩ hn hd
variable {a b:Expr} {ta tb:TE}
variable {tA tB':TT} {rest:List Expr}
def Il(t u:TT):TT:=λZ H Q=>t Z H λc H1=>if c=true then u Z H1 Q else Q false H1
def tOr(t u:TT):TT:=λZ H Q=>t Z H λc H1=>if c=true then Q true H1 else u Z H1 Q
def Ig(t:TT):TT:=λZ H Q=>t Z H λc H1=>Q (!c) H1
theorem C5(ha:PT X a tA):PW X (.BoolOp .And [a] pos) tA:=by
 intro wh pins s Z H Q I h
 refine isTrue_and (thn (ha pins s Z H Q I h) λc s1 e=>?_)
 cases c with
 | true=>exact isTrue_and_nil e
 | false=>exact e
theorem Bg(ha:PT X a tA):PW X (.BoolOp .Or [a] pos) tA:=by
 intro wh pins s Z H Q I h
 refine isTrue_or (thn (ha pins s Z H Q I h) λc s1 e=>?_)
 cases c with
 | false=>exact isTrue_or_nil e
 | true=>exact e
theorem Fb(ha:PT X a tA)(hb:PW X (.BoolOp .And (b::rest) pos) tB'):PW X (.BoolOp .And (a::b::rest) pos) (Il tA tB'):=by
 intro wh pins s Z H Q I h
 refine isTrue_and (thn (ha pins s Z H _ I h) λc s1 ⟨H1,I1,q1⟩=>?_)
 cases c with
 | true=>exact hb wh pins s1 Z H1 Q I1 q1
 | false=>exact⟨H1,I1,q1⟩
theorem Eh(ha:PT X a tA)(hb:PW X (.BoolOp .Or (b::rest) pos) tB'):PW X (.BoolOp .Or (a::b::rest) pos) (tOr tA tB'):=by
 intro wh pins s Z H Q I h
 refine isTrue_or (thn (ha pins s Z H _ I h) λc s1 ⟨H1,I1,q1⟩=>?_)
 cases c with
 | true=>exact⟨H1,I1,q1⟩
 | false=>exact hb wh pins s1 Z H1 Q I1 q1
theorem Bj(ha:PT X a tA):PT X (.UnaryOp .Not a pos) (Ig tA):=by
 intro pins s Z H Q I h
 exact isTrue_not (ha pins s Z H (λc H1=>Q (!c) H1) I h)
def GD(ta tb:TE):TE:=λZ H Q=>ta Z H λx H1=>∃c,x=.bl c/\if c=true then tb Z H1 Q else Q (.bl false) H1
def Ie(ta tb:TE):TE:=λZ H Q=>ta Z H λx H1=>∃c,x=.bl c/\if c=true then Q (.bl true) H1 else tb Z H1 Q
def Gz(ta:TE):TE:=λZ H Q=>ta Z H λx H1=>∃c,x=.bl c/\Q (.bl (!c)) H1
theorem Fl{op}{t:TE}(h:PE X a t):PE X (.BoolOp op [a] pos) t:=λpins s Z H Q I hw=>BoolOp_one (h pins s Z H Q I hw)
theorem Fs(ha:PE X a ta)(hb:PE X (.BoolOp .And (b::rest) pos) tb):PE X (.BoolOp .And (a::b::rest) pos) (GD ta tb):=by
 intro pins s Z H Q I h
 refine BoolOp_and (thn (ha pins s Z H _ I h) λv s1 ⟨x,H1,I1,r1,q1⟩=>?_)
 obtain⟨c,rfl,q1⟩:=q1
 cases r1
 refine ss ?_
 cases c with
 | true=>exact hb pins s1 Z H1 Q I1 q1
 | false=>exact⟨.bl false,H1,I1,rfl,q1⟩
theorem G3(ha:PE X a ta)(hb:PE X (.BoolOp .Or (b::rest) pos) tb):PE X (.BoolOp .Or (a::b::rest) pos) (Ie ta tb):=by
 intro pins s Z H Q I h
 refine BoolOp_or (thn (ha pins s Z H _ I h) λv s1 ⟨x,H1,I1,r1,q1⟩=>?_)
 obtain⟨c,rfl,q1⟩:=q1
 cases r1
 refine ss ?_
 cases c with
 | false=>exact hb pins s1 Z H1 Q I1 q1
 | true=>exact⟨.bl true,H1,I1,rfl,q1⟩
theorem Fo(ha:PE X a ta):PE X (.UnaryOp .Not a pos) (Gz ta):=by
 intro pins s Z H Q I h
 refine UnaryOp_ (thn (ha pins s Z H _ I h) λv s1 ⟨x,H1,I1,r1,q1⟩=>?_)
 obtain⟨c,rfl,q1⟩:=q1
 cases r1
 exact not_of (ss ⟨.bl (!c),H1,I1,rfl,q1⟩)
def tIf(t:TT)(ta tb:TE):TE:=λZ H Q=>t Z H λc H1=>if c=true then ta Z H1 Q else tb Z H1 Q
theorem vK(hc:PT X c tA)(ha:PE X a ta)(hb:PE X b tb):PE X (.IfExp c a b pos) (tIf tA ta tb):=by
 intro pins s Z H Q I h
 refine wpAny_IfExp (thn (hc pins s Z H _ I h) λd s1 ⟨H1,I1,q1⟩=>?_)
 cases d with
 | true=>exact ha pins s1 Z H1 Q I1 q1
 | false=>exact hb pins s1 Z H1 Q I1 q1
end
def SqL(K:PySem.W.Frag)(H:Hp)(a:Addr)(xs:List V):Prop :=
 Rd H a (.lst xs) \/
  ∃(o:Obj) (its:Array Value) (n:Nat),K.lookup a=some o/\o.cls=.type "list" /\ o.dict=none/\o.data=.seq its n/\its.size<=sizeLine/\Vals xs its.toList
def SqT(K:PySem.W.Frag)(H:Hp)(a:Addr)(xs:List V):Prop :=
 Rd H a (.tup xs) \/
  ∃(o:Obj) (its:Array Value) (n:Nat),K.lookup a=some o/\o.cls=.type "tuple" /\ o.data=.seq its n/\its.size<=sizeLine/\Vals xs its.toList
def Jc:Value->Option V
 | .none=>some .non
 | .bool b=>some (.bl b)
 | .int i _=>some (.int i)
 | .str x _=>some (.str x)
 | .bytes b _=>some (.byt b)
 | .float b _=>some (.flt b)
 | .ref a=>some (.ref a)
 | .type n=>some (.ty n)
 | _=>none
theorem RelV.abs{x:V}(r:RelV x u):Jc u=some x:=by
 cases x with
 | non=>cases r;rfl
 | bl _=>cases r;rfl
 | int _=>obtain⟨t,rfl⟩:=r;rfl
 | str _=>obtain⟨t,rfl⟩:=r;rfl
 | byt _=>obtain⟨t,rfl⟩:=r;rfl
 | flt _=>obtain⟨t,rfl⟩:=r;rfl
 | ref _=>cases r;rfl
 | ty _=>cases r;rfl
theorem RelV.inj{x y:V}(r:RelV x u)(q:RelV y u):x=y:=Option.some.inj (r.abs.symm.trans q.abs)
theorem Vals.inj:∀{xs ys:List V} {us:List Value},Vals xs us->Vals ys us->xs=ys:=by
 intro xs ys us h
 induction h generalizing ys with
 | nil=>intro h2;cases h2;rfl
 | cons r _ ih =>
  intro h2
  cases h2 with
  | cons r' t'=>rw[r.inj r',ih t']
section
variable {X:Cx} {Z:St} {H:Hp} {xs ys:List V}
theorem SqT.of{K:PySem.W.Frag}(h:H a=some (.tup xs)):SqT K H a xs:=.inl (.inl h)
theorem Inv.list(I:Inv X pins Z H s)(h:SqL X.K H a xs):∃its:List Value,Vals xs its/\PlainL s.heap a its.toArray/\xs.length<=sizeLine:=by
 rcases h with h|⟨o,its,n,hk,hc,hd,hs,hz,r⟩
 ·obtain⟨z,its,n,r,e⟩:=h.ok I.hok
  exact⟨its,r,⟨_,n,e,rfl,rfl,rfl⟩,z⟩
 ·refine⟨its.toList,r,⟨o,n,I.kIn a o hk,hc,hd,by simpa using hs⟩,?_⟩
  have e:=r.length
  simp only[IN]at e
  lia
theorem Inv.tuple(I:Inv X pins Z H s)(h:SqT X.K H a xs):∃its:List Value,Vals xs its/\IsTup s.heap a its.toArray/\xs.length<=sizeLine:=by
 rcases h with h|⟨o,its,n,hk,hc,hs,hz,r⟩
 ·obtain⟨z,its,r,p⟩:=h.ok I.hok
  exact⟨its,r,p.1,z⟩
 ·refine⟨its.toList,r,⟨o,I.kIn a o hk,hc,n,by simpa using hs⟩,?_⟩
  have e:=r.length
  simp only[IN]at e
  lia
theorem Inv.list_inj(I:Inv X pins Z H s)(h:SqL X.K H a xs)(h':SqL X.K H a ys):xs=ys:=by
 obtain⟨its,r,⟨o,n,e,_,_,d⟩,_⟩:=I.list h
 obtain⟨its',r',⟨o',n',e',_,_,d'⟩,_⟩:=I.list h'
 rw[e]at e';cases e'
 rw[d]at d'
 injection d' with d1 _
 have:its=its':=by simpa using congrArg Array.toList d1
 subst this
 exact r.inj r'
theorem Inv.tuple_inj(I:Inv X pins Z H s)(h:SqT X.K H a xs)(h':SqT X.K H a ys):xs=ys:=by
 obtain⟨its,r,⟨o,e,_,n,d⟩,_⟩:=I.tuple h
 obtain⟨its',r',⟨o',e',_,n',d'⟩,_⟩:=I.tuple h'
 rw[e]at e';cases e'
 rw[d]at d'
 injection d' with d1 _
 have:its=its':=by simpa using congrArg Array.toList d1
 subst this
 exact r.inj r'
end
section
variable {X:Cx} {st:Stmt} {rest:List Stmt} {t u:TS} {te:TE}
def GA:TS:=λD Z H=>D.nx Z H
def Ib(t u:TS):TS:=λD Z H=>t { D with nx:=u D } Z H
theorem C9:PSs X [] GA:=λ_ _ Z H _ I h=>wpAny_execs_nil ⟨Z,H,I,h⟩
theorem Bl(h1:PS X st t)(h2:PSs X rest u):PSs X (st::rest) (Ib t u):=by
 intro pins s Z H D I h
 refine wpAny_execs_cons (thn (h1 pins s Z H { D with nx:=u D } I h) λf s1 q=>?_)
 cases f with
 | next =>
  obtain⟨σ',H',I',q⟩:=q
  exact h2 pins s1 σ' H' D I' q
 | ret v=>exact q
 | brk=>exact q
 | cont=>exact q
theorem C8(h1:PS X st t):PSs X [st] t:=by
 intro pins s Z H D I h
 refine wpAny_execs_cons (thn (h1 pins s Z H D I h) λf s1 q=>?_)
 cases f with
 | next=>exact wpAny_execs_nil q
 | ret v=>exact q
 | brk=>exact q
 | cont=>exact q
theorem Inv.quiet{Z:St}{H:Hp}(I:Inv X pins Z H s):interactive X.env=false:=by simp[interactive,I.ok.kind]
def GB(te:TE):TS:=λD Z H=>te Z H λ_ H1=>D.nx Z H1
theorem Da(he:PE X e te)(hs:swapsWith e none pos.line X.env=pure false:=by rfl):PS X (.Expr e pos) (GB te):=by
 intro pins s Z H D I h
 exact wpAny_Expr_any (thn (he pins s Z H _ I h) λv s1 ⟨x,H1,I1,r1,q1⟩=>⟨Z,H1,I1,q1⟩) I.quiet hs
def Ic(te:TE):TS:=λD Z H=>te Z H D.rt
theorem Bo(he:PE X e te):PS X (.Return (some e) pos) (Ic te):=by
 intro pins s Z H D I h
 exact wpAny_Return_some (thn (he pins s Z H _ I h) λv s1 ⟨x,H1,I1,r1,q1⟩=>⟨x,Z,H1,I1,r1,q1⟩)
def Ij(c:TT)(t u:TS):TS:=λD Z H=>c Z H λb H1=>if b=true then t D Z H1 else u D Z H1
theorem G1{a b:List Stmt}{tc:TT}(hc:PT X c tc)(ha:PSs X a t)(hb:PSs X b u):PS X (.If c a b pos) (Ij tc t u):=by
 intro pins s Z H D I h
 refine wpAny_If (thn (hc pins s Z H _ I h) λd s1 ⟨H1,I1,q1⟩=>?_)
 cases d with
 | true=>exact ha pins s1 Z H1 D I1 q1
 | false=>exact hb pins s1 Z H1 D I1 q1
end
abbrev TG:=V->St->Hp->(St->Hp->Prop)->Prop
abbrev TGs:=List V->St->Hp->(St->Hp->Prop)->Prop
def PG(X:Cx)(target:Expr)(t:TG):Prop :=
 ∀(pins:zzk) (s:Shared) (Z:St) (H:Hp) (v:V) (u:Value) (Q:St->Hp->Prop),Inv X pins Z H s->RelV v u->t v Z H Q ->
  wpAny (model X.prog X.w) X.A (assign target X.env u) (λ_ s'=>∃σ' H',Inv X pins σ' H' s'/\Q σ' H') X.xe s
def PGs(X:Cx)(ts:List Expr)(t:TGs):Prop :=
 ∀(pins:zzk) (s:Shared) (Z:St) (H:Hp) (vs:List V) (us:List Value) (Q:St->Hp->Prop),Inv X pins Z H s->Vals vs us->t vs Z H Q ->
  wpAny (model X.prog X.w) X.A (assignInOrder ((assignEach ts X.env).map (·.2)) us) (λ_ s'=>∃σ' H',Inv X pins σ' H' s'/\Q σ' H') X.xe s
abbrev Gm:=V->V->V->Hp->(Hp->Prop)->Prop
def HU(X:Cx)(t:Gm):Prop :=
 ∀(pins:zzk) (s:Shared) (Z:St) (H:Hp) (o i v:V) (ov iv u:Value) (Q:Hp->Prop),Inv X pins Z H s->RelV o ov->RelV i iv->RelV v u->t o i v H Q ->
  wpAny (model X.prog X.w) X.A (setItem ov iv u) (λ_ s'=>∃H',Inv X pins Z H' s'/\Q H') X.xe s
section
variable {X:Cx}
def v0(i:Nat):TG:=λv Z H Q=>Q (Z.set i (some v)) H
theorem Dh(hN:X.N.Nodup)(hi:X.N[i]? = some x)(hx:Loc X.env.scope x)(hf:X.fn x=true\/X.env.scope.names.lookup x=some .local:=by first|exact .inl rfl|exact .inr rfl|assumption):PG X (.Name x pos) (v0 i):=by
 intro pins s Z H v u Q I r h
 exact wpAny_assign_Name (vC I hN hi hx r (λs' I'=>⟨_,H,I',h⟩) hf)
def IW:TGs:=λvs Z H Q=>vs=[]/\Q Z H
def Hy(t:TG)(u:TGs):TGs:=λvs Z H Q=>∃v r,vs=v::r/\t v Z H λσ' H'=>u r σ' H' Q
theorem Dg:PGs X [] IW:=by
 intro pins s Z H vs us Q I r h
 obtain⟨e,h⟩:=h
 subst e
 cases r
 exact assignInOrder_nil ⟨Z,H,I,h⟩
theorem Bu{t:TG}{u:TGs}(h1:PG X e t)(h2:PGs X es u)
  (hs:(assignEach (e::es) X.env).map (·.2)=assign e X.env::(assignEach es X.env).map (·.2):=by rfl):PGs X (e::es) (Hy t u):=by
 intro pins s Z H vs us Q I r h
 obtain⟨v,vr,e1,h⟩:=h
 subst e1
 cases r with
 | cons r rr =>
  rw[hs]
  refine assignInOrder_cons (thn (h1 pins s Z H _ _ _ I r h) λ_ s1 ⟨σ1,H1,I1,q1⟩=>?_)
  exact h2 pins s1 σ1 H1 _ _ Q I1 rr q1
def IS(K:PySem.W.Frag)(n:Nat)(t:TGs):TG:=λv Z H Q=>∃a xs,v=.ref a/\SqT K H a xs/\xs.length=n/\t xs Z H Q
theorem Fi{t:TGs}{n:Nat}(hc:X.calm=true)(h:PGs X es t)
  (hn:(assignEach es X.env).length=n:=by rfl) (hst:(assignEach es X.env).findIdx? (·.1)=none:=by rfl):PG X (.Tuple es k pos) (IS X.K n t):=by
 intro pins s Z H v u Q I r hw
 obtain⟨a,xs,e1,hq,hl,hw⟩:=hw
 subst e1
 cases r
 obtain⟨its,rv,ht,hz⟩:=I.tuple hq
 refine assign_Tuple_tuple (I.ok.hd hc) ht (by simp[hn,<-hl,rv.length]) hst λh' hx=>?_
 have I1:Inv X pins Z H { s with heap:=h' }:=I.kept (t':=s.toks) λb o e=>hx b o (io (ba e)) e
 exact h pins _ Z H xs _ Q I1 (by simpa using rv) hw
def IU(to ti:TE)(t:Gm):TG:=λv Z H Q=>to Z H λo H1=>ti Z H1 λi H2=>t o i v H2 λH3=>Q Z H3
theorem Fj{o i:Expr}{to ti:TE}{t:Gm}(ho:PE X o to)(hi:PE X i ti)(hs:HU X t)
  (ha:∀v,assign (.Subscript o i pos) X.env v=(do
   let ov <-holding [v] (eval o X.env)
   let iv <-holding [v,ov] (eval i X.env)
   standAt pos
   holding [v,ov,iv] (setItem ov iv v)
   release [v,ov,iv] []):=by intro _;rfl):PG X (.Subscript o i pos) (IU to ti t):=by
 intro pins s Z H v u Q I r h
 rw[ha]
 refine zza (Cn (thn (ho pins s Z H _ I h) λov s1 ⟨x,H1,I1,r1,q1⟩=>?_))
 refine zza (Cn (thn (hi pins s1 Z H1 _ I1 q1) λiv s2 ⟨y,H2,I2,r2,q2⟩=>?_))
 refine zza (wpAny_standAt (zza (Cn (thn (hs pins s2 Z H2 x y v ov iv u _ I2 r1 r2 r q2) λ_ s3 ⟨H3,I3,q3⟩=>?_))))
 exact wpAny_release ⟨Z,H3,I3,q3⟩
def EU(te:TE)(g:TG):TS:=λD Z H=>te Z H λx H1=>g x Z H1 D.nx
theorem Bp{te:TE}{g:TG}(he:PE X e te)(hg:PG X tg g)(hs:swapsWithSole [tg] e pos.line X.env=pure false:=by rfl)(hw:swappedStores [tg] e X.env=pure none:=by rfl)
  (h1:(assignEach [tg] X.env).map (·.2)=[assign tg X.env]:=by rfl):PS X (.Assign [tg] e pos) (EU te g):=by
 intro pins s Z H D I h
 refine wpAny_Assign_stores (thn (he pins s Z H _ I h) λv s1 ⟨x,H1,I1,r1,q1⟩=>?_) hs hw
 rw[h1]
 exact thn (hg pins s1 Z H1 x v _ I1 r1 q1) λ_ s2 q=>q
theorem Bm{te:TE}{pos':Pos}(hN:X.N.Nodup)(hi:X.N[i]? = some x)(hx:Loc X.env.scope x)(he:PE X e te)(hs:swapsWith e (some (.Name x pos')) pos.line X.env=pure false:=by rfl)(hf:X.fn x=true\/X.env.scope.names.lookup x=some .local:=by first|exact .inl rfl|exact .inr rfl|assumption) :
  PS X (.Assign [.Name x pos'] e pos) (EU te (v0 i)):=by
 intro pins s Z H D I h
 refine wpAny_Assign_Name (thn (he pins s Z H _ I h) λv s1 ⟨y,H1,I1,r1,q1⟩=>?_) hs
 exact vC I1 hN hi hx r1 (λs2 I2=>⟨_,H1,I2,q1⟩) hf
end
structure It where
 go:Nat->Hp->Prop
 yld:Nat->Hp->V->Hp->Prop
 stop:Nat->Hp->Prop
def mj(X:Cx)(pins:zzk)(H:Hp)(b:Addr):Prop :=
 H b=none/\b≠X.env.locals/\b∉X.fs/\(b∈X.ex\/X.s₀.heap.objs.size<=b)/\(∀x c,X.env.cells.lookup x=some c->c≠b)/\∀p∈X.pn++pins,p.1≠b
theorem Inv.fpOk{X:Cx}{Z:St}{H H':Hp}(I:Inv X pins Z H s)(hb:s.heap.objs.size<=b)(hn:H' b=none):mj X pins H' b:=by
 refine⟨hn,nu (cr I.lt hb),I.nofs hb,.inr (eg I.sz hb),λx c e z=>?_,λp hp z=>?_⟩
 ·obtain⟨v,q⟩:=I.cell x c e
  exact absurd (cr q.lt (by rw[z];exact hb)) (se _)
 ·exact absurd (cr (ba (I.pin p hp).1) (by rw[z];exact hb)) (se _)
structure Turn(P:Program)(w:World)(K:PySem.W.Frag)(tg:Expr)(J:It)(fp:List Addr)(it:Addr)(tn:Nat->Heap->Prop):Prop where
 mem:it∈fp
 obj:∀i h,tn i h->∀b∈fp,∃o,h.get? b=some o/\∀v,o.data≠.cell v
 keep:∀i h h',tn i h->(∀b∈fp,∀o,h.get? b=some o->h'.get? b=some o)->tn i h'
 item:∀(X:Cx),X.prog=P->X.w=w->X.K=K->X.calm=true->∀(i:Nat) (pins:zzk) (s:Shared) (Z:St) (H:Hp) (E:zzj),Inv X pins Z H s->(∀b∈fp,mj X pins H b)->tn i s.heap->J.go i H ->
  wpAny (model P w) X.A (pyNext (.ref it)) (λr s1=>∃u,r=some u /\
   wpAny (model P w) X.A (letOwnedTupleGo tg (.ref it) u) (λ_ s2=>∃x H',Inv X pins Z H' s2/\RelV x u/\J.yld i H x H'/\tn (i+1) s2.heap/\∀b∈fp,H' b=none) E s1) E s
 done:∀(X:Cx),X.prog=P->X.w=w->X.K=K->X.calm=true->∀(i:Nat) (pins:zzk) (s:Shared) (Z:St) (H:Hp) (E:zzj),Inv X pins Z H s->(∀b∈fp,mj X pins H b)->tn i s.heap->J.stop i H ->
  wpAny (model P w) X.A (pyNext (.ref it)) (λr s1=>r=none/\Inv X pins Z H s1) E s
 self:∀(A:Around) (i:Nat) (s:Shared) (Q:zzj) (E:zzj),tn i s.heap->Q (.ref it) s->wpAny (model P w) A (pyIter (.ref it)) Q E s
abbrev TI:=St->Hp->(It->Hp->Prop)->Prop
def PIE(X:Cx)(pins:zzk)(Z:St)(tg:Expr)(R:It->Hp->Prop)(itv:Value)(s2:Shared):Prop :=
 ∃(it:Addr) (fp:List Addr) (tn:Nat->Heap->Prop) (J:It) (H':Hp),itv=.ref it/\Inv X pins Z H' s2/\Turn X.prog X.w X.K tg J fp it tn/\tn 0 s2.heap/\(∀b∈fp,mj X pins H' b)/\R J H'
def PI(X:Cx)(tg iter:Expr)(wi:TI):Prop :=
 ∀(pins:zzk) (s:Shared) (Z:St) (H:Hp) (R:It->Hp->Prop),Inv X pins Z H s->wi Z H R ->
  wpAny (model X.prog X.w) X.A (eval iter X.env) (λv s1=>wpAny (model X.prog X.w) X.A (pyIter v) (PIE X pins Z tg R) X.xe s1) X.xe s
theorem B6{M:Model}{it:Addr}{n:String}{vs:Array Value}(ho:s.heap.get? it=some o)(hc:o.cls=.type n)(hd:o.data=.fields vs)
  (hn:["enumerate", "zip", "dict_itemiterator", "dict_reverseitemiterator", "odict_iterator", "itertools.zip_longest", "itertools.pairwise"].contains n=false) (hQ:Q () s):wpAny M A (letOwnedTupleGo tg (.ref it) u) Q E s:=by
 unfold letOwnedTupleGo
 cases tg<;>first
  | exact zzb hQ
  | (cases u<;>first
     | exact zzb hQ
     | (refine zza (wpAny_load ho ?_)
        rw[hc,hd]
        show wpAny M A (if(["enumerate", "zip", "dict_itemiterator", "dict_reverseitemiterator", "odict_iterator", "itertools.zip_longest", "itertools.pairwise"].contains n&&vs[0]? == some (rawInt _))=true then _ else _) Q E s
        rw[ef (by intro h;rw[hn,im]at h;cases h)]
        exact zzb hQ))
def Itl(K:PySem.W.Frag)(a:Addr):It :=
 ⟨λi H=>∃xs x,SqL K H a xs/\xs[i]? = some x,λi H x H'=>H'=H/\∀xs,SqL K H a xs->xs[i]? = some x,λi H=>∃xs,SqL K H a xs/\xs.length<=i⟩
def Itt(K:PySem.W.Frag)(a:Addr):It :=
 ⟨λi H=>∃xs x,SqT K H a xs/\xs[i]? = some x,λi H x H'=>H'=H/\∀xs,SqT K H a xs->xs[i]? = some x,λi H=>∃xs,SqT K H a xs/\xs.length<=i⟩
def Itr(lo:Int)(n:Nat):It:=⟨λi _=>i<n,λi H x H'=>H'=H/\x=.int (lo+i),λi _=>n<=i⟩
theorem zy{K:PySem.W.Frag}(a it:Addr):Turn P w K tg (Itl K a) [it] it (λi h=>h.IsListIter it a i) where
 mem:=by simp
 obj:=λi h st b hb=>by
  have e:b=it:=by simpa using hb
  subst e
  obtain⟨o,e,c,d⟩:=st
  exact⟨o,e,λv z=>by rw[d]at z;cases z⟩
 keep:=λi h h' st k=>st.at λo e=>k it (by simp) o e
 item:=by
  intro X hP hw hK hc i pins s Z H E I hf st hg
  subst hP hw hK
  obtain⟨xs,x,hq,hx⟩:=hg
  obtain⟨its,rv,p,hz⟩:=I.list hq
  obtain⟨u,hu,ru⟩:=rv.get hx
  obtain⟨f0,f1,f2,f3,f4,f5⟩:=hf it (by simp)
  refine wpAny_pyNext_list_item st p.isList (x:=u) (by simpa using hu) λh' st' sb=>?_
  have I1:Inv X pins Z H { s with heap:=h' }:=I.turned (t':=s.toks) (λb o hb e=>(sb.2 b hb).trans e) f0 f1 f3 f4 f5
  obtain⟨o,e,c,d⟩:=id st'
  exact⟨u,rfl,B6 (s:={ s with heap:=h' }) e c d (by decide) ⟨x,H,I1,ru,⟨rfl,λys hy=>by rw[I.list_inj hy hq];exact hx⟩,st',λb hb=>(hf b hb).1⟩⟩
 done:=by
  intro X hP hw hK hc i pins s Z H E I hf st hg
  subst hP hw hK
  obtain⟨xs,hq,hx⟩:=hg
  obtain⟨its,rv,p,hz⟩:=I.list hq
  obtain⟨f0,f1,f2,f3,f4,f5⟩:=hf it (by simp)
  have hl:=rv.length
  exact wpAny_pyNext_list_end (I.ok.hd hc) st p.isList (by simp;lia) λh' eb=>⟨rfl,I.turned (t':=s.toks) (λb o hb e=>eb b o hb e) f0 f1 f3 f4 f5⟩
 self:=λ_ _ _ _ _ st h=>wpAny_pyIter_listiter st h
theorem wR{K:PySem.W.Frag}(a it:Addr):Turn P w K tg (Itt K a) [it] it (λi h=>h.IsTupleIter it a i) where
 mem:=by simp
 obj:=λi h st b hb=>by
  have e:b=it:=by simpa using hb
  subst e
  obtain⟨o,e,c,d⟩:=st
  exact⟨o,e,λv z=>by rw[d]at z;cases z⟩
 keep:=λi h h' st k=>st.at λo e=>k it (by simp) o e
 item:=by
  intro X hP hw hK hc i pins s Z H E I hf st hg
  subst hP hw hK
  obtain⟨xs,x,hq,hx⟩:=hg
  obtain⟨its,rv,p,hz⟩:=I.tuple hq
  obtain⟨u,hu,ru⟩:=rv.get hx
  obtain⟨f0,f1,f2,f3,f4,f5⟩:=hf it (by simp)
  refine wpAny_pyNext_tuple_item st (show s.heap.IsTuple a its.toArray from p) (x:=u) (by simpa using hu) λh' st' sb=>?_
  have I1:Inv X pins Z H { s with heap:=h' }:=I.turned (t':=s.toks) (λb o hb e=>(sb.2 b hb).trans e) f0 f1 f3 f4 f5
  obtain⟨o,e,c,d⟩:=id st'
  exact⟨u,rfl,B6 (s:={ s with heap:=h' }) e c d (by decide) ⟨x,H,I1,ru,⟨rfl,λys hy=>by rw[I.tuple_inj hy hq];exact hx⟩,st',λb hb=>(hf b hb).1⟩⟩
 done:=by
  intro X hP hw hK hc i pins s Z H E I hf st hg
  subst hP hw hK
  obtain⟨xs,hq,hx⟩:=hg
  obtain⟨its,rv,p,hz⟩:=I.tuple hq
  obtain⟨f0,f1,f2,f3,f4,f5⟩:=hf it (by simp)
  have hl:=rv.length
  exact wpAny_pyNext_tuple_end (I.ok.hd hc) st (show s.heap.IsTuple a its.toArray from p) (by simp;lia) λh' eb=>⟨rfl,I.turned (t':=s.toks) (λb o hb e=>eb b o hb e) f0 f1 f3 f4 f5⟩
 self:=λ_ _ _ _ _ st h=>wpAny_pyIter_tupleiter st h
theorem wU{K:PySem.W.Frag}(it:Addr)(lo:Int)(n:Nat):Turn P w K tg (Itr lo n) [it] it (λi h=>IsRangeIter h it (lo+(i:Nat)*1) ((n:Int) - (i:Nat)) 1) where
 mem:=by simp
 obj:=λi h st b hb=>by
  have e:b=it:=by simpa using hb
  subst e
  exact⟨_,st,λv z=>by
   have z':Data.fields _=Data.cell v:=z
   cases z'⟩
 keep:=λi h h' st k=>k it (by simp) _ st
 item:=by
  intro X hP hw hK hc i pins s Z H E I hf st hg
  subst hP hw hK
  obtain⟨f0,f1,f2,f3,f4,f5⟩:=hf it (by simp)
  have W:=Walks.range (prog:=X.prog) (w:=X.w) (I.ok.hd hc) it lo 1 n
  refine W.item i s _ _ hg st λv h' tk hv st' kk=>?_
  obtain⟨t,rfl⟩:=hv
  have I1:Inv X pins Z H { s with heap:=h',toks:=tk }:=I.turned (λb o hb e=>kk b o (by simpa using hb) e) f0 f1 f3 f4 f5
  refine⟨_,rfl,B6 (s:={ s with heap:=h',toks:=tk }) (n := "range_iterator") st' rfl rfl (by decide) ⟨.int (lo+i),H,I1,⟨t,?_⟩,⟨rfl,rfl⟩,st',λb hb=>(hf b hb).1⟩⟩
  rw[Int.mul_one]
 done:=by
  intro X hP hw hK hc i pins s Z H E I hf st hg
  subst hP hw hK
  obtain⟨f0,f1,f2,f3,f4,f5⟩:=hf it (by simp)
  exact wpAny_pyNext_range_end (I.ok.hd hc) st (by have:n<=i:=hg;lia) λh' eb=>⟨rfl,I.turned (t':=s.toks) (λb o hb e=>eb b o hb e) f0 f1 f3 f4 f5⟩
 self:=λ_ _ _ _ _ st h=>wpAny_pyIter_rangeiter st h
section
variable {X:Cx}
theorem vJ{Z:St}{H:Hp}{R:It->Hp->Prop}{lo hi:Int}{t u v:Tok}{tk:Nat}(I:Inv X pins Z H s)(h1 : -(2^62)<=lo)(h2:lo<2^62)(h3 : -(2^62)<=hi)(h4:hi<2^62)
  (q:R (Itr lo (hi - lo).toNat) H):wpAny (model X.prog X.w) X.A (pyIter (.ref s.heap.objs.size)) (PIE X pins Z tg R) E { s with heap:=s.heap.push { cls:=.type "range",data:=.fields #[.int lo t,.int hi u,.int 1 v] },toks:=tk }:=by
 refine wpAny_pyIter_range (IsRange.new ..) (small_one h1 h2 h3 h4) ?_
 have I1:Inv X pins Z H { s with heap:=s.heap.push { cls:=.type "range",data:=.fields #[.int lo t,.int hi u,.int 1 v] },toks:=tk }:=I.kept λb o e=>zzc _ e
 refine⟨(s.heap.push { cls:=.type "range",data:=.fields #[.int lo t,.int hi u,.int 1 v] }).objs.size,[(s.heap.push { cls:=.type "range",data:=.fields #[.int lo t,.int hi u,.int 1 v] }).objs.size],_,_,H,rfl,
  I1.kept (t':=tk) λb o e=>zzc _ e,wU _ lo (hi - lo).toNat,?_,λb hb=>?_,q⟩
 ·have e1:lo+((0:Nat):Int)*1=lo:=by simp
  have e2:(((hi - lo).toNat:Nat):Int) - ((0:Nat):Int)=Builtin.Range.rangeSize lo hi 1:=by rw[rangeSize_one];split<;>lia
  show IsRangeIter _ _ (lo+((0:Nat):Int)*1) ((((hi - lo).toNat:Nat):Int) - ((0:Nat):Int)) 1
  rw[e1,e2]
  exact zze _ rfl
 ·have e:b=(s.heap.push { cls:=.type "range",data:=.fields #[.int lo t,.int hi u,.int 1 v] }).objs.size:=by simpa using hb
  subst e
  exact I1.fpOk (bo _) (I1.hok.fresh (bo _))
def Ht(ta:TA):TI:=λZ H R=>ta Z H λvs H1=>∃j:Int,vs=[.int j] /\ -(2^62)<=j/\j<2^62/\R (Itr 0 j.toNat) H1
def Hs(ta:TA):TI:=λZ H R=>ta Z H λvs H1=>∃i j:Int,vs=[.int i,.int j]/\(-(2^62)<=i/\i<2^62 /\ -(2^62)<=j/\j<2^62)/\R (Itr i (j - i).toNat) H1
theorem sR{a:Expr}{ta:TA}(hg:Gl X "range")(hm:X.mg "range" = none)(ha:PA X [a] ta)(hs:starEach [a] X.env=[(false,eval a X.env)]:=by rfl):PI X tg (.Call (.Name "range" p) [a] [] pos) (Ht ta):=by
 intro pins s Z H R I h
 refine Call_ (kD I hg hm boot_range (sd (thn (ha pos pins s Z H _ I h) λus s1 ⟨vs,H1,I1,r1,q1⟩=>?_) hs rfl))
 obtain⟨j,e,q1,q2,q⟩:=q1
 subst e
 cases r1 with
 | cons r rr =>
  cases rr
  obtain⟨t,rfl⟩:=r
  exact call_range_1 (vJ I1 (by lia) (by lia) q1 q2 (by simpa using q))
theorem zK{a b:Expr}{ta:TA}(hg:Gl X "range")(hm:X.mg "range" = none)(ha:PA X [a,b] ta)(hs:starEach [a,b] X.env=[(false,eval a X.env),(false,eval b X.env)]:=by rfl)(hs2:starEach [b] X.env=[(false,eval b X.env)]:=by rfl) :
  PI X tg (.Call (.Name "range" p) [a,b] [] pos) (Hs ta):=by
 intro pins s Z H R I h
 refine Call_ (kD I hg hm boot_range (sd (thn (ha pos pins s Z H _ I h) λus s1 ⟨vs,H1,I1,r1,q1⟩=>?_) (by rw[hs,hs2]) (by rw[hs2];rfl)))
 obtain⟨i,j,e,⟨q1,q2,q3,q4⟩,q⟩:=q1
 subst e
 cases r1 with
 | cons r rr =>
  cases rr with
  | cons r' rr =>
   cases rr
   obtain⟨t,rfl⟩:=r
   obtain⟨t',rfl⟩:=r'
   exact call_range_2 (vJ I1 q1 q2 q3 q4 q)
def Ik(wi:TI)(g:TG)(tb:TS):TS:=λD Z H=>wi Z H λJ H1=>∃W:Nat->Nat->St->Hp->Prop,(∃m,W 0 m Z H1)/\∀i m Z H,W i m Z H ->
 (J.stop i H/\D.nx Z H)\/(J.go i H/\∃N:St->Hp->Prop,(∀σ' H',N σ' H'->∃m',m'<m/\W (i+1) m' σ' H')/\∀x H',J.yld i H x H'->g x Z H' λσ2 H2=>tb { D with nx:=N,ct:=N,bk:=D.nx } σ2 H2)
def qh(fp:List Addr)(h:Heap):List (Addr×Obj):=fp.filterMap λb=>(h.get? b).map λo=>(b,o)
theorem jO(hb:b∈fp)(e:h.get? b=some o):(b,o)∈qh fp h:=List.mem_filterMap.mpr ⟨b,hb,by rw[e];rfl⟩
theorem zQ{p:Addr×Obj}(hp:p∈qh fp h):p.1∈fp/\h.get? p.1=some p.2:=by
 obtain⟨b,hb,e⟩:=List.mem_filterMap.mp hp
 cases q:h.get? b with
 | none=>rw[q]at e;cases e
 | some o =>
  rw[q]at e
  have e':(b,o)=p:=Option.some.inj e
  subst e'
  exact⟨hb,q⟩
theorem Inv.pinned{Z:St}{H:Hp}(I:Inv X pins Z H s)(hf:∀b∈fp,mj X pins H b)(ho:∀b∈fp,∃o,s.heap.get? b=some o/\∀v,o.data≠.cell v):Inv X (pins++qh fp s.heap) Z H s :=
 I.pins_of λp hp=>(List.mem_append.mp hp).elim (λz=>I.pin p (ig _ z)) λz=>by
  obtain⟨hb,e⟩:=zQ z
  obtain⟨f0,f1,f2,_⟩:=hf p.1 hb
  obtain⟨o,e',d⟩:=ho p.1 hb
  rw[e]at e';cases e'
  exact⟨e,f0,f1,f2,d⟩
theorem Inv.unpinned{pl:zzk}{Z:St}{H:Hp}(I:Inv X (pins++pl) Z H s):Inv X pins Z H s:=I.pins_of λp hp=>I.pin p (ig _ (List.mem_append_left _ hp))
theorem Fe{iter:Expr}{body:List Stmt}{wi:TI}{g:TG}{tb:TS}(hp:PassesOwn (model X.prog X.w) X.A X.env X.xe)(hc:X.calm=true)(hi:PI X tg iter wi)(hg:PG X tg g)(hb:PSs X body tb)
  (hs:∀x,foldedSetIterable iter X.env x=pure x:=by intro _;rfl):PS X (.For tg iter body [] pos) (Ik wi g tb):=by
 intro pins s Z H D I h
 refine wpAny_For (thn (hi pins s Z H _ I h) λv s1 h1=>thn h1 λitv s2 h2=>?_) hs
 obtain⟨it,fp,tn,J,H2,e,I2,T,st2,f2,W,⟨m0,w0⟩,turn⟩:=h2
 subst e
 have stat:∀{H':Hp},(∀b∈fp,H' b=none)->∀b∈fp,mj X pins H' b:=λhn b hb=>⟨hn b hb,(f2 b hb).2⟩
 refine codeAny_forLoop_any (λn s'=>∃i σ' H',Inv X pins σ' H' s'/\tn i s'.heap/\(∀b∈fp,H' b=none)/\W i n σ' H') ?_ m0 ⟨0,Z,H2,I2,st2,λb hb=>(f2 b hb).1,w0⟩
 rintro n s3 ⟨i,σ3,H3,I3,st3,fr3,w3⟩
 rcases turn i n σ3 H3 w3 with ⟨stop,qn⟩|⟨go,N,hN,step⟩
 ·refine GR hp (thn (T.done X rfl rfl rfl hc i pins s3 σ3 H3 X.xe I3 (stat fr3) st3 stop) λr s4 ⟨hr,I4⟩=>?_)
  subst hr
  exact wpAny_execs_nil ⟨σ3,H3,I4,qn⟩
 ·refine GR hp (thn (T.item X rfl rfl rfl hc i pins s3 σ3 H3 X.xe I3 (stat fr3) st3 go) λr s4 ⟨u,hr,h4⟩=>?_)
  subst hr
  refine GR hp (thn h4 λ_ s5 ⟨x,H5,I5,r5,y5,st5,fr5⟩=>?_)
  have I5':=I5.pinned (stat fr5) (T.obj _ _ st5)
  refine GR hp (thn (hg _ s5 σ3 H5 x u _ I5' r5 (step x H5 y5)) λ_ s6 ⟨σ6,H6,I6,q6⟩=>?_)
  refine GR hp (thn (hb _ s6 σ6 H6 _ I6 q6) λf s7 q7=>?_)
  have again:∀{σ7:St} {H7:Hp},Inv X (pins++qh fp s5.heap) σ7 H7 s7->N σ7 H7->∃m,m<n/\∃i σ' H',Inv X pins σ' H' s7/\tn i s7.heap/\(∀b∈fp,H' b=none)/\W i m σ' H':=λ{σ7 H7} I7 n7=>by
   obtain⟨m',hm,w7⟩:=hN σ7 H7 n7
   refine⟨m',hm,i+1,σ7,H7,I7.unpinned,T.keep _ _ _ st5 λb hb o e=>(I7.pin (b,o) (ig _ (ig _ (jO hb e)))).1,λb hb=>?_,w7⟩
   obtain⟨o,e,d⟩:=T.obj _ _ st5 b hb
   exact(I7.pin (b,o) (ig _ (ig _ (jO hb e)))).2.1
  cases f with
  | next=>obtain⟨σ7,H7,I7,n7⟩:=q7;exact again I7 n7
  | cont=>obtain⟨σ7,H7,I7,n7⟩:=q7;exact again I7 n7
  | brk=>obtain⟨σ7,H7,I7,q7⟩:=q7;exact⟨σ7,H7,I7.unpinned,q7⟩
  | ret v=>obtain⟨x7,σ7,H7,I7,r7,q7⟩:=q7;exact⟨x7,σ7,H7,I7.unpinned,r7,q7⟩
end
abbrev R2:=V->V->Hp->VK->Prop
def OpR(X:Cx)(f:Value->Value->Sem Value)(r:R2):Prop :=
 ∀(pins:zzk) (s:Shared) (Z:St) (H:Hp) (x y:V) (v u:Value) (Q:VK),Inv X pins Z H s->RelV x v->RelV y u->r x y H Q ->
  wpAny (model X.prog X.w) X.A (f v u) (EP X pins Z Q) X.xe s
def UnR(X:Cx)(f:Value->Sem Value)(r:V->Hp->VK->Prop):Prop :=
 ∀(pins:zzk) (s:Shared) (Z:St) (H:Hp) (x:V) (v:Value) (Q:VK),Inv X pins Z H s->RelV x v->r x H Q ->
  wpAny (model X.prog X.w) X.A (f v) (EP X pins Z Q) X.xe s
def CallR(X:Cx)(f:Value)(r:List V->Hp->VK->Prop):Prop :=
 ∀(pins:zzk) (s:Shared) (Z:St) (H:Hp) (xs:List V) (us:List Value) (Q:VK),Inv X pins Z H s->Vals xs us->r xs H Q ->
  wpAny (model X.prog X.w) X.A (call f us) (EP X pins Z Q) X.xe s
def Jd(X:Cx)(r:V->Hp->(Bool->Hp->Prop)->Prop):Prop :=
 ∀(pins:zzk) (s:Shared) (Z:St) (H:Hp) (x:V) (v:Value) (Q:Bool->Hp->Prop),Inv X pins Z H s->RelV x v->r x H Q ->
  wpAny (model X.prog X.w) X.A (truthy v) (TP X pins Z Q) X.xe s
def tOp(r:R2)(ta tb:TE):TE:=λZ H Q=>ta Z H λx H1=>tb Z H1 λy H2=>r x y H2 Q
def tUn(r:V->Hp->VK->Prop)(ta:TE):TE:=λZ H Q=>ta Z H λx H1=>r x H1 Q
def rI(C:Int->Int->Prop)(g:Int->Int->V):R2:=λx y H Q=>∃i j,x=.int i/\y=.int j/\C i j/\Q (g i j) H
def rI0(g:Int->Int->V):R2:=λx y H Q=>∃i j,x=.int i/\y=.int j/\Q (g i j) H
def rU(g:Int->V):V->Hp->VK->Prop:=λx H Q=>∃i,x=.int i/\Q (g i) H
section
variable {X:Cx} {a b:Expr} {ta tb tc:TE}
theorem Gf(ha:PE X a ta)(hb:PE X b tb){Z:St}{H:Hp}{R:V->V->Hp->Prop}(I:Inv X pins Z H s)
  (h:ta Z H λx H1=>tb Z H1 λy H2=>R x y H2) {Q:zzj} {f:Value->Value->Sem Value}
  (hf:∀v u s2 x y H2,Inv X pins Z H2 s2->RelV x v->RelV y u->R x y H2->wpAny (model X.prog X.w) X.A (f v u) Q X.xe s2) :
  wpAny (model X.prog X.w) X.A (eval a X.env) (λv s₁=>wpAny (model X.prog X.w) X.A (eval b X.env) (λu s₂=>wpAny (model X.prog X.w) X.A (f v u) Q X.xe s₂) X.xe s₁) X.xe s:=by
 refine thn (ha pins s Z H _ I h) λv s1 ⟨x,H1,I1,r1,q1⟩=>?_
 refine thn (hb pins s1 Z H1 _ I1 q1) λu s2 ⟨y,H2,I2,r2,q2⟩=>?_
 exact hf v u s2 x y H2 I2 r1 r2 q2
theorem By{op:Operator}{r:R2}(ho:OpR X (binaryOp op) r)(ha:PE X a ta)(hb:PE X b tb):PE X (.BinOp a op b pos) (tOp r ta tb):=by
 intro pins s Z H Q I h
 exact wpAny_BinOp (Gf ha hb I h λv u s2 x y H2 I2 rx ry q=>ho pins s2 Z H2 x y v u Q I2 rx ry q)
theorem Bv{op:UnaryOp}{r:V->Hp->VK->Prop}(ho:UnR X (unaryOp op) r)(ha:PE X a ta):PE X (.UnaryOp op a pos) (tUn r ta):=by
 intro pins s Z H Q I h
 exact UnaryOp_ (thn (ha pins s Z H _ I h) λv s1 ⟨x,H1,I1,r1,q1⟩=>ho pins s1 Z H1 x v Q I1 r1 q1)
theorem opI{f:Value->Value->Sem Value}{C:Int->Int->Prop}{g:Int->Int->Int}
  (rule:∀(i j:Int) (t u:Tok) (s:Shared) (Q:zzj) (E:zzj),C i j->Q (.int (g i j) s.toks) { s with toks:=s.toks+1 }->wpAny (model X.prog X.w) X.A (f (.int i t) (.int j u)) Q E s) :
  OpR X f (rI C λi j=>.int (g i j)):=by
 intro pins s Z H x y v u Q I rx ry h
 obtain⟨i,j,rfl,rfl,hc,q⟩:=h
 obtain⟨t,rfl⟩:=rx
 obtain⟨t',rfl⟩:=ry
 exact rule i j t t' s _ _ hc ⟨.int (g i j),H,I.tok _,⟨_,rfl⟩,q⟩
theorem Hd{f:Value->Value->Sem Value}{g:Int->Int->Int}
  (rule:∀(i j:Int) (t u:Tok) (s:Shared) (Q:zzj) (E:zzj),Q (.int (g i j) s.toks) { s with toks:=s.toks+1 }->wpAny (model X.prog X.w) X.A (f (.int i t) (.int j u)) Q E s) :
  OpR X f (rI0 λi j=>.int (g i j)):=by
 intro pins s Z H x y v u Q I rx ry h
 obtain⟨i,j,rfl,rfl,q⟩:=h
 obtain⟨t,rfl⟩:=rx
 obtain⟨t',rfl⟩:=ry
 exact rule i j t t' s _ _ ⟨.int (g i j),H,I.tok _,⟨_,rfl⟩,q⟩
theorem Dr{f:Value->Value->Sem Value}{g:Int->Int->Bool}
  (rule:∀(i j:Int) (t u:Tok) (s:Shared) (Q:zzj) (E:zzj),Q (.bool (g i j)) s->wpAny (model X.prog X.w) X.A (f (.int i t) (.int j u)) Q E s) :
  OpR X f (rI0 λi j=>.bl (g i j)):=by
 intro pins s Z H x y v u Q I rx ry h
 obtain⟨i,j,rfl,rfl,q⟩:=h
 obtain⟨t,rfl⟩:=rx
 obtain⟨t',rfl⟩:=ry
 exact rule i j t t' s _ _ ⟨.bl (g i j),H,I,rfl,q⟩
def HX(i j:Int):Prop:=0<j/\j<1073741824
def HW(i j:Int):Prop:=0<=j/\j<=1000000/\i.natAbs<2^64
def CMul(i j:Int):Prop:=(-(2^64)<i/\i<2^64)\/(-(2^64)<j/\j<2^64)
theorem CMul.ok{i j:Int}(h:CMul i j):IntMulOk i j:=by
 rcases h with ⟨h1,h2⟩|⟨h1,h2⟩
 ·exact .of_left (intBits_le_64 h1 h2)
 ·exact .of_right (intBits_le_64 h1 h2)
theorem op_add:OpR X (binaryOp .Add) (rI0 λi j=>.int (i+j)):=Hd λ_ _ _ _ _ _ _ q=>add_int q
theorem fy:OpR X (binaryOp .Sub) (rI0 λi j=>.int (i - j)):=Hd λ_ _ _ _ _ _ _ q=>sub_int q
theorem cB:OpR X (binaryOp .Mult) (rI CMul λi j=>.int (i*j)):=opI λ_ _ _ _ _ _ _ hc q=>mul_int q hc.ok
theorem pk:OpR X (binaryOp .FloorDiv) (rI HX λi j=>.int (i / j)):=opI λi j _ _ _ _ _ hc q=>by
 have h1:(0:Int)<j:=hc.1
 have h2:j<1073741824:=hc.2
 exact floordiv_int (by lia) (by rw[Int.fdiv_eq_ediv_of_nonneg i (by lia)];exact q) (.inl (PyProof.noPylong_small (by lia)))
theorem gN:OpR X (binaryOp .Mod) (rI (λ_ j=>0<j) λi j=>.int (i % j)):=opI λi j _ _ _ _ _ hc q=>by
 have h1:(0:Int)<j:=hc
 exact mod_int' (by lia) (by rw[Int.fmod_eq_emod_of_nonneg i (by lia)];exact q)
theorem nz:OpR X (binaryOp .Pow) (rI HW λi j=>.int (i^j.toNat)):=opI λ_ _ _ _ _ _ _ hc q=>pow_int_small hc.1 hc.2.1 hc.2.2 q
theorem unI{f:Value->Sem Value}{g:Int->Int}
  (rule:∀(i:Int) (t:Tok) (s:Shared) (Q:zzj) (E:zzj),Q (.int (g i) s.toks) { s with toks:=s.toks+1 }->wpAny (model X.prog X.w) X.A (f (.int i t)) Q E s) :
  UnR X f (rU λi=>.int (g i)):=by
 intro pins s Z H x v Q I rx h
 obtain⟨i,rfl,q⟩:=h
 obtain⟨t,rfl⟩:=rx
 exact rule i t s _ _ ⟨.int (g i),H,I.tok _,⟨_,rfl⟩,q⟩
theorem bK:UnR X (unaryOp .USub) (rU λi=>.int (-i)):=unI λ_ _ _ _ _ q=>neg_int q
end
section
variable {X:Cx} {a b:Expr} {ta tb tc:TE}
theorem uR{Z:St}{H:Hp}{Q:VK}{k k':Bool}(I:Inv X pins Z H s)(q:Q (.bl k) H)(e:k=k'):EP X pins Z Q (.bool k') s:=by
 subst e
 exact⟨.bl k,H,I,rfl,q⟩
theorem sV:OpR X (compareOp .Lt) (rI0 λi j=>.bl (decide (i<j))):=Dr λ_ _ _ _ _ _ _ q=>lt_int q
theorem mC:OpR X (compareOp .LtE) (rI0 λi j=>.bl (decide (i<=j))):=Dr λ_ _ _ _ _ _ _ q=>le_int q
theorem vN:OpR X (compareOp .Gt) (rI0 λi j=>.bl (decide (j<i))):=Dr λ_ _ _ _ _ _ _ q=>gt_int q
theorem Eo:OpR X (compareOp .GtE) (rI0 λi j=>.bl (decide (j<=i))):=Dr λ_ _ _ _ _ _ _ q=>ge_int q
theorem zM:OpR X (compareOp .In) (λx y H Q=>∃i j,x=.str i/\y=.str j/\Q (.bl (!(Builtin.Str.occurrences j i 0 j.length 1).isEmpty)) H):=by
 intro pins s Z H x y v u Q I rx ry h
 obtain⟨i,j,rfl,rfl,q⟩:=h
 obtain⟨t,rfl⟩:=rx
 obtain⟨t',rfl⟩:=ry
 exact in_str (uR I q rfl)
theorem Fx:OpR X (compareOp .Is) (λx y H Q=>y=.non/\Q (.bl (decide (x=.non))) H):=by
 intro pins s Z H x y v u Q I rx ry h
 obtain⟨rfl,q⟩:=h
 cases ry
 refine is_none_gen (uR I q ?_)
 cases x<;>first
  | (cases rx;rfl)
  | (obtain⟨t,rfl⟩:=rx;rfl)
theorem Do:OpR X (compareOp .IsNot) (λx y H Q=>y=.non/\Q (.bl (!decide (x=.non))) H):=by
 intro pins s Z H x y v u Q I rx ry h
 obtain⟨rfl,q⟩:=h
 cases ry
 refine isnot_none_gen (uR I q ?_)
 cases x<;>first
  | (cases rx;rfl)
  | (obtain⟨t,rfl⟩:=rx;rfl)
theorem uk:OpR X (compareOp .NotIn) (λx y H Q=>∃i j,x=.str i/\y=.str j/\Q (.bl (!(!(Builtin.Str.occurrences j i 0 j.length 1).isEmpty))) H):=by
 intro pins s Z H x y v u Q I rx ry h
 obtain⟨i,j,rfl,rfl,q⟩:=h
 obtain⟨t,rfl⟩:=rx
 obtain⟨t',rfl⟩:=ry
 exact notIn_str (uR I q rfl)
theorem OpR.or{f:Value->Value->Sem Value}{r r':R2}(h:OpR X f r)(h':OpR X f r'):OpR X f (λx y H Q=>r x y H Q\/r' x y H Q):=by
 intro pins s Z H x y v u Q I rx ry q
 rcases q with q|q
 ·exact h pins s Z H x y v u Q I rx ry q
 ·exact h' pins s Z H x y v u Q I rx ry q
theorem Dl{r:R2}(ho:OpR X (compareOp op) r)(ha:PE X a ta)(hb:PE X b tb)(hm:behindInMarks op b=false):PE X (.Compare a [op] [b] pos) (tOp r ta tb):=by
 intro pins s Z H Q I h
 exact wpAny_Compare1 (Gf ha hb I h λv u s2 x y H2 I2 rx ry q=>ho pins s2 Z H2 x y v u Q I2 rx ry q) hm
def D2(t:TE):TT:=λZ H Q=>t Z H λx H'=>∃k,x=.bl k/\Q k H'
theorem yA{r:R2}(ho:OpR X (compareOp op) r)(ha:PE X a ta)(hb:PE X b tb)(hm:behindInMarks op b=false):PT X (.Compare a [op] [b] pos) (D2 (tOp r ta tb)):=by
 intro pins s Z H Q I h
 refine wpAny_isTrue_Compare1 (thn (ha pins s Z H _ I h) λv s1 ⟨x,H1,I1,r1,q1⟩=>thn (hb pins s1 Z H1 _ I1 q1) λu s2 ⟨y,H2,I2,r2,q2⟩ =>
  thn (ho pins s2 Z H2 x y v u _ I2 r1 r2 q2) λc s3 ⟨z,H3,I3,r3,k,e,q3⟩=>?_) hm
 subst e
 cases r3
 exact ss ⟨H3,I3,q3⟩
def wW(r r':R2)(ta tb tc:TE):TE:=λZ H Q=>ta Z H λx H1=>tb Z H1 λy H2=>r x y H2 λz H3=>∃k,z=.bl k /\
 (if k=true then tc Z H3 λw' H4=>r' y w' H4 Q else Q (.bl false) H3)
theorem Bz{op':CmpOp}{r r':R2}(ho:OpR X (compareOp op) r)(ho':OpR X (compareOp op') r')(ha:PE X a ta)(hb:PE X b tb)(hc:PE X c tc)
  (hm:lastMarks [op,op'] [b,c]=false:=by with_unfolding_all rfl):PE X (.Compare a [op,op'] [b,c] pos) (wW r r' ta tb tc):=by
 intro pins s Z H Q I h
 refine Compare_chain (thn (ha pins s Z H _ I h) λv s1 ⟨x,H1,I1,r1,q1⟩=>chain_link (thn (hb pins s1 Z H1 _ I1 q1) λu s2 ⟨y,H2,I2,r2,q2⟩ =>
  thn (ho pins s2 Z H2 x y v u _ I2 r1 r2 q2) λd s3 ⟨z,H3,I3,r3,k,e,q3⟩=>?_)) hm
 subst e
 cases r3
 refine ss ?_
 cases k with
 | false=>exact ite_ff ⟨.bl false,H3,I3,rfl,q3⟩
 | true=>exact ite_tt (chain_last (thn (hc pins s3 Z H3 _ I3 q3) λw' s4 ⟨z',H4,I4,r4,q4⟩=>ho' pins s4 Z H4 y z' u w' Q I4 r2 r4 q4))
theorem Bk{op':CmpOp}{r r':R2}(ho:OpR X (compareOp op) r)(ho':OpR X (compareOp op') r')(ha:PE X a ta)(hb:PE X b tb)(hc:PE X c tc)
  (hm:lastMarks [op,op'] [b,c]=false:=by with_unfolding_all rfl):PT X (.Compare a [op,op'] [b,c] pos) (D2 (wW r r' ta tb tc)):=by
 intro pins s Z H Q I h
 refine isTrue_chain (thn (ha pins s Z H _ I h) λv s1 ⟨x,H1,I1,r1,q1⟩=>test_link (thn (hb pins s1 Z H1 _ I1 q1) λu s2 ⟨y,H2,I2,r2,q2⟩ =>
  thn (ho pins s2 Z H2 x y v u _ I2 r1 r2 q2) λd s3 ⟨z,H3,I3,r3,k,e,q3⟩=>?_)) hm
 subst e
 cases r3
 refine ss ?_
 cases k with
 | false =>
  obtain⟨k',e',q'⟩:=q3
  cases e'
  exact ite_ff ⟨H3,I3,q'⟩
 | true =>
  refine ite_tt (test_last (thn (hc pins s3 Z H3 _ I3 q3) λw' s4 ⟨z',H4,I4,r4,q4⟩=>thn (ho' pins s4 Z H4 y z' u w' _ I4 r2 r4 q4) λd' s5 ⟨z2,H5,I5,r5,k2,e2,q5⟩=>?_))
  subst e2
  cases r5
  exact ss ⟨H5,I5,q5⟩
def Gk(K:PySem.W.Frag)(x:V)(H:Hp)(k:Bool):Prop :=
 match x with
 | .non=>k=false
 | .bl b=>k=b
 | .int i=>k=(i != 0)
 | .str y=>y.length<=sizeLine/\k=((y.length:Int) != 0)
 | .byt y=>y.size<=sizeLine/\k=((y.size:Int) != 0)
 | .ref p=>(∃xs,SqL K H p xs/\k = !xs.isEmpty)\/(∃xs,SqT K H p xs/\k = !xs.isEmpty)\/∃kvs,H p=some (.dK kvs)/\k = !kvs.isEmpty
 | _=>False
theorem xM{κ:Type}{kvs:List (κ×V)}{vs:List (κ×Value)}(r:KV kvs vs):(!vs.isEmpty) = !kvs.isEmpty:=by
 cases r<;>rfl
theorem qJ{xs:List V}{its:List Value}(r:Vals xs its):(!its.toArray.isEmpty) = !xs.isEmpty:=by
 cases r<;>simp
theorem lQ:(sizeLine:Nat)<2^63:=by rw[sizeLine_eq];decide
theorem AU:Jd X (λx H Q=>∃k,Gk X.K x H k/\Q k H):=by
 intro pins s Z H x v Q I rx h
 obtain⟨k,e,q⟩:=h
 have hl:=lQ
 have hs:sizeLine=16777216:=sizeLine_eq
 cases x with
 | non =>
  cases rx
  have e':k=false:=e
  subst e'
  exact truthy_none ⟨H,I,q⟩
 | bl b =>
  cases rx
  have e':k=b:=e
  subst e'
  exact ss ⟨H,I,q⟩
 | int i =>
  obtain⟨t,rfl⟩:=rx
  have e':k=(i != 0):=e
  subst e'
  exact PySem.P.truthy_int ⟨H,I,q⟩
 | str y =>
  obtain⟨t,rfl⟩:=rx
  obtain⟨hy,e'⟩:y.length<=sizeLine/\k=((y.length:Int) != 0):=e
  subst e'
  exact PySem.P.truthy_str (by lia) ⟨H,I.tok _,q⟩
 | byt y =>
  obtain⟨t,rfl⟩:=rx
  obtain⟨hy,e'⟩:y.size<=sizeLine/\k=((y.size:Int) != 0):=e
  subst e'
  exact PySem.W.truthy_bytes (by lia) ⟨H,I.tok _,q⟩
 | ref p =>
  cases rx
  have e':(∃xs,SqL X.K H p xs/\k = !xs.isEmpty)\/(∃xs,SqT X.K H p xs/\k = !xs.isEmpty)\/∃kvs,H p=some (.dK kvs)/\k = !kvs.isEmpty:=e
  rcases e' with ⟨xs,hx,e'⟩|⟨xs,hx,e'⟩|⟨kvs,hx,e'⟩
  ·subst e'
   obtain⟨its,r,pl,hz⟩:=I.list hx
   have hlen:=r.length
   exact wpAny_truthy_list pl.isList (by simp only[bj];lia) ⟨H,I.tok _,by rw[qJ r];exact q⟩
  ·subst e'
   obtain⟨its,r,pl,hz⟩:=I.tuple hx
   have hlen:=r.length
   exact truthy_tuple pl (by simp only[bj];lia) ⟨H,I.tok _,by rw[qJ r];exact q⟩
  ·subst e'
   obtain⟨hz,hS,vs,r,m⟩:kvs.length<=sizeLine/\(p==sysModules)=false/\∃vs,KV kvs vs/\s.heap.DictOf (eu X.prog X.w) p vs:=I.hok p _ hx
   have hlen:kvs.length=vs.length:=Paired.length r
   exact wpAny_truthy_dict hS m (by lia) ⟨H,I.tok _,by rw[xM r];exact q⟩
 | _=>exact(show False from e).elim
theorem qd(ha:PE X a ta)(he:∀whole,isTrue a X.env whole=(do let v <-whole;standAt a.pos;holding [v] (truthy v))) :
  PT X a (λZ H Q=>ta Z H λx H'=>∃k,Gk X.K x H' k/\Q k H'):=by
 intro pins s Z H Q I h
 exact isTrue_plain (thn (ha pins s Z H _ I h) λv s1 ⟨x,H1,I1,r1,q1⟩=>AU pins s1 Z H1 x v Q I1 r1 q1) (he _)
theorem xq:OpR X (binaryOp .Add) (λx y H Q=>∃i j,x=.str i/\y=.str j/\i.length+j.length<=sizeLine/\Q (.str (i++j)) H):=by
 intro pins s Z H x y v u Q I rx ry h
 obtain⟨i,j,rfl,rfl,hz,q⟩:=h
 obtain⟨t,rfl⟩:=rx
 obtain⟨t',rfl⟩:=ry
 exact add_str (λt' tk=>⟨.str (i++j),H,I.tok _,⟨_,rfl⟩,q⟩) hz
theorem vals1{x:V}(r:Vals [x] us):∃u,us=[u]/\RelV x u:=by
 cases r with
 | cons r1 r2=>cases r2;exact⟨_,rfl,r1⟩
theorem vals2{x y:V}(r:Vals [x,y] us):∃u w',us=[u,w']/\RelV x u/\RelV y w':=by
 cases r with
 | cons r1 r2 =>
  cases r2 with
  | cons r3 r4=>cases r4;exact⟨_,_,rfl,r1,r3⟩
theorem tL(hc:X.calm=true):CallR X (.builtin "max") (λxs H Q=>∃i j,xs=[.int i,.int j]/\Q (.int (if j>i then j else i)) H):=by
 intro pins s Z H xs us Q I r h
 obtain⟨i,j,rfl,q⟩:=h
 obtain⟨u,w',rfl,⟨t,rfl⟩,⟨t',rfl⟩⟩:=vals2 r
 refine max_two_ints (I.ok.hd hc) λh' tk k=>⟨_,H,I.kept k,?_,q⟩
 by_cases hj:j>i
 ·rw[be hj,be hj];exact⟨_,rfl⟩
 ·rw[ef hj,ef hj];exact⟨_,rfl⟩
theorem kX:CallR X (.type "int") (λxs H Q=>(∃i,xs=[.int i]/\Q (.int i) H)\/∃k,xs=[.bl k]/\Q (.int (if k then 1 else 0)) H):=by
 intro pins s Z H xs us Q I r h
 rcases h with ⟨i,rfl,q⟩|⟨k,rfl,q⟩
 ·obtain⟨u,rfl,t,rfl⟩:=vals1 r
  exact call_int_int ⟨.int i,H,I,⟨_,rfl⟩,q⟩
 ·obtain⟨u,rfl,r1⟩:=vals1 r
  cases r1
  exact call_int_bool ⟨.int (if k then 1 else 0),H,I.tok _,⟨_,rfl⟩,q⟩
end
theorem zU{dx:Addr}{mA:zzl}(n:h.Ns1 dx mA):∃od,h.get? dx=some od/\∀name,PySem.W.lookIn name od=some (mA name):=by
 obtain⟨o,es,ep,ho,hd,hk,_,hm⟩:=n
 refine⟨o,ho,λname=>?_⟩
 have e:=hm name
 unfold nsFind findBy at e
 rw[<-Array.find?_toList]at e
 unfold PySem.W.lookIn
 rw[hd]
 dsimp only
 split
 ·rename_i y q
  rw[q]at e
  exact congrArg some e
 ·rename_i q
  rw[q]at e
  have a:es.toList.any (·.refKey)=false:=by
   rw[List.any_eq_false]
   intro y hy
   obtain⟨z,t,hkey⟩:=hk y (Array.mem_toList_iff.mp hy)
   simp[DictEntry.refKey,hkey]
  have a':¬ es.toList.any (·.refKey)=true:=by rw[a];exact ni
  rw[ef a']
  exact congrArg some e
structure Room(k:Nat)(A:Around):Prop where
 hd:A.handled=none
 dp:A.depth+3*k+5<recursionLimit
 un:A.units+16*k+1200<cLine
 gd:A.guards=some []
theorem Room.mono{j:Nat}(r:Room k A)(h:j<=k):Room j A:=⟨r.hd,by have:=r.dp;lia,by have:=r.un;lia,r.gd⟩
theorem Room.deeper(r:Room (k+1) A)(env:Env):Room k (A.deeper env) :=
 ⟨r.hd,by have:=r.dp;show A.depth+1+3*k+5<_;lia,by have:=r.un;show A.units+3+16*k+1200<_;lia,r.gd⟩
theorem Room.depth(r:Room k A):A.depth<recursionLimit:=by have:=r.dp;lia
def Ih:TA:=λ_ H Q=>Q [] H
def GC(ta:TE)(tr:TA):TA:=λZ H Q=>ta Z H λx H1=>tr Z H1 λxs H2=>Q (x::xs) H2
section
variable {X:Cx} {te:TE} {t:TA}
theorem ui:PA X [] Ih:=λ_ _ _ _ H Q I h=>Calls.spliced_nil ⟨[],H,I,.nil,h⟩
theorem kR(ha:PE X e te)(hr:PA X es t)(hs:starEach (e::es) X.env=(false,eval e X.env)::starEach es X.env:=by rfl):PA X (e::es) (GC te t):=by
 intro pos pins s Z H Q I h
 rw[hs]
 show wpAny _ _ (spliced ((false,eval e X.env)::backTo pos (starEach es X.env))) _ _ s
 refine Calls.spliced_cons (thn (ha pins s Z H _ I h) λu s1 ⟨x,H1,I1,r1,q1⟩=>?_)
 exact thn (hr pos pins s1 Z H1 _ I1 q1) λus s2 ⟨xs,H2,I2,r2,q2⟩=>⟨x::xs,H2,I2,.cons r1 r2,q2⟩
def Ia(t:TA):TE:=λZ H Q=>t Z H λxs H1=>xs.length<=sizeLine/\∀p,H1 p=none->Q (.ref p) (upd H1 p (.tup xs))
def Ii(t:TA):TE:=λZ H Q=>t Z H λxs H1=>xs.length<=sizeLine/\∀p,H1 p=none->Q (.ref p) (upd H1 p (.lst xs))
theorem Bw{x1}(h:PA X es t):PE X (.Tuple es x1 pos) (Ia t):=by
 intro pins s Z H Q I hq
 refine wpAny_Tuple_spliced (thn (h pos pins s Z H _ I hq) λus s1 ⟨xs,H1,I1,r,z,q⟩=>⟨by rw[<-r.length];exact z,?_⟩)
 have hf:H1 s1.heap.objs.size=none:=I1.hok.fresh (bo _)
 refine⟨.ref s1.heap.objs.size,upd H1 s1.heap.objs.size (.tup xs),I1.laid (t':=s1.toks) (λb u e=>zzc _ e) (bo _) ?_,rfl,q _ hf⟩
 exact⟨z,us,r,⟨_,zze _ rfl,rfl,_,rfl⟩,⟨_,zze _ rfl,rfl⟩⟩
theorem Fq(h:PA X es t):PE X (.List es pos) (Ii t):=by
 intro pins s Z H Q I hq
 refine wpAny_List_spliced (thn (h pos pins s Z H _ I hq) λus s1 ⟨xs,H1,I1,r,z,q⟩=>⟨by rw[<-r.length];exact z,?_⟩)
 have hf:H1 s1.heap.objs.size=none:=I1.hok.fresh (bo _)
 refine⟨.ref s1.heap.objs.size,upd H1 s1.heap.objs.size (.lst xs),I1.laid (t':=s1.toks) (λb u e=>zzc _ e) (bo _) ?_,rfl,q _ hf⟩
 exact⟨z,us,0,r,zze _ rfl⟩
end
abbrev Sp:=List V->Hp->VK->XK->Prop
abbrev CXT:=List Env->Hp->Shared->XK->Value->Shared->Prop
structure Env0(P:Program)(w:World)(K:PySem.W.Frag)(mg:zzl)(base:Heap)(A:Around)(outer:List Env)(s:Shared)(H:Hp):Prop where
 frames:A.frames=some outer
 mod:Mod K mg base
 bs:∀b o,base.get? b=some o->s.heap.get? b=some o/\H b=none
 bsz:base.objs.size<=s.heap.objs.size
 funs:s.heap.FunFrames base outer
 frf:∀b∈frs outer,H b=none
 hok:HOk P w H s.heap
 bare:AllBare s.gens
def CE(outer:List Env)(P:Program)(w:World)(H:Hp)(s:Shared)(Q:VK)(u:Value)(s':Shared):Prop :=
 ∃v H',s'.os=s.os/\AllBare s'.gens/\Un (frs outer) [] H H' s.heap s'.heap/\HOk P w H' s'.heap/\RelV v u/\Q v H'
def CR(CX:CXT)(outer:List Env)(P:Program)(w:World)(H:Hp)(s:Shared)(Q:VK)(E:XK)(r:Result)(s':Shared):Prop :=
 match r with
 | .ok (.ret u)=>CE outer P w H s Q u s'
 | .ok _=>False
 | .error e=>CX outer H s E e s'
structure FnOk(P:Program)(w:World)(K:PySem.W.Frag)(mg:zzl)(base:Heap)(CX:CXT)(k:Nat)(f:Addr)(fd:FuncData)(ps:List Str)(sp:Sp):Prop where
 len:∀vs H Q E,sp vs H Q E->vs.length=ps.length
 run:∀(A:Around) (outer:List Env) (s:Shared) (H:Hp) (args:Args) (us:List Value) (vs:List V) (Q:VK) (E:XK),Room k A->Env0 P w K mg base A outer s H->BindsTo s fd args (ps.zip us)->Vals vs us->sp vs H Q E ->
  codeAny (model P w) A (.call (.ref f) args) (CR CX outer P w H s Q E) s
section
variable {X:Cx} {Z:St} {H:Hp} {s':Shared}
theorem Inv.env0(I:Inv X pins Z H s):Env0 X.prog X.w X.K X.mg X.base X.A X.stack s H :=
 ⟨I.ok.frames,I.ok.mod,I.bs,eg I.ok.bsz I.sz,I.stack,I.stkFree,I.hok,I.bare⟩
theorem Inv.after{Q:VK}(I:Inv X pins Z H s)(h:CE X.stack X.prog X.w H s Q u s'):EP X pins Z Q u s':=by
 obtain⟨v,H',os,bare,un,hok,r,q⟩:=h
 obtain⟨hh,g,d,t,os'⟩:=s'
 obtain rfl:os'=s.os:=os
 exact⟨v,H',I.call (h':=hh) (g':=g) (d':=d) (t':=t) (ch:=[]) un hok bare (λb z=>absurd z (by simp)),r,q⟩
end
def Binds(K:PySem.W.Frag)(fd:FuncData)(ps:List Str)(ds:List Value):Prop :=
 ∀(s:Shared) (us:List Value),K.In s.heap->(us++ds).length=ps.length->BindsTo s fd ⟨us,[]⟩ (ps.zip (us++ds))
theorem Binds.all{K:PySem.W.Frag}{fd:FuncData}{ps:List Str}(h:∀us:List Value,us.length=ps.length->bindArgs fd ⟨us,[]⟩=pure (ps.zip us)):Binds K fd ps []:=λs us _ hl=>by
 rw[wn]at hl ⊢
 exact .of_eq (h us hl)
structure FnScope(N P:List Str)(sc:Scope):Prop where
 kind:sc.kind=.function
 co:sc.isCoroutine=false
 gen:sc.isGenerator=false
 nd:N.Nodup
 pre:N.take P.length=P
 par:∀x∈P,sc.names.lookup x=some .local\/sc.names.lookup x=some .cell
 nofree:∀y∈sc.names,y.2≠.free
theorem tN{kindOf:Str->Option NameKind}{x:Str}:∀{binds:List (Str×Value)} {m:zzl},(∀v,(x,v)∉binds)->bindL kindOf binds m x=m x
 | [],_,_=>rfl
 | (n,v)::r,m,h=>by
  unfold bindL
  rw[tN λw hw=>h w (zzg _ hw)]
  split
  ·have:x≠n:=by rintro rfl;exact h v fu
   simp[this]
  ·rfl
theorem tP{kindOf:Str->Option NameKind}{x:Str}:∀{binds:List (Str×Value)} {m:zzl},(∀v,(x,v)∉binds)->bindC kindOf binds m x=m x
 | [],_,_=>rfl
 | (n,v)::r,m,h=>by
  unfold bindC
  rw[tP λw hw=>h w (zzg _ hw)]
  split
  ·rfl
  ·have:x≠n:=by rintro rfl;exact h v fu
   simp[this]
theorem tO{kindOf:Str->Option NameKind}{x:Str}{v:Value}:∀{P:List Str} {vs:List Value} {i:Nat} {m:zzl},P.Nodup->P[i]? = some x->vs[i]? = some v->kindOf x=some .local ->
  bindL kindOf (P.zip vs) m x=some v
 | [],_,_,_,_,h,_,_=>by simp at h
 | _::_,[],_,_,_,_,h,_=>by simp at h
 | p::P,w::vs,0,m,nd,h1,h2,hk=>by
  simp at h1 h2;subst h1;subst h2
  show bindL kindOf ((p,w)::P.zip vs) m p=_
  unfold bindL
  rw[tN λv hv=>(List.nodup_cons.mp nd).1 (xt hv).1,be hk]
  simp
 | p::P,w::vs,i+1,m,nd,h1,h2,hk=>by
  show bindL kindOf ((p,w)::P.zip vs) m x=_
  unfold bindL
  exact tO (i:=i) (List.nodup_cons.mp nd).2 (by simpa using h1) (by simpa using h2) hk
theorem tQ{kindOf:Str->Option NameKind}{x:Str}{v:Value}:∀{P:List Str} {vs:List Value} {i:Nat} {m:zzl},P.Nodup->P[i]? = some x->vs[i]? = some v->kindOf x≠some .local ->
  bindC kindOf (P.zip vs) m x=some v
 | [],_,_,_,_,h,_,_=>by simp at h
 | _::_,[],_,_,_,_,h,_=>by simp at h
 | p::P,w::vs,0,m,nd,h1,h2,hk=>by
  simp at h1 h2;subst h1;subst h2
  show bindC kindOf ((p,w)::P.zip vs) m p=_
  unfold bindC
  rw[tP λv hv=>(List.nodup_cons.mp nd).1 (xt hv).1,ef hk]
  simp
 | p::P,w::vs,i+1,m,nd,h1,h2,hk=>by
  show bindC kindOf ((p,w)::P.zip vs) m x=_
  unfold bindC
  exact tQ (i:=i) (List.nodup_cons.mp nd).2 (by simpa using h1) (by simpa using h2) hk
def start(N:List Str)(vs:List V):St:=vs.map some++List.replicate (N.length - vs.length) none
def oS(CX:CXT)(P:Program)(w:World)(K:PySem.W.Frag)(mg:zzl)(base:Heap)(N:List Str)(qual:Str)(scope:Scope)(f:Addr)(cd:Value)(A:Around)(outer:List Env)(s:Shared)(H:Hp)(E:XK):Cx where
 prog:=P
 w:=w
 K:=K
 mg:=mg
 base:=base
 A:=A.deeper (envOfC qual scope s.heap.objs.size f cd)
 N:=N
 s₀:=s
 H₀:=H
 env:=envOfC qual scope s.heap.objs.size f cd
 outer:=outer
 stack:=envOfC qual scope s.heap.objs.size f cd::outer
 ex:=[]
 calm:=true
 fn:=λ_=>true
 pn:=[]
 xe:=λe s'=>wpAny (model P w) (A.deeper (envOfC qual scope s.heap.objs.size f cd)) (leaving (envOfC qual scope s.heap.objs.size f cd) e) (λ_ s''=>CX outer H s E e s'') (λe' s''=>CX outer H s E e' s'') s'
theorem qT{sc:Scope}{n:Nat}(h:sc.names.lookup x=some .cell):∃c,(cellsFrom n sc.names []).lookup x=some c:=by
 have q:=PySem.W.cellsFrom_some sc.names n [] (.inl h)
 exact Option.isSome_iff_exists.mp q
theorem Aa{CX:CXT}{K:PySem.W.Frag}{mg:zzl}{base:Heap}{N ps:List Str}{qual:Str}{scope:Scope}{f:Addr}{cd:Value}{outer:List Env}{s1:Shared}{H:Hp}{E:XK}{vs:List V}
  (S:FnScope N ps scope) (hd:A.handled=none) (e0:Env0 P w K mg base A outer s H) (hl:vs.length=ps.length) (r:Vals vs us)
  (x:InCallC s s.heap.objs.size (bindL (envOfC qual scope s.heap.objs.size f cd).kindOf (ps.zip us) λ_=>none) (cellsFrom (s.heap.objs.size+1) scope.names []) (bindC (envOfC qual scope s.heap.objs.size f cd).kindOf (ps.zip us) λ_=>none) s1) :
  Inv (oS CX P w K mg base N qual scope f cd A outer s H E) [] (start N vs) H s1:=by
 have hpl:ps.length<=N.length:=by have:=congrArg List.length S.pre;rw[ls]at this;lia
 obtain⟨h1,tk,rfl,hk⟩:=x.done
 have noA:∀b:Addr,b∉(oS CX P w K mg base N qual scope f cd A outer s H E).ex:=λb z=>absurd (show b∈([]:List Addr)from z) (by simp)
 refine⟨⟨e0.mod,S.kind,rfl,rfl,bo _,λy z c h1 h2=>?_,λy hy=>?_,λy c _ h=>?_,λ_=>hd,Around.frames_deeper e0.frames,.inr ⟨rfl,rfl⟩,λb z=>absurd z (noA b),e0.bs,e0.bsz,λb _ _=>noA b,λb z=>absurd z (noA b),e0.funs,e0.frf⟩,
  rfl,e0.bare,Un.kept hk,⟨_,x.toInCall.ns,λi y v h1 h2 h3=>?_⟩,λy c h=>⟨_,x.cell y c h⟩,e0.hok.fresh (bo _),λy c h=>?_,λp hp=>absurd (show p∈([]:zzk)from hp) (by simp),e0.hok.kept hk,?_⟩
 ·exact name_of_addr x.apart (om h1) (om h2)
 ·have hy:scope.names.lookup y=some .cell\/scope.names.lookup y=some .free:=hy
  rcases hy with hy|hy
  ·exact qT hy
  ·exact absurd rfl (S.nofree _ (om hy))
 ·exact IT (x.above y c (om h))
 ·have hi:i<vs.length:=by
   unfold start at h2
   by_cases hi:i<vs.length
   ·exact hi
   ·rw[u8 (by simpa using hi)]at h2
    rw[JE]at h2
    split at h2<;>cases h2
  have ha:vs[i]? = some v:=by
   unfold start at h2
   rw[ev (by simpa using hi),ou]at h2
   cases e:vs[i]? with
   | none=>rw[e]at h2;cases h2
   | some a=>rw[e]at h2;cases h2;rfl
  obtain⟨u,hu,rv⟩:=r.get ha
  have hp:ps[i]? = some y:=by
   rw[<-S.pre,ib (by lia)];exact h1
  have ndP:ps.Nodup:=by rw[<-S.pre];exact S.nd.sublist (List.take_sublist _ _)
  refine⟨u,rv,?_⟩
  rcases S.par y (List.mem_of_getElem? hp)with k|k
  ·exact .inl ⟨k,tO ndP hp hu k⟩
  ·obtain⟨c,e⟩:=qT (n:=s.heap.objs.size+1) k
   refine .inr ⟨.inl k,c,e,?_⟩
   have q:=x.cell y c e
   rw[tQ ndP hp hu (by show scope.names.lookup y≠_;rw[k];decide)]at q
   exact q
 ·exact e0.hok.fresh (IT (x.above y c (om h)))
 ·unfold start
  show _=N.length
  rw[zzf,zzd,ve]
  lia
theorem Hz{CX:CXT}{K:PySem.W.Frag}{mg:zzl}{base:Heap}{f:Addr}{name qual:Str}{params:Arguments}{body:List Stmt}{scope:Scope}{dV kV doc pm cdv ct oc:Value}{an od:Option Addr}
  {osl:Array (Option Value)} {N ps:List Str} {sp:Sp} (lk:K.lookup f=some ⟨oc,od,.func (PySem.W.fnOf name qual params body scope dV kV doc pm an cdv ct),osl⟩) (hcd:PySem.W.codeIn K cdv qual=true) (S:FnScope N ps scope)
  (len:∀vs H Q E,sp vs H Q E->vs.length=ps.length)
  (hbody:∀(A:Around) (outer:List Env) (s:Shared) (H:Hp) (vs:List V) (Q:VK) (E:XK),Room k (A.deeper (envOfC qual scope s.heap.objs.size f cdv))->sp vs H Q E ->
   ∃t,PSs (oS CX P w K mg base N qual scope f cdv A outer s H E) body t/\t { nx:=λ_ H'=>Q .non H',rt:=Q } (start N vs) H) :
  FnOk P w K mg base CX (k+1) f (PySem.W.fnOf name qual params body scope dV kV doc pm an cdv ct) ps sp:=by
 refine⟨len,λA outer s H args us vs Q E hr e0 hb r hsp=>?_⟩
 have hl:=len _ _ _ _ hsp
 have KX:K.In s.heap:=e0.mod.kin.keeps λb o e=>(e0.bs b o e).1
 have lim:s.heap.NoLimit:=e0.mod.nolimit.keeps λb o e=>(e0.bs b o e).1
 have hkind:∀y∈ps.zip us,scope.names.lookup y.1=some .local\/(scope.names.lookup y.1=some .cell/\((cellsFrom (s.heap.objs.size+1) scope.names []).lookup y.1).isSome=true):=λ⟨n,v⟩ hy=>by
  rcases S.par n (xt hy).1 with q|q
  ·exact .inl q
  ·exact .inr ⟨q,PySem.W.cellsFrom_some _ _ _ (.inl q)⟩
 refine codeAny_call_function hr.depth (KX _ _ lk) rfl S.co S.gen rfl (PySem.W.codeRec_of KX hcd) (hb _ _ _ _ ?_)
 refine wpAny_newFunctionEnv_cells S.kind hkind λenv he s1 x=>?_
 subst he
 refine⟨lim.keeps x.toInCall.keep,codeAny_func ?_⟩
 obtain⟨t,ht,hq⟩:=hbody A outer s H vs Q E (hr.deeper _) hsp
 have I:Inv (oS CX P w K mg base N qual scope f cdv A outer s H E) [] (start N vs) H s1:=Aa S hr.hd e0 hl r x
 refine Db (ht [] s1 (start N vs) H _ I hq) (λfl s' hs=>?_) λe s' hs=>hs
 have fin:∀{σ':St} {H':Hp} {v:V} {u:Value},Inv (oS CX P w K mg base N qual scope f cdv A outer s H E) [] σ' H' s'->RelV v u->Q v H'->CE outer P w H s Q u s' :=
  λ{σ' H' v u} J rv q=>⟨v,H',J.os,J.bare,J.base,J.hok,rv,q⟩
 cases fl with
 | ret u =>
  obtain⟨v,σ',H',J,rv,q⟩:=hs
  exact fin J rv q
 | next =>
  obtain⟨σ',H',J,q⟩:=hs
  exact fin (v:=V.non) (u:=Value.none) J rfl q
 | brk =>
  obtain⟨_,_,_,q⟩:=hs
  exact False.elim q
 | cont =>
  obtain⟨_,_,_,q⟩:=hs
  exact False.elim q
section
variable {X:Cx} {t:TA} {id T:String} {r:List V->Hp->VK->Prop}
def tCB(r:List V->Hp->VK->Prop)(t:TA):TE:=λZ H Q=>t Z H λvs H1=>r vs H1 Q
theorem qj(hc:CallR X (.builtin id) r)(hg:Gl X x)(hm:X.mg x=none)(hv:bootBuiltins x=some (.builtin id))(ha:PA X (e::es) t)(hn:x ≠ "__name__":=by decide)(hdb:(x==("__debug__" : Str))=false:=by decide)
  (he:starEach (e::es) X.env=(false,eval e X.env)::starEach es X.env:=by rfl) (hpl:(backTo pos (starEach es X.env)).any (·.1)=false:=by rfl):PE X (.Call (.Name x p) (e::es) [] pos) (tCB r t):=by
 intro pins s Z H Q I h
 refine Jn (kD I hg hm hv ?_ hn hdb)
 exact PyProof.Rows.callWith_builtin1 (thn (ha pos pins s Z H _ I h) λus s1 ⟨vs,H1,I1,r1,q1⟩=>hc pins s1 Z H1 vs us Q I1 r1 q1) he hpl
theorem sT(hc:CallR X (.type T) r)(hg:Gl X x)(hm:X.mg x=none)(hv:bootBuiltins x=some (.type T))(ha:PA X (e::es) t)(hn:x ≠ "__name__":=by decide)(hdb:(x==("__debug__" : Str))=false:=by decide)
  (he:starEach (e::es) X.env=(false,eval e X.env)::starEach es X.env:=by rfl) (hpl:(backTo pos (starEach es X.env)).any (·.1)=false:=by rfl):PE X (.Call (.Name x p) (e::es) [] pos) (tCB r t):=by
 intro pins s Z H Q I h
 refine Jn (kD I hg hm hv ?_ hn hdb)
 exact sd (thn (ha pos pins s Z H _ I h) λus s1 ⟨vs,H1,I1,r1,q1⟩=>hc pins s1 Z H1 vs us Q I1 r1 q1) he hpl
end
end L2
namespace HT
open PySem PyProof.Rows
section
variable {prog:Program}{w:World}{A:Around}{E:zzj}{s:Shared}
theorem cat_tup{t b:Addr}{vs ws:List Value}{Q:zzj}(ht:IsTup s.heap t vs.toArray)(hb:IsTup s.heap b ws.toArray)(hv:vs≠[])
  (h1:ws=[]->Q (.ref t) s) (h2:ws≠[]->Q (.ref s.heap.objs.size) { s with heap:=s.heap.push { cls:=.type "tuple",data:=.seq (vs++ws).toArray } })
  (hsz:vs.length+ws.length<=sizeLine):wpAny (model prog w) A (binaryOp .Add (.ref t) (.ref b)) Q E s:=by
 obtain⟨⟨cls,dd,data,sl⟩,ho,hc,n,hd⟩:=id ht
 obtain⟨⟨cls2,dd2,data2,sl2⟩,ho2,hc2,n2,hd2⟩:=id hb
 simp only at hc hd hc2 hd2
 subst hc hd hc2 hd2
 have e:vs.toArray++ws.toArray=(vs++ws).toArray:=by simp
 by_cases hw:ws=[]
 ·exact concat_meets ⟨_,ho,rfl⟩ ⟨_,ho2,rfl⟩ noFill_tuple_add seq_tuple_add JI JB (Jw _ _)
   (tuple_addW1 t b vs.toArray ws.toArray n n2 dd dd2 sl sl2 (by simpa using hv) (by simp[hw])) ⟨ho,ho2,h1 hw⟩
 ·refine concat_meets ⟨_,ho,rfl⟩ ⟨_,ho2,rfl⟩ noFill_tuple_add seq_tuple_add JI JB (Jw _ _)
   (tuple_addW2 t b vs.toArray ws.toArray n n2 dd dd2 sl sl2 (by simpa using hv) (by simpa using hw) (by rw[bj,bj];exact hsz)) ⟨ho,ho2,?_⟩
  rw[e]
  exact h2 hw
def sIx(n d:Nat):Option Int->Nat
 | none=>d
 | some v=>if v<0 then(v+(n:Int)).toNat else min v.toNat n
theorem sIx_none(n d:Nat):sIx n d none=d:=rfl
theorem sIx_nat(n d k:Nat):sIx n d (some (k:Int))=min k n:=by
 show(if(k:Int)<0 then((k:Int)+(n:Int)).toNat else min (k:Int).toNat n)=min k n
 rw[ef (by lia),lu]
theorem E4(n d:Nat)(hd:d<=n)(o:Option Int):sIx n d o<=n:=by
 cases o with
 | none=>exact hd
 | some v =>
  show(if v<0 then(v+(n:Int)).toNat else min v.toNat n)<=n
  by_cases hv:v<0
  ·rw[be hv];lia
  ·rw[ef hv];exact EA _ _
theorem zg(v:Int)(n d:Nat):(if v<0 then max (v+(n:Int)) 0 else min v (n:Int))=((sIx n d (some v):Nat):Int):=by
 show(if v<0 then max (v+(n:Int)) 0 else min v (n:Int))=(((if v<0 then(v+(n:Int)).toNat else min v.toNat n):Nat):Int)
 by_cases hv:v<0
 ·simp only[be hv];lia
 ·simp only[ef hv];lia
theorem yf(lo hi:Option Int)(n:Nat):Builtin.Slice.sliceAdjust lo hi 1 (n:Int)=(((sIx n 0 lo:Nat):Int),((sIx n n hi:Nat):Int)):=by
 have h1:¬ ((1:Int)<0):=by lia
 unfold Builtin.Slice.sliceAdjust
 simp only[h1,if_false]
 refine Prod.ext ?_ ?_
 ·cases lo with
  | none=>rfl
  | some v=>exact zg v n 0
 ·cases hi with
  | none=>rfl
  | some v=>exact zg v n n
theorem xl(i j:Nat):Builtin.Slice.slicePlaces (i:Int) (j:Int) 1=j - i:=by
 unfold Builtin.Slice.slicePlaces
 have h1:(1:Int)>0:=by lia
 simp only[h1,aw,Int.ediv_one]
 split<;>lia
theorem pM{v:Value}{o:Option Int}{Q:Option Int->Shared->Prop}(p:IsPart v o)(h:Q o s):wpAny (model prog w) A (Builtin.Slice.slicePartIndex v) Q E s:=by
 cases p with
 | none=>exact slicePart_none h
 | int i t=>exact slicePart_int h
theorem jg{sl:Addr}{vl vu:Value}{lo hi:Option Int}{n:Nat}{Q:Int×Int×Nat->Shared->Prop}(hs:s.heap.IsSliceOf sl vl vu .none)(pl:IsPart vl lo)(pu:IsPart vu hi)
  (h:Q (((sIx n 0 lo:Nat):Int),1,sIx n n hi - sIx n 0 lo) s):wpAny (model prog w) A (Builtin.Slice.sliceApplied (.ref sl) (pure (n:Int))) Q E s:=by
 obtain⟨os,hos,hcs,hds⟩:=id hs
 unfold Builtin.Slice.sliceApplied Builtin.Slice.sliceFields
 refine zza (zza (eT hos hds (x:=vl) rfl (zza (eT hos hds (x:=vu) rfl (zza (eT hos hds (x:=.none) rfl (zzb ?_)))))))
 refine zza (slicePart_none ?_)
 show wpAny _ _ (if((1:Int)==0)=true then _ else _) _ _ s
 rw[ef (by decide)]
 refine zza (pM pl (zza (pM pu (zza (zzb ?_)))))
 show wpAny _ _ (match Builtin.Slice.sliceAdjust lo hi 1 (n:Int)with|(lo,hi)=>pure (lo,(1:Int),Builtin.Slice.slicePlaces lo hi 1)) _ _ s
 rw[yf lo hi n]
 show wpAny _ _ (pure (((sIx n 0 lo:Nat):Int),(1:Int),Builtin.Slice.slicePlaces ((sIx n 0 lo:Nat):Int) ((sIx n n hi:Nat):Int) 1)) _ _ s
 rw[xl]
 exact zzb h
theorem Bt(xs:Array Value)(i k:Nat):((List.range k).filterMap λ(m:Nat)=>xs[((i:Int)+(m:Int)*1).toNat]?).toArray=((xs.toList.drop i).take k).toArray:=by
 have e:(λ(m:Nat)=>xs[((i:Int)+(m:Int)*1).toNat]?)=λm=>xs[i+m]?:=by
  funext m
  have:((i:Int)+(m:Int)*1).toNat=i+m:=by lia
  rw[this]
 rw[e]
 have:=pick_run xs i k
 rw[List.filterMap_map]at this
 have e2:((λx=>xs[x]?)∘λx=>i+x)=λm=>xs[i+m]?:=rfl
 rw[e2]at this
 rw[this]
theorem getItem_tuple_cut{t sl:Addr}{items:Array Value}{vl vu:Value}{lo hi:Option Int}{Q:zzj}(ht:IsTup s.heap t items)(hs:s.heap.IsSliceOf sl vl vu .none)(pl:IsPart vl lo)(pu:IsPart vu hi)
  (hw:¬ (sIx items.size 0 lo=0/\sIx items.size items.size hi=items.size))
  (h:Q (.ref s.heap.objs.size) { s with heap:=s.heap.push { cls:=.type "tuple",data:=.seq ((items.toList.drop (sIx items.size 0 lo)).take (sIx items.size items.size hi - sIx items.size 0 lo)).toArray } })
  (hsz:items.size<=sizeLine):wpAny (model prog w) A (getItem (.ref t) (.ref sl)) Q E s:=by
 have htake:sizeOk (.seq ((items.toList.drop (sIx items.size 0 lo)).take (sIx items.size items.size hi - sIx items.size 0 lo)).toArray):=by
  show((items.toList.drop (sIx items.size 0 lo)).take (sIx items.size items.size hi - sIx items.size 0 lo)).toArray.size<=sizeLine
  rw[bj,ls,um,IN]
  lia
 have hj:sIx items.size items.size hi<=items.size:=E4 _ _ (bo _) hi
 obtain⟨os,hos,hcs,hds⟩:=id hs
 have hTs:s.TypeIs (.ref sl) "slice":=⟨os,hos,hcs⟩
 unfold getItem
 try with_reducible refine Cn ?_
 first|refine zza (zzb ?_)|skip
 refine zza (wpAny_sequenceKey ht.typeIs (by decide) ?_)
 refine zza (ia (name:=Str.ofString "__getitem__") ht.typeIs mm
  (ll mm ht.typeIs entry_tuple_getitem ?_ (args_tuple_getitem _ _)))
 show wpAny _ _ (Builtin.Tuple.tupleItemsOf (.ref t) >>= _) _ _ s
 refine zza (tupleItemsOf_ ht ?_)
 refine zza (wpAny_typeOf hTs ?_)
 rw[be (by decide)]
 refine zza (jg hs pl pu ?_)
 have hno:¬ ((((sIx items.size 0 lo:Nat):Int)==0&&(1:Int)==1&&(sIx items.size items.size hi - sIx items.size 0 lo)==items.size)=true):=by
  intro q
  rw[ag,ag]at q
  have q1:((sIx items.size 0 lo:Nat):Int)=0:=eq_of_beq q.1.1
  have q2:sIx items.size items.size hi - sIx items.size 0 lo=items.size:=eq_of_beq q.2
  exact hw ⟨by lia,by lia⟩
 show wpAny _ _ (if(((sIx items.size 0 lo:Nat):Int)==0&&(1:Int)==1&&(sIx items.size items.size hi - sIx items.size 0 lo)==items.size)=true then _ else _) _ _ s
 rw[ef hno,Bt]
 first
  | exact zza (m:=Builtin.Tuple.tupleExact _) (gi (zzb ⟨_,rfl,zzb h⟩) htake)
  | exact zza (m:=Builtin.Tuple.tupleExact _) (gi (zza (zzb (zzb ⟨_,rfl,zzb h⟩))) htake)
  | exact zza (zza (m:=Builtin.Tuple.tupleExact _) (gi (zzb (zzb ⟨_,rfl,zzb h⟩)) htake))
  | exact zza (zza (m:=Builtin.Tuple.tupleExact _) (gi (zzb ⟨_,rfl,zzb h⟩) htake))
end
end HT
namespace L2
open PySem PySem.Spec PyProof.Rows
variable {xs:List V}{X:Cx}{n:Nat}{pins:zzk}{Z:St}{H:Hp}{s:Shared}{its:List Value}
abbrev TO:=St->Hp->(Option Int->Hp->Prop)->Prop
def PO(X:Cx)(e:Option Expr)(t:TO):Prop :=
 ∀(pins:zzk) (s:Shared) (Z:St) (H:Hp) (Q:Option Int->Hp->Prop),Inv X pins Z H s->t Z H Q ->
  wpAny (model X.prog X.w) X.A (evalPart e X.env) (λu s'=>∃o H',Inv X pins Z H' s'/\IsPart u o/\Q o H') X.xe s
def CW:TO:=λ_ H Q=>Q none H
def Gy(t:TE):TO:=λZ H Q=>t Z H λx H1=>∃i,x=.int i/\Q (some i) H1
section
variable {e:Expr} {te:TE} {lo hi:Option Expr} {tl th:TO} {pos p2:Pos}
theorem Dd:PO X none CW:=by
 intro pins s Z H Q I h
 rw[evalPart_none]
 exact zzb ⟨none,H,I,.none,h⟩
theorem Dc(h:PE X e te):PO X (some e) (Gy te):=by
 intro pins s Z H Q I hw
 rw[evalPart_some]
 refine thn (h pins s Z H _ I hw) λu s1 ⟨x,H1,I1,r1,q1⟩=>?_
 obtain⟨i,rfl,q⟩:=q1
 obtain⟨t,rfl⟩:=r1
 exact⟨some i,H1,I1,.int i t,q⟩
def SlR(X:Cx)(r:V->Option Int->Option Int->Hp->VK->Prop):Prop :=
 ∀(pins:zzk) (s:Shared) (Z:St) (H:Hp) (x:V) (v vl vu:Value) (lo hi:Option Int) (sl:Addr) (Q:VK),Inv X pins Z H s->RelV x v->s.heap.IsSliceOf sl vl vu .none->IsPart vl lo->IsPart vu hi->r x lo hi H Q ->
  ∃T id,typeLookup (.type T) "__getitem__" = pure (some (.builtin id))/\s.TypeIs v T/\wpAny (model X.prog X.w) X.A (getItem v (.ref sl)) (EP X pins Z Q) X.xe s
theorem SlR.or{r r':V->Option Int->Option Int->Hp->VK->Prop}(h:SlR X r)(h':SlR X r'):SlR X (λx lo hi H Q=>r x lo hi H Q\/r' x lo hi H Q):=by
 intro pins s Z H x v vl vu lo hi sl Q I rx hs pl pu q
 rcases q with q|q
 ·exact h pins s Z H x v vl vu lo hi sl Q I rx hs pl pu q
 ·exact h' pins s Z H x v vl vu lo hi sl Q I rx hs pl pu q
def tSl(r:V->Option Int->Option Int->Hp->VK->Prop)(te:TE)(tl th:TO):TE:=λZ H Q=>te Z H λx H1=>tl Z H1 λl H2=>th Z H2 λu H3=>r x l u H3 Q
theorem Bx{r:V->Option Int->Option Int->Hp->VK->Prop}(hr:SlR X r)(he:PE X e te)(hl:PO X lo tl)(hu:PO X hi th):PE X (.Subscript e (.Slice lo hi none p2) pos) (tSl r te tl th):=by
 intro pins s Z H Q I h
 refine Subscript_ (thn (he pins s Z H _ I h) λv s1 ⟨x,H1,I1,r1,q1⟩=>?_)
 refine wpAny_Slice (thn (hl pins s1 Z H1 _ I1 q1) λvl s2 ⟨l,H2,I2,pl,q2⟩=>thn (hu pins s2 Z H2 _ I2 q2) λvu s3 ⟨u,H3,I3,pu,q3⟩=>?_)
 rw[evalPart_none]
 refine zzb ?_
 have I4:Inv X pins Z H3 { s3 with heap:=s3.heap.push { cls:=.type "slice",data:=.fields #[vl,vu,.none] } }:=I3.kept (t':=s3.toks) λb ob q=>zzc _ q
 obtain⟨T,id,hT,ht,hg⟩:=hr pins { s3 with heap:=s3.heap.push { cls:=.type "slice",data:=.fields #[vl,vu,.none] } } Z H3 x v vl vu l u s3.heap.objs.size Q I4 r1 (Heap.IsSliceOf.new ..) pl pu q3
 show wpAny (model X.prog X.w) X.A (subscriptTail e (.Slice lo hi none p2) v (.ref s3.heap.objs.size)) (EP X pins Z Q) X.xe { s3 with heap:=s3.heap.push { cls:=.type "slice",data:=.fields #[vl,vu,.none] } }
 exact tail_any (ops:=[.ref s3.heap.objs.size,v]) ht hT hg (by with_unfolding_all rfl)
def wq(xs:List V)(lo hi:Option Int):List V:=(xs.drop (HT.sIx xs.length 0 lo)).take (HT.sIx xs.length xs.length hi - HT.sIx xs.length 0 lo)
theorem oC(xs:List V)(lo hi:Option Int):(wq xs lo hi).length<=xs.length:=by
 unfold wq
 rw[ls,um]
 lia
def Ir(K:PySem.W.Frag):V->Option Int->Option Int->Hp->VK->Prop:=λx lo hi H Q=>∃a xs,x=.ref a/\SqT K H a xs /\
 ¬ (HT.sIx xs.length 0 lo=0/\HT.sIx xs.length xs.length hi=xs.length)/\∀p,H p=none->Q (.ref p) (upd H p (.tup (wq xs lo hi)))
theorem sl_tup:SlR X (Ir X.K):=by
 intro pins s Z H x v vl vu lo hi sl Q I rx hs pl pu h
 obtain⟨a,xs,rfl,hx,hw,q⟩:=h
 cases rx
 obtain⟨its,r,ht,hz⟩:=I.tuple hx
 have hlen:its.toArray.size=xs.length:=by rw[bj];exact r.length.symm
 refine⟨"tuple",_,PyProof.Rows.slot_tuple_getitem.lookup,ht.typeIs,?_⟩
 refine HT.getItem_tuple_cut ht hs pl pu (by rw[hlen];exact hw) ?_ (by rw[hlen];exact hz)
 rw[hlen]
 refine⟨.ref s.heap.objs.size,_,I.laid (t':=s.toks) (o:=.tup (wq xs lo hi)) (λb ob q=>zzc _ q) (bo _) ?_,rfl,q _ (I.hok.fresh (bo _))⟩
 exact⟨eg (oC xs lo hi) hz,_,(r.drop (HT.sIx xs.length 0 lo)).take (HT.sIx xs.length xs.length hi - HT.sIx xs.length 0 lo),IsTup.new _ _,TupN.new _ _⟩
def GX(K:PySem.W.Frag):R2:=λx y H Q=>∃a b xs ys,x=.ref a/\y=.ref b/\SqT K H a xs/\SqT K H b ys/\xs≠[]/\xs.length+ys.length<=sizeLine /\
 (ys=[]->Q (.ref a) H)/\(ys≠[]->∀p,H p=none->Q (.ref p) (upd H p (.tup (xs++ys))))
theorem Vals.nil_iff{us:List Value}(r:Vals xs us):us=[]↔xs=[]:=by
 cases r with
 | nil=>simp
 | cons _ _=>simp
theorem Dp:OpR X (binaryOp .Add) (GX X.K):=by
 intro pins s Z H x y v u Q I rx ry h
 obtain⟨a,b,xs,ys,rfl,rfl,ha,hb,hx,hz,q1,q2⟩:=h
 cases rx
 cases ry
 obtain⟨its,r1,p1,_⟩:=I.tuple ha
 obtain⟨its2,r2,p2,_⟩:=I.tuple hb
 refine HT.cat_tup p1 p2 (λz=>hx (r1.nil_iff.mp z)) (λz=>⟨.ref a,H,I,rfl,q1 (r2.nil_iff.mp z)⟩) (λz=>?_) (by rw[<-r1.length,<-r2.length];exact hz)
 refine⟨.ref s.heap.objs.size,_,I.laid (t':=s.toks) (o:=.tup (xs++ys)) (λb ob q=>zzc _ q) (bo _) ?_,rfl,q2 (λw=>z (r2.nil_iff.mpr w)) _ (I.hok.fresh (bo _))⟩
 exact⟨by rw[zzf];exact hz,_,r1.append r2,IsTup.new _ _,TupN.new _ _⟩
end
def ixN(n:Nat)(i:Int):Option Nat:=if 0<=i then(if i<n then some i.toNat else none)else if -(n:Int)<=i then some (i+n).toNat else none
def atI{α:Type}(xs:List α)(i:Int):Option α:=(ixN xs.length i).bind λj=>xs[j]?
theorem yS{i:Int}{j:Nat}(h:ixN n i=some j):seqIndex? i n=some j/\j<n /\ -(n:Int)<=i/\i<n:=by
 unfold ixN at h
 by_cases h0:0<=i
 ·rw[be h0]at h
  by_cases h1:i<n
  ·rw[be h1]at h
   have e:i.toNat=j:=Option.some.inj h
   exact⟨by rw[seqIndex_of h0 h1,e],by lia,by lia,h1⟩
  ·rw[ef h1]at h;cases h
 ·rw[ef h0]at h
  by_cases h1 : -(n:Int)<=i
  ·rw[be h1]at h
   have e:(i+n).toNat=j:=Option.some.inj h
   exact⟨by rw[seqIndex_neg (by lia) h1,e],by lia,h1,by lia⟩
  ·rw[ef h1]at h;cases h
theorem u6{α:Type}{xs:List α}{i:Int}{v:α}(h:atI xs i=some v):∃j,seqIndex? i xs.length=some j/\xs[j]? = some v/\j<xs.length /\ -(xs.length:Int)<=i/\i<xs.length:=by
 unfold atI at h
 cases e:ixN xs.length i with
 | none=>rw[e]at h;cases h
 | some j =>
  rw[e]at h
  obtain⟨h1,h2,h3,h4⟩:=yS e
  exact⟨j,h1,h,h2,h3,h4⟩
def vf(b:Expr):Prop:=∀o i,subscripted b false o i=operate [o,i] (getItem o i)
def IxR(X:Cx)(r:R2):Prop :=
 ∀(value slice:Expr) (pins:zzk) (s:Shared) (Z:St) (H:Hp) (x y:V) (v u:Value) (Q:VK),Inv X pins Z H s->RelV x v->RelV y u->r x y H Q ->
  subscripted slice false v u=operate [v,u] (getItem v u)->wpAny (model X.prog X.w) X.A (subscriptTail value slice v u) (EP X pins Z Q) X.xe s
def MtR(X:Cx)(id:String)(r:V->List V->Hp->VK->Prop):Prop :=
 ∀(pins:zzk) (s:Shared) (Z:St) (H:Hp) (x:V) (xs:List V) (v:Value) (us:List Value) (Q:VK),Inv X pins Z H s->RelV x v->Vals xs us->r x xs H Q ->
  wpAny (model X.prog X.w) X.A (call (.builtin id) (v::us)) (EP X pins Z Q) X.xe s
section
variable {a b:Expr} {ta tb:TE} {pos:Pos}
theorem IxR.or{r r':R2}(h:IxR X r)(h':IxR X r'):IxR X (λx y H Q=>r x y H Q\/r' x y H Q):=by
 intro value slice pins s Z H x y v u Q I rx ry q hs
 rcases q with q|q
 ·exact h value slice pins s Z H x y v u Q I rx ry q hs
 ·exact h' value slice pins s Z H x y v u Q I rx ry q hs
theorem Ei{r:R2}(hr:IxR X r)(ha:PE X a ta)(hb:PE X b tb)(hs:vf b):PE X (.Subscript a b pos) (tOp r ta tb):=by
 intro pins s Z H Q I h
 exact Subscript_ (Gf ha hb I h λv u s2 x y H2 I2 rx ry q=>hr a b pins s2 Z H2 x y v u Q I2 rx ry q (hs _ _))
def GW(K:PySem.W.Frag):R2:=λx y H Q=>∃p xs i v,x=.ref p/\y=.int i/\SqL K H p xs/\atI xs i=some v/\Q v H
def GU(K:PySem.W.Frag):R2:=λx y H Q=>∃p xs i v,x=.ref p/\y=.int i/\SqT K H p xs/\atI xs i=some v/\Q v H
def GV:R2:=λx y H Q=>∃z i c,x=.str z/\y=.int i/\z.length<=sizeLine/\atI z.cps.toList i=some c/\Q (.str ⟨#[c]⟩) H
theorem ix_list:IxR X (GW X.K):=by
 intro value slice pins s Z H x y v u Q I rx ry h hs
 obtain⟨p,xs,i,z,rfl,rfl,hq,he,q⟩:=h
 cases rx
 obtain⟨t,rfl⟩:=ry
 obtain⟨its,r,pl,hz⟩:=I.list hq
 obtain⟨j,h1,h2,h3,h4,h5⟩:=u6 he
 obtain⟨w,ew,rw'⟩:=r.get h2
 have hl:=r.length
 have hn:=lQ
 have fin:EP X pins Z Q w s:=⟨z,H,I,rw',q⟩
 by_cases h0:0<=i
 ·have hj:i.toNat=j:=by
   rw[seqIndex_of h0 h5]at h1
   exact Option.some.inj h1
  exact item_listR pl.isList h0 (by lia) (by rw[hj];simpa using ew) fin hs
 ·have hj:(i+(its.toArray.size:Int)).toNat=j:=by
   rw[seqIndex_neg (by lia) h4]at h1
   rw[bj,<-hl]
   exact Option.some.inj h1
  exact subscriptTail_builtinR (x:=w) pl.isList.typeIs slot_list_getitem.lookup
   (wpAny_getItem_list_neg (Q:=λr s'=>r=w/\EP X pins Z Q r s') pl.isList (by lia) (by rw[bj]<;>lia) (by lia) (by rw[hj];simpa using ew) ⟨rfl,fin⟩) hs
theorem ix_tup:IxR X (GU X.K):=by
 intro value slice pins s Z H x y v u Q I rx ry h hs
 obtain⟨p,xs,i,z,rfl,rfl,hq,he,q⟩:=h
 cases rx
 obtain⟨t,rfl⟩:=ry
 obtain⟨its,r,pl,hz⟩:=I.tuple hq
 obtain⟨j,h1,h2,h3,h4,h5⟩:=u6 he
 obtain⟨w,ew,rw'⟩:=r.get h2
 have hl:=r.length
 have hn:=lQ
 have fin:EP X pins Z Q w s:=⟨z,H,I,rw',q⟩
 exact subscriptTail_builtinR (x:=w) pl.typeIs slot_tuple_getitem.lookup
  (getItem_tuple (j:=j) (Q:=λr s'=>r=w/\EP X pins Z Q r s') pl (by lia) (by lia) (by rw[bj,<-hl];exact h1) (by simpa using ew) ⟨rfl,fin⟩) hs
theorem FP:IxR X GV:=by
 intro value slice pins s Z H x y v u Q I rx ry h hs
 obtain⟨z,i,c,rfl,rfl,hz,he,q⟩:=h
 obtain⟨t,rfl⟩:=rx
 obtain⟨t',rfl⟩:=ry
 obtain⟨j,h1,h2,h3,h4,h5⟩:=u6 he
 have hl:z.cps.toList.length=z.length:=by simp[Str.length]
 rw[hl]at h1 h4 h5
 have hn:=lQ
 exact tail_any (typeIs_str s z t) slot_str_getitem.lookup (getItem_str (c:=c) (by
  have e1:decide (i < -(2^63:Int))=false:=eE (by lia)
  have e2:decide (i>=2^63)=false:=eE (by lia)
  rw[e1,e2,Bool.or_false]) (by rw[h1];simpa using h2) ⟨.str ⟨#[c]⟩,H,I.tok _,⟨_,rfl⟩,q⟩) hs
def rIx(K:PySem.W.Frag):R2:=λx y H Q=>GW K x y H Q\/GU K x y H Q\/GV x y H Q
theorem az:IxR X (rIx X.K):=ix_list.or (ix_tup.or FP)
theorem xE(its:List Value)(n j:Nat)(u:Value):Obj.mapSeq (·.setIfInBounds j u) { cls:=.type "list",data:=.seq its.toArray n }={ cls:=.type "list",data:=.seq (its.set j u).toArray n }:=by
 simp[Obj.mapSeq]
theorem Inv.lst{p:Addr}(I:Inv X pins Z H s)(h:H p=some (.lst xs)) :
  ∃(its:List Value) (n:Nat),Vals xs its/\s.heap.get? p=some { cls:=.type "list",data:=.seq its.toArray n }/\xs.length<=sizeLine:=by
 obtain⟨z,its,n,r,e⟩:=I.hok p _ h
 exact⟨its,n,r,e,z⟩
theorem Inv.lstUpd{p:Addr}{ys:List V}{its':List Value}{n':Nat}{f:Obj->Obj}(I:Inv X pins Z H s)(h:H p=some (.lst xs))
  (ho:s.heap.get? p=some { cls:=.type "list",data:=.seq its.toArray n }) (hf:f { cls:=.type "list",data:=.seq its.toArray n }={ cls:=.type "list",data:=.seq its'.toArray n' }) (r:Vals ys its') (hz:ys.length<=sizeLine) (t:Nat) :
  Inv X pins Z (upd H p (.lst ys)) { s with heap:=s.heap.update p f,toks:=t }:=by
 have e:(s.heap.update p f).get? p=some { cls:=.type "list",data:=.seq its'.toArray n' }:=by
  rw[wa f ho (by rw[hf]<;>rfl),hf]
 refine I.write (x:=p) (e:=p) (by rw[h];trivial) (.inl rfl) (λb u hb q=>(wS _ _ (Ne.symm hb)).trans q) ⟨_,e⟩ ?_
 exact⟨hz,its',n',r,e⟩
def GQ:V->V->V->Hp->(Hp->Prop)->Prop:=λo i v H Q=>∃p xs k j,o=.ref p/\i=.int k/\H p=some (.lst xs)/\ixN xs.length k=some j/\Q (upd H p (.lst (xs.set j v)))
theorem set_list:HU X GQ:=by
 intro pins s Z H o i v ov iv u Q I ro ri rv h
 obtain⟨p,xs,k,j,rfl,rfl,hp,hj,q⟩:=h
 cases ro
 obtain⟨t,rfl⟩:=ri
 obtain⟨its,n,r,ho,hz⟩:=I.lst hp
 obtain⟨h1,h2,h3,h4⟩:=yS hj
 have hl:=r.length
 have hn:=lQ
 have I':Inv X pins Z (upd H p (.lst (xs.set j v))) { s with heap:=s.heap.update p (Obj.mapSeq (·.setIfInBounds j u)) } :=
  I.lstUpd hp ho (xE its n j u) (r.set rv j) (by rw[List.length_set];exact hz) s.toks
 by_cases h0:0<=k
 ·have hk:k.toNat=j:=by
   rw[seqIndex_of h0 h4]at h1
   exact Option.some.inj h1
  exact PySem.W.ki_setAt ho h0 (by lia) (by rw[bj,<-hl];exact h4) (by rw[hk];exact⟨_,I',q⟩)
 ·have hk:(k+(its.toArray.size:Int)).toNat=j:=by
   rw[seqIndex_neg (by lia) h3]at h1
   rw[bj,<-hl]
   exact Option.some.inj h1
  exact PySem.W.ki_setBack ho (by lia) (by rw[bj,<-hl];exact h3) (by lia) (by rw[hk];exact⟨_,I',q⟩)
theorem tX(lo hi:Option Int)(n:Nat):(sliceBounds lo hi none n).1=((HT.sIx n 0 lo:Nat):Int)/\(sliceBounds lo hi none n).2.1=((HT.sIx n n hi:Nat):Int)/\(sliceBounds lo hi none n).2.2=1:=by
 refine⟨?_,?_,rfl⟩
 ·cases lo with
  | none=>simp[sliceBounds,HT.sIx]
  | some i =>
   simp only[sliceBounds,HT.sIx,Option.getD_none,show(1:Int)>0 by decide,aw]
   by_cases h:i<0
   ·simp only[h,aw]<;>lia
   ·simp only[h,if_false]<;>lia
 ·cases hi with
  | none=>simp[sliceBounds,HT.sIx]
  | some i =>
   simp only[sliceBounds,HT.sIx,Option.getD_none,show(1:Int)>0 by decide,aw]
   by_cases h:i<0
   ·simp only[h,aw]<;>lia
   ·simp only[h,if_false]<;>lia
theorem rJ(its:List Value)(lo hi:Option Int):slicePick its.toArray lo hi none=((its.drop (HT.sIx its.length 0 lo)).take (HT.sIx its.length its.length hi - HT.sIx its.length 0 lo)).toArray:=by
 obtain⟨h1,h2,h3⟩:=tX lo hi its.toArray.size
 unfold slicePick
 rw[h1,h2,h3]
 simp only[sliceRange_one,pick_run,bj]<;>rfl
def Iu(K:PySem.W.Frag):V->Option Int->Option Int->Hp->VK->Prop:=λx lo hi H Q=>∃a xs,x=.ref a/\SqL K H a xs/\∀p,H p=none->Q (.ref p) (upd H p (.lst (wq xs lo hi)))
theorem C0:SlR X (Iu X.K):=by
 intro pins s Z H x v vl vu lo hi sl Q I rx hs pl pu h
 obtain⟨a,xs,rfl,hx,q⟩:=h
 cases rx
 obtain⟨its,r,ht,hz⟩:=I.list hx
 have hlen:=r.length
 refine⟨"list",_,slot_list_getitem.lookup,ht.isList.typeIs,?_⟩
 refine wpAny_getItem_list_slice ht.isList hs pl pu .none (by simp) ?_ (by rw[bj]<;>lia)
 rw[rJ,<-hlen]
 refine⟨.ref s.heap.objs.size,_,I.laid (t':=s.toks) (o:=.lst (wq xs lo hi)) (λb ob q=>zzc _ q) (bo _) ?_,rfl,q _ (I.hok.fresh (bo _))⟩
 exact⟨eg (oC xs lo hi) hz,_,0,(r.drop (HT.sIx xs.length 0 lo)).take (HT.sIx xs.length xs.length hi - HT.sIx xs.length 0 lo),zze _ rfl⟩
theorem uV:CallR X (.builtin "len") (λxs H Q=>∃p ys,xs=[.ref p]/\(SqL X.K H p ys\/SqT X.K H p ys)/\Q (.int ys.length) H):=by
 intro pins s Z H xs us Q I r h
 obtain⟨p,ys,rfl,hq,q⟩:=h
 obtain⟨u,rfl,rx⟩:=vals1 r
 cases rx
 have hn:=lQ
 rcases hq with hq|hq
 ·obtain⟨its,r',pl,hz⟩:=I.list hq
  have hlen:=r'.length
  exact Calls.call_len_list pl.isList (by simp only[bj]<;>lia) ⟨.int ys.length,H,I.tok _,⟨s.toks+1,by rw[bj,hlen]⟩,q⟩
 ·obtain⟨its,r',pl,hz⟩:=I.tuple hq
  have hlen:=r'.length
  exact len_tuple pl (by simp only[bj]<;>lia) ⟨.int ys.length,H,I.tok _,⟨s.toks+1,by rw[bj,hlen]⟩,q⟩
theorem uU:CallR X (.builtin "len") (λxs H Q=>∃z,xs=[.str z]/\z.length<=sizeLine/\Q (.int z.length) H):=by
 intro pins s Z H xs us Q I r h
 obtain⟨z,rfl,hz,q⟩:=h
 obtain⟨u,rfl,t,rfl⟩:=vals1 r
 have hn:=lQ
 exact len_str (by lia) ⟨.int z.length,H,I.tok _,⟨_,rfl⟩,q⟩
theorem CallR.or{f:Value}{r r':List V->Hp->VK->Prop}(h:CallR X f r)(h':CallR X f r'):CallR X f (λxs H Q=>r xs H Q\/r' xs H Q):=by
 intro pins s Z H xs us Q I rs q
 rcases q with q|q
 ·exact h pins s Z H xs us Q I rs q
 ·exact h' pins s Z H xs us Q I rs q
theorem mU:CallR X (.type "list") (λxs H Q=>∃p ys,xs=[.ref p]/\(SqL X.K H p ys\/SqT X.K H p ys)/\∀l,H l=none->Q (.ref l) (upd H l (.lst ys))):=by
 intro pins s Z H xs us Q I r h
 obtain⟨p,ys,rfl,hq,q⟩:=h
 obtain⟨u,rfl,rx⟩:=vals1 r
 cases rx
 have fin:∀(its:List Value),Vals ys its->ys.length<=sizeLine->∀(h':Heap) (c':Nat),(∀b o',s.heap.get? b=some o'->h'.get? b=some o') ->
   h'.get? s.heap.objs.size=some { cls:=.type "list",dict:=none,data:=.seq its.toArray c',slots:=#[] }->EP X pins Z Q (.ref s.heap.objs.size) { s with heap:=h' }:=λits r' hz h' c' kp e =>
  ⟨.ref s.heap.objs.size,_,I.laid (t':=s.toks) kp (bo _) (show ObjOk X.prog X.w _ h' _ (.lst ys)from⟨hz,its,c',r',e⟩),rfl,q _ (I.hok.fresh (bo _))⟩
 rcases hq with hq|hq
 ·obtain⟨its,r',pl,hz⟩:=I.list hq
  have hlen:=r'.length
  obtain⟨o,ho,hc,n,hd⟩:=pl.isList
  exact call_list_seq p (.inl rfl) ho hc hd (λh' c' kp e=>fin its r' hz h' c' kp e) (by simp only[bj]<;>lia)
 ·obtain⟨its,r',pl,hz⟩:=I.tuple hq
  have hlen:=r'.length
  obtain⟨o,ho,hc,n,hd⟩:=pl
  exact call_list_seq p (.inr rfl) ho hc hd (λh' c' kp e=>fin its r' hz h' c' kp e) (by simp only[bj]<;>lia)
theorem bg:CallR X (.type "tuple") (λxs H Q=>∃p ys,xs=[.ref p]/\((SqL X.K H p ys/\∀l,H l=none->Q (.ref l) (upd H l (.tup ys)))\/(SqT X.K H p ys/\Q (.ref p) H))):=by
 intro pins s Z H xs us Q I r h
 obtain⟨p,ys,rfl,h⟩:=h
 obtain⟨u,rfl,rx⟩:=vals1 r
 cases rx
 rcases h with ⟨hq,q⟩|⟨hq,q⟩
 ·obtain⟨its,r',pl,hz⟩:=I.list hq
  have hlen:=r'.length
  refine call_tuple_list pl.isList (λh' kp=>?_) (by simp only[bj]<;>lia)
  have I1:Inv X pins Z H { s with heap:=h' }:=I.kept (t':=s.toks) kp
  have I2:Inv X pins Z (upd H h'.objs.size (.tup ys)) { s with heap:=h'.push { cls:=.type "tuple",data:=.seq its.toArray } } :=
   I1.laid (t':=s.toks) (λb o e=>zzc _ e) (bo _) (show ObjOk X.prog X.w _ _ _ (.tup ys)from⟨hz,its,r',IsTup.new _ _,TupN.new _ _⟩)
  exact⟨.ref h'.objs.size,_,I2,rfl,q _ (I1.hok.fresh (bo _))⟩
 ·obtain⟨its,r',pl,hz⟩:=I.tuple hq
  exact call_tuple_same pl ⟨.ref p,H,I,rfl,q⟩
def tyV(K:PySem.W.Frag)(T:String)(x:V)(H:Hp):Prop:=match x with
 | .str _=>T = "str"
 | .int _=>T = "int"
 | .ref p=>(T = "list" /\ ∃xs,SqL K H p xs)\/(T = "tuple" /\ ∃o,K.lookup p=some o/\o.cls=.type "tuple" /\ o.dict=none) \/
   (T = "dict" /\ ((∃kvs,H p=some (.dK kvs))\/∃kvs,H p=some (.dT kvs)))\/(T = "set" /\ ∃S n,H p=some (.set S n))
 | _=>False
theorem ER{T:String}{x:V}{v:Value}(I:Inv X pins Z H s)(r:RelV x v)(ty:tyV X.K T x H) :
  s.TypeIs v T/\∀a,v=.ref a->∃ob,s.heap.get? a=some ob/\ob.dict=none:=by
 cases x with
 | str z =>
  obtain⟨t,rfl⟩:=r
  cases (show T = "str" from ty)
  exact⟨typeIs_str s z t,λ_ e=>nomatch e⟩
 | int i =>
  obtain⟨t,rfl⟩:=r
  cases (show T = "int" from ty)
  exact⟨typeIs_int s i t,λ_ e=>nomatch e⟩
 | ref p =>
  cases r
  rcases ty with ⟨rfl,xs,hq⟩|⟨rfl,o,hk,hc,hd⟩|⟨rfl,hk⟩|⟨rfl,S,n,hk⟩
  ·obtain⟨its,_,pl,_⟩:=I.list hq
   refine⟨pl.isList.typeIs,λa e=>?_⟩
   cases e
   obtain⟨o,n,e,c,hd,_⟩:=pl
   exact⟨o,e,hd⟩
  ·refine⟨⟨o,I.kIn p o hk,hc⟩,λa e=>?_⟩
   cases e
   exact⟨o,I.kIn _ o hk,hd⟩
  ·have z:∃o,s.heap.get? p=some o/\o.ExactDict:=by
    rcases hk with ⟨kvs,hk⟩|⟨kvs,hk⟩
    ·obtain⟨_,_,_,_,o,_,_,e,ex,_⟩:=I.hok p _ hk
     exact⟨o,e,ex⟩
    ·obtain⟨_,_,_,_,o,_,_,e,ex,_⟩:=I.hok p _ hk
     exact⟨o,e,ex⟩
   obtain⟨o,e,ex⟩:=z
   refine⟨⟨o,e,ex.1⟩,λa e2=>?_⟩
   cases e2
   exact⟨o,e,ex.2.1⟩
  ·obtain⟨o,_,_,_,e,ex,_⟩:=I.hok p _ hk
   refine⟨⟨o,e,ex.1⟩,λa e2=>?_⟩
   cases e2
   exact⟨o,e,ex.2.1⟩
 | _=>exact False.elim ty
def tBM(K:PySem.W.Frag)(T:String)(r:V->List V->Hp->VK->Prop)(to:TE)(t:TA):TE:=λZ H Q=>to Z H λx H1=>tyV K T x H1/\t Z H1 λxs H2=>r x xs H2 Q
variable {o e:Expr} {es:List Expr} {to:TE} {t:TA} {name:Str} {apos cpos:Pos} {T id:String} {r:V->List V->Hp->VK->Prop}
theorem G4(pa:PlainAttrs T)(slot:Slot T name id)(hty:typeOf (.builtin id)=pure (.type "method_descriptor"))(hm:MtR X id r)(ho:PE X o to)(ha:PA X (e::es) t)
  (hbase:attributeBase o name X.env (eval o X.env)=eval o X.env:=by rfl)
  (hfew:((backTo cpos (starEach (e::es) X.env)).all (λx=>!x.1)&&(backToKw cpos (keywordEach [] X.env)).all (λx=>x.1.isSome)
   && decide ((e::es).length+([]:List Keyword).length+(if([]:List Keyword).isEmpty then 0 else 1)<30))=true:=by rfl)
  (hline:(apos.endLine==cpos.line)=true:=by rfl) (hs:starEach (e::es) X.env=(false,eval e X.env)::starEach es X.env:=by rfl) (hplain:(backTo cpos (starEach es X.env)).any (·.1)=false:=by rfl) :
  PE X (.Call (.Attribute o name apos) (e::es) [] cpos) (tBM X.K T r to t):=by
 intro pins s Z H Q I h
 refine wpAny_Call_method_late hbase hfew hline rfl (thn (ho pins s Z H _ I h) λv s1 ⟨x,H1,I1,r1,ty,q1⟩=>?_)
 obtain⟨h1,h2⟩:=ER I1 r1 ty
 refine⟨T,id,pa,slot,hty,h1,h2,?_⟩
 have hA:=ha cpos pins s1 Z H1 _ I1 q1
 rw[hs]at hA ⊢
 refine Calls.callWith_builtin (by show(false||(backTo cpos (starEach es X.env)).any (·.1))=false;rw[hplain]<;>rfl) (Calls.evalArgs_plain ?_)
 exact thn hA λus s2 ⟨vs,H2,I2,r2,q2⟩=>hm pins s2 Z H2 x vs v us Q I2 r1 r2 q2
end
def MtM(X:Cx)(id:String)(r:V->List V->Hp->VK->Prop):Prop :=
 ∀(pins:zzk) (s:Shared) (Z:St) (H:Hp) (x:V) (xs:List V) (v:Value) (us:List Value) (Q:VK),Inv X pins Z H s->RelV x v->Vals xs us->r x xs H Q ->
  wpAny (model X.prog X.w) X.A (call (.builtin id) (v::us)) (EP X pins Z Q) X.xe s
theorem Vals.one:∀{x:V} {us:List Value},Vals [x] us->∃u,us=[u]/\RelV x u:=by
 intro x us h
 cases h with
 | cons r t=>cases t;exact⟨_,rfl,r⟩
theorem Vals.rep{us:List Value}(h:Vals xs us):∀k:Nat,Vals (List.replicate k xs).flatten (List.replicate k us).flatten
 | 0=>.nil
 | k+1=>by
  rw[gt,gt,pi,pi]
  exact Vals.append h (Vals.rep h k)
theorem foldl_rep(its:List Value):∀(k:Nat) (acc:List Value),
  List.foldl (λx1 x2=>x1++x2) acc.toArray (List.replicate k its.toArray)=(acc++(List.replicate k its).flatten).toArray
 | 0,acc=>by simp
 | k+1,acc=>by
  have e:acc.toArray++its.toArray=(acc++its).toArray:=by simp
  have e2:(acc++its)++(List.replicate k its).flatten=acc++(List.replicate (k+1) its).flatten:=by
   rw[gt,pi,wE]
  rw[<-e2,<-foldl_rep its k (acc++its),<-e,gt,Ix]
section
variable {l b:Addr} {ys zs:List V}
theorem Inv.lset{its':List Value}{f:Array Value->Array Value}{t':Nat}(I:Inv X pins Z H s)(hH:H l=some (.lst xs))
  (e:s.heap.get? l=some { cls:=.type "list",data:=.seq its.toArray n }) (hf:f its.toArray=its'.toArray) (hv:Vals ys its') (hz:ys.length<=sizeLine) :
  Inv X pins Z (upd H l (.lst ys)) { s with heap:=s.heap.update l (Obj.mapSeq f),toks:=t' }:=by
 have q:=PySem.IsL.update e f
 rw[hf]at q
 refine I.write (x:=l) (e:=l) (by rw[hH];exact trivial) (.inl rfl) (λb' u hb hu=>(wS s.heap (Obj.mapSeq f) (Ne.symm hb)).trans hu) ⟨_,q⟩ ?_
 exact⟨hz,its',_,hv,q⟩
theorem Inv.lnew{t':Nat}(I:Inv X pins Z H s)(hv:Vals ys its)(hz:ys.length<=sizeLine) :
  Inv X pins Z (upd H s.heap.objs.size (.lst ys)) { s with heap:=s.heap.push { cls:=.type "list",data:=.seq its.toArray },toks:=t' } :=
 I.laid (λ_ _ q=>zzc _ q) (bo _) ⟨hz,its,0,hv,zze _ rfl⟩
theorem Inv.fresh(I:Inv X pins Z H s):H s.heap.objs.size=none:=I.hok.fresh (bo _)
theorem Inv.lstM(I:Inv X pins Z H s)(hH:H l=some (.lst xs)):xs.length<=sizeLine/\∃(its:List Value) (n:Nat),Vals xs its/\xs.length=its.length/\s.heap.get? l=some { cls:=.type "list",data:=.seq its.toArray n }:=by
 obtain⟨z,its,n,r,e⟩:=I.hok l _ hH
 exact⟨z,its,n,r,r.length,e⟩
theorem BG(h:n<=sizeLine):Builtin.List.listTooLong n=false:=by
 unfold Builtin.List.listTooLong
 exact eE (by lia)
end
section
def C4:V->List V->Hp->VK->Prop:=λx vs H Q=>∃l xs y,x=.ref l/\vs=[y]/\H l=some (.lst xs)/\xs.length<sizeLine/\Q .non (upd H l (.lst (xs++[y])))
theorem zS:MtM X "list.append" C4:=by
 intro pins s Z H x vs v us Q I rx rv h
 obtain⟨l,xs,y,rfl,rfl,hH,hz,q⟩:=h
 cases rx
 obtain⟨u,rfl,ru⟩:=rv.one
 obtain⟨z,its,n,r,hl,e⟩:=I.lstM hH
 refine Jo F.slot_list_append ⟨_,e,rfl⟩ F.entry_list_append (F.args_list_append_2 _ _) (PySem.list_append l its.toArray n u (by rw[bj];lia)) ⟨e,?_⟩
 refine⟨.non,_,I.lset (its':=its++[u]) hH e (by simp) (r.append (.cons ru .nil)) ?_,rfl,q⟩
 rw[zzf,JN]
 lia
def Iw:R2:=λx y H Q=>∃l k xs,x=.ref l/\y=.int k/\H l=some (.lst xs) /\ -(2^63)<=k/\k<2^63/\xs.length*k.toNat<=sizeLine /\
 ∀p,H p=none->Q (.ref p) (upd H p (.lst (List.replicate k.toNat xs).flatten))
theorem len_rep{α:Type}(xs:List α)(k:Nat):(List.replicate k xs).flatten.length=k*xs.length:=by
 induction k with
 | zero=>simp
 | succ k ih=>rw[gt,pi,zzf,ih,Nat.succ_mul,Nat.add_comm]
theorem Fw:OpR X (binaryOp .Mult) Iw:=by
 intro pins s Z H x y v u Q I rx ry h
 obtain⟨l,k,xs,rfl,rfl,hH,h1,h2,hz,q⟩:=h
 cases rx
 obtain⟨t,rfl⟩:=ry
 obtain⟨z,its,n,r,hl,e⟩:=I.lstM hH
 have hlen:its.toArray.size*k.toNat<=sizeLine:=by rw[bj,<-hl];exact hz
 have hcap:¬ its.toArray.size*k.toNat>(2^63 - 1) / 8:=by
  have:(sizeLine:Nat)<=(2^63 - 1) / 8:=by decide
  lia
 have hfit:¬ (!Builtin.List.listFitsIndex k)=true:=by
  rw[fitsIndex_both h1 h2]
  exact ni
 have hlong:¬ Builtin.List.listTooLong (its.toArray.size*k.toNat)=true:=by
  rw[BG hlen]
  exact ni
 have hnew:List.foldl (λx1 x2=>x1++x2) #[] (List.replicate (if its.toArray.isEmpty=true then 0 else k.toNat) its.toArray)=(List.replicate k.toNat its).flatten.toArray:=by
  have f0:∀m:Nat,List.foldl (λx1 x2=>x1++x2) #[] (List.replicate m its.toArray)=(List.replicate m its).flatten.toArray:=λm=>by
   have:=foldl_rep its m []
   rw[JL]at this
   exact this
  rw[f0]
  cases its with
  | nil=>simp
  | cons a r'=>rw[ef (by simp)]
 refine wpAny_binaryOp_repeat_ref (T := "list") (U := "int") (by decide) ⟨_,e,rfl⟩ (λs'=>typeIs_int s' k t) noFill_list_mul F.fills_int_mul JM repeat_list F.slot_int_index.lookup
  (Jo JM (typeIs_int s k t) F.entry_int_rmul (F.args_int_rmul_2 _ _) (int___rmul___int_list k t l its.toArray n)
   ⟨e,rfl,⟨_,e,rfl⟩,Jo F.slot_list_mul ⟨_,e,rfl⟩ F.entry_list_mul (F.args_list_mul_2 _ _) (AutoListH.list___mul___list_int_3 l its.toArray n k t hfit hcap hlong) ⟨e,?_⟩⟩)
 rw[hnew]
 exact⟨.ref _,_,I.lnew (t':=s.toks) (r.rep k.toNat) (by rw[len_rep,Nat.mul_comm];exact hz),rfl,q _ I.fresh⟩
end
end L2
namespace Att
open PySem PySem.W PySem.Calls PyProof.Rows
theorem oP{P:Params}{h:Heap}:∀(ns:List Int) (vs:List Value),WellAll P h vs (ns.map WData.int)->IntsAre vs ns:=by
 intro ns
 induction ns with
 | nil =>
  intro vs w
  rw[List.map_nil]at w
  cases w
  exact .nil
 | cons n ns ih =>
  intro vs w
  rw[je]at w
  cases w with
  | cons a b =>
   cases a
   exact .cons _ _ (ih _ b)
theorem zD{l:OpenLaw}{n:Nat}(hn:l.most=some n){P:Params}{h:Heap}{args:List WData}{vals:List Value}
  (hpre:l.row.toRowW.claim.pre args=true) (hwl:WellAll P h vals args) :
  ∃a vs ns,vals=[Value.ref a]/\args=[WData.list (ns.map WData.int)]/\h.get? a=some { cls:=.type "list",data:=.seq vs.toArray }/\IntsAre vs ns/\ns.length<=n:=by
 have hsh:WShape.hasAll [] args [.list .int]=true:=(pre_splitW hpre).1
 have hc:l.pre.holds [] { args:=args }=true:=(pre_splitW hpre).2
 obtain⟨d,r,rfl,h1,h2⟩:=hasAllW_cons hsh
 obtain rfl:=hasAllW_nil h2
 obtain⟨xs,rfl,h3⟩:=hasW_list h1
 obtain⟨ns,rfl⟩:=items_int h3
 have hlen:ns.length<=n:=by
  unfold OpenLaw.pre at hc
  have h4:(WTm.not (.lt (.lit (.int (n:Int))) (.len (.arg 0)))).holds [] { args:=[.list (ns.map .int)] }=true:=by
   have h4:=(holds_andW hc).1
   rw[hn]at h4
   exact h4
  have h5:=condW_of h4 (w_not (w_lt w_lit (w_len_list (w_arg rfl))))
  rw[zzd]at h5
  refine Nat.le_of_not_lt λq=>?_
  have q':(n:Int)<((ns.length:Nat):Int):=by lia
  first
   | (rw[de q']at h5;exact absurd h5 (by decide))
   | (simp at h5;lia)
 cases hwl with
 | cons w1 w2 =>
  cases w2
  cases w1 with
  | list ho hall=>exact⟨_,_,ns,rfl,rfl,ho,oP ns _ hall,hlen⟩
theorem zJ(l:OpenLaw)(args:List WData):l.row.toRowW.claim.post args (.bool true) args=true :=
 postW_of (r:=l.row.toRowW) (X:=(true==true))
  (show WShape.has [] (.bool true) .bool=true by first|rfl|decide|simp[WShape.has,WShape.arms,WShape.armsAll])
  (show(WTm.eq .res (.lit (.bool true))).value [] { args:=args,res:=some (.bool true),after:=args }=some (.bool (true==true))from w_eq_bool (w_res rfl) w_lit) rfl
theorem attach_call{l:OpenLaw}{n:Nat}{q:Program}{loose:List Str}{XP:(Str->Option Value)->Heap->Prop}{YP:World->Heap->Prop}{d:DefRec}
  (hn:l.most=some n) (hdf:d.params.defaults=[])
  (call:∀(w:World) (s₀ s₁:Shared) (mg mb:zzl) (fa:Addr) (o:Obj) (pm cd doc:Value) (a:Addr) (vs:List Value) (ns:List Int),
   Ground q loose [] XP w s₀ mg mb s₁.heap->YP w s₁.heap ->
   s₁.heap.get? fa=some o->o.data=.func (docDef d.name d.params d.body d.scope pm cd doc)->s₁.heap.CodeRec cd d.name->mg d.name=some (.ref fa) ->
   s₁.heap.get? a=some { cls:=.type "list",data:=.seq vs.toArray }->IntsAre vs ns->ns.length<=n->s₁.gens = #[] ->
   codeAny (model l.prog w) callerA (.call (.ref fa) ⟨[.ref a],[]⟩) (λr s'=>r=.ok (.ret (.bool true))/\OldK s₁.heap s'.heap/\s'.os=s₁.os/\AllBare s'.gens) s₁) :
  WalkO q loose XP YP l.row.toRowW d [] (λf vs=>PySem.call f vs):=by
 intro w s₀ s₁ mg mb G Y fa o pm cd doc dV kV ho hd hcd hD hmg hg args vals as hpre hlay hrd hwl hlo
 obtain rfl:dV=.none:=Dflts.none hD hdf
 obtain rfl:kV=.none:=Dflts.noKw hD
 obtain⟨a,vs,ns,rfl,rfl,hobj,hints,hlen⟩:=zD hn hpre hwl
 refine enter_call (codeAny_mono (call w s₀ s₁ mg mb fa o pm cd doc a vs ns G Y ho (fd_plain hd) hcd hmg hobj hints hlen hg) λr s' hq=>?_)
 obtain⟨rfl,h2,h3,h4⟩:=hq
 exact⟨.inl ⟨.bool true,.bool true,[],rfl,λ_=>rfl,.bool true,zJ l _,λ_=>⟨List.Pairwise.nil,λ_ hm=>(nomatch hm)⟩⟩,h2,h3,h4⟩
end Att
namespace L2
open PySem PySem.Spec PyProof.Rows
variable {w:World}{k:Nat}{scope:Scope}{P:Program}{H:Hp}{x qual:Str}{elt iter tg:Expr}{ifs:List Expr}{pos:Pos}{X:Cx}{a:Addr}{env:Env}{N':List Str}{g:TG}{tc:TT}{te:TE}
theorem sw:∀{vs:List Value} {ns:List Int},IntsAre vs ns->Vals (ns.map V.int) vs
 | _,_,.nil=>.nil
 | _,_,.cons n t h=>.cons ⟨t,rfl⟩ (sw h)
def Gp(H:Hp):Prop:=∀b,H b=none\/∃o xs,H b=some (.frz o (.lst xs))
theorem BZ{K:PySem.W.Frag}{mg mb:zzl}{CX:CXT}{fa:Addr}{fd:FuncData}{sp:Sp}{s₁:Shared}{vs:List Value}{ns:List Int}
  (KX:K.In s₁.heap) (hns:s₁.heap.Ns mainGlobals mg) (hb:s₁.heap.Ns builtinsNs mb) (hbb:∀x:Str,x ≠ "__name__" -> mb x=bootBuiltins x) (hlim:s₁.heap.NoLimit) (hg:s₁.gens = #[])
  (ha:s₁.heap.get? a=some { cls:=.type "list",data:=.seq vs.toArray }) (hi:IntsAre vs ns) (hl:ns.length<=sizeLine) (hr:Room k callerA)
  (F:∀base:Heap,K.In base->base.Ns mainGlobals mg->FnOk P w K mg base CX k fa fd [x] sp) (hbind:∀(s:Shared) (u:Value),BindsTo s fd ⟨[u],[]⟩ [(x,u)])
  (hsp:∀H:Hp,Gp H->SqL K H a (ns.map V.int)->sp [.ref a] H (λv _=>v=.bl true) λ_ _ _=>False)
  (hCX:∀H e s',CX [] H s₁ (λ_ _ _=>False) e s'->False) :
  codeAny (model P w) callerA (.call (.ref fa) ⟨[.ref a],[]⟩) (λr s'=>r=.ok (.ret (.bool true))/\OldK s₁.heap s'.heap/\s'.os=s₁.os/\AllBare s'.gens) s₁:=by
 have rv:=sw hi
 have lenV:=hi.length
 have core:∀H:Hp,Gp H->SqL K H a (ns.map V.int)->HOk P w H s₁.heap->(∀b,H b≠none->b=a)->(H a≠none->K.lookup a=none) ->
   codeAny (model P w) callerA (.call (.ref fa) ⟨[.ref a],[]⟩) (λr s'=>r=.ok (.ret (.bool true))/\OldK s₁.heap s'.heap/\s'.os=s₁.os/\AllBare s'.gens) s₁:=by
  intro H hO hS hok hA hK
  have base_of:∀{b:Addr} {o:Obj},s₁.heap.get? b=some o->H b=none->(uM s₁.heap H).get? b=some o:=λe n=>B5 e n
  have noA:∀{b:Addr} {o:Obj} {es:Array DictEntry} {ep:Nat},s₁.heap.get? b=some o->o.data=.dict es ep->H b=none:=λ{b o es ep} e d=>by
   cases q:H b with
   | none=>rfl
   | some u =>
    have e':b=a:=hA b (by rw[q];simp)
    subst e'
    rw[ha]at e;cases e
    have d':Data.seq vs.toArray _=Data.dict es ep:=d
    cases d'
  have nsK:∀{b:Addr} {m:zzl},s₁.heap.Ns b m->(uM s₁.heap H).Ns b m:=λ{b m} ⟨o,es,ep,e,d,r⟩=>⟨o,es,ep,base_of e (noA e d),d,r⟩
  have hKb:K.In (uM s₁.heap H):=λb o e=>base_of (KX b o e) (by
   cases q:H b with
   | none=>rfl
   | some u =>
    have e':b=a:=hA b (by rw[q];simp)
    subst e'
    rw[hK (by rw[q];simp)]at e;cases e)
  have hM:Mod K mg (uM s₁.heap H):=⟨hKb,nsK hns,⟨mb,nsK hb,hbb⟩,let ⟨mc,h1,h2⟩:=hlim;⟨mc,nsK h1,h2⟩⟩
  have e0:Env0 P w K mg (uM s₁.heap H) callerA [] s₁ H:=⟨rfl,hM,λb o e=>Dt e,Nat.le_of_eq (Ab _ _),trivial,λb hb=>absurd (show b∈([]:List Addr)from hb) (by simp),hok,.of_eq hg⟩
  refine codeAny_mono ((F _ hKb (nsK hns)).run callerA [] s₁ H ⟨[.ref a],[]⟩ [.ref a] [.ref a] _ _ hr e0 (hbind s₁ (.ref a)) (.cons rfl .nil) (hsp H hO hS)) λr s' h=>?_
  cases r with
  | error e=>exact(hCX H e s' h).elim
  | ok fl =>
   cases fl with
   | next=>exact False.elim h
   | brk=>exact False.elim h
   | cont=>exact False.elim h
   | ret u =>
    obtain⟨v,H',os,bare,un,hok',r',q⟩:=h
    have q':v=.bl true:=q
    subst q'
    obtain rfl:u=Value.bool true:=r'
    refine⟨rfl,OldK.of_keep λb o e=>?_,os,bare⟩
    cases q:H b with
    | none=>exact un.keep b o e q (by intro z;exact absurd (show b∈([]:List Addr)from z) (by simp)) (by simp)
    | some u =>
     rcases hO b with z|⟨ob,xs,z⟩
     ·rw[q]at z;cases z
     ·have z2:=un.frzs b ob _ z
      obtain⟨e1,_⟩:=hok b _ z
      obtain⟨e2,_⟩:=hok' b _ z2
      rw[e]at e1;cases e1
      exact e2
 cases hk:K.lookup a with
 | some o =>
  have e:=KX a o hk
  rw[ha]at e
  cases e
  refine core (λ_=>none) (λ_=>.inl rfl) (.inr ⟨_,vs.toArray,_,hk,rfl,rfl,rfl,by rw[bj,lenV];exact hl,by simpa using rv⟩) (λb u z=>by have z':(none:Option HO)=some u:=z;cases z') (λb z=>absurd rfl z) λz=>absurd rfl z
 | none =>
  refine core (λb=>if b=a then some (.frz { cls:=.type "list",data:=.seq vs.toArray } (.lst (ns.map V.int)))else none) (λb=>?_) (.inl (.inr ⟨{ cls:=.type "list",data:=.seq vs.toArray },be rfl⟩)) (λb u z=>?_) (λb z=>?_) λ_=>hk
  ·by_cases hb:b=a
   ·exact .inr ⟨_,_,be hb⟩
   ·exact .inl (ef hb)
  ·by_cases hb:b=a
   ·have z':=(be hb).symm.trans z
    cases z'
    subst hb
    exact⟨ha,by rw[zzd];exact hl,vs,_,rv,ha⟩
   ·have z':=(ef hb).symm.trans z
    cases z'
  ·by_cases hb:b=a
   ·exact hb
   ·exact absurd (ef hb) z
theorem walk_of{l:PySem.W.OpenLaw}{n:Nat}{q:Program}{loose:List Str}{XP:(Str->Option Value)->Heap->Prop}{YP:World->Heap->Prop}{d:DefRec}{K:Params->PySem.W.Frag}{CX:World->CXT}{sp:World->Sp}
  (hn:l.most=some n) (hn2:n<=sizeLine) (hdf:d.params.defaults=[]) (hr:Room k callerA)
  (hY:∀(w:World) (h:Heap),YP w h->(K w.params).In h)
  (F:∀(w:World) (mg:zzl) (fa:Addr) (h:Heap),(K w.params).In h->h.Ns mainGlobals mg->mg d.name=some (.ref fa) ->
   ∃fd:FuncData,(∀(s:Shared) (u:Value),BindsTo s fd ⟨[u],[]⟩ [(x,u)]) /\
    ∀base:Heap,(K w.params).In base->base.Ns mainGlobals mg->FnOk l.prog w (K w.params) mg base (CX w) k fa fd [x] (sp w))
  (hsp:∀(w:World) (H:Hp) (a:Addr) (ns:List Int),ns.length<=n->Gp H->SqL (K w.params) H a (ns.map V.int)->sp w [.ref a] H (λv _=>v=.bl true) λ_ _ _=>False)
  (hCX:∀(w:World) (H:Hp) (s:Shared) (e:Value) (s':Shared),CX w [] H s (λ_ _ _=>False) e s'->False) :
  PySem.W.WalkO q loose XP YP l.row.toRowW d [] (λf vs=>PySem.call f vs):=by
 refine Att.attach_call hn hdf λw s₀ s₁ mg mb fa o pm cd doc a vs ns G Y ho hd hcd hmg hobj hints hlen hg=>?_
 have KX:=hY w _ Y
 obtain⟨fd,hb,hF⟩:=F w mg fa _ KX G.T.g hmg
 exact BZ KX G.T.g G.T.b G.T.builtins G.T.nolimit hg hobj hints (eg hlen hn2) hr hF hb (λH hO hS=>hsp w H a ns hlen hO hS) λH e s'=>hCX w H s₁ e s'
def fJ(s:Stmt):Arguments:=match s with
 | .FunctionDef _ a _ _ _ _ _ _ _ _=>a
 | _=>{ posonlyargs:=[],args:=[],vararg:=none,kwonlyargs:=[],kw_defaults:=[],kwarg:=none,defaults:=[] }
def dG(s:Stmt):List Stmt:=match s with
 | .FunctionDef _ _ b _ _ _ _ _ _ _=>b
 | _=>[]
def aL(s:Stmt):Scope:=match s with
 | .FunctionDef _ _ _ _ _ _ sc _ _ _=>sc
 | _=>{ kind:=.function,names:=[],isGenerator:=false,isCoroutine:=false }
structure Fun(K:PySem.W.Frag)(x qual:Str)(st:Stmt)(f:Addr)(fd:FuncData):Prop where
 ex:∃(oc:Value) (od:Option Addr) (kV doc pm:Value) (an:Option Addr) (cdv ct:Value) (osl:Array (Option Value)),
  fd=PySem.W.fnOf x qual (fJ st) (dG st) (aL st) .none kV doc pm an cdv ct/\K.lookup f=some ⟨oc,od,.func fd,osl⟩/\PySem.W.codeIn K cdv qual=true
 kp:PySem.W.keepIn K (.ref f)=true
section
variable {K:PySem.W.Frag} {mg:zzl} {base:Heap}
theorem Fun.binds{st:Stmt}{f:Addr}{fd:FuncData}{ps:List Str}(F:Fun K x qual st f fd)
  (h:∀(kV doc pm:Value) (an:Option Addr) (cdv ct:Value) (us:List Value),us.length=ps.length->bindArgs (PySem.W.fnOf x qual (fJ st) (dG st) (aL st) .none kV doc pm an cdv ct) ⟨us,[]⟩=pure (ps.zip us)):Binds K fd ps []:=by
 obtain⟨oc,od,kV,doc,pm,an,cdv,ct,osl,rfl,lk,hcd⟩:=F.ex
 exact .all (h kV doc pm an cdv ct)
theorem FR{st:Stmt}{f:Addr}{oc:Value}{od an:Option Addr}{osl:Array (Option Value)}{kV doc pm cdv ct:Value}(l:K.lookup f=some ⟨oc,od,.func (PySem.W.fnOf x qual (fJ st) (dG st) (aL st) .none kV doc pm an cdv ct),osl⟩)
  (c:PySem.W.codeIn K cdv qual=true) (k:PySem.W.keepIn K (.ref f)=true):Fun K x qual st f (PySem.W.fnOf x qual (fJ st) (dG st) (aL st) .none kV doc pm an cdv ct):=⟨⟨oc,od,kV,doc,pm,an,cdv,ct,osl,rfl,l,c⟩,k⟩
end
theorem rT{A B:Prop}(h:B):if false=true then A else B:=by
 rw[ef ni]
 exact h
theorem rS{A B:Prop}(h:A):if true=true then A else B:=by
 rw[be rfl]
 exact h
def Same(H H':Hp):Prop:=∀b o,H b=some o->H' b=some o
theorem Same.refl(H:Hp):Same H H:=λ_ _ h=>h
theorem Same.trans{H1 H2:Hp}(a:Same H H1)(b:Same H1 H2):Same H H2:=λc o h=>b c o (a c o h)
theorem Same.free{H':Hp}(e:Same H H'){l:Addr}(h:H' l=Option.none):H l=Option.none:=by
 cases q:H l with
 | none=>rfl
 | some o =>
  rw[e l o q]at h
  cases h
theorem Same.seq{K:PySem.W.Frag}{H':Hp}{xs:List V}(e:Same H H')(h:SqL K H a xs):SqL K H' a xs:=by
 rcases h with (h|⟨o,h⟩)|h
 ·exact .inl (.inl (e _ _ h))
 ·exact .inl (.inr ⟨o,e _ _ h⟩)
 ·exact .inr h
def fnB:Option NameKind->Bool
 | some .cell=>true
 | _=>false
theorem FV{o:Option NameKind}(h:fnB o=true):o=some .cell:=by
 unfold fnB at h
 split at h
 ·rfl
 ·cases h
def bU(X:Cx)(N':List Str)(scope:Scope)(cl:List (Str×Addr))(s₂:Shared)(H₂:Hp)(fp:List Addr)(C:Addr):Cx :=
 { X with N:=N',s₀:=s₂,H₀:=H₂,env:=compEnvC scope cl C X.env,outer:=X.stack,ex:=fp,fn:=λy=>fnB (scope.names.lookup y),pn:=[],xe:=λ_ _=>False }
def lobj(ys:List Value)(k:Nat):Obj:={ cls:=.type "list",data:=.seq ys.toArray k }
section
variable {prog:Program} {A:Around} {R:Result->Shared->Prop} {s:Shared}
theorem kH{target:Expr}{it acc:Value}(I:Nat->Shared->Prop)
  (turn:∀n s,I n s->wpAny (model prog w) A (pyNext it) (λr s₁=>match r with
   | none=>R (.ok .next) s₁
   | some v=>wpAny (model prog w) A (letOwnedTupleGo target it v) (λ_ s₁'=>wpAny (model prog w) A (assign target env v) (λ_ s₂ =>
     wpAny (model prog w) A (forIn ifs true λc r=>if r=true then do let ok <-isTrue c env (eval c env);pure (ForInStep.yield ok)else pure (ForInStep.yield r)) (λok s₃ =>
      if ok=true then wpAny (model prog w) A (eval elt env) (λx s₄ =>
       wpAny (model prog w) A (call (.builtin "list.append") [acc,x]) (λ_ s₅=>∃m,m<n/\I m s₅) (λ_ _=>False) s₄) (λ_ _=>False) s₃
      else ∃m,m<n/\I m s₃) (λ_ _=>False) s₂) (λ_ _=>False) s₁') (λ_ _=>False) s₁) (λ_ _=>False) s)
  (n:Nat) (h:I n s) :
  codeAny (model prog w) A (.compLoop (.ListComp elt [⟨target,iter,ifs,0⟩] scope pos) 0 it acc env) R s:=by
 refine codeAny_loop rfl I (λn s hI=>?_) n h
 show wpAny _ A ((compTurn (.ListComp elt [⟨target,iter,ifs,0⟩] scope pos) 0 it acc env).onRaise (λx=>do noteFrame x env;theTreesLotGoes x)) _ _ s
 refine wpAny_noted ?_
 rw[compTurn_list]
 refine zza (wpAny_standAt (zza (Db (turn n s hI) (λr s₁ h₁=>?_) λ_ _ h'=>h'.elim)))
 cases r with
 | none=>exact zzb h₁
 | some v =>
  refine zza (Db h₁ (λ_ s₁' h₁'=>?_) λ_ _ h'=>h'.elim)
  refine zza (Db h₁' (λ_ s₂ h₂=>zza (Db h₂ (λok s₃ h₃=>?_) λ_ _ h'=>h'.elim)) λ_ _ h'=>h'.elim)
  cases ok with
  | false=>exact zzb ⟨rfl,h₃⟩
  | true =>
   exact zza (zza (Db h₃ (λx s₄ h₄=>zza (Db h₄ (λ_ s₅ h₅=>zzb (zzb ⟨rfl,h₅⟩)) λ_ _ h'=>h'.elim)) λ_ _ h'=>h'.elim))
end
def PTs(X:Cx)(ifs:List Expr)(t:TT):Prop :=
 ∀(pins:zzk) (s:Shared) (Z:St) (H:Hp) (Q:Bool->Hp->Prop),Inv X pins Z H s->t Z H Q ->
  wpAny (model X.prog X.w) X.A (forIn ifs true λc r=>if r=true then do let ok <-isTrue c X.env (eval c X.env);pure (ForInStep.yield ok)else pure (ForInStep.yield r)) (TP X pins Z Q) X.xe s
theorem C7:PTs X [] (λ_ H Q=>Q true H):=λ_ _ _ H _ I h=>wpAny_tests_nil ⟨H,I,h⟩
theorem C6{c:Expr}{t:TT}(h:PT X c t):PTs X [c] t:=λpins s Z H Q I q=>wpAny_tests_one (h pins s Z H Q I q)
theorem iB{env:Env}:∀{names:List (Str×NameKind)} {x:Str},
  (names.map λ(n,k)=>if(k==NameKind.free&&env.scope.kind==.function&&env.kindOf n==some .cell)then(n,NameKind.cell)else(n,k)).lookup x
   = (names.lookup x).map λk=>if(k==NameKind.free&&env.scope.kind==.function&&env.kindOf x==some .cell)then NameKind.cell else k
 | [],_=>rfl
 | (n,k)::r,x=>by
  have ih:=@iB env r x
  show List.lookup x ((if(k==NameKind.free&&env.scope.kind==.function&&env.kindOf n==some .cell)=true then(n,NameKind.cell)else(n,k))::_)=_
  cases hx:x==n with
  | true =>
   have e:x=n:=by simpa using hx
   subst e
   by_cases hc:(k==NameKind.free&&env.scope.kind==.function&&env.kindOf x==some .cell)=true
   ·rw[be hc];simp only[tu,hx,wT,be hc]
   ·rw[ef hc];simp only[tu,hx,wT,ef hc]
  | false =>
   by_cases hc:(k==NameKind.free&&env.scope.kind==.function&&env.kindOf n==some .cell)=true
   ·rw[be hc];simp only[tu,hx];exact ih
   ·rw[ef hc];simp only[tu,hx];exact ih
theorem lT{env:Env}:∀(names:List (Str×NameKind)) (acc:List (Str×Addr)),(∀x∈names,x.2=.free->∃c,env.cells.lookup x.1=some c) ->
  (∀x c,acc.lookup x=some c->env.cells.lookup x=some c) ->
  ∃cl,(forIn names acc λ(x:Str×NameKind) (cs:List (Str×Addr))=>(if(x.2==NameKind.free)=true then(do let c <-cellOf env x.1;pure (ForInStep.yield ((x.1,c)::cs)))else pure (ForInStep.yield cs):Sem (ForInStep (List (Str×Addr)))))=pure cl /\
   (∀x c,cl.lookup x=some c->env.cells.lookup x=some c)/\(∀x,(acc.lookup x).isSome->(cl.lookup x).isSome)/\∀x∈names,x.2=.free->(cl.lookup x.1).isSome
 | [],acc,_,ha=>⟨acc,rfl,ha,λ_ h=>h,λ_ h=>nomatch h⟩
 | (n,k)::r,acc,hn,ha=>by
  cases hk:(k==NameKind.free)with
  | true =>
   obtain⟨c,hc⟩:=hn (n,k) fu (by simpa using hk)
   have ha':∀x d,((n,c)::acc).lookup x=some d->env.cells.lookup x=some d:=λx d e=>by
    rw[tu]at e
    cases q:x==n with
    | true =>
     rw[q]at e
     have:x=n:=by simpa using q
     subst this
     exact hc.trans e
    | false=>rw[q]at e;exact ha x d e
   obtain⟨cl,e,h1,h2,h3⟩:=lT r ((n,c)::acc) (λx hx=>hn x (zzg _ hx)) ha'
   have grow:∀x,(acc.lookup x).isSome->(((n,c)::acc).lookup x).isSome:=λx hx=>by
    rw[tu]
    cases q:x==n with
    | true=>rfl
    | false=>exact hx
   refine⟨cl,?_,h1,λx hx=>h2 x (grow x hx),λx hx hf=>?_⟩
   ·rw[CA]
    have q:cellOf env n=pure c:=by
     unfold cellOf
     rw[hc]
    simp only[hk,aw,q]
    exact e
   ·rcases List.mem_cons.mp hx with rfl|hx
    ·exact h2 _ (by simp[tu])
    ·exact h3 x hx hf
  | false =>
   obtain⟨cl,e,h1,h2,h3⟩:=lT r acc (λx hx=>hn x (zzg _ hx)) ha
   refine⟨cl,?_,h1,h2,λx hx hf=>?_⟩
   ·rw[CA]
    simp only[hk,Bool.false_eq_true,if_false]
    exact e
   ·rcases List.mem_cons.mp hx with rfl|hx
    ·exfalso;have:k=.free:=hf;subst this;simp at hk
    ·exact h3 x hx hf
theorem qS(h:∀x∈scope.names,x.2=.free->∃c,env.cells.lookup x.1=some c) :
  ∃cl,closureFor scope env=pure cl/\(∀x c,cl.lookup x=some c->env.cells.lookup x=some c)/\∀x∈scope.names,x.2=.free->(cl.lookup x.1).isSome:=by
 obtain⟨cl,e,h1,_,h3⟩:=lT (env:=env) scope.names [] h (λx c e=>by simp at e)
 refine⟨cl,?_,h1,h3⟩
 unfold closureFor
 have q:(forIn scope.names [] λ(x:Str×NameKind) (cs:List (Str×Addr))=>(match x with|(name,kind)=>if(kind==NameKind.free)=true then(do let c <-cellOf env name;pure (ForInStep.yield ((name,c)::cs)))else pure (ForInStep.yield cs):Sem (ForInStep (List (Str×Addr)))))=pure cl:=e
 first
  | (simp only[];rw[q];rfl)
  | (show(do let cs <-_;pure cs)=_;rw[q];rfl)
  | (rw[show(forIn scope.names [] _)=pure cl from q];rfl)
theorem kW:∀(names:List (Str×NameKind)) (n:Nat) (acc:List (Str×Addr)),cellsFrom n names acc=cellsFrom n names []++acc
 | [],_,_=>rfl
 | (x,k)::r,n,acc=>by
  unfold cellsFrom
  split
  ·rw[kW r (n+1) ((x,n)::acc),kW r (n+1) [(x,n)],wE];rfl
  ·exact kW r n acc
theorem nW:∀{names:List (Str×NameKind)} {n:Nat} {acc:List (Str×Addr)} {x:Str} {c:Addr},(x,c)∈cellsFrom n names acc->(x,NameKind.cell)∈names\/(x,c)∈acc
 | [],_,_,_,_,h=>.inr h
 | (y,k)::r,n,acc,x,c,h=>by
  unfold cellsFrom at h
  split at h
  ·rename_i hk
   have hk':k=.cell:=by simpa using hk
   rcases nW h with z|z
   ·exact .inl (zzg _ z)
   ·rcases List.mem_cons.mp z with e|z
    ·cases e;subst hk';exact .inl fu
    ·exact .inr z
  ·rcases nW h with z|z
   ·exact .inl (zzg _ z)
   ·exact .inr z
theorem jP{α:Type}:∀{l r:List (Str×α)} {x:Str},(l++r).lookup x=match l.lookup x with|some c=>some c|none=>r.lookup x
 | [],_,_=>rfl
 | (n,c)::l,r,x=>by
  rw[rn,tu,tu]
  cases x==n with
  | true=>rfl
  | false=>exact jP
structure CompOk(X:Cx)(N':List Str)(k:Nat)(scope:Scope):Prop where
 kind:scope.kind=.function
 len:N'.length=X.N.length+k
 cells:∀y∈scope.names,y.2=.cell->scope.names.lookup y.1=some .cell
 names:∀y∈scope.names,y.2=.local->scope.names.lookup y.1=some .local
 outer:∀(i:Nat) x,i<X.N.length->N'[i]? = some x->(scope.names.lookup x).isSome->(scope.names.lookup x=some .free\/scope.names.lookup x=some .local\/scope.names.lookup x=some .cell)->X.N[i]? = some x/\scope.names.lookup x=some .free
 free:∀y∈scope.names,y.2=.free->X.env.kindOf y.1=some .cell\/X.env.kindOf y.1=some .free
def yo(wi:TI)(k:Nat)(g:TG)(tc:TT)(te:TE):TE:=λZ H Q=>wi Z H λJ H1=>∃W:Nat->Nat->List V->St->Hp->Prop,(∃m,W 0 m [] (Z++List.replicate k none) H1) /\
 ∀i m vs σ' H',W i m vs σ' H'->vs.length<=sizeLine /\
  ((J.stop i H'/\∀p,H' p=none->Q (.ref p) (upd H' p (.lst vs))) \/
   (J.go i H'/\∀x H2,J.yld i H' x H2->g x σ' H2 λσ3 H3=>tc σ3 H3 λb H4=>if b=true then te σ3 H4 λy H5=>∃m',m'<m/\W (i+1) m' (vs++[y]) σ3 H5 else ∃m',m'<m/\W (i+1) m' vs σ3 H4))
section
variable {pins:zzk} {Z:St} {H2:Hp} {s2:Shared}
theorem HOk.track{h:Heap}{D:Addr}{vs:List V}{ys:List Value}(x:HOk P w H h)(hn:H D=none)(hl:vs.length<=sizeLine)(r:Vals vs ys)(e:h.get? D=some (lobj ys k)) :
  HOk P w (upd H D (.lst vs)) h:=λb u q=>by
 by_cases hb:b=D
 ·subst hb
  rw[dq]at q
  cases q
  exact⟨hl,ys,k,r,e⟩
 ·rw[bv hb]at q
  exact(x b u q).stay (λ_ _ _ z=>z) (λc z=>by rw[bv (bE z hn)];exact z) λc xs z=>by rw[bv (bE z hn)];exact z
theorem Ae{globals:Addr}{cl:List (Str×Addr)}{M:Model}{A:Around}{E:zzj}{Q:Env->Shared->Prop}{s:Shared}
  (h:Q (newEnv scope s.heap.objs.size globals (cellsFrom (s.heap.objs.size+1) scope.names cl) qual none .none (some env) builtinsNs) { s with heap:=pushCells (s.heap.push { cls:=.type "dict",data:=.dict #[] }) scope.names }) :
  wpAny M A (newFunctionEnv scope globals cl [] qual none .none (some env)) Q E s:=by
 simp only[newFunctionEnv,Option.isSome_some,aw]
 refine zza (wpAny_alloc ?_)
 refine zza (wpAny_layCells _ (λname kind cells=>by cases hkc:kind==NameKind.cell<;>simp[hkc]) _ _ _ _ ?_)
 rw[show({ s with heap:=s.heap.push { cls:=.type "dict",data:=.dict #[] } }:Shared).heap.objs.size=s.heap.objs.size+1 from kw ..]
 refine zza ?_
 rw[Jr]
 exact zzb (zzb h)
theorem tH{cl:List (Str×Addr)}{J:It}{fp:List Addr}{it:Addr}{tn:Nat->Heap->Prop}{E:zzj}
  {RR:Value->Addr->Result->Shared->Prop} {Q:VK}
  (hc:X.calm=true) (S:CompOk X N' k scope) (hcl:∀x c,cl.lookup x=some c->X.env.cells.lookup x=some c) (hcf:∀x∈scope.names,x.2=.free->(cl.lookup x.1).isSome)
  (I:Inv X pins Z H2 s2) (T:Turn X.prog X.w X.K tg J fp it tn) (st:tn 0 s2.heap) (ff:∀b∈fp,mj X pins H2 b)
  (hg:∀cl C,PG (bU X N' scope cl s2 H2 fp C) tg g) (ht:∀cl C,PTs (bU X N' scope cl s2 H2 fp C) ifs tc) (he:∀cl C,PE (bU X N' scope cl s2 H2 fp C) elt te)
  (rd:∃W:Nat->Nat->List V->St->Hp->Prop,(∃m,W 0 m [] (Z++List.replicate k none) H2) /\
   ∀i m vs σ' H',W i m vs σ' H'->vs.length<=sizeLine /\
    ((J.stop i H'/\∀p,H' p=none->Q (.ref p) (upd H' p (.lst vs))) \/
     (J.go i H'/\∀x H2,J.yld i H' x H2->g x σ' H2 λσ3 H3=>tc σ3 H3 λb H4=>if b=true then te σ3 H4 λy H5=>∃m',m'<m/\W (i+1) m' (vs++[y]) σ3 H5 else ∃m',m'<m/\W (i+1) m' vs σ3 H4)))
  (hRR:∀D C s' H',Inv X pins Z H' s'->(∃m,s'.heap.Ns C m)->mj X pins H' C->Q (.ref D) H'->RR (.ref D) C (.ok .next) s') :
  wpAny (model X.prog X.w) X.A (newList []) (λacc s₃=>wpAny (model X.prog X.w) X.A (newFunctionEnv scope X.env.globals cl [] X.env.qual none .none (some X.env)) (λcenv s₄ =>
   codeAny (model X.prog X.w) X.A (.compStart (.ListComp elt [⟨tg,iter,ifs,0⟩] scope pos) 0 (.ref it) acc { cenv with scope:=relabel scope X.env }) (RR acc cenv.locals) s₄) E s₃) E s2:=by
 obtain⟨W,⟨m0,w0⟩,turn⟩:=rd
 refine gi (Ae ?_)
 dsimp only
 generalize hH2:s2.heap.push { cls:=.type "list",dict:=none,data:=.seq ([]:List Value).toArray }=G2
 have hCs:G2.objs.size=s2.heap.objs.size+1:=by rw[<-hH2,kw]
 have hDC:s2.heap.objs.size≠G2.objs.size:=by rw[hCs];exact io (Nat.lt_succ_self _)
 have hCle:s2.heap.objs.size<=G2.objs.size:=by rw[hCs];exact Nat.le_succ _
 have hok0:=cellsFrom_ok scope.names (G2.push { cls:=.type "dict",data:=.dict #[] }) (G2.objs.size+1) [] ⟨λ_ _ hm=>(nomatch hm),List.Pairwise.nil⟩ (by rw[kw];exact bo _)
 rw[kw]at hok0
 have hns₁:(pushCells (G2.push { cls:=.type "dict",data:=.dict #[] }) scope.names).Ns G2.objs.size (λ_=>none):=(Heap.Ns.new G2 (.type "dict")).keeps (pushCells_keeps _ _)
 have old:∀b o,s2.heap.get? b=some o->(pushCells (G2.push { cls:=.type "dict",data:=.dict #[] }) scope.names).get? b=some o:=λb o e=>pushCells_keeps _ _ b o (zzc _ (hH2▸zzc _ e))
 have hacc:(pushCells (G2.push { cls:=.type "dict",data:=.dict #[] }) scope.names).get? s2.heap.objs.size=some (lobj [] 0):=pushCells_keeps _ _ _ _ (zzc _ (hH2▸zze _ rfl))
 rw[kW scope.names (G2.objs.size+1) cl]
 generalize pushCells (G2.push { cls:=.type "dict",data:=.dict #[] }) scope.names=h₁ at *
 have own:∀x c,(x,c)∈cellsFrom (G2.objs.size+1) scope.names []->(x,NameKind.cell)∈scope.names:=λx c h=>(nW h).elim id λz=>nomatch z
 have ownHas:∀x,scope.names.lookup x=some .cell->∃c,(cellsFrom (G2.objs.size+1) scope.names []).lookup x=some c:=λx h=>qT h
 generalize cellsFrom (G2.objs.size+1) scope.names []=oc at *
 generalize hDe:s2.heap.objs.size=D at *
 generalize hCe:G2.objs.size=C at *
 have fpD:mj X pins H2 D:=I.fpOk (by rw[hDe];exact bo _) (I.hok.fresh (by rw[hDe];exact bo _))
 have fpC:∀H',H' C=none->mj X pins H' C:=λH' hn=>I.fpOk (by rw[hDe];exact hCle) hn
 have hfpD:∀b∈fp,b<D:=λb hb=>by
  obtain⟨o,e,_⟩:=T.obj _ _ st b hb
  rw[<-hDe];exact ba e
 have nofr:∀b,D<=b->b∉frs X.stack:=λb hb hm=>by
  rcases List.mem_cons.mp (I.stkSub b hm)with e|hm
  ·have:=I.lt;rw[hDe]at this;rw[e]at hb;exact absurd (cr this hb) (se _)
  ·exact I.nofs (by rw[hDe];exact hb) hm
 let X':=bU X N' scope (oc++cl) s2 H2 fp C
 have cellLt:∀x c,cl.lookup x=some c->c<D:=λx c e=>by
  obtain⟨v,z⟩:=I.cell x c (hcl x c e)
  rw[<-hDe];exact z.lt
 have hCD:D<=C:=hCle
 have cell2:∀x c,(oc++cl).lookup x=some c->((x,c)∈oc/\D<c/\h₁.IsCell c none)\/(oc.lookup x=none/\cl.lookup x=some c):=λx c e=>by
  rw[jP]at e
  cases q:oc.lookup x with
  | some c' =>
   rw[q]at e;cases e
   have hm:=om q
   obtain⟨z1,z2⟩:=hok0.empty x _ hm
   exact .inl ⟨hm,Nat.lt_of_le_of_lt hCD z2,z1⟩
  | none=>rw[q]at e;exact .inr ⟨rfl,e⟩
 have ok':X'.Ok:=by
  refine⟨I.ok.mod,S.kind,I.ok.glob,I.ok.blt,?_,λx y c e1 e2=>?_,λx hx=>?_,λx c hf e=>?_,I.ok.hd,I.ok.frames,.inl rfl,λb hb=>⟨?_,λx c e z=>?_⟩,I.bs,?_,λb o e hb=>?_,λb hb hm=>?_,I.stack,I.stkFree⟩
  ·show s2.heap.objs.size<=C
   rw[hDe];exact hCle
  ·rcases cell2 x c e1 with ⟨m1,l1,_⟩|⟨_,e1⟩<;>rcases cell2 y c e2 with ⟨m2,l2,_⟩|⟨_,e2⟩
   ·exact name_of_addr hok0.apart m1 m2
   ·exact absurd (Nat.lt_trans l1 (cellLt _ _ e2)) (se _)
   ·exact absurd (Nat.lt_trans l2 (cellLt _ _ e1)) (se _)
   ·exact I.ok.inj x y c (hcl _ _ e1) (hcl _ _ e2)
  ·have hx':(relabel scope X.env).names.lookup x=some .cell\/(relabel scope X.env).names.lookup x=some .free:=hx
   have e:=iB (env:=X.env) (names:=scope.names) (x:=x)
   have e':(relabel scope X.env).names.lookup x=(scope.names.lookup x).map λk=>if(k==NameKind.free&&X.env.scope.kind==.function&&X.env.kindOf x==some .cell)then NameKind.cell else k:=e
   rw[e']at hx'
   cases q:scope.names.lookup x with
   | none=>rw[q]at hx';rcases hx' with z|z<;>cases z
   | some kd =>
    have hmem:=om q
    rw[q]at hx'
    have hkd:kd=.free\/kd=.cell:=by
     by_cases hz:kd=.free
     ·exact .inl hz
     ·have hb:(kd==NameKind.free)=false:=by simpa using hz
      simp only[hb,im,Bool.false_eq_true,if_false,wT]at hx'
      rcases hx' with z|z
      ·exact .inr (Option.some.inj z)
      ·exact absurd (Option.some.inj z) hz
    show ∃c,(oc++cl).lookup x=some c
    rw[jP]
    cases qo:oc.lookup x with
    | some c=>exact⟨c,rfl⟩
    | none =>
     rcases hkd with hkd|hkd
     ·exact Option.isSome_iff_exists.mp (hcf _ hmem hkd)
     ·subst hkd
      obtain⟨c,e⟩:=ownHas x q
      rw[qo]at e;cases e
  ·have hq:scope.names.lookup x=some .cell:=FV hf
   obtain⟨c',ec⟩:=ownHas x hq
   rcases cell2 x c e with ⟨_,l,_⟩|⟨z,_⟩
   ·show s2.heap.objs.size<=c
    rw[hDe];exact IT l
   ·rw[z]at ec;cases ec
  ·exact io (cr (hfpD b hb) hCle)
  ·rcases cell2 x c e with ⟨_,l,_⟩|⟨_,e⟩
   ·exact nu (Nat.lt_trans (hfpD b hb) l) z
   ·exact(ff b hb).2.2.2.2.1 x c (hcl x c e) z
  ·exact eg I.ok.bsz I.sz
  ·obtain⟨_,_,_,hx,_⟩:=ff b hb
   rcases hx with hx|hx
   ·exact I.ok.noex b o e hx
   ·exact absurd (cr (ba (I.ok.bs b o e).1) hx) (se _)
  ·obtain⟨_,hl,hfs,_⟩:=ff b hb
   rcases List.mem_cons.mp (I.stkSub b hm)with e|hm
   ·exact hl e
   ·exact hfs hm
 have lenσ:(Z++List.replicate k none).length=N'.length:=by rw[zzf,ve,I.len,S.len]
 have I0:Inv X' [(D,lobj [] 0)] (Z++List.replicate k none) H2 { s2 with heap:=h₁ }:=by
  refine⟨ok',rfl,I.bare,Un.kept old,⟨_,hns₁,λi x v e1 e2 e3=>?_⟩,λx c e=>?_,I.hok.fresh (by rw[hDe];exact hCle),λx c e=>?_,λp hp=>?_,I.hok.kept old,lenσ⟩
  ·have hi:i<Z.length:=by
    by_cases hi:i<Z.length
    ·exact hi
    ·rw[u8 (Nat.not_lt.mp hi),JE]at e2
     split at e2<;>cases e2
   rw[ev hi]at e2
   have e':(relabel scope X.env).names.lookup x=(scope.names.lookup x).map λk=>if(k==NameKind.free&&X.env.scope.kind==.function&&X.env.kindOf x==some .cell)then NameKind.cell else k:=iB (env:=X.env) (names:=scope.names) (x:=x)
   have hsome:∃kd,scope.names.lookup x=some kd/\(kd=.free\/kd=.local\/kd=.cell):=by
    have e3':(relabel scope X.env).names.lookup x=some .local\/(relabel scope X.env).names.lookup x=some .cell\/(relabel scope X.env).names.lookup x=some .free:=e3
    rw[e']at e3'
    cases q:scope.names.lookup x with
    | none=>rw[q]at e3';rcases e3' with z|z|z<;>cases z
    | some kd =>
     refine⟨kd,rfl,?_⟩
     rw[q]at e3'
     by_cases hz:kd=.free
     ·exact .inl hz
     ·have hb:(kd==NameKind.free)=false:=by simpa using hz
      simp only[hb,im,Bool.false_eq_true,if_false,wT,Option.some.injEq]at e3'
      rcases e3' with z|z|z
      ·exact .inr (.inl z)
      ·exact .inr (.inr z)
      ·exact .inl z
   obtain⟨kd,hk1,hk2⟩:=hsome
   obtain⟨hN,hfree⟩:=S.outer i x (by rw[<-I.len];exact hi) e1 (by rw[hk1];rfl) (by rcases hk2 with z|z|z<;>subst z<;>simp[hk1])
   have hmem:=om hfree
   have hko:=S.free _ hmem rfl
   have hkx:X.env.kindOf x=some .cell\/X.env.kindOf x=some .free:=hko
   obtain⟨m,hn,hl⟩:=I.loc
   obtain⟨u,r,lk⟩:=hl i x v hN e2 (by rcases hkx with z|z;exact .inr (.inl z);exact .inr (.inr z))
   refine⟨u,r,.inr ⟨?_,?_⟩⟩
   ·show(relabel scope X.env).names.lookup x=some .cell\/(relabel scope X.env).names.lookup x=some .free
    rw[e',hfree,wT]
    split
    ·exact .inl rfl
    ·exact .inr rfl
   ·rcases lk with ⟨kl,_⟩|⟨_,c,ec,hcell⟩
    ·rcases hkx with z|z<;>(rw[z]at kl;cases kl)
    ·obtain⟨c',ec'⟩:=Option.isSome_iff_exists.mp (hcf _ hmem rfl)
     have q:=hcl _ _ ec'
     rw[ec]at q
     cases q
     have hno:oc.lookup x=none:=by
      cases qo:oc.lookup x with
      | none=>rfl
      | some c2 =>
       have:=S.cells _ (own _ _ (om qo)) rfl
       rw[hfree]at this;cases this
     exact⟨c,by show(oc++cl).lookup x=some c;rw[jP,hno];exact ec',hcell.keeps old⟩
  ·rcases cell2 x c e with ⟨_,_,z⟩|⟨_,e⟩
   ·exact⟨_,z⟩
   ·obtain⟨v,z⟩:=I.cell x c (hcl x c e)
    exact⟨v,z.keeps old⟩
  ·rcases cell2 x c e with ⟨_,l,_⟩|⟨_,e⟩
   ·exact I.hok.fresh (by rw[hDe];exact IT l)
   ·exact I.freeC x c (hcl x c e)
  ·have hp':p∈([]:zzk)++[(D,lobj [] 0)]:=hp
   have ep:p=(D,lobj [] 0):=by simpa using hp'
   subst ep
   exact⟨hacc,fpD.1,hDC,nofr D (bo _),λv z=>nomatch z⟩
 have stat:∀{H':Hp} {o:Obj},(∀b∈fp,H' b=none)->∀b∈fp,mj X' [(D,o)] H' b:=λ{H' o} hn b hb=>by
  refine⟨hn b hb,io (cr (hfpD b hb) hCle),ok'.exfs b hb,.inl hb,λx c e z=>?_,λp hp=>?_⟩
  ·rcases cell2 x c e with ⟨_,l,_⟩|⟨_,e⟩
   ·exact nu (Nat.lt_trans (hfpD b hb) l) z
   ·exact(ff b hb).2.2.2.2.1 x c (hcl x c e) z
  have hp':p∈([]:zzk)++[(D,o)]:=hp
  have ep:p=(D,o):=by simpa using hp'
  subst ep
  exact nu (hfpD b hb)
 have loop:∀s₃:Shared,s₃={ s2 with heap:=h₁ } ->
   codeAny (model X.prog X.w) X.A (.compLoop (.ListComp elt [⟨tg,iter,ifs,0⟩] scope pos) 0 (.ref it) (.ref D) (compEnvC scope (oc++cl) C X.env)) (RR (.ref D) C) s₃:=by
  rintro s₃ rfl
  refine kH (λn s'=>∃i vs ys kk σ' H',Inv X' [(D,lobj ys kk)] σ' H' s'/\tn i s'.heap/\(∀b∈fp,H' b=none)/\Vals vs ys/\W i n vs σ' H') ?_ m0
   ⟨0,[],[],0,_,H2,I0,T.keep _ _ _ st λb _ o e=>old b o e,λb hb=>(ff b hb).1,.nil,w0⟩
  rintro n s3 ⟨i,vs,ys,kk,σ3,H3,I3,st3,fr3,rv,w3⟩
  obtain⟨hvl,hcase⟩:=turn i n vs σ3 H3 w3
  have pinD:∀{o:Obj} {σ' H' s'},Inv X' [(D,o)] σ' H' s'->s'.heap.get? D=some o/\H' D=none:=λJ=>⟨(J.pin _ (ig _ fu)).1,(J.pin _ (ig _ fu)).2.1⟩
  rcases hcase with ⟨stop,qn⟩|⟨go,step⟩
  ·refine thn (T.done X' rfl rfl rfl hc i _ s3 σ3 H3 (λ_ _=>False) I3 (stat fr3) st3 stop) λr s4 ⟨hr,I4⟩=>?_
   subst hr
   obtain⟨gD,nD⟩:=pinD I4
   obtain⟨m',hm',_⟩:=I4.loc
   have hC4:H3 C=none:=I4.free
   have u0:Un (frs X.stack) fp H2 H3 s2.heap s4.heap:=I4.base
   have neD:∀b o,s2.heap.get? b=some o->b≠D:=λb o e=>by rw[<-hDe];exact io (ba e)
   have u1:Un (frs X.stack) fp H2 (upd H3 D (.lst vs)) s2.heap s4.heap :=
    ⟨u0.keep,u0.slot,λb o e n hx=>by rw[bv (neD b o e)];exact u0.free b o e n hx,u0.there,
     λb xs e=>by have q:=u0.tups b xs e;rw[bv (bE q nD)];exact q,
     λb o u e=>by have q:=u0.frzs b o u e;rw[bv (bE q nD)];exact q,
     λb ps e=>by obtain⟨more,q⟩:=u0.tbls b ps e;exact⟨more,by rw[bv (bE q nD)];exact q⟩⟩
   have I5:Inv X pins Z (upd H3 D (.lst vs)) s4:=I.call' I4.os u1 (I4.hok.track nD hvl rv gD) I4.bare λb hb=>⟨(ff b hb).2.2.2.1,(ff b hb).2.1,(ff b hb).2.2.2.2.1,(ff b hb).2.2.2.2.2⟩
   exact hRR D C s4 _ I5 ⟨m',hm'⟩ (fpC _ (by rw[bv (Ne.symm hDC)];exact hC4)) (qn D nD)
  ·refine thn (T.item X' rfl rfl rfl hc i _ s3 σ3 H3 (λ_ _=>False) I3 (stat fr3) st3 go) λr s4 ⟨u,hr,h4⟩=>?_
   subst hr
   refine thn h4 λ_ s5 ⟨x,H5,I5,r5,y5,st5,fr5⟩=>?_
   have I5':=I5.pinned (stat fr5) (T.obj _ _ st5)
   refine thn (hg _ C _ s5 σ3 H5 x u _ I5' r5 (step x H5 y5)) λ_ s6 ⟨σ6,H6,I6,q6⟩=>?_
   refine thn (ht _ C _ s6 σ6 H6 _ I6 q6) λok s7 ⟨H7,I7,q7⟩=>?_
   have unpin:∀{σ' H' s'},Inv X' ([(D,lobj ys kk)]++qh fp s5.heap) σ' H' s'->Inv X' [(D,lobj ys kk)] σ' H' s'/\tn (i+1) s'.heap/\∀b∈fp,H' b=none:=λ{σ' H' s'} J =>
    ⟨J.unpinned,T.keep _ _ _ st5 λb hb o e=>(J.pin (b,o) (ig _ (ig _ (jO hb e)))).1,λb hb=>by
     obtain⟨o,e,d⟩:=T.obj _ _ st5 b hb
     exact(J.pin (b,o) (ig _ (ig _ (jO hb e)))).2.1⟩
   cases ok with
   | false =>
    rw[ef ni]
    rw[ef ni]at q7
    obtain⟨m',hm',w7⟩:=q7
    obtain⟨J1,J2,J3⟩:=unpin I7
    exact⟨m',hm',i+1,vs,ys,kk,σ6,H7,J1,J2,J3,rv,w7⟩
   | true =>
    rw[be rfl]
    rw[be rfl]at q7
    refine thn (he _ C _ s7 σ6 H7 _ I7 q7) λuy s8 ⟨y,H8,I8,r8,m',hm',w8⟩=>?_
    obtain⟨J1,J2,J3⟩:=unpin I8
    obtain⟨gD,nD⟩:=pinD J1
    refine append_at (hsz:=by show ys.toArray.size<=sizeLine;rw[bj,<-rv.length];exact hvl) gD λh9 hs9 hD9=>?_
    have J1':Inv X' [] σ6 H8 s8:=J1.pins_of λp hp=>nomatch hp
    have J9:Inv X' [] σ6 H8 { s8 with heap:=h9 }:=J1'.turned (t':=s8.toks) (it:=D) (λb o hb e=>hs9.extBut b o hb e) nD hDC (.inr (by show s2.heap.objs.size<=D;rw[hDe];exact bo _)) (λx c e=>(cell2 x c e).elim (λz=>nu z.2.1) λz=>io (cellLt x c z.2)) λp hp=>nomatch hp
    have eo:({ cls:=.type "list",data:=.seq (ys.toArray.push uy) (kk+1) }:Obj)=lobj (ys++[uy]) (kk+1):=by
     unfold lobj
     rw[List.push_toArray]
    refine⟨m',hm',i+1,vs++[y],ys++[uy],kk+1,σ6,H8,J9.pins_of λp hp=>?_,T.keep _ _ _ J2 λb hb o e=>hs9.extBut b o (io (hfpD b hb)) e,J3,rv.append (.cons r8 .nil),w8⟩
    have ep:p=(D,lobj (ys++[uy]) (kk+1)):=by simpa using hp
    subst ep
    exact⟨by show h9.get? D=_;rw[hD9,eo],nD,hDC,nofr D (bo _),λv z=>nomatch z⟩
 exact codeAny_compStart_list (loop _ rfl) (T.self _ 0 _ _ _ (T.keep _ _ _ st λb _ o e=>old b o e) (loop _ rfl))
end
section
theorem Dk{wi:TI}
  (hc:X.calm=true) (S:CompOk X N' k scope) (hcells:∀x∈scope.names,x.2=.free->∃c,X.env.cells.lookup x.1=some c) (hi:PI X tg iter wi)
  (hg:∀cl s H fp C,PG (bU X N' scope cl s H fp C) tg g) (ht:∀cl s H fp C,PTs (bU X N' scope cl s H fp C) ifs tc) (he:∀cl s H fp C,PE (bU X N' scope cl s H fp C) elt te)
  (hs:∀x,foldedSetIterable iter X.env x=pure x:=by intro _;rfl) :
  PE X (.ListComp elt [⟨tg,iter,ifs,0⟩] scope pos) (yo wi k g tc te):=by
 intro pins s Z H Q I h
 obtain⟨cl,hclos,h1,h2⟩:=qS (env:=X.env) (scope:=scope) hcells
 rw[eval_ListComp]
 refine wpAny_comprehension_free (use:=none) rfl hs hclos S.kind S.names (thn (hi pins s Z H _ I h) λxv s1 h1'=>thn h1' λitv s2 h2'=>?_)
 obtain⟨it,fp,tn,J,H2,e,I2,T,st2,f2,rd⟩:=h2'
 subst e
 refine tH hc S h1 h2 I2 T st2 f2 (λcl C=>hg cl _ _ _ C) (λcl C=>ht cl _ _ _ C) (λcl C=>he cl _ _ _ C) rd λD C s' H' I' ⟨m,hm⟩ fC q=>?_
 refine⟨m,hm,λh' hs'=>⟨.ref D,H',?_,rfl,q⟩⟩
 exact I'.turned (t':=s'.toks) (it:=C) (λb o hb e=>hs'.extBut b o hb e) fC.1 fC.2.1 fC.2.2.2.1 fC.2.2.2.2.1 fC.2.2.2.2.2
theorem qe{pos' spos:Pos}{i:Nat}{y:Str}{wi:TI}
  (hN:X.N.Nodup) (hy:X.N[i]? = some y) (hly:Loc X.env.scope y) (hfn:X.fn y=true\/X.env.scope.names.lookup y=some .local)
  (hc:X.calm=true) (S:CompOk X N' k scope) (hcells:∀x∈scope.names,x.2=.free->∃c,X.env.cells.lookup x.1=some c) (hi:PI X tg iter wi)
  (hg:∀cl s H fp C,PG (bU X N' scope cl s H fp C) tg g) (ht:∀cl s H fp C,PTs (bU X N' scope cl s H fp C) ifs tc) (he:∀cl s H fp C,PE (bU X N' scope cl s H fp C) elt te)
  (hsw:swapsWith (.ListComp elt [⟨tg,iter,ifs,0⟩] scope pos) (some (.Name y pos')) spos.line X.env=pure true)
  (hs:∀x,foldedSetIterable iter X.env x=pure x:=by intro _;rfl) :
  PS X (.Assign [.Name y pos'] (.ListComp elt [⟨tg,iter,ifs,0⟩] scope pos) spos) (EU (yo wi k g tc te) (v0 i)):=by
 intro pins s Z H D₀ I h
 obtain⟨cl,hclos,h1,h2⟩:=qS (env:=X.env) (scope:=scope) hcells
 rw[exec_Assign_Name_used _ _ _ _ hsw]
 refine zza (wpAny_standAt (zza ?_))
 show wpAny _ X.A (do let _ <-comprehension (.ListComp elt [⟨tg,iter,ifs,0⟩] scope pos) scope X.env _ (newList []) false (eval iter X.env) (some (assign (.Name y pos') X.env))) _ _ s
 refine zza (Db (wpAny_comprehension_free (use:=some (assign (.Name y pos') X.env)) (Q:=λ_ s'=>SP X pins D₀ .next s') rfl hs hclos S.kind S.names
  (thn (hi pins s Z H _ I h) λxv s1 h1'=>thn h1' λitv s2 h2'=>?_)) (λ_ s' hq=>zzb (zzb hq)) λ_ _ e=>e)
 obtain⟨it,fp,tn,J,H2,e,I2,T,st2,f2,rd⟩:=h2'
 subst e
 refine tH (Q:=λx H1=>v0 i x Z H1 D₀.nx) hc S h1 h2 I2 T st2 f2 (λcl C=>hg cl _ _ _ C) (λcl C=>ht cl _ _ _ C) (λcl C=>he cl _ _ _ C) rd λD C s' H' I' ⟨m,hm⟩ fC q=>?_
 show wpAny _ X.A (assign (.Name y pos') X.env (.ref D)) _ _ _
 refine wpAny_assign_Name (sK I' hN hy hly (show RelV (.ref D) (.ref D)from rfl) (λs'' I'' ⟨a,hsb,ha⟩=>?_) hfn)
 have hCa:C≠a:=by
  rcases ha with rfl|ha
  ·exact fC.2.1
  ·exact λz=>fC.2.2.2.2.1 y a ha z.symm
 refine⟨m,hm.sameBut hsb hCa,λh' hs'=>⟨_,H',?_,q⟩⟩
 exact I''.turned (t':=s''.toks) (it:=C) (λb o hb e=>hs'.extBut b o hb e) fC.1 fC.2.1 fC.2.2.2.1 fC.2.2.2.2.1 fC.2.2.2.2.2
end
theorem Hn{k:Key}{u:Value}(r:RelV (kV k) u):(eu P w).is k u=true:=by
 cases k with
 | inl i=>obtain⟨t,e⟩:=(show ∃t,u=Value.int i t from r);subst e;exact vV P w i t
 | inr x=>obtain⟨t,e⟩:=(show ∃t,u=Value.str x t from r);subst e;exact vU P w x t
theorem tm{P:Program}{w:World}:∀{ks:List Key} {us:List Value},Vals (ks.map kV) us->ItemsAre (eu P w) ks us
 | [],_,r=>by rw[List.map_nil]at r;cases r;exact .nil
 | k::ks,_,r=>by
  rw[je]at r
  cases r with
  | cons h t=>exact .cons (Hn h) (tm t)
abbrev KT(H:Hp):List (List Key×V)->List (List Key×Addr×Value)->Prop:=Paired λp q=>p.1=q.1/\H q.2.1=some (.tup (p.1.map kV))/\RelV p.2 q.2.2
section
variable {h:Heap}
theorem Ea{u:HO}(ok:HOk P w H h)(e:Rd H a u):ObjOk P w H h a u:=e.ok ok
theorem HF{kvs:List (Key×V)}(ok:HOk P w H h)(e:Rd H a (.dK kvs)):kvs.length<=sizeLine/\(a==sysModules)=false/\∃vs,KV kvs vs/\h.DictOf (eu P w) a vs :=
 show ObjOk P w H h a (.dK kvs)from Ea ok e
theorem HG{kvs:List (Key×V)}(ok:HOk P w H h)(e:H a=some (.dK kvs)):kvs.length<=sizeLine/\(a==sysModules)=false/\∃vs,KV kvs vs/\h.DictOf (eu P w) a vs:=HF ok (.inl e)
theorem FK{ks:List Key}(ok:HOk P w H h)(e:H a=some (.tup (ks.map kV))):(tupleKind (eu P w)).is h ks a:=by
 obtain⟨_,its,r,⟨o,h1,h2,n,h3⟩,_⟩:=(show ObjOk P w H h a (.tup (ks.map kV))from ok a _ e)
 exact⟨o,its.toArray,n,h1,h2,h3,by simpa using tm r⟩
theorem HD{kvs:List (List Key×V)}(ok:HOk P w H h)(e:Rd H a (.dT kvs)):kvs.length<=sizeLine/\(a==sysModules)=false /\
  ∃xs,KT H kvs xs/\h.DictOfH (tupleKind (eu P w)) a xs:=by
 obtain⟨z,y,xs,r,o,es,ep,h1,h2,h3,h4,h5⟩:=(show ObjOk P w H h a (.dT kvs)from Ea ok e)
 refine⟨z,y,xs,r,o,es,ep,h1,h2,h3,h4,λx hx=>?_,h5⟩
 have all:∀{l:List (List Key×V)} {m:List (List Key×Addr×Value)},KT H l m->∀x∈m,(tupleKind (eu P w)).is h x.1 x.2.1:=by
  intro l m q
  induction q with
  | nil=>intro x hx;exact nomatch hx
  | @cons p q ps qs hq t ih =>
   intro x hx
   rcases List.mem_cons.mp hx with e|hx
   ·subst e
    exact FK ok (by rw[<-hq.1];exact hq.2.1)
   ·exact ih x hx
 exact all r x hx
theorem HE{kvs:List (List Key×V)}(ok:HOk P w H h)(e:H a=some (.dT kvs)):kvs.length<=sizeLine/\(a==sysModules)=false /\
  ∃xs,KT H kvs xs/\h.DictOfH (tupleKind (eu P w)) a xs:=HD ok (.inl e)
end
end L2
namespace L4
open PySem PySem.Spec PyProof.Rows L2 PySem.W
def XO(e C:Addr)(dd:Option Addr):Heap->Prop:=λh=>∃oe,h.get? e=some oe/\oe.cls=.ref C/\oe.dict=dd/\PySem.W.notCls oe=true
def XD(dx:Addr)(fs:List (Str×V)):Heap->Prop:=λh=>∃mA,h.Ns1 dx mA/\PySem.Within mA (fs.map (·.1))/\∀f,Gn (fs.lookup f) (mA f)
abbrev bmV:List Value:=[.type "ValueError",.type "Exception",.type "BaseException",.type "object"]
structure XC(K:Frag)(C D fI:Addr):Prop where
 obj:∃nm q N bs sn sub ab col dd k0 k1 k2 k3 k5,K.lookup C=some (excClassObj nm q C N bs (.ref D::bmV) true sn sub ab col dd k0 k1 k2 k3 k5 "ValueError.__new__")
 tl:tailIn K bmV (.ref D::bmV)=true
 ini:findIn K (.ref C) "__init__" = some (some (.ref fI))
 fn:typeIn K (.ref fI)=some (.type "function")
 sa:findIn K (.ref C) "__setattr__" = some (some (.builtin "object.__setattr__"))
 ga:findIn K (.ref C) "__getattribute__" = some (some (.builtin "BaseException.__getattribute__"))
 gr:findIn K (.ref C) "__getattr__" = some none
structure KC(K:Frag)(C:Addr):Prop where
 ha:findIn K (.ref C) "__class__" = some (some (.builtin "object.__class__"))
 hn:specialIn K (.builtin "object.__class__") "__get__" = some (some (.builtin "getset_descriptor.__get__"))
 htk:takesIn K (.builtin "object.__class__")=some true
def vq(T:String):Bool:=T == "bool" || T == "int" || T == "str" || T == "list" || T == "tuple" || T == "dict"
structure XQ(K:Frag)(C:Addr)(x:Str):Prop where
 ns:nsIn K mainGlobals x=some (some (.ref C))
 xc:∃D fI,XC K C D fI
 kc:KC K C
 no:∀T,vq T=true->kitOne K (.ref C) (.type T)=some false
def FX(F:Hp)(dd:Option Addr)(fv:List (Str×V)):Prop:=(dd=none/\fv=[])\/∃dx,dd=some dx/\F dx=some (.ext (XD dx fv))
theorem FX.mono{F F':Hp}{dd:Option Addr}{fv:List (Str×V)}(e:Same F F')(h:FX F dd fv):FX F' dd fv:=h.imp id λ⟨dx,h1,h2⟩=>⟨dx,h1,e _ _ h2⟩
end L4
namespace L3
open PySem PySem.Spec PyProof.Rows L2
variable {F H F':Hp}{v:V}{vs:List V}{a p:Addr}{o:HO}{Z:L2.St}
abbrev D:=PyData
abbrev Fg:=PySem.W.Frag
def DG:Key->D
 | .inl i=>.int i
 | .inr x=>.str x
def FN(k:List Key):D:=.tuple (k.map DG)
mutual
inductive Rep(K:Fg)(F:Hp):V->D->Prop
 | non:Rep K F .non .none
 | bl (b):Rep K F (.bl b) (.bool b)
 | int (i):Rep K F (.int i) (.int i)
 | str (x):Rep K F (.str x) (.str x)
 | tup {a vs ds}:F a=some (.tup vs)->RepL K F vs ds->Rep K F (.ref a) (.tuple ds)
 | lst {a vs ds}:SqL K F a vs->RepL K F vs ds->Rep K F (.ref a) (.list ds)
 | dct {a kvs es}:F a=some (.dT kvs)->es.map (·.1)=kvs.map (λp=>FN p.1)->RepL K F (kvs.map (·.2)) (es.map (·.2))->Rep K F (.ref a) (.dict es)
 | dck {a kvs es}:F a=some (.dK kvs)->es.map (·.1)=kvs.map (λp=>DG p.1)->RepL K F (kvs.map (·.2)) (es.map (·.2))->Rep K F (.ref a) (.dict es)
 | exc {a C dd cl fv es}:F a=some (.ext (L4.XO a C dd))->L4.XQ K C cl->L4.FX F dd fv->es.map (·.1)=fv.map (λp=>.str p.1)->RepL K F (fv.map (·.2)) (es.map (·.2))->Rep K F (.ref a) (.dict ((.none,.str cl)::es))
 | fn {a f}:PySem.W.nsIn K mainGlobals f=some (some (.ref a))->Rep K F (.ref a) (.dict [(.bool true,.str f)])
inductive RepL(K:Fg)(F:Hp):List V->List D->Prop
 | nil:RepL K F [] []
 | cons {v d vs ds}:Rep K F v d->RepL K F vs ds->RepL K F (v::vs) (d::ds)
end
theorem bC{K:Fg}{xs:List V}(e:Same F F')(h:SqT K F a xs):SqT K F' a xs:=by
 rcases h with (h|⟨o,h⟩)|h
 ·exact .inl (.inl (e _ _ h))
 ·exact .inl (.inr ⟨o,e _ _ h⟩)
 ·exact .inr h
theorem Rep.mono{K:Fg}(e:Same F F'){d:D}(h:Rep K F v d):Rep K F' v d :=
 Rep.rec (motive_1:=λv d _=>Rep K F' v d) (motive_2:=λvs ds _=>RepL K F' vs ds) .non .bl .int .str (λh _ r=>.tup (e _ _ h) r) (λh _ r=>.lst (e.seq h) r) (λh k _ r=>.dct (e _ _ h) k r) (λh k _ r=>.dck (e _ _ h) k r) (λh q f k _ r=>.exc (e _ _ h) q (f.mono e) k r) (λh=>.fn h) .nil (λ_ _ a b=>.cons a b) h
theorem RepL.mono{K:Fg}(e:Same F F'){ds:List D}(h:RepL K F vs ds):RepL K F' vs ds:=by
 induction vs generalizing ds with
 | nil=>cases h;exact .nil
 | cons v vs ih=>cases h with
  | cons a b=>exact .cons (a.mono e) (ih b)
def GO(K:Fg)(F:Hp):D->V->Prop
 | .none,v=>v=.non
 | .bool b,v=>v=.bl b
 | .int i,v=>v=.int i
 | .str x,v=>v=.str x
 | .tuple ds,v=>∃a vs,v=.ref a/\F a=some (.tup vs)/\RepL K F vs ds
 | .list ds,v=>∃a vs,v=.ref a/\SqL K F a vs/\RepL K F vs ds
 | _,_=>True
theorem Rep.inv{K:Fg}{d:D}(h:Rep K F v d):GO K F d v :=
 Rep.casesOn (motive_1:=λv d _=>GO K F d v) h rfl (λ_=>rfl) (λ_=>rfl) (λ_=>rfl) (λh r=>⟨_,_,rfl,h,r⟩) (λh r=>⟨_,_,rfl,h,r⟩) (λ_ _ _=>True.intro) (λ_ _ _=>True.intro) (λ_ _ _ _ _=>True.intro) (λ_=>True.intro)
theorem Rep.int_inv{K:Fg}{i:Int}(h:Rep K F v (.int i)):v=.int i:=h.inv
theorem Rep.bool_inv{K:Fg}{i:Bool}(h:Rep K F v (.bool i)):v=.bl i:=h.inv
theorem Rep.str_inv{K:Fg}{i:Str}(h:Rep K F v (.str i)):v=.str i:=h.inv
theorem Rep.tup_inv{K:Fg}{ds:List D}(h:Rep K F v (.tuple ds)):∃a vs,v=.ref a/\F a=some (.tup vs)/\RepL K F vs ds:=h.inv
theorem Rep.lst_inv{K:Fg}{ds:List D}(h:Rep K F v (.list ds)):∃a vs,v=.ref a/\SqL K F a vs/\RepL K F vs ds:=h.inv
def D9(K:Fg)(F:Hp):List D->List V->Prop
 | [],vs=>vs=[]
 | d::ds,vs=>∃v us,vs=v::us/\Rep K F v d/\RepL K F us ds
theorem RepL.inv{K:Fg}{ds:List D}(h:RepL K F vs ds):D9 K F ds vs :=
 RepL.casesOn (motive_2:=λvs ds _=>D9 K F ds vs) h rfl (λa b=>⟨_,_,rfl,a,b⟩)
theorem RepL.one_inv{K:Fg}{d:D}(h:RepL K F vs [d]):∃v,vs=[v]/\Rep K F v d:=by
 obtain⟨v,us,rfl,a,b⟩:=(h.inv:∃v us,vs=v::us/\Rep K F v d/\RepL K F us [])
 obtain rfl:us=[]:=b.inv
 exact⟨v,rfl,a⟩
theorem RepL.two_inv{K:Fg}{d e:D}(h:RepL K F vs [d,e]):∃v u,vs=[v,u]/\Rep K F v d/\Rep K F u e:=by
 obtain⟨v,us,rfl,a,b⟩:=(h.inv:∃v us,vs=v::us/\Rep K F v d/\RepL K F us [e])
 obtain⟨u,rfl,c⟩:=b.one_inv
 exact⟨v,u,rfl,a,c⟩
theorem RepL.length{K:Fg}:∀{vs ds},RepL K F vs ds->vs.length=ds.length
 | _,_,.nil=>rfl
 | _,_,.cons _ r=>by simp[RepL.length r]
theorem RepL.get{K:Fg}:∀{vs ds} {i:Nat} {d:D},RepL K F vs ds->ds[i]? = some d->∃v,vs[i]? = some v/\Rep K F v d
 | _,_,_,_,.nil,e=>by simp at e
 | _,_,0,_,.cons h _,e=>by simp at e;subst e;exact⟨_,rfl,h⟩
 | _,_,i+1,d,.cons _ r,e=>by
  obtain⟨v,h1,h2⟩:=RepL.get (i:=i) (d:=d) r (by simpa using e)
  exact⟨v,by simpa using h1,h2⟩
theorem RepL.append{K:Fg}{ds:List D}{us:List V}{es:List D}(h:RepL K F vs ds)(s:RepL K F us es):RepL K F (vs++us) (ds++es):=by
 induction vs generalizing ds with
 | nil=>cases h;exact s
 | cons v vs ih=>cases h with
  | cons a b=>exact .cons a (ih b)
theorem RepL.take{K:Fg}:∀{vs ds} (n:Nat),RepL K F vs ds->RepL K F (vs.take n) (ds.take n)
 | _,_,0,_=>.nil
 | _,_,_+1,.nil=>.nil
 | _,_,n+1,.cons h r=>.cons h (RepL.take n r)
theorem RepL.drop{K:Fg}:∀{vs ds} (n:Nat),RepL K F vs ds->RepL K F (vs.drop n) (ds.drop n)
 | _,_,0,r=>r
 | _,_,_+1,.nil=>.nil
 | _,_,n+1,.cons _ r=>RepL.drop n r
theorem RepL.set{K:Fg}{d:D}(h:Rep K F v d):∀{vs ds} (i:Nat),RepL K F vs ds->RepL K F (vs.set i v) (ds.set i d)
 | _,_,_,.nil=>.nil
 | _,_,0,.cons _ r=>.cons h r
 | _,_,i+1,.cons q r=>.cons q (RepL.set h i r)
theorem RepL.reverse{K:Fg}{vs ds}(h:RepL K F vs ds):RepL K F vs.reverse ds.reverse:=by
 induction vs generalizing ds with
 | nil=>cases h;exact .nil
 | cons v vs ih=>cases h with
  | cons a b=>rw[DE,DE];exact(ih b).append (.cons a .nil)
theorem RepL.ints{K:Fg}:∀(ns:List Int),RepL K F (ns.map V.int) (ns.map PyData.int)
 | []=>.nil
 | n::r=>.cons (.int n) (RepL.ints r)
section
variable {X:Cx} {pins:zzk} {s:Shared}
theorem sP{u:List Value}(r:Vals [] u):∃as,ReadsAll s.heap u [] as:=by cases r;exact⟨_,.nil⟩
theorem pX{d:D}{ds:List D}(h:d.canLay0=true->∀{u},RelV v u->∃as,Reads s.heap u d as)(t:PyData.canLayAll0 ds=true->∀{us},Vals vs us->∃as,ReadsAll s.heap us ds as)(c:PyData.canLayAll0 (d::ds)=true){us:List Value}(r:Vals (v::vs) us):∃as,ReadsAll s.heap us (d::ds) as:=by
 simp only[PyData.canLayAll0,ag]at c
 cases r with
 | cons r rr =>
  obtain⟨as,ra⟩:=h c.1 r
  obtain⟨bs,rb⟩:=t c.2 rr
  exact⟨_,.cons ra rb⟩
theorem zG(I:Inv X pins Z H s){ds:List D}(hq:H a=some (.tup vs))(ih:PyData.canLayAll0 ds=true->∀{us},Vals vs us->∃as,ReadsAll s.heap us ds as)(c:(PyData.tuple ds).canLay0=true){u:Value}(r:RelV (.ref a) u):∃as,Reads s.heap u (.tuple ds) as:=by
 cases r
 obtain⟨its,rv,⟨o,e1,e2,n',e3⟩,hz⟩:=I.tuple (SqT.of hq)
 obtain⟨as,ra⟩:=ih (by simpa[PyData.canLay0]using c) rv
 exact⟨_,.tuple e1 e2 e3 (by simpa using ra)⟩
theorem zH(I:Inv X pins Z H s){ds:List D}(hq:SqL X.K H a vs)(ih:PyData.canLayAll0 ds=true->∀{us},Vals vs us->∃as,ReadsAll s.heap us ds as)(c:(PyData.list ds).canLay0=true){u:Value}(r:RelV (.ref a) u):∃as,Reads s.heap u (.list ds) as:=by
 cases r
 obtain⟨its,rv,⟨o,n',e1,e2,e3,e4⟩,hz⟩:=I.list hq
 obtain⟨as,ra⟩:=ih (by simpa[PyData.canLay0]using c) rv
 exact⟨_,.list e1 e2 e4 (by simpa using ra)⟩
theorem kQ{es:List (D×D)}{P:Prop}(c:(PyData.dict es).canLay0=true):P:=by simp[PyData.canLay0]at c
theorem Bf(I:Inv X pins Z H s){d:D}(h:Rep X.K H v d):d.canLay0=true->∀{u},RelV v u->∃as,Reads s.heap u d as :=
 Rep.rec (motive_1:=λv d _=>d.canLay0=true->∀{u},RelV v u->∃as,Reads s.heap u d as) (motive_2:=λvs ds _=>PyData.canLayAll0 ds=true->∀{us},Vals vs us->∃as,ReadsAll s.heap us ds as)
  (λ_ {_} r=>by cases r;exact⟨_,.none⟩) (λb _ {_} r=>by cases r;exact⟨_,.bool b⟩) (λi _ {_} r=>by obtain⟨t,rfl⟩:=r;exact⟨_,.int i t⟩) (λx _ {_} r=>by obtain⟨t,rfl⟩:=r;exact⟨_,.str x t⟩)
  (λhq _ ih=>zG I hq ih) (λhq _ ih=>zH I hq ih) (λ_ _ _ _ c=>kQ c) (λ_ _ _ _ c=>kQ c) (λ_ _ _ _ _ _ c=>kQ c) (λ_ c=>kQ c)
  (λ_ {_} r=>sP r) (λ_ _ a b=>pX a b) h
theorem E8(I:Inv X pins Z H s){ds:List D}(h:RepL X.K H vs ds):PyData.canLayAll0 ds=true->∀{us},Vals vs us->∃as,ReadsAll s.heap us ds as:=by
 induction vs generalizing ds with
 | nil=>cases h;exact λ_ _ r=>sP r
 | cons v vs ih=>cases h with
  | cons a b=>exact pX (Bf I a) (ih b)
end
theorem du{X:Cx}{pins:zzk}{s:Shared}(I:Inv X pins Z H s) :
  (∀{v d},Rep X.K H v d->d.canLay0=true->∀{u},RelV v u->∃as,Reads s.heap u d as)/\(∀{vs ds},RepL X.K H vs ds->PyData.canLayAll0 ds=true->∀{us},Vals vs us->∃as,ReadsAll s.heap us ds as) :=
 ⟨λ{v d} h c {u} r=>Bf I h c r,λ{vs ds} h c {us} r=>E8 I h c r⟩
def DH:List (D×D)->Bool
 | (.none,_)::_=>true
 | (.bool _,_)::_=>true
 | _=>false
def isFn:D->Bool
 | .dict ((.bool _,_)::_)=>true
 | _=>false
inductive NK where
 | b (b:Bool)
 | t (p:Int) (rs:List (List Int))
deriving DecidableEq
def ET(l:List Int):Int:=PySem.reduceHash (PySem.Builtin.Tuple.tupleHashOf l)
def NK.hash:NK->Int
 | .b x=>PySem.hashInt (if x then 1 else 0)
 | .t p rs=>ET [PySem.hashInt p,ET (rs.map λr=>ET (r.map PySem.hashInt))]
def KeyAt(F:Hp):NK->Value->Prop
 | .b b,v=>v=.bool b
 | .t p rs,v=>∃c e bs,v=.ref c/\F c=some (.tup [.int p,.ref e])/\F e=some (.tup (bs.map V.ref))/\Paired (λr b=>F b=some (.tup (r.map V.int))) rs bs
theorem KeyAt.mono{n:NK}{v:Value}(s:Same F F')(h:KeyAt F n v):KeyAt F' n v:=by
 cases n with
 | b b=>exact h
 | t p rs=>obtain⟨c,e,bs,h1,h2,h3,h4⟩:=h;exact⟨c,e,bs,h1,s _ _ h2,s _ _ h3,Paired.mapP h4 λr b q=>s _ _ q⟩
def nkE(x:NK×Value×Value):DictEntry:=⟨x.1.hash,x.2.1,x.2.2⟩
def Je(a:Addr)(o:Obj)(xs:List (NK×Value×Value)):Prop:=(a==sysModules)=false/\o.ExactDict/\(∃es ep,o.data=.dict es ep/\es.toList=xs.map nkE)/\(xs.map (·.1)).Nodup/\xs.length<=sizeLine/\∀(i:Nat) x,xs[i]? = some x->∃t,x.2.2=.int i t
inductive OC where
 | l (ds:List D)
 | t (es:List (D×D))
 | k (es:List (D×D))
 | i (x:Str) (ns:List Str) (ds:List D)
 | n (ns:List NK)
def OC.isI:OC->Bool
 | .i _ _ _=>true
 | .n _=>true
 | _=>false
inductive AV where
 | fz (d:D)
 | ol (c:OC)
 | op (c:OC)
abbrev En:=List (Option AV)
inductive RV where
 | fz (d:D)
 | fr (c:OC)
 | bor (i:Nat)
def CM:HO->Prop
 | .tup _=>False
 | .ext _=>False
 | _=>True
structure Gh where
 P:Nat->Option Addr
 O:Hp
 B:Hp
def Held(K:Fg)(F H:Hp)(a:Addr):OC->Prop
 | .l ds=>∃vs,H a=some (.lst vs)/\RepL K F vs ds
 | .t es=>∃kvs,H a=some (.dT kvs)/\es.map (·.1)=kvs.map (λp=>FN p.1)/\RepL K F (kvs.map (·.2)) (es.map (·.2))
 | .k es=>∃kvs,H a=some (.dK kvs)/\es.map (·.1)=kvs.map (λp=>DG p.1)/\RepL K F (kvs.map (·.2)) (es.map (·.2))
 | .i x ns ds=>∃C dx fs,H a=some (.ins C dx fs)/\PySem.W.nsIn K mainGlobals x=some (some (.ref C))/\fs.map (·.1)=ns/\RepL K F (fs.map (·.2)) ds
 | .n ns=>∃o xs,H a=some (.obj o)/\Je a o xs/\xs.map (·.1)=ns/\∀x∈xs,KeyAt F x.1 x.2.1
structure OwnAt(K:Fg)(G:Gh)(F H:Hp)(a:Addr)(c:OC):Prop where
 nf:F a=none
 no:G.O a=none
 he:Held K F H a c
def own(ρ:En)(i:Nat)(c:OC):Prop:=ρ[i]? = some (some (.ol c))\/ρ[i]? = some (some (.op c))
structure StOk(K:Fg)(G:Gh)(F:Hp)(Z:L2.St)(H:Hp)(ρ:En):Prop where
 fh:Same F H
 oh:Same G.O H
 fo:∀b o,G.O b=some o->F b=none/\CM o
 ln:Z.length=ρ.length
 fz:∀(i:Nat) (d:D),ρ[i]? = some (some (AV.fz d))->∃v,Z[i]? = some (some v)/\Rep K F v d
 ow:∀(i:Nat) (c:OC),own ρ i c->∃a:Addr,Z[i]? = some (some (V.ref a))/\OwnAt K G F H a c
 dj:∀(i j:Nat) (c e:OC) (a:Addr),own ρ i c->own ρ j e->Z[i]? = some (some (V.ref a))->Z[j]? = some (some (V.ref a))->i=j
 pp:∀(i:Nat) (a:Addr),G.P i=some a->Z[i]? = some (some (V.ref a))/\∃c,ρ[i]? = some (some (AV.op c))
 pq:∀(i:Nat) (c:OC),ρ[i]? = some (some (AV.op c))->∃a,G.P i=some a
 fb:Same G.B F
def RVR(K:Fg)(G:Gh)(F:Hp)(Z:L2.St)(H:Hp)(ρ:En)(v:V):RV->Prop
 | .fz d=>Rep K F v d
 | .fr c=>∃a,v=.ref a/\OwnAt K G F H a c/\∀(i:Nat) (e:OC),own ρ i e->Z[i]? ≠ some (some (V.ref a))
 | .bor i=>∃c,own ρ i c/\Z[i]? = some (some v)
theorem Held.mono{K:Fg}{c:OC}(e:Same F F')(h:Held K F H a c):Held K F' H a c:=by
 cases c with
 | l ds=>obtain⟨vs,h1,h2⟩:=h;exact⟨vs,h1,h2.mono e⟩
 | t es=>obtain⟨vs,h1,h2,h3⟩:=h;exact⟨vs,h1,h2,h3.mono e⟩
 | k es=>obtain⟨vs,h1,h2,h3⟩:=h;exact⟨vs,h1,h2,h3.mono e⟩
 | i x ns ds=>obtain⟨C,dx,fs,h1,h2,h3,h4⟩:=h;exact⟨C,dx,fs,h1,h2,h3,h4.mono e⟩
 | n ns=>obtain⟨o,xs,h1,h2,h3,h4⟩:=h;exact⟨o,xs,h1,h2,h3,λx m=>(h4 x m).mono e⟩
theorem Held.some{K:Fg}{c:OC}(h:Held K F H a c):∃o,H a=some o:=by
 cases c with
 | l ds=>obtain⟨vs,h1,h2⟩:=h;exact⟨_,h1⟩
 | t es=>obtain⟨vs,h1,h2⟩:=h;exact⟨_,h1⟩
 | k es=>obtain⟨vs,h1,h2⟩:=h;exact⟨_,h1⟩
 | i x ns ds=>obtain⟨C,dx,fs,h1,_⟩:=h;exact⟨_,h1⟩
 | n ns=>obtain⟨o,xs,h1,_⟩:=h;exact⟨_,h1⟩
theorem Held.at{K:Fg}{H':Hp}{c:OC}(h:Held K F H a c)(e:H' a=H a):Held K F H' a c:=by
 cases c with
 | l ds=>obtain⟨vs,h1,h2⟩:=h;exact⟨vs,e.trans h1,h2⟩
 | t es=>obtain⟨vs,h1,h2⟩:=h;exact⟨vs,e.trans h1,h2⟩
 | k es=>obtain⟨vs,h1,h2⟩:=h;exact⟨vs,e.trans h1,h2⟩
 | i x ns ds=>obtain⟨C,dx,fs,h1,h2⟩:=h;exact⟨C,dx,fs,e.trans h1,h2⟩
 | n ns=>obtain⟨o,xs,h1,h2⟩:=h;exact⟨o,xs,e.trans h1,h2⟩
theorem j5(h:F p=none):Same F (upd F p o):=λb u e=>by
 rw[bv (bE e h)]
 exact e
theorem kP(s:Same F H)(h:F p=none):Same F (upd H p o):=λb u e=>by
 rw[bv (bE e h)]
 exact s b u e
section
variable {K:Fg} {G:Gh} {ρ:En}
theorem StOk.lay(S:StOk K G F Z H ρ)(hp:H p=none):StOk K G F Z (upd H p o) ρ:=by
 have fp:F p=none:=S.fh.free hp
 have op:G.O p=none:=S.oh.free hp
 refine⟨kP S.fh fp,kP S.oh op,S.fo,S.ln,S.fz,λi c h=>?_,S.dj,S.pp,S.pq,S.fb⟩
 obtain⟨a,e,oa⟩:=S.ow i c h
 refine⟨a,e,oa.nf,oa.no,oa.he.at ?_⟩
 obtain⟨u,hu⟩:=oa.he.some
 exact bv (bE hu hp)
theorem StOk.fresh_ne(S:StOk K G F Z H ρ)(hp:H p=none):∀(i:Nat) (e:OC),own ρ i e->Z[i]? ≠ some (some (V.ref p)):=λi e h q=>by
 obtain⟨a,e1,oa⟩:=S.ow i e h
 rw[e1]at q
 injection q with q;injection q with q;injection q with q
 subst q
 obtain⟨u,hu⟩:=oa.he.some
 rw[hp]at hu;cases hu
theorem StOk.freeze(S:StOk K G F Z H ρ)(ha:H a=some o)(fa:F a=none)(oa:G.O a=none)(ne:∀(i:Nat) (e:OC),own ρ i e->Z[i]? ≠ some (some (V.ref a))):StOk K G (upd F a o) Z H ρ:=by
 have sm:Same F (upd F a o):=j5 fa
 refine⟨λb u e=>?_,S.oh,λb u e=>?_,S.ln,λi d h=>?_,λi c h=>?_,S.dj,S.pp,S.pq,S.fb.trans sm⟩
 ·by_cases hb:b=a
  ·subst hb;rw[dq]at e;cases e;exact ha
  ·rw[bv hb]at e;exact S.fh b u e
 ·rw[bv (bE e oa)];exact S.fo b u e
 ·obtain⟨v,e,r⟩:=S.fz i d h;exact⟨v,e,r.mono sm⟩
 ·obtain⟨b,e,ob⟩:=S.ow i c h
  refine⟨b,e,?_,ob.no,ob.he.mono sm⟩
  rw[bv (λz=>ne i c h (by rw[e,z]))]
  exact ob.nf
theorem StOk.newTup(S:StOk K G F Z H ρ){ds:List D}(hp:H p=none)(r:RepL K F vs ds) :
  Same F (upd F p (.tup vs))/\StOk K G (upd F p (.tup vs)) Z (upd H p (.tup vs)) ρ/\Rep K (upd F p (.tup vs)) (.ref p) (.tuple ds):=by
 have fp:F p=none:=S.fh.free hp
 refine⟨j5 fp,(S.lay hp).freeze dq fp (S.oh.free hp) (S.fresh_ne hp),?_⟩
 exact .tup dq (r.mono (j5 fp))
theorem StOk.newLst(S:StOk K G F Z H ρ){ds:List D}(hp:H p=none)(r:RepL K F vs ds) :
  StOk K G F Z (upd H p (.lst vs)) ρ/\RVR K G F Z (upd H p (.lst vs)) ρ (.ref p) (.fr (.l ds)) :=
 ⟨S.lay hp,p,rfl,⟨S.fh.free hp,S.oh.free hp,vs,dq,r⟩,S.fresh_ne hp⟩
theorem StOk.settle(S:StOk K G F Z H ρ){ds:List D}(r:RVR K G F Z H ρ v (.fr (.l ds))) :
  ∃F',Same F F'/\StOk K G F' Z H ρ/\Rep K F' v (.list ds):=by
 obtain⟨a,rfl,oa,ne⟩:=r
 obtain⟨vs,h1,h2⟩:=oa.he
 exact⟨upd F a (.lst vs),j5 oa.nf,S.freeze h1 oa.nf oa.no ne,.lst (.inl (.inl dq)) (h2.mono (j5 oa.nf))⟩
def OC.d:OC->D
 | .l ds=>.list ds
 | .t es=>.dict es
 | .k es=>.dict es
 | .i _ _ _=>.none
 | .n _=>.none
theorem DK{c:OC}(hI:c.isI=false)(h:Held K F H a c):∃o,H a=some o/\∀F',Same F F'->F' a=some o->Rep K F' (.ref a) c.d:=by
 cases c with
 | l ds=>obtain⟨vs,h1,h2⟩:=h;exact⟨_,h1,λF' s e=>.lst (.inl (.inl e)) (h2.mono s)⟩
 | t es=>obtain⟨vs,h1,h2,h3⟩:=h;exact⟨_,h1,λF' s e=>.dct e h2 (h3.mono s)⟩
 | k es=>obtain⟨vs,h1,h2,h3⟩:=h;exact⟨_,h1,λF' s e=>.dck e h2 (h3.mono s)⟩
 | i x ns ds=>cases hI
 | n ns=>cases hI
theorem StOk.store(S:StOk K G F Z H ρ){j:Nat}{av:AV}(hj:∀c,ρ[j]? ≠ some (some (.op c)))(hl:j<ρ.length)
  (h:(∃d,av=.fz d/\Rep K F v d)\/∃c,av=.ol c/\RVR K G F Z H ρ v (.fr c)):StOk K G F (Z.set j (some v)) H (ρ.set j (some av)):=by
 have hls:j<Z.length:=by rw[S.ln];exact hl
 have ne:∀i,i≠j->(ρ.set j (some av))[i]? = ρ[i]?:=λi hi=>rm (Ne.symm hi)
 have nes:∀i,i≠j->(Z.set j (some v))[i]? = Z[i]?:=λi hi=>rm (Ne.symm hi)
 have atj:(ρ.set j (some av))[j]? = some (some av):=ug hl
 have atjs:(Z.set j (some v))[j]? = some (some v):=ug hls
 have owni:∀i c,i≠j->own (ρ.set j (some av)) i c->own ρ i c:=λi c hi h=>by
  unfold own at h ⊢
  rw[ne i hi]at h
  exact h
 refine⟨S.fh,S.oh,S.fo,by simpa using S.ln,λi d q=>?_,λi c q=>?_,λi k c e a q1 q2 e1 e2=>?_,λi a q=>?_,λi c q=>?_,S.fb⟩
 ·by_cases hi:i=j
  ·subst hi
   rw[atj]at q
   rcases h with ⟨d',rfl,r⟩|⟨c,rfl,_⟩
   ·cases q;exact⟨v,atjs,r⟩
   ·cases q
  ·rw[ne i hi]at q
   obtain⟨w,e,r⟩:=S.fz i d q
   exact⟨w,by rw[nes i hi];exact e,r⟩
 ·by_cases hi:i=j
  ·subst hi
   rcases h with ⟨d',rfl,r⟩|⟨c',rfl,a,rfl,oa,_⟩
   ·rcases q with q|q<;>(rw[atj]at q;cases q)
   ·rcases q with q|q
    ·rw[atj]at q;cases q;exact⟨a,atjs,oa⟩
    ·rw[atj]at q;cases q
  ·obtain⟨a,e,oa⟩:=S.ow i c (owni i c hi q)
   exact⟨a,by rw[nes i hi];exact e,oa⟩
 ·by_cases hi:i=j
  ·by_cases hk:k=j
   ·rw[hi,hk]
   ·exfalso
    subst hi
    rw[nes k hk]at e2
    rw[atjs]at e1
    injection e1 with e1;injection e1 with e1
    subst e1
    rcases h with ⟨d',rfl,r⟩|⟨c',rfl,a',e,oa,nn⟩
    ·rcases q1 with q|q<;>(rw[atj]at q;cases q)
    ·injection e with e;subst e
     exact nn k _ (owni k _ hk q2) e2
  ·by_cases hk:k=j
   ·exfalso
    subst hk
    rw[nes i hi]at e1
    rw[atjs]at e2
    injection e2 with e2;injection e2 with e2
    subst e2
    rcases h with ⟨d',rfl,r⟩|⟨c',rfl,a',e,oa,nn⟩
    ·rcases q2 with q|q<;>(rw[atj]at q;cases q)
    ·injection e with e;subst e
     exact nn i _ (owni i _ hi q1) e1
   ·rw[nes i hi]at e1
    rw[nes k hk]at e2
    exact S.dj i k _ _ a (owni i _ hi q1) (owni k _ hk q2) e1 e2
 ·obtain⟨q1,c,q2⟩:=S.pp i a q
  have hi:i≠j:=by rintro rfl;exact hj c q2
  exact⟨by rw[nes i hi];exact q1,c,by rw[ne i hi];exact q2⟩
 ·have hi:i≠j:=by
   rintro rfl
   rw[atj]at q
   rcases h with ⟨d',rfl,r⟩|⟨c',rfl,_⟩<;>cases q
  rw[ne i hi]at q
  exact S.pq i c q
theorem StOk.change(S:StOk K G F Z H ρ){j:Nat}{c c':OC}(hj:own ρ j c)(ha:Z[j]? = some (some (.ref a)))(hh:Held K F (upd H a o) a c') :
  StOk K G F Z (upd H a o) (ρ.set j ((ρ[j]?.join).map fun | .op _=>.op c'|_=>.ol c')):=by
 obtain⟨b,e,ob⟩:=S.ow j c hj
 rw[ha]at e
 injection e with e;injection e with e;injection e with e
 subst e
 have hl:j<ρ.length:=by rcases hj with h|h<;>exact(List.getElem?_eq_some_iff.mp h).1
 generalize hav:((ρ[j]?.join).map λ(x:AV)=>match x with | .op _=>AV.op c'|_=>AV.ol c')=av
 have ne:∀i,i≠j->(ρ.set j av)[i]? = ρ[i]?:=λi hi=>rm (Ne.symm hi)
 have atj:(ρ.set j av)[j]? = some av:=ug hl
 have owni:∀i e,i≠j->own (ρ.set j av) i e->own ρ i e:=λi c hi h=>by
  unfold own at h ⊢
  rw[ne i hi]at h
  exact h
 have kind:(ρ[j]? = some (some (.ol c))/\av=some (.ol c'))\/(ρ[j]? = some (some (.op c))/\av=some (.op c')):=by
  rcases hj with h|h
  ·exact .inl ⟨h,by rw[<-hav,h];rfl⟩
  ·exact .inr ⟨h,by rw[<-hav,h];rfl⟩
 have ownj:∀e,own (ρ.set j av) j e->e=c':=λe h=>by
  unfold own at h
  rw[atj]at h
  rcases kind with ⟨_,k⟩|⟨_,k⟩<;>rw[k]at h<;>rcases h with h|h<;>cases h<;>rfl
 refine⟨kP S.fh ob.nf,kP S.oh ob.no,S.fo,by simpa using S.ln,λi d q=>?_,λi e q=>?_,λi k c1 e1 b q1 q2=>?_,λi b q=>?_,λi e q=>?_,S.fb⟩
 ·by_cases hi:i=j
  ·subst hi
   rw[atj]at q
   rcases kind with ⟨_,k⟩|⟨_,k⟩<;>rw[k]at q<;>cases q
  ·rw[ne i hi]at q;exact S.fz i d q
 ·by_cases hi:i=j
  ·subst hi
   have:=ownj e q
   subst this
   exact⟨a,ha,ob.nf,ob.no,hh⟩
  ·have q':=owni i e hi q
   obtain⟨b',e',ob'⟩:=S.ow i e q'
   refine⟨b',e',ob'.nf,ob'.no,ob'.he.at (bv λz=>hi (S.dj i j _ _ a q' hj (by rw[e',z]) ha))⟩
 ·have o1:∃e,own ρ i e:=by
   by_cases hi:i=j
   ·exact⟨c,hi▸hj⟩
   ·exact⟨_,owni i _ hi q1⟩
  have o2:∃e,own ρ k e:=by
   by_cases hk:k=j
   ·exact⟨c,hk▸hj⟩
   ·exact⟨_,owni k _ hk q2⟩
  exact S.dj i k _ _ b o1.choose_spec o2.choose_spec
 ·obtain⟨q1,e,q2⟩:=S.pp i b q
  refine⟨q1,?_⟩
  by_cases hi:i=j
  ·subst hi
   rcases kind with ⟨k1,k⟩|⟨k1,k⟩
   ·rw[k1]at q2;cases q2
   ·exact⟨c',by rw[atj,k]⟩
  ·exact⟨e,by rw[ne i hi];exact q2⟩
 ·by_cases hi:i=j
  ·subst hi
   rcases kind with ⟨k1,k⟩|⟨k1,k⟩
   ·rw[atj,k]at q;cases q
   ·exact S.pq i c k1
  ·rw[ne i hi]at q;exact S.pq i e q
end
end L3
namespace L4
open PySem PySem.Spec PyProof.Rows L2 L3
variable {Q:Unit->Shared->Prop}{A:Around}{s:Shared}{base:Heap}{outer:List Env}{L e:Addr}{H:Hp}{P:Program}{w:World}
def wB(h:Heap)(e b:Addr):Prop:=∃oe vs,h.get? e=some oe/\oe.data=.fields vs/\vs[1]? = some (.ref b)
structure Ent(fs:List Addr)(h h':Heap)(e T:Addr)(oe:Obj)(ts:Array Value):Prop where
 keep:∀b o,h.get? b=some o->b∉fs->b≠e->h'.get? b=some o
 slot:∀b o,h.get? b=some o->b≠e->∃sl,h'.get? b=some { o with slots:=sl }
 new:h.objs.size<=T
 exc:h'.get? e=some (oe.mapFields (·.setIfInBounds 1 (.ref T)))
 way:∃oT,h'.get? T=some oT/\oT.data=.fields ts
section
variable {M:Model} {E:zzj} {env:Env} {oe:Obj} {vs:Array Value}
theorem qO{top:Value}{nx:Bool}(hA:A.frames=some (env::outer))(hF:s.heap.FunFrames base (env::outer))(hL:env.frame=some L)
  (he:s.heap.get? e=some oe) (hd:oe.data=.fields vs) (hz:1<vs.size)
  (k:∀h' T ts,Ent (frs (env::outer)) s.heap h' e T oe ts->3<ts.size->ts[3]? = some (rawInt L)->Q () { s with heap:=h' }) :
  wpAny M A (do let a <-frameOf env;let pl <-entryPlaceOf L nx;let b <-EntryCells.newEntry top a .none (rawInt L) .none pl;setField (.ref e) 1 b) Q E s:=by
 have ne:e∉frs (env::outer):=λz=>by
  obtain⟨_,o,q,r⟩:=hF.mem z
  rw[he]at q;cases q
  exact r vs hd
 refine zza (wpAny_frameOf_fun hA hF hL λh1 so=>zza (wpAny_entryPlaceOf λpl ip=>?_))
 simp only[EntryCells.newEntry,newFields]
 refine zza (gi ?_ (ip.sizeOk5 _ _ _ _ _))
 generalize hts:([top,.ref L,.none,rawInt L,.none]++(if pl.isEmpty then List.replicate 6 Value.none else pl)).toArray=ts
 have z3:3<ts.size:=by
  rw[<-hts,bj,zzf]
  simp only[bu,tt]
  lia
 have g3:ts[3]? = some (rawInt L):=by rw[<-hts];simp
 generalize htb:({ cls:=.type "traceback",dict:=none,data:=.fields ts }:Obj)=tb
 have fr:tb.isFreed=false:=by rw[<-htb];rfl
 have e1:h1.get? e=some oe:=by rw[so.2.1 e ne];exact he
 have lt:e<h1.objs.size:=ba e1
 refine ze (zzc tb e1) hd hz ?_
 have hd':=kv hd (·.setIfInBounds 1 (Value.ref h1.objs.size))
 have up:∀b,b≠e->((h1.push tb).update e (Obj.mapFields (·.setIfInBounds 1 (.ref h1.objs.size)))).get? b=(h1.push tb).get? b:=λb hb=>wS _ _ (Ne.symm hb)
 refine k _ h1.objs.size ts ⟨λb o q nf nb=>?_,λb o q nb=>?_,by rw[so.1];exact bo _,?_,⟨tb,?_,?_⟩⟩ z3 g3
 ·exact(up b nb).trans (zzc _ ((so.2.1 b nf).trans q))
 ·obtain⟨sl,q'⟩:=so.2.2 b o q
  exact⟨sl,(up b nb).trans (zzc _ q')⟩
 ·exact wa _ (zzc tb e1) (xz hd')
 ·exact(up _ (nu lt)).trans (zze h1 fr)
 ·rw[<-htb]
end
structure XS(H:Hp)(h:Heap)(lo:Nat)(e C:Addr)(dd:Option Addr):Prop where
 yg:lo<=e
 trk:H e=some (.ext (XO e C dd))
 obj:∃oe vs,h.get? e=some oe/\oe.cls=.ref C/\oe.dict=dd/\oe.data=.fields vs/\1<vs.size /\
  (vs[1]? = some .none\/∃T oT ts,vs[1]? = some (.ref T)/\T≠e/\lo<=T/\H T=none/\h.get? T=some oT/\oT.data=.fields ts/\ts[3]? = some .none)
structure Mv(fs:List Addr)(h h':Heap)(e:Addr):Prop where
 keep:∀b o,h.get? b=some o->b∉fs->b≠e->¬ wB h e b->h'.get? b=some o
 slot:∀b o,h.get? b=some o->b≠e->¬ wB h e b->∃sl,h'.get? b=some { o with slots:=sl }
 there:∀b o,h.get? b=some o->∃o',h'.get? b=some o'
theorem yZ(f:Array Value->Array Value)(o:Obj):(o.mapFields f).dict=o.dict:=by
 obtain⟨c,d,dt,sl⟩:=o
 cases dt<;>rfl
theorem He:¬ ((Value.none==rawInt L)=true):=by simp[rawInt]
section
variable {M:Model} {E:zzj} {env:Env} {C:Addr} {dd:Option Addr} {lo:Nat}
theorem qL{oe:Obj}{vs:Array Value}{h0:Heap}{T:Addr}{ts:Array Value}(en:Ent (frs (env::outer)) h0 s.heap e T oe ts)(hd:oe.data=.fields vs)(hz:1<vs.size)(z3:3<ts.size)(hh:e<h0.objs.size)
  (k:∀h',(∀b,b≠T->h'.get? b=s.heap.get? b)->(∃oT tz,h'.get? T=some oT/\oT.data=.fields tz/\tz[3]? = some .none)->Q () { s with heap:=h' }):wpAny M A (setFlight (.ref e) none) Q E s:=by
 obtain⟨oT,q1,q2⟩:=en.way
 have d':=kv hd (·.setIfInBounds 1 (Value.ref T))
 simp only[setFlight]
 refine zza (eT en.exc d' (x:=.ref T) (by simp[hz]) ?_)
 rw[be (by simp)]
 refine ze q1 q2 z3 (k _ (λb hb=>wS _ _ (Ne.symm hb)) ⟨_,_,wa _ q1 (xz (kv q2 _)),kv q2 _,by simp[z3]⟩)
theorem BE(hA:A.frames=some (env::outer))(hF:s.heap.FunFrames base (env::outer))(hL:env.frame=some L)(hk:HOk P w H s.heap)(xs:XS H s.heap lo e C dd)
  (k:∀h',Mv (frs (env::outer)) s.heap h' e->XS H h' lo e C dd->(∀b,wB h' e b->s.heap.objs.size<=b)->Q () { s with heap:=h' }) :
  wpAny M A (noteFrame (.ref e) env) (λ_ s2=>wpAny M A (setFlight (.ref e) none) Q E s2) E s:=by
 obtain⟨oe,vs,he,hc,hdd,hd,hz,tb⟩:=xs.obj
 have elt:e<s.heap.objs.size:=ba he
 have hlo:lo<=s.heap.objs.size:=eg xs.yg (IT elt)
 simp only[noteFrame,hL]
 rcases tb with tb|⟨T,oT,ts,tb,hTe,hTl,hTn,hT,hTd,t3⟩
 ·refine zza (eT he hd tb ?_)
  rw[ef (by decide)]
  refine qO hA hF hL he hd hz λh1 T1 t1 en z3 g3=>?_
  refine qL (s:={ s with heap:=h1 }) en hd hz z3 elt λh2 same way=>?_
  have nT:∀b o,s.heap.get? b=some o->b≠T1:=λb o q=>io (cr (ba q) en.new)
  have d1:=kv hd (·.setIfInBounds 1 (Value.ref T1))
  refine k h2 ⟨λb o q nf nb _=>?_,λb o q nb _=>?_,λb o q=>?_⟩ ⟨xs.yg,xs.trk,_,_,?_,?_,?_,d1,by simpa using hz,.inr ?_⟩ ?_
  ·rw[same b (nT b o q)];exact en.keep b o q nf nb
  ·obtain⟨sl,z⟩:=en.slot b o q nb
   exact⟨sl,by rw[same b (nT b o q)];exact z⟩
  ·by_cases nb:b=e
   ·subst nb;exact⟨_,by rw[same _ (nT _ o q)];exact en.exc⟩
   ·obtain⟨sl,z⟩:=en.slot b o q nb
    exact⟨_,by rw[same b (nT b o q)];exact z⟩
  ·rw[same e (nT e _ he)];exact en.exc
  ·rw[Jt];exact hc
  ·rw[yZ];exact hdd
  ·obtain⟨o1,tz,w1,w2,w3⟩:=way
   exact⟨T1,o1,tz,by simp[hz],λz=>nT e _ he z.symm,eg hlo en.new,hk.fresh en.new,w1,w2,w3⟩
  ·intro b ⟨oe',vs',g1,g2,g3⟩
   rw[same e (nT e _ he),en.exc]at g1
   cases g1
   rw[d1]at g2
   cases g2
   have:Value.ref T1=Value.ref b:=by simpa[hz]using g3
   injection this with this
   rw[<-this]
   exact en.new
 ·refine zza (eT he hd tb ?_)
  rw[be (by simp)]
  refine zza (eT hT hTd t3 ?_)
  rw[ef He]
  have z3':3<ts.size:=(Array.getElem?_eq_some_iff.mp t3).1
  refine zza (ze hT hTd z3' ?_)
  have off:∀b,b≠T->(s.heap.update T (Obj.mapFields (·.setIfInBounds 3 Value.none))).get? b=s.heap.get? b:=λb hb=>wS _ _ (Ne.symm hb)
  have hF':(s.heap.update T (Obj.mapFields (·.setIfInBounds 3 Value.none))).FunFrames base (env::outer):=hF.of_keeps λb o q r=>⟨o,(off b λz=>by subst z;rw[hT]at q;cases q;exact r ts hTd).trans q,rfl⟩
  have he':(s.heap.update T (Obj.mapFields (·.setIfInBounds 3 Value.none))).get? e=some oe:=(off e (Ne.symm hTe)).trans he
  have zz:(s.heap.update T (Obj.mapFields (·.setIfInBounds 3 Value.none))).objs.size=s.heap.objs.size:=Heap.size_update ..
  refine qO (s:={ s with heap:=s.heap.update T (Obj.mapFields (·.setIfInBounds 3 Value.none)) }) hA hF' hL he' hd hz λh1 T1 t1 en z3 g3=>?_
  refine qL (s:={ s with heap:=h1 }) en hd hz z3 (by rw[zz];exact elt) λh2 same way=>?_
  have nw:s.heap.objs.size<=T1:=by have:=en.new;rw[zz]at this;exact this
  have nT:∀b o,s.heap.get? b=some o->b≠T1:=λb o q=>io (cr (ba q) nw)
  have isT:wB s.heap e T:=⟨oe,vs,he,hd,tb⟩
  have nTT:∀b,¬ wB s.heap e b->b≠T:=λb z q=>z (q▸isT)
  have d1:=kv hd (·.setIfInBounds 1 (Value.ref T1))
  have T0:(s.heap.update T (Obj.mapFields (·.setIfInBounds 3 Value.none))).get? T=some (oT.mapFields (·.setIfInBounds 3 Value.none)):=wa _ hT (xz (kv hTd _))
  refine k h2 ⟨λb o q nf nb nt=>?_,λb o q nb nt=>?_,λb o q=>?_⟩ ⟨xs.yg,xs.trk,_,_,?_,?_,?_,d1,by simpa using hz,.inr ?_⟩ ?_
  ·rw[same b (nT b o q)];exact en.keep b o ((off b (nTT b nt)).trans q) nf nb
  ·obtain⟨sl,z⟩:=en.slot b o ((off b (nTT b nt)).trans q) nb
   exact⟨sl,by rw[same b (nT b o q)];exact z⟩
  ·by_cases nb:b=e
   ·subst nb;exact⟨_,by rw[same _ (nT _ o q)];exact en.exc⟩
   ·by_cases nt:b=T
    ·subst nt
     obtain⟨sl,z⟩:=en.slot b _ T0 nb
     exact⟨_,by rw[same b (nT b o q)];exact z⟩
    ·obtain⟨sl,z⟩:=en.slot b o ((off b nt).trans q) nb
     exact⟨_,by rw[same b (nT b o q)];exact z⟩
  ·rw[same e (nT e _ he)];exact en.exc
  ·rw[Jt];exact hc
  ·rw[yZ];exact hdd
  ·obtain⟨o1,tz,w1,w2,w3⟩:=way
   exact⟨T1,o1,tz,by simp[hz],λz=>nT e _ he z.symm,eg hlo nw,hk.fresh nw,w1,w2,w3⟩
  ·intro b ⟨oe',vs',g1,g2,g3⟩
   rw[same e (nT e _ he),en.exc]at g1
   cases g1
   rw[d1]at g2
   cases g2
   have:Value.ref T1=Value.ref b:=by simpa[hz]using g3
   injection this with this
   rw[<-this]
   exact nw
theorem xF(hA:A.frames=some (env::outer))(hF:s.heap.FunFrames base (env::outer))(hL:env.frame=some L)(hk:HOk P w H s.heap)(xs:XS H s.heap lo e C dd)
  (k:∀h',Mv (frs (env::outer)) s.heap h' e->XS H h' lo e C dd->Q () { s with heap:=h' }):wpAny M A (leaving env (.ref e)) Q E s:=by
 unfold leaving
 exact zza (BE hA hF hL hk xs λh' m x _=>k h' m x)
end
section
variable {fs:List Addr} {h h':Heap} {C:Addr} {dd:Option Addr} {lo:Nat}
theorem XO.ok{H':Hp}(x:XO e C dd h):ObjOk P w H' h e (.ext (XO e C dd)):=by
 obtain⟨oe,q,r⟩:=x
 exact⟨⟨oe,q,r⟩,⟨oe,q⟩,λh1 h2 ⟨o,z,r⟩ k=>⟨o,k o z,r⟩⟩
theorem XS.xo(xs:XS H h lo e C dd):XO e C dd h:=by
 obtain⟨oe,vs,q,c,d,z,_⟩:=xs.obj
 exact⟨oe,q,c,d,by unfold PySem.W.notCls;rw[z]⟩
theorem XS.tb(xs:XS H h lo e C dd){b:Addr}(t:wB h e b):H b=none/\lo<=b/\b≠e/\∃oT ts,h.get? b=some oT/\oT.data=.fields ts:=by
 obtain⟨oe,vs,q,c,d,z,_,k⟩:=xs.obj
 obtain⟨oe',vs',q',z',k'⟩:=t
 rw[q]at q';cases q'
 rw[z]at z';cases z'
 rcases k with k|⟨T,oT,ts,k,ne,l,n,g,gd,_⟩
 ·rw[k]at k';cases k'
 ·rw[k]at k'
  cases k'
  exact⟨n,l,ne,oT,ts,g,gd⟩
theorem Mv.hok(m:Mv fs h h' e)(ok:HOk P w H h)(xs:XS H h lo e C dd)(xs':XS H h' lo e C dd)(hf:∀b∈fs,H b=none):HOk P w H h':=λa o q=>by
 by_cases ae:a=e
 ·subst ae
  rw[xs.trk]at q;cases q
  exact xs'.xo.ok
 ·refine(ok a o q).stay (λb u hb z=>?_) (λ_ z=>z) λ_ _ z=>z
  have hbH:∃v,H b=some v:=by
   rcases hb with rfl|hb
   ·exact⟨o,q⟩
   ·exact⟨_,hb⟩
  obtain⟨v,hv⟩:=hbH
  refine m.keep b u z (λy=>by rw[hf b y]at hv;cases hv) (λy=>?_) λy=>by rw[(xs.tb y).1]at hv;cases hv
  subst y
  rcases hb with rfl|hb
  ·exact ae rfl
  ·rw[xs.trk]at hb;cases hb
end
def CX1(P:Program)(w:World):CXT:=λouter H s E e s'=>∃a C dd H',e=.ref a/\s'.os=s.os/\AllBare s'.gens/\Un (frs outer) [] H H' s.heap s'.heap/\HOk P w H' s'.heap/\XS H' s'.heap s.heap.objs.size a C dd/\E (.ref C) dd H'
theorem DA{K:Fg}{mg:zzl}{N:List Str}{qual:Str}{scope:Scope}{f:Addr}{cd:Value}{E:XK}
  {pins:zzk} {Z:L2.St} {H':Hp} {s':Shared} {a C:Addr} {dd:Option Addr} (I:Inv (oS (CX1 P w) P w K mg base N qual scope f cd A outer s H E) pins Z H' s') (xs:XS H' s'.heap s.heap.objs.size a C dd) (hE:E (.ref C) dd H') :
  (oS (CX1 P w) P w K mg base N qual scope f cd A outer s H E).xe (.ref a) s':=by
 have hF:=I.stack
 have hS:=I.stkFree
 refine xF (base:=base) (L:=s.heap.objs.size) (P:=P) (w:=w) (s:=s') I.ok.frames hF rfl I.hok xs λh1 m xs1=>?_
 have un:Un (frs outer) [] H H' s.heap s'.heap:=I.base
 have lt:∀b o,s.heap.get? b=some o->b<s.heap.objs.size:=λb o q=>ba q
 have ne:∀b o,s.heap.get? b=some o->b≠a:=λb o q=>io (cr (lt b o q) xs.yg)
 have nt:∀b o,s.heap.get? b=some o->¬ wB s'.heap a b:=λb o q z=>absurd (cr (lt b o q) (xs.tb z).2.1) (se _)
 refine⟨a,C,dd,H',rfl,I.os,I.bare,⟨λb o q n hb hx=>?_,λb o q n hb hx=>?_,un.free,λb o q hx=>?_,un.tups,un.frzs,un.tbls⟩,m.hok I.hok xs xs1 hS,xs1,hE⟩
 ·refine m.keep b o (un.keep b o q n hb hx) (λz=>?_) (ne b o q) (nt b o q)
  rcases List.mem_cons.mp (I.stkSub b z)with y|y
  ·exact absurd (lt b o q) (by rw[y];exact se _)
  ·exact hb y
 ·obtain⟨sl,z⟩:=un.slot b o q n hb hx
  obtain⟨sl',z'⟩:=m.slot b _ z (ne b o q) (nt b o q)
  exact⟨sl',z'⟩
 ·obtain⟨o',z⟩:=un.there b o q hx
  exact m.there b o' z
end L4
namespace L4
open PySem PySem.Spec PyProof.Rows L2 L3 PySem.W
variable {C fI:Addr}{K:Frag}{s:Shared}{od:Option Obj}
theorem Gd{D:Addr}(c:XC K C D fI):∃cd,PySem.W.clsIn K C=some cd/\cd.mro=.ref C::.ref D::bmV/\cd.hasDict=true:=by
 obtain⟨nm,q,N,bs,sn,sub,ab,col,dd,k0,k1,k2,k3,k5,lk⟩:=c.obj
 refine⟨_,by unfold PySem.W.clsIn;rw[lk],rfl,rfl⟩
section
variable {prog:Program} {w:World} {A:Around} {E:zzj} {x:Addr} {ox:Obj}
theorem DR{Q:Option Value->Shared->Prop}(X:K.In s.heap)(I:PySem.W.InstAt s.heap x ox C od)(hga:findIn K (.ref C) "__getattribute__" = some (some (.builtin "BaseException.__getattribute__")))(hgr:findIn K (.ref C) "__getattr__" = some none)(hb:mroIn K C (.type "BaseException")=some true)
  (hf:findObj K C od "__class__" = some (.bind (.builtin "getset_descriptor.__get__") (.builtin "object.__class__"))) (hm:mroIn K C (.type "object")=some true) (h:Q (some (.ref C)) { s with toks:=s.toks+1 }):wpAny (model prog w) A (getAttr? (.ref x) "__class__") Q E s:=by
 obtain⟨hp,g,d,t,os⟩:=s
 have L0:=I.type (M:=model prog w)
 have L1:=looks_findIn (M:=model prog w) X hga
 have L2:=looks_findIn (M:=model prog w) X hgr
 have L3:=looks_find (M:=model prog w) X I hf
 have L4:=looks_mroIn (M:=model prog w) X hb
 have bnd:=F.attr_ValueError.ga.bind (.ref x)
 have ok:=F.args_bexc_ga (.ref x) (.str "__class__" t)
 have kd:builtinKind "BaseException.__getattribute__" = some .slot:=by decide +kernel
 have sp:splitId "BaseException.__getattribute__" = some ("BaseException", "__getattribute__"):=by decide +kernel
 unfold getAttr? getAttrBy?
 refine zza (wpAny_mkText (zza (ES ?_)))
 unfold getAttrBy
 refine Cn (zza (L0.at (zza (L1.at ?_))))
 show wpAny _ _ (getAttrByItsOwn _ _ _ _ _ _) _ _ _
 unfold getAttrByItsOwn
 repeat (any_goals (first|assumption|with_reducible refine L0.at ?_|with_reducible refine L2.at ?_|wp_step))
 refine codeAny_call_builtin F.attr_ValueError.ga.plain F.entry_bexc_ga ?_
 simp only[checkBuiltinCall,kd,sp]
 refine zza ?_
 unfold isInstance
 refine zza (L0.at (L4.at ?_))
 repeat (any_goals (first|assumption|with_reducible refine L0.at ?_|with_reducible refine L3.at ?_|wp_step))
 refine class_get (s:=⟨hp,g,d,t+1,os⟩) (ox:=ox) (od:=od) X I hm ?_
 exact zzb (handed_on rfl (zzb h))
theorem B0{D:Addr}(c:XC K C D fI)(hb:mroIn K C (.type "BaseException")=some true)
  (hf:findObj K C od "__class__" = some (.bind (.builtin "getset_descriptor.__get__") (.builtin "object.__class__"))) (hm:mroIn K C (.type "object")=some true) :
  KitX K (.ref x) (.ref C) (λh=>PySem.W.InstAt h x ox C od) where
 ty:=λ_ _ _ I=>I.type
 it:=λ_ _ X _=>by
  obtain⟨nm,q,N,bs,sn,sub,ab,col,dd,k0,k1,k2,k3,k5,ho⟩:=c.obj
  intro A' Q' E' s' k q
  unfold isType loadHead
  exact zza (wpAny_loadPart (k _ _ (X _ _ ho)) (zzb q))
 ne:=λh tp dd its n sl X htp=>by
  obtain⟨nm,q,N,bs,sn,sub,ab,col,dd',k0,k1,k2,k3,k5,ho⟩:=c.obj
  refine Bool.eq_false_iff.mpr λq=>?_
  have e:C=tp:=Value.ref.inj (beq_iff_eq.mp q)
  subst e
  have z:=(X _ _ ho).symm.trans htp
  injection z with z
  injection z with z1 z2 z3
  cases z3
 ca:=λX I k=>DR X I c.ga c.gr hb hf hm k
end
def XAt(H:Hp)(a C:Addr)(dd:Option Addr):Prop:=H a=some (.ext (XO a C dd))/\∀dx,dd=some dx->∃fv,H dx=some (.ext (XD dx fv))
theorem DJ{X:Cx}{pins:zzk}{Z:L2.St}{H:Hp}{a:Addr}{dd:Option Addr}(I:Inv X pins Z H s)(h:XAt H a C dd):∃ox od,PySem.W.InstAt s.heap a ox C od:=by
 obtain⟨h1,h2⟩:=h
 obtain⟨⟨oe,q1,q2,q3,q4⟩,_⟩:=I.hok a _ h1
 cases dd with
 | none=>exact⟨oe,none,q1,q2,q4,by rw[q3];trivial⟩
 | some dx =>
  obtain⟨fv,h2⟩:=h2 dx rfl
  obtain⟨⟨mA,na,wi,r⟩,_⟩:=I.hok dx _ h2
  obtain⟨od,z1,hlk⟩:=zU na
  exact⟨oe,some od,q1,q2,q4,by rw[q3];exact z1⟩
theorem rX{name:Str}{a g:Value}(hc:(clsIn K C).isSome=true)(ha:findIn K (.ref C) name=some (some a))(hg:specialIn K a "__get__" = some (some g))(ht:takesIn K a=some true):findObj K C od name=some (.bind g a):=by
 obtain⟨cd,hc⟩:=Option.isSome_iff_exists.mp hc
 unfold findObj
 rw[hc,JC,ha,JC]
 simp[hg,ht]
section
variable {X:Cx} {pins:zzk} {Z:L2.St} {H:Hp} {a D:Addr} {dd:Option Addr} {Q:zzj} {E:zzj} {b:Bool}
theorem xI(c:XC X.K C D fI)(kc:KC X.K C){ox:Obj}:KitX X.K (.ref a) (.ref C) (λh=>PySem.W.InstAt h a ox C od):=by
 obtain⟨cd,k1,k2,k3⟩:=Gd c
 refine B0 c (by unfold PySem.W.mroIn;rw[k1,JC,k2];rfl) (rX (by rw[k1];rfl) kc.ha kc.hn kc.htk) (by unfold PySem.W.mroIn;rw[k1,JC,k2];rfl)
theorem xL(I:Inv X pins Z H s)(c:XC X.K C D fI)(kc:KC X.K C)(h:XAt H a C dd){cv:Value}(e:kitOne X.K (.ref C) cv=some b)(q:∀tk,Q (.bool b) { s with toks:=tk }) :
  wpAny (model X.prog X.w) X.A (call (.builtin "isinstance") [.ref a,cv]) Q E s:=by
 obtain⟨ox,od,It⟩:=DJ I h
 exact kia_one (xI c kc) I.kIn It e (λz=>nomatch z) q
end
end L4
namespace L4
open PySem PySem.Spec PyProof.Rows L2 L3
variable {F H F' H':Hp}{X:Cx}{K:Fg}{Z:L2.St}{ρ:En}{G:Gh}{i k n j:Nat}{S α:Type}{vs:List V}{x y:Str}{e tg b:Expr}{v:V}{pos p pos':Pos}{r:R2}{es:List Expr}{c:OC}{Q:VK}{a:Addr}{T:String}{ex:Option Addr}{R:It->Hp->Prop}{fd:FuncData}{ps:List Str}{E:XK}{op:CmpOp}{s:Shared}{st:Stmt}{P:Program}{w:World}{mg:zzl}{base:Heap}{A:Around}
structure Ex where
 cls:Str
 fs:List (Str×D)
inductive M(S:Type) where
 | ret (s:S)
 | exc (x:Ex)
 | bad
def M.on{S T:Type}(m:M S)(x:Ex->M T)(k:S->M T):M T:=match m with
 | .ret s=>k s
 | .exc e=>x e
 | .bad=>.bad
def bd{S T:Type}(m:M S)(k:S->M T):M T:=m.on .exc k
def oM{S:Type}(o:Option S):M S:=match o with
 | some s=>.ret s
 | none=>.bad
section
variable {T U:Type}
@[simp] theorem Fz(s:S)(x:Ex->M T)(k:S->M T):(M.ret s).on x k=k s:=rfl
@[simp] theorem cJ(s:S)(k:S->M T):bd (.ret s) k=k s:=rfl
@[simp] theorem cT(s:S):oM (some s)=.ret s:=rfl
end
abbrev Pu(α:Type):=En->M α
def XR(K:Fg)(F:Hp)(C:Addr)(dd:Option Addr)(x:Ex):Prop:=XQ K C x.cls /\
 ∃fv,FX F dd fv/\Paired (λ(p:Str×V) (q:Str×D)=>p.1=q.1/\Rep K F p.2 q.2) fv x.fs
structure FzOk(K:Fg)(F:Hp)(Z:L2.St)(ρ:En):Prop where
 ln:Z.length=ρ.length
 fz:∀(i:Nat) (d:D),ρ[i]? = some (some (AV.fz d))->∃v,Z[i]? = some (some v)/\Rep K F v d
theorem _root_.L3.StOk.fzok(S:StOk K G F Z H ρ)(s:Same F F'):FzOk K F' Z ρ:=⟨S.ln,λi d q=>by
 obtain⟨v,e,r⟩:=S.fz i d q
 exact⟨v,e,r.mono s⟩⟩
structure GOk(G:Gh)(F H:Hp):Prop where
 fh:Same F H
 oh:Same G.O H
 fo:∀b o,G.O b=some o->F b=none/\CM o
 fb:Same G.B F
def XW(X:Cx)(G:Gh)(F:Hp)(ρ:En)(x:Ex):Prop:=∀F' H' s' a C dd pins Z,GOk G F' H'->FzOk X.K F' Z ρ->Inv X pins Z H' s'->XS H' s'.heap X.s₀.heap.objs.size a C dd->(∀p∈X.pn++pins,¬ wB s'.heap a p.1)->XR X.K F' C dd x->X.xe (.ref a) s'
theorem XW.mono{x:Ex}(s:Same F F')(h:XW X G F ρ x):XW X G F' ρ x:=h
def W(X:Cx)(G:Gh)(F:Hp)(Z:L2.St)(ρ:En){α:Type}(m:M α)(C:α->Hp->Hp->Prop):Prop:=match m with
 | .ret a=>∀F' H',Same F F'->StOk X.K G F' Z H' ρ->C a F' H'
 | .exc x=>XW X G F ρ x
 | .bad=>False
section
variable {β:Type} {m:M α} {k:α->M β} {C C':α->Hp->Hp->Prop}
theorem W.up{C:β->Hp->Hp->Prop}{m:M β}(s:Same F F')(h:W X G F Z ρ m C):W X G F' Z ρ m C:=by
 cases m with
 | ret a=>exact λF2 H2 s2 S2=>h F2 H2 (s.trans s2) S2
 | exc x=>exact XW.mono (X:=X) (G:=G) (ρ:=ρ) (x:=x) s h
 | bad=>exact h
theorem W.bind{C:β->Hp->Hp->Prop}(h:W X G F Z ρ (bd m k) C):W X G F Z ρ m λa F' H'=>W X G F' Z ρ (k a) C:=by
 cases m with
 | ret a=>exact λF2 H2 s2 S2=>W.up s2 h
 | exc x=>exact h
 | bad=>exact h
theorem W.imp(h:W X G F Z ρ m C)(w:∀a F' H',Same F F'->StOk X.K G F' Z H' ρ->C a F' H'->C' a F' H'):W X G F Z ρ m C':=by
 cases m with
 | ret a=>exact λF2 H2 s2 S2=>w a F2 H2 s2 S2 (h F2 H2 s2 S2)
 | exc x=>exact h
 | bad=>exact h
theorem W.opt{o:Option α}(h:W X G F Z ρ (oM o) C):∃a,o=some a/\∀F' H',Same F F'->StOk X.K G F' Z H' ρ->C a F' H':=by
 cases o with
 | none=>exact h.elim
 | some a=>exact⟨a,rfl,h⟩
end
@[irreducible] def ij(X:Cx)(e:Expr):TE:=λZ H Q=>∀(pins:zzk) (s:Shared),Inv X pins Z H s->wpAny (model X.prog X.w) X.A (eval e X.env) (EP X pins Z Q) X.xe s
@[irreducible] def sG(X:Cx)(e:Expr):TT:=λZ H Q=>∀(pins:zzk) (s:Shared),Inv X pins Z H s->wpAny (model X.prog X.w) X.A (isTrue e X.env (eval e X.env)) (TP X pins Z Q) X.xe s
@[irreducible] def sE(X:Cx)(e:Expr):TT:=λZ H Q=>∀(whole:Sem Value) (pins:zzk) (s:Shared),Inv X pins Z H s->wpAny (model X.prog X.w) X.A (isTrue e X.env whole) (TP X pins Z Q) X.xe s
@[irreducible] def j4(X:Cx)(es:List Expr):TA:=λZ H Q=>∀(pos:Pos) (pins:zzk) (s:Shared),Inv X pins Z H s->wpAny (model X.prog X.w) X.A (spliced (backTo pos (starEach es X.env))) (AP X pins Z Q) X.xe s
section
theorem bi:PE X e (ij X e):=λpins s Z H Q I h=>by unfold ij at h;exact h pins s I
theorem gM:PT X e (sG X e):=λpins s Z H Q I h=>by unfold sG at h;exact h pins s I
theorem qc:PW X e (sE X e):=λwh pins s Z H Q I h=>by unfold sE at h;exact h wh pins s I
theorem dQ:PA X es (j4 X es):=λpos pins s Z H Q I h=>by unfold j4 at h;exact h pos pins s I
theorem sem{t:TE}(h:PE X e t)(q:t Z H Q):ij X e Z H Q:=by unfold ij;exact λpins s I=>h pins s Z H Q I q
theorem rK{t:TT}{Q:Bool->Hp->Prop}(h:PT X e t)(q:t Z H Q):sG X e Z H Q:=by unfold sG;exact λpins s I=>h pins s Z H Q I q
theorem zC{t:TT}{Q:Bool->Hp->Prop}(h:PW X e t)(q:t Z H Q):sE X e Z H Q:=by unfold sE;exact λwh pins s I=>h wh pins s Z H Q I q
theorem w6{t:TA}{Q:List V->Hp->Prop}(h:PA X es t)(q:t Z H Q):j4 X es Z H Q:=by unfold j4;exact λpos pins s I=>h pos pins s Z H Q I q
end
def ko(ρ:En)(i:Nat):Option (List D):=match ρ[i]? with
 | some (some (.ol (.l ds)))=>some ds
 | some (some (.op (.l ds)))=>some ds
 | _=>none
theorem mB{ds:List D}(h:ko ρ i=some ds):own ρ i (.l ds):=by
 unfold ko at h
 split at h
 ·rename_i q;cases h;exact .inl q
 ·rename_i q;cases h;exact .inr q
 ·cases h
def VO(K:Fg)(F:Hp)(Z:L2.St)(ρ:En)(v:V)(d:D):Prop:=Rep K F v d\/∃i c,own ρ i c/\Z[i]? = some (some v)/\d=c.d/\c.isI=false
inductive VOs(K:Fg)(F:Hp)(Z:L2.St)(ρ:En):List V->List D->Prop
 | nil:VOs K F Z ρ [] []
 | cons {v d vs ds}:VO K F Z ρ v d->VOs K F Z ρ vs ds->VOs K F Z ρ (v::vs) (d::ds)
theorem VO.mono{d:D}(s:Same F F')(h:VO K F Z ρ v d):VO K F' Z ρ v d:=h.imp (Rep.mono s) id
def OR(K:Fg)(F H:Hp)(v:V)(d:D):Prop:=Rep K F v d\/∃a c,v=.ref a/\d=c.d/\Held K F H a c/\c.isI=false
inductive ORs(K:Fg)(F H:Hp):List V->List D->Prop
 | nil:ORs K F H [] []
 | cons {v d vs ds}:OR K F H v d->ORs K F H vs ds->ORs K F H (v::vs) (d::ds)
theorem VO.or{d:D}(S:StOk K G F Z H ρ)(h:VO K F Z ρ v d):OR K F H v d:=by
 rcases h with h|⟨i,c,ho,hv,rfl,hI⟩
 ·exact .inl h
 ·obtain⟨a,e1,oa⟩:=S.ow i _ ho
  rw[hv]at e1
  injection e1 with e1;injection e1 with e1
  exact .inr ⟨a,c,e1,rfl,oa.he,hI⟩
theorem VOs.ors(S:StOk K G F Z H ρ):∀{vs ds},VOs K F Z ρ vs ds->ORs K F H vs ds
 | _,_,.nil=>.nil
 | _,_,.cons h t=>.cons (h.or S) (t.ors S)
section
variable {ds:List D}
theorem OR.rep{d:D}(s:Same F H)(h:OR K F H v d):Rep K H v d:=by
 rcases h with h|⟨a,c,rfl,rfl,h1,hI⟩
 ·exact h.mono s
 ·obtain⟨o,e,r⟩:=DK hI h1;exact r H s e
theorem OR.list(s:Same F H)(h:OR K F H v (.list ds)):∃a vs,v=.ref a/\SqL K H a vs/\RepL K F vs ds:=by
 rcases h with h|⟨a,c,e,e2,h1,hI⟩
 ·obtain⟨a,vs,e,h1,h2⟩:=h.lst_inv
  exact⟨a,vs,e,s.seq h1,h2⟩
 ·cases c<;>cases e2
  obtain⟨vs,h1,h2⟩:=h1
  exact⟨a,vs,e,.inl (.inl h1),h2⟩
theorem OR.tuple(s:Same F H)(h:OR K F H v (.tuple ds)):∃a vs,v=.ref a/\SqT K H a vs/\RepL K F vs ds:=by
 rcases h with h|⟨a,c,e,e2,h1,hI⟩
 ·obtain⟨a,vs,e,h1,h2⟩:=h.tup_inv
  exact⟨a,vs,e,SqT.of (s _ _ h1),h2⟩
 ·cases c<;>cases e2
theorem OR.tup'(h:OR K F H v (.tuple ds)):Rep K F v (.tuple ds):=by
 rcases h with h|⟨a,c,e,e2,h1,hI⟩
 ·exact h
 ·cases c<;>cases e2
theorem OR.int{i:Int}(h:OR K F H v (.int i)):v=.int i:=by
 rcases h with h|⟨a,c,e,e2,h1,hI⟩
 ·exact h.inv
 ·cases c<;>cases e2
theorem OR.bool{i:Bool}(h:OR K F H v (.bool i)):v=.bl i:=by
 rcases h with h|⟨a,c,e,e2,h1,hI⟩
 ·exact h.inv
 ·cases c<;>cases e2
theorem OR.str{i:Str}(h:OR K F H v (.str i)):v=.str i:=by
 rcases h with h|⟨a,c,e,e2,h1,hI⟩
 ·exact h.inv
 ·cases c<;>cases e2
theorem OR.none(h:OR K F H v .none):v=.non:=by
 rcases h with h|⟨a,c,e,e2,h1,hI⟩
 ·exact h.inv
 ·cases c with
  | i _ _ _=>cases hI
  | n _=>cases hI
  | _=>cases e2
theorem cW{d:D}{ds:List D}(h:ORs K F H vs (d::ds)):∃v r,vs=v::r/\OR K F H v d/\ORs K F H r ds:=by
 cases h with|cons a b=>exact⟨_,_,rfl,a,b⟩
theorem ek(h:ORs K F H vs []):vs=[]:=by cases h;rfl
end
def AP(X:Cx)(e:Expr)(p:Pu D):Prop :=
 ∀(G:Gh) (F:Hp) (Z:L2.St) (H:Hp) (ρ:En) (Q:VK),StOk X.K G F Z H ρ->W X G F Z ρ (p ρ) (λd F' H'=>∀v,Rep X.K F' v d->Q v H')->ij X e Z H Q
def AO(X:Cx)(e:Expr)(p:Pu D):Prop :=
 ∀(G:Gh) (F:Hp) (Z:L2.St) (H:Hp) (ρ:En) (Q:VK),StOk X.K G F Z H ρ->W X G F Z ρ (p ρ) (λd F' H'=>∀v,VO X.K F' Z ρ v d->Q v H')->ij X e Z H Q
def AT(X:Cx)(e:Expr)(p:Pu Bool):Prop :=
 ∀(G:Gh) (F:Hp) (Z:L2.St) (H:Hp) (ρ:En) (Q:Bool->Hp->Prop),StOk X.K G F Z H ρ->W X G F Z ρ (p ρ) (λd F' H'=>Q d H')->sG X e Z H Q
def AW(X:Cx)(e:Expr)(p:Pu Bool):Prop :=
 ∀(G:Gh) (F:Hp) (Z:L2.St) (H:Hp) (ρ:En) (Q:Bool->Hp->Prop),StOk X.K G F Z H ρ->W X G F Z ρ (p ρ) (λd F' H'=>Q d H')->sE X e Z H Q
def AB(X:Cx)(e:Expr)(p:Pu Bool):Prop :=
 ∀(G:Gh) (F:Hp) (Z:L2.St) (H:Hp) (ρ:En) (Q:VK),StOk X.K G F Z H ρ->W X G F Z ρ (p ρ) (λd F' H'=>Q (.bl d) H')->ij X e Z H Q
def AA{α:Type}(X:Cx)(es:List Expr)(m:(List D->M α)->En->M α):Prop :=
 ∀(G:Gh) (F:Hp) (Z:L2.St) (H:Hp) (ρ:En) (Q:List V->Hp->Prop) (k:List D->M α) (C:α->Hp->Hp->Prop),StOk X.K G F Z H ρ->W X G F Z ρ (m k ρ) C ->
  (∀ds vs F' H',Same F F'->StOk X.K G F' Z H' ρ->vs.length=es.length->RepL X.K F' vs ds->W X G F' Z ρ (k ds) C->Q vs H')->j4 X es Z H Q
def AAo{α:Type}(X:Cx)(es:List Expr)(m:(List D->M α)->En->M α):Prop :=
 ∀(G:Gh) (F:Hp) (Z:L2.St) (H:Hp) (ρ:En) (Q:List V->Hp->Prop) (k:List D->M α) (C:α->Hp->Hp->Prop),StOk X.K G F Z H ρ->W X G F Z ρ (m k ρ) C ->
  (∀ds vs F' H',Same F F'->StOk X.K G F' Z H' ρ->VOs X.K F' Z ρ vs ds->W X G F' Z ρ (k ds) C->Q vs H')->j4 X es Z H Q
def Frs(K:Fg)(G:Gh)(F:Hp)(Z:L2.St)(H:Hp)(ρ:En)(v:V)(c:OC):Prop:=∃a,v=.ref a/\OwnAt K G F H a c/\∀(i:Nat) (e:OC),own ρ i e->Z[i]? ≠ some (some (V.ref a))
def AL(X:Cx)(e:Expr)(p:Pu (List D)):Prop :=
 ∀(G:Gh) (F:Hp) (Z:L2.St) (H:Hp) (ρ:En) (Q:VK),StOk X.K G F Z H ρ->W X G F Z ρ (p ρ) (λds F' H'=>∀v,Frs X.K G F' Z H' ρ v (.l ds)->Q v H')->ij X e Z H Q
def G6(i:Nat):Pu D:=λρ=>match ρ[i]? with
 | some (some (.fz d))=>.ret d
 | _=>.bad
def Ga(c:OC):M D:=match c with
 | .i _ _ _=>.bad
 | .n _=>.bad
 | c=>.ret c.d
def Ej(i:Nat):Pu D:=λρ=>match ρ[i]? with
 | some (some (.ol c))=>Ga c
 | some (some (.op c))=>Ga c
 | _=>.bad
def zL(d:D):Pu D:=λ_=>.ret d
def Hb(f:D->D->Option D)(a b:Pu D):Pu D:=λρ=>bd (a ρ) λx=>bd (b ρ) λy=>oM (f x y)
def Em(f:D->D->Option Bool)(a b:Pu D):Pu Bool:=λρ=>bd (a ρ) λx=>bd (b ρ) λy=>oM (f x y)
def pUn(f:D->Option D)(a:Pu D):Pu D:=λρ=>bd (a ρ) λx=>oM (f x)
abbrev Pa(α:Type):=(List D->M α)->En->M α
def Ha{α:Type}:Pa α:=λk _=>k []
def Ek{α:Type}(a:Pu D)(r:Pa α):Pa α:=λk ρ=>bd (a ρ) λx=>r (λxs=>k (x::xs)) ρ
def dw{S:Type}(ds:List S):M (List S):=if ds.length<=sizeLine then .ret ds else .bad
def Iz(ps:Pa D):Pu D:=λρ=>ps (λds=>.ret (.tuple ds)) ρ
def IC(ps:Pa (List D)):Pu (List D):=λρ=>ps (λds=>.ret ds) ρ
theorem nQ(h:n<=1000):n<=sizeLine:=eg h (by decide)
def El(f:List D->Option D)(ps:Pa D):Pu D:=λρ=>ps (λds=>oM (f ds)) ρ
def Fv(f:List D->Option Bool)(ps:Pa Bool):Pu Bool:=λρ=>ps (λds=>oM (f ds)) ρ
def nq(f:List D->Option (List D))(ps:Pa (List D)):Pu (List D):=λρ=>ps (λds=>oM (f ds)) ρ
def pB(p:Pu Bool):Pu D:=λρ=>bd (p ρ) λb=>.ret (.bool b)
def pZ(p:Pu (List D)):Pu D:=λρ=>bd (p ρ) λds=>.ret (.list ds)
def asB(d:D):M Bool:=match d with
 | .bool b=>.ret b
 | _=>.bad
def IH(p:Pu D):Pu Bool:=λρ=>bd (p ρ) asB
def dP:D->Option Bool
 | .none=>some false
 | .bool b=>some b
 | .int i=>some (i != 0)
 | .str x=>if x.length<=sizeLine then some ((x.length:Int) != 0)else none
 | .list ds=>some (!ds.isEmpty)
 | .tuple ds=>some (!ds.isEmpty)
 | .dict _=>none
def G8(p:Pu D):Pu Bool:=λρ=>bd (p ρ) λd=>oM (dP d)
def Hc(a b:Pu Bool):Pu Bool:=λρ=>bd (a ρ) λt=>if t then b ρ else .ret false
def pOr(a b:Pu Bool):Pu Bool:=λρ=>bd (a ρ) λt=>if t then .ret true else b ρ
def Fu(a:Pu Bool):Pu Bool:=λρ=>bd (a ρ) λt=>.ret (!t)
def pIf{α:Type}(c:Pu Bool)(a b:Pu α):Pu α:=λρ=>bd (c ρ) λt=>if t then a ρ else b ρ
def OpD(K:Fg)(r:R2)(f:D->D->Option D):Prop :=
 ∀(G:Gh) (F:Hp) (Z:L2.St) (H:Hp) (ρ:En) (x y:V) (dx dy:D) (res:D) (Q:VK),StOk K G F Z H ρ->OR K F H x dx->OR K F H y dy->f dx dy=some res ->
  (∀v F' H',Same F F'->StOk K G F' Z H' ρ->Rep K F' v res->Q v H')->r x y H Q
def OpB(K:Fg)(r:R2)(f:D->D->Option Bool):Prop :=
 ∀(G:Gh) (F:Hp) (Z:L2.St) (H:Hp) (ρ:En) (x y:V) (dx dy:D) (res:Bool) (Q:VK),StOk K G F Z H ρ->OR K F H x dx->OR K F H y dy->f dx dy=some res->Q (.bl res) H->r x y H Q
def UnD(K:Fg)(r:V->Hp->VK->Prop)(f:D->Option D):Prop :=
 ∀(G:Gh) (F:Hp) (Z:L2.St) (H:Hp) (ρ:En) (x:V) (dx:D) (res:D) (Q:VK),StOk K G F Z H ρ->OR K F H x dx->f dx=some res ->
  (∀v F' H',Same F F'->StOk K G F' Z H' ρ->Rep K F' v res->Q v H')->r x H Q
def rH(K:Fg)(r:List V->Hp->VK->Prop)(f:List D->Option D):Prop :=
 ∀(G:Gh) (F:Hp) (Z:L2.St) (H:Hp) (ρ:En) (xs:List V) (ds:List D) (res:D) (Q:VK),StOk K G F Z H ρ->ORs K F H xs ds->f ds=some res ->
  (∀v F' H',Same F F'->StOk K G F' Z H' ρ->Rep K F' v res->Q v H')->r xs H Q
def yk(K:Fg)(r:List V->Hp->VK->Prop)(f:List D->Option Bool):Prop :=
 ∀(G:Gh) (F:Hp) (Z:L2.St) (H:Hp) (ρ:En) (xs:List V) (ds:List D) (res:Bool) (Q:VK),StOk K G F Z H ρ->ORs K F H xs ds->f ds=some res->Q (.bl res) H->r xs H Q
def EN(K:Fg)(r:List V->Hp->VK->Prop)(f:List D->Option (List D)):Prop :=
 ∀(G:Gh) (F:Hp) (Z:L2.St) (H:Hp) (ρ:En) (xs:List V) (ds:List D) (res:List D) (Q:VK),StOk K G F Z H ρ->ORs K F H xs ds->f ds=some res ->
  (∀v F' H',Same F F'->StOk K G F' Z H' ρ->Frs K G F' Z H' ρ v (.l res)->Q v H')->r xs H Q
def isStar:Expr->Bool
 | .Starred _ _=>true
 | _=>false
theorem tW{env:Env}:∀{e:Expr} {es:List Expr},isStar e=false->starEach (e::es) env=(false,eval e env)::starEach es env:=by
 intro e es h
 cases e<;>first|rfl|cases h
def Dz(o:Option NameKind):Bool:=match o with
 | some .local=>true
 | some .cell=>true
 | _=>false
theorem lo{sc:Scope}(h:Dz (sc.names.lookup x)=true):L2.Loc sc x:=by
 unfold L2.Loc
 generalize sc.names.lookup x=o at *
 unfold Dz at h
 split at h
 ·exact .inl rfl
 ·exact .inr rfl
 ·cases h
def Gv(o:Option NameKind):Bool:=match o with
 | some .free=>true
 | o=>Dz o
theorem vi{sc:Scope}(h:Gv (sc.names.lookup x)=true):L2.Vis sc x:=by
 unfold L2.Vis
 generalize sc.names.lookup x=o at *
 unfold Gv Dz at h
 split at h
 ·exact .inr (.inr rfl)
 ·split at h
  ·exact .inl rfl
  ·exact .inr (.inl rfl)
  ·cases h
section
variable {a c:Expr} {rest:List Expr} {p pa pb:Pu D} {ta tb tc:Pu Bool} {ps:Pa D} {pb':Pa Bool} {pl:Pa (List D)} {pα:Pa α} {qs:Pu (List D)}
theorem af(hN:X.N[i]? = some x)(hv:Vis X.env.scope x)(hd:(x==("__debug__" : Str))=false:=by decide)(hcd:(x==("__classdict__" : Str))=false:=by decide):AP X (.Name x pos) (G6 i) :=
 λG F Z H ρ Q S w=>sem (qi hN hv hd hcd)<|by
  unfold G6 at w
  split at w
  ·rename_i d q
   obtain⟨v,e1,r1⟩:=S.fz i d q
   exact⟨v,e1,w F H (Same.refl _) S v r1⟩
  ·exact w.elim
theorem dJ(hN:X.N[i]? = some x:=by rfl)(hv:Vis X.env.scope x:=by exact vi rfl)(hd:(x==("__debug__" : Str))=false:=by decide)(hcd:(x==("__classdict__" : Str))=false:=by decide):AO X (.Name x pos) (Ej i) :=
 λG F Z H ρ Q S w=>sem (qi hN hv hd hcd)<|by
  have go:∀c:OC,own ρ i c->W X G F Z ρ (Ga c) (λd F' H'=>∀v,VO X.K F' Z ρ v d->Q v H')->Gw i Z H Q:=λc ho w=>by
   obtain⟨a,e1,oa⟩:=S.ow i _ ho
   cases c with
   | i _ _ _=>exact w.elim
   | n _=>exact w.elim
   | _=>exact⟨_,e1,w F H (Same.refl _) S _ (.inr ⟨i,_,ho,e1,rfl,rfl⟩)⟩
  unfold Ej at w
  split at w
  ·rename_i ds q;exact go ds (.inl q) w
  ·rename_i ds q;exact go ds (.inr q) w
  ·exact w.elim
theorem ao(h:AP X e p):AO X e p:=λG F Z H ρ Q S w=>h G F Z H ρ Q S (w.imp λd F' H' _ _ q v r=>q v (.inl r))
theorem rh{d:D}(h:PE X e (tC v))(r:∀F,Rep X.K F v d):AP X e (zL d) :=
 λG F Z H ρ Q S w=>sem h (w F H (Same.refl _) S v (r F))
theorem aj{i j}:AP X (.Constant (.int i) j pos) (zL (.int i)):=rh xn λ_=>.int _
theorem cy{i j}:AP X (.Constant (.bool i) j pos) (zL (.bool i)):=rh G5 λ_=>.bl _
theorem aM{i j}:AP X (.Constant (.str i) j pos) (zL (.str i)):=rh Fk λ_=>.str _
theorem eN{j}:AP X (.Constant .none j pos) (zL .none):=rh Fp λ_=>.non
theorem uX{f:D->D->M α}{C:α->Hp->Hp->Prop}(ha:AO X a pa)(hb:AO X b pb)(S:StOk X.K G F Z H ρ)(w:W X G F Z ρ (bd (pa ρ) λx=>bd (pb ρ) λy=>f x y) C)
  (k:∀x y dx dy F' H',Same F F'->StOk X.K G F' Z H' ρ->OR X.K F' H' x dx->OR X.K F' H' y dy->W X G F' Z ρ (f dx dy) C->r x y H' Q):tOp r (ij X a) (ij X b) Z H Q :=
 ha G F Z H ρ _ S (w.bind.imp λdx F1 H1 s1 S1 w1 x hx=>hb G F1 Z H1 ρ _ S1 (w1.bind.imp λdy F2 H2 s2 S2 w2 y hy=>k x y dx dy F2 H2 (s1.trans s2) S2 ((hx.mono s2).or S2) (hy.or S2) w2))
theorem aJ{op:Operator}{f:D->D->Option D}(ho:OpR X (binaryOp op) r)(hf:OpD X.K r f)(ha:AO X a pa)(hb:AO X b pb):AP X (.BinOp a op b pos) (Hb f pa pb) :=
 λG F Z H ρ Q S w=>sem (By ho bi bi) (uX ha hb S w λx y dx dy F' H' s' S' hx hy w'=>by
  obtain⟨res,e,k⟩:=w'.opt
  exact hf G F' Z H' ρ x y dx dy res Q S' hx hy e λv F2 H2 s2 S2 r2=>k F2 H2 s2 S2 v r2)
theorem aE{f:D->D->Option D}(hr:IxR X r)(hf:OpD X.K r f)(ha:AO X a pa)(hb:AO X b pb)(hs:vf b:=by exact λ_ _=>rfl):AP X (.Subscript a b pos) (Hb f pa pb) :=
 λG F Z H ρ Q S w=>sem (Ei hr bi bi hs) (uX ha hb S w λx y dx dy F' H' s' S' hx hy w'=>by
  obtain⟨res,e,k⟩:=w'.opt
  exact hf G F' Z H' ρ x y dx dy res Q S' hx hy e λv F2 H2 s2 S2 r2=>k F2 H2 s2 S2 v r2)
theorem bQ{f:D->D->Option Bool}(ho:OpR X (compareOp op) r)(hf:OpB X.K r f)(ha:AO X a pa)(hb:AO X b pb)(hm:behindInMarks op b=false:=by rfl):AB X (.Compare a [op] [b] pos) (Em f pa pb) :=
 λG F Z H ρ Q S w=>sem (Dl ho bi bi hm) (uX ha hb S w λx y dx dy F' H' s' S' hx hy w'=>by
  obtain⟨res,e,k⟩:=w'.opt
  exact hf G F' Z H' ρ x y dx dy res Q S' hx hy e (k F' H' (Same.refl _) S'))
theorem bc{f:D->D->Option Bool}(ho:OpR X (compareOp op) r)(hf:OpB X.K r f)(ha:AO X a pa)(hb:AO X b pb)(hm:behindInMarks op b=false:=by rfl):AT X (.Compare a [op] [b] pos) (Em f pa pb) :=
 λG F Z H ρ Q S w=>rK (yA ho bi bi hm) (uX (Q:=λx H'=>∃k,x=.bl k/\Q k H') ha hb S w λx y dx dy F' H' s' S' hx hy w'=>by
  obtain⟨res,e,k⟩:=w'.opt
  exact hf G F' Z H' ρ x y dx dy res _ S' hx hy e ⟨res,rfl,k F' H' (Same.refl _) S'⟩)
theorem eK(h:AB X e ta):AP X e (pB ta):=λG F Z H ρ Q S w=>h G F Z H ρ Q S (w.bind.imp λb F' H' s1 S1 w1=>w1 F' H' (Same.refl _) S1 _ (.bl b))
theorem cL{op:UnaryOp}{r:V->Hp->VK->Prop}{f:D->Option D}(ho:UnR X (unaryOp op) r)(hf:UnD X.K r f)(ha:AO X a pa):AP X (.UnaryOp op a pos) (pUn f pa) :=
 λG F Z H ρ Q S w=>sem (Bv ho bi) (ha G F Z H ρ _ S (w.bind.imp λdx F1 H1 s1 S1 w1 x hx=>by
  obtain⟨res,e,k⟩:=w1.opt
  exact hf G F1 Z H1 ρ x dx res Q S1 (hx.or S1) e λv F2 H2 s2 S2 r2=>k F2 H2 s2 S2 v r2))
theorem cm(h:AL X e qs):AP X e (pZ qs):=λG F Z H ρ Q S w=>h G F Z H ρ Q S (w.bind.imp λds F' H' s1 S1 w1 v fr=>by
 obtain⟨F2,s2,S2,r2⟩:=S1.settle (v:=v) (ds:=ds) fr
 exact w1 F2 H' s2 S2 v r2)
theorem aq:AA (α:=α) X [] Ha:=λG F Z H ρ Q k C S w kk=>w6 ui (kk [] [] F H (Same.refl _) S rfl .nil w)
theorem aa(h:AP X e p)(hr:AA X es pα)(hs:starEach (e::es) X.env=(false,eval e X.env)::starEach es X.env:=by exact tW rfl):AA X (e::es) (Ek p pα) :=
 λG F Z H ρ Q k C S w kk=>w6 (kR bi dQ hs) (h G F Z H ρ _ S (w.bind.imp λd F1 H1 s1 S1 w1 v r1 =>
  hr G F1 Z H1 ρ _ _ C S1 w1 λds vs F2 H2 s2 S2 hl r2 w2=>kk (d::ds) (v::vs) F2 H2 (s1.trans s2) S2 (by simp[hl]) (.cons (r1.mono s2) r2) w2))
theorem aN:AAo (α:=α) X [] Ha:=λG F Z H ρ Q k C S w kk=>w6 ui (kk [] [] F H (Same.refl _) S .nil w)
theorem aI(h:AO X e p)(hr:AAo X es pα)(hs:starEach (e::es) X.env=(false,eval e X.env)::starEach es X.env:=by exact tW rfl):AAo X (e::es) (Ek p pα) :=
 λG F Z H ρ Q k C S w kk=>w6 (kR bi dQ hs) (h G F Z H ρ _ S (w.bind.imp λd F1 H1 s1 S1 w1 v r1 =>
  hr G F1 Z H1 ρ _ _ C S1 w1 λds vs F2 H2 s2 S2 r2 w2=>kk (d::ds) (v::vs) F2 H2 (s1.trans s2) S2 (.cons (r1.mono s2) r2) w2))
theorem W.fit{ds:List α}{C:List α->Hp->Hp->Prop}(h:W X G F Z ρ (dw ds) C):ds.length<=sizeLine/\∀F' H',Same F F'->StOk X.K G F' Z H' ρ->C ds F' H':=by
 unfold dw at h
 split at h
 ·exact⟨by assumption,h⟩
 ·exact h.elim
theorem aF{x1}(h:AA X es ps)(hz:es.length<=1000:=by decide +kernel):AP X (.Tuple es x1 pos) (Iz ps) :=
 λG F Z H ρ Q S w=>sem (Bw dQ) (h G F Z H ρ _ _ _ S w λds vs F1 H1 s1 S1 hl r1 w1=>by
  refine⟨by rw[hl];exact nQ hz,λq hq=>?_⟩
  obtain⟨s2,S2,r2⟩:=S1.newTup hq r1
  exact w1 _ _ s2 S2 _ r2)
theorem bB(h:AA X es pl)(hz:es.length<=1000:=by decide +kernel):AL X (.List es pos) (IC pl) :=
 λG F Z H ρ Q S w=>sem (Fq dQ) (h G F Z H ρ _ _ _ S w λds vs F1 H1 s1 S1 hl r1 w1=>by
  refine⟨by rw[hl];exact nQ hz,λq hq=>?_⟩
  obtain⟨S2,r2⟩:=S1.newLst hq r1
  exact w1 _ _ (Same.refl _) S2 _ r2)
theorem py{r:List V->Hp->VK->Prop}{f:List D->M α}{C:α->Hp->Hp->Prop}(ha:AAo X es pα)(S:StOk X.K G F Z H ρ)(w:W X G F Z ρ (pα f ρ) C)
  (k:∀xs ds F' H',Same F F'->StOk X.K G F' Z H' ρ->ORs X.K F' H' xs ds->W X G F' Z ρ (f ds) C->r xs H' Q):tCB r (j4 X es) Z H Q :=
 ha G F Z H ρ _ _ C S w λds xs F1 H1 s1 S1 hx w1=>k xs ds F1 H1 s1 S1 (hx.ors S1) w1
theorem aT{p:Pos}{id:String}{r:List V->Hp->VK->Prop}{f:List D->Option D}(hc:CallR X (.builtin id) r)(hf:rH X.K r f)(hm:X.mg x=none)(hv:bootBuiltins x=some (.builtin id))(ha:AAo X (e::es) ps)(hg:Gl X x:=by rfl)
  (hn:x ≠ "__name__":=by decide) (hdb:(x==("__debug__" : Str))=false:=by decide) (he:starEach (e::es) X.env=(false,eval e X.env)::starEach es X.env:=by rfl) (hpl:(backTo pos (starEach es X.env)).any (·.1)=false:=by rfl):AP X (.Call (.Name x p) (e::es) [] pos) (El f ps) :=
 λG F Z H ρ Q S w=>sem (qj hc hg hm hv dQ hn hdb he hpl) (py ha S w λxs ds F' H' s' S' hx w'=>by
  obtain⟨res,e,k⟩:=w'.opt
  exact hf G F' Z H' ρ xs ds res Q S' hx e λv F2 H2 s2 S2 r2=>k F2 H2 s2 S2 v r2)
theorem rk{p:Pos}{id:String}{r:List V->Hp->VK->Prop}{f:List D->Option Bool}(hc:CallR X (.builtin id) r)(hf:yk X.K r f)(hg:Gl X x)(hm:X.mg x=none)(hv:bootBuiltins x=some (.builtin id))(ha:AAo X (e::es) pb')
  (hn:x ≠ "__name__":=by decide) (hdb:(x==("__debug__" : Str))=false:=by decide) (he:starEach (e::es) X.env=(false,eval e X.env)::starEach es X.env:=by rfl) (hpl:(backTo pos (starEach es X.env)).any (·.1)=false:=by rfl):AB X (.Call (.Name x p) (e::es) [] pos) (Fv f pb') :=
 λG F Z H ρ Q S w=>sem (qj hc hg hm hv dQ hn hdb he hpl) (py ha S w λxs ds F' H' s' S' hx w'=>by
  obtain⟨res,e,k⟩:=w'.opt
  exact hf G F' Z H' ρ xs ds res Q S' hx e (k F' H' (Same.refl _) S'))
theorem bt{p:Pos}{r:List V->Hp->VK->Prop}{f:List D->Option D}(hc:CallR X (.type T) r)(hf:rH X.K r f)(hm:X.mg x=none)(hv:bootBuiltins x=some (.type T))(ha:AAo X (e::es) ps)(hg:Gl X x:=by rfl)
  (hn:x ≠ "__name__":=by decide) (hdb:(x==("__debug__" : Str))=false:=by decide) (he:starEach (e::es) X.env=(false,eval e X.env)::starEach es X.env:=by rfl) (hpl:(backTo pos (starEach es X.env)).any (·.1)=false:=by rfl):AP X (.Call (.Name x p) (e::es) [] pos) (El f ps) :=
 λG F Z H ρ Q S w=>sem (sT hc hg hm hv dQ hn hdb he hpl) (py ha S w λxs ds F' H' s' S' hx w'=>by
  obtain⟨res,e,k⟩:=w'.opt
  exact hf G F' Z H' ρ xs ds res Q S' hx e λv F2 H2 s2 S2 r2=>k F2 H2 s2 S2 v r2)
theorem tS{p:Pos}{r:List V->Hp->VK->Prop}{f:List D->Option (List D)}(hc:CallR X (.type T) r)(hf:EN X.K r f)(hm:X.mg x=none)(hv:bootBuiltins x=some (.type T))(ha:AAo X (e::es) pl)(hg:Gl X x:=by rfl)
  (hn:x ≠ "__name__":=by decide) (hdb:(x==("__debug__" : Str))=false:=by decide) (he:starEach (e::es) X.env=(false,eval e X.env)::starEach es X.env:=by rfl) (hpl:(backTo pos (starEach es X.env)).any (·.1)=false:=by rfl):AL X (.Call (.Name x p) (e::es) [] pos) (nq f pl) :=
 λG F Z H ρ Q S w=>sem (sT hc hg hm hv dQ hn hdb he hpl) (py ha S w λxs ds F' H' s' S' hx w'=>by
  obtain⟨res,e,k⟩:=w'.opt
  exact hf G F' Z H' ρ xs ds res Q S' hx e λv F2 H2 s2 S2 r2=>k F2 H2 s2 S2 v r2)
theorem hV{ds:List D}(h:RepL K F vs ds):(!vs.isEmpty) = !ds.isEmpty:=by cases h<;>rfl
theorem cp(ha:AO X a pa)(he:∀whole,isTrue a X.env whole=(do let v <-whole;standAt a.pos;holding [v] (truthy v))):AT X a (G8 pa) :=
 λG F Z H ρ Q S w=>rK (qd bi he) (ha G F Z H ρ _ S (w.bind.imp λx F1 H1 s1 S1 w1 v hv=>by
  obtain⟨bb,hb,k⟩:=w1.opt
  refine⟨bb,?_,k F1 H1 (Same.refl _) S1⟩
  have o:=hv.or S1
  cases x with
  | none=>rw[o.none];cases hb;exact rfl
  | bool i=>rw[o.bool];cases hb;exact rfl
  | int i=>rw[o.int];cases hb;exact rfl
  | str i =>
   rw[o.str]
   unfold dP at hb
   dsimp only at hb
   split at hb
   ·rename_i hl;cases hb;exact⟨hl,rfl⟩
   ·cases hb
  | list ds=>obtain⟨a,vs,rfl,h1,h2⟩:=o.list S1.fh;cases hb;exact .inl ⟨vs,h1,(hV h2).symm⟩
  | tuple ds=>obtain⟨a,vs,rfl,h1,h2⟩:=o.tuple S1.fh;cases hb;exact .inr (.inl ⟨vs,h1,(hV h2).symm⟩)
  | dict ds=>cases hb))
theorem gU(ha:AB X a ta)(he:∀whole,isTrue a X.env whole=(do let v <-whole;standAt a.pos;holding [v] (truthy v))):AT X a ta :=
 λG F Z H ρ Q S w=>rK (qd bi he) (ha G F Z H ρ _ S (w.imp λx F1 H1 s1 S1 w1=>⟨x,rfl,w1⟩))
theorem uZ(ha:AT X a ta):AW X (.BoolOp .And [a] pos) ta:=λG F Z H ρ Q S w=>zC (C5 gM) (ha G F Z H ρ Q S w)
theorem cO(ha:AT X a ta):AW X (.BoolOp .Or [a] pos) ta:=λG F Z H ρ Q S w=>zC (Bg gM) (ha G F Z H ρ Q S w)
theorem xZ(ha:AT X a ta)(hb:AW X (.BoolOp .And (b::rest) pos) tb):AW X (.BoolOp .And (a::b::rest) pos) (Hc ta tb) :=
 λG F Z H ρ Q S w=>zC (Fb gM qc) (ha G F Z H ρ _ S (w.bind.imp λt F1 H1 s1 S1 w1=>by
  cases t with
  | true=>refine rS ?_;exact hb G F1 Z H1 ρ Q S1 w1
  | false=>refine rT ?_;exact w1 F1 H1 (Same.refl _) S1))
theorem cK(ha:AT X a ta)(hb:AW X (.BoolOp .Or (b::rest) pos) tb):AW X (.BoolOp .Or (a::b::rest) pos) (pOr ta tb) :=
 λG F Z H ρ Q S w=>zC (Eh gM qc) (ha G F Z H ρ _ S (w.bind.imp λt F1 H1 s1 S1 w1=>by
  cases t with
  | true=>refine rS ?_;exact w1 F1 H1 (Same.refl _) S1
  | false=>refine rT ?_;exact hb G F1 Z H1 ρ Q S1 w1))
theorem dC(h:AW X e ta):AT X e ta:=λG F Z H ρ Q S w=>rK (λpins s Z H Q I h=>qc _ pins s Z H Q I h) (h G F Z H ρ Q S w)
theorem bA(ha:AT X a ta):AT X (.UnaryOp .Not a pos) (Fu ta) :=
 λG F Z H ρ Q S w=>rK (Bj gM) (ha G F Z H ρ _ S (w.bind.imp λt F1 H1 s1 S1 w1=>w1 F1 H1 (Same.refl _) S1))
theorem gY(h:AP X a pa):AB X a (IH pa):=λG F Z H ρ Q S w=>h G F Z H ρ Q S (w.bind.imp λd F1 H1 s1 S1 w1 v r=>by
 cases r with
 | bl b=>exact w1 F1 H1 (Same.refl _) S1
 | non=>exact w1.elim
 | int i=>exact w1.elim
 | str i=>exact w1.elim
 | tup _ _=>exact w1.elim
 | lst _ _=>exact w1.elim
 | dct _ _ _=>exact w1.elim
 | dck _ _ _=>exact w1.elim
 | exc _ _ _ _ _=>exact w1.elim
 | fn _=>exact w1.elim)
theorem dg{op}(h:AB X a ta):AB X (.BoolOp op [a] pos) ta:=λG F Z H ρ Q S w=>sem (Fl bi) (h G F Z H ρ Q S w)
theorem cD(ha:AB X a ta)(hb:AB X (.BoolOp .And (b::rest) pos) tb):AB X (.BoolOp .And (a::b::rest) pos) (Hc ta tb) :=
 λG F Z H ρ Q S w=>sem (Fs bi bi) (ha G F Z H ρ _ S (w.bind.imp λt F1 H1 s1 S1 w1=>⟨t,rfl,by
  cases t with
  | true=>refine rS ?_;exact hb G F1 Z H1 ρ Q S1 w1
  | false=>refine rT ?_;exact w1 F1 H1 (Same.refl _) S1⟩))
theorem HS(ha:AB X a ta)(hb:AB X (.BoolOp .Or (b::rest) pos) tb):AB X (.BoolOp .Or (a::b::rest) pos) (pOr ta tb) :=
 λG F Z H ρ Q S w=>sem (G3 bi bi) (ha G F Z H ρ _ S (w.bind.imp λt F1 H1 s1 S1 w1=>⟨t,rfl,by
  cases t with
  | true=>refine rS ?_;exact w1 F1 H1 (Same.refl _) S1
  | false=>refine rT ?_;exact hb G F1 Z H1 ρ Q S1 w1⟩))
theorem CL(ha:AB X a ta):AB X (.UnaryOp .Not a pos) (Fu ta) :=
 λG F Z H ρ Q S w=>sem (Fo bi) (ha G F Z H ρ _ S (w.bind.imp λt F1 H1 s1 S1 w1=>⟨t,rfl,w1 F1 H1 (Same.refl _) S1⟩))
theorem EL(hc:AT X c tc)(ha:AP X a pa)(hb:AP X b pb):AP X (.IfExp c a b pos) (pIf tc pa pb) :=
 λG F Z H ρ Q S w=>sem (vK gM bi bi) (hc G F Z H ρ _ S (w.bind.imp λt F1 H1 s1 S1 w1=>by
  cases t with
  | true=>refine rS ?_;exact ha G F1 Z H1 ρ Q S1 w1
  | false=>refine rT ?_;exact hb G F1 Z H1 ρ Q S1 w1))
end
def vT(i j:Int):Bool:=(decide (-(2^64)<i)&&decide (i<2^64))||(decide (-(2^64)<j)&&decide (j<2^64))
def aX:D->D->Option D
 | .int i,.int j=>some (.int (i+j))
 | .str a,.str b=>if a.length+b.length<=sizeLine then some (.str (a++b))else none
 | .tuple a,.tuple b=>if a.length+b.length<=sizeLine then some (.tuple (a++b))else none
 | .list a,.list b=>if a.length+b.length<=sizeLine then some (.list (a++b))else none
 | _,_=>none
def fP:D->D->Option D
 | .int i,.int j=>some (.int (i - j))
 | _,_=>none
def bw:D->D->Option D
 | .int i,.int j=>if vT i j then some (.int (i*j))else none
 | _,_=>none
def qu:D->D->Option (List D)
 | .list a,.int k=>if decide (-(2^63)<=k)&&decide (k<2^63)&&decide (a.length*k.toNat<=sizeLine)then some (List.replicate k.toNat a).flatten else none
 | _,_=>none
def qv:D->D->Option D
 | .int i,.int j=>if decide (0<j)&&decide (j<1073741824)then some (.int (i / j))else none
 | _,_=>none
def fQ:D->D->Option D
 | .int i,.int j=>if 0<j then some (.int (i % j))else none
 | _,_=>none
def jX:D->D->Option D
 | .int i,.int j=>if decide (0<=j)&&decide (j<=1000000)&&decide (i.natAbs<2^64)then some (.int (i^j.toNat))else none
 | _,_=>none
def bN:D->Option D
 | .int i=>some (.int (-i))
 | _=>none
def uo:D->D->Option Bool
 | .int i,.int j=>some (decide (i<j))
 | _,_=>none
def nA:D->D->Option Bool
 | .int i,.int j=>some (decide (i<=j))
 | _,_=>none
def lI:D->D->Option Bool
 | .int i,.int j=>some (decide (j<i))
 | _,_=>none
def uq:D->D->Option Bool
 | .int i,.int j=>some (decide (j<=i))
 | _,_=>none
def Ef(K:Fg):R2:=λx y H Q=>∃a b xs ys,x=.ref a/\y=.ref b/\SqT K H a xs/\SqT K H b ys/\xs.length+ys.length<=sizeLine /\
 (xs=[]->Q (.ref b) H)/\(xs≠[]->ys=[]->Q (.ref a) H)/\(xs≠[]->ys≠[]->∀p,H p=none->Q (.ref p) (upd H p (.tup (xs++ys))))
theorem op_cat0:OpR X (binaryOp .Add) (Ef X.K):=by
 intro pins s Z H x y v u Q I rx ry h
 obtain⟨a,b,xs,ys,rfl,rfl,ha,hb,hz,q0,q1,q2⟩:=h
 by_cases hx:xs=[]
 ·cases rx
  cases ry
  obtain⟨its,r1,p1,_⟩:=I.tuple ha
  obtain⟨its2,r2,p2,_⟩:=I.tuple hb
  have hv:its=[]:=r1.nil_iff.mpr hx
  obtain⟨⟨cls,dd,data,sl⟩,ho,hc,n,hd⟩:=id p1
  obtain⟨⟨cls2,dd2,data2,sl2⟩,ho2,hc2,n2,hd2⟩:=id p2
  simp only at hc hd hc2 hd2
  subst hc hd hc2 hd2
  exact concat_meets ⟨_,ho,rfl⟩ ⟨_,ho2,rfl⟩ noFill_tuple_add seq_tuple_add JI JB (Jw _ _)
   (tuple_addW0 a b its.toArray its2.toArray n n2 dd dd2 sl sl2 (by simp[hv])) ⟨ho,ho2,⟨.ref b,H,I,rfl,q0 hx⟩⟩
 ·exact Dp pins s Z H _ _ v u Q I rx ry ⟨a,b,xs,ys,rfl,rfl,ha,hb,hx,hz,q1 hx,q2 hx⟩
section
theorem noS{a:α}{P:Prop}(e:(none:Option α)=some a):P:=nomatch e
theorem okI{C:Int->Int->Prop}{g:Int->Int->V}{f:D->D->Option D}(h:∀dx dy res,f dx dy=some res->∃i j,dx=.int i/\dy=.int j/\C i j/\∀K F,Rep K F (g i j) res):OpD K (rI C g) f:=by
 intro G F Z H ρ x y dx dy res Q S ox oy e k
 obtain⟨i,j,rfl,rfl,hc,hr⟩:=h dx dy res e
 exact⟨i,j,ox.int,oy.int,hc,k _ F H (Same.refl _) S (hr K F)⟩
theorem okB{g:Int->Int->Bool}{f:D->D->Option Bool}(h:∀dx dy res,f dx dy=some res->∃i j,dx=.int i/\dy=.int j/\res=g i j):OpB K (rI0 λi j=>.bl (g i j)) f:=by
 intro G F Z H ρ x y dx dy res Q S ox oy e k
 obtain⟨i,j,rfl,rfl,rfl⟩:=h dx dy res e
 exact⟨i,j,ox.int,oy.int,k⟩
theorem fB:OpD K (rI0 λi j=>.int (i - j)) fP:=by
 intro G F Z H ρ x y dx dy res Q S ox oy e k
 cases dx<;>first|exact noS e|(cases dy<;>first|exact noS e|cases e)
 exact⟨_,_,ox.int,oy.int,k _ F H (Same.refl _) S (.int _)⟩
theorem sX:OpB K (rI0 λi j=>.bl (decide (i<j))) uo:=okB λdx dy res e=>by
 cases dx<;>first|exact noS e|(cases dy<;>first|exact noS e|cases e)
 exact⟨_,_,rfl,rfl,rfl⟩
theorem mG:OpB K (rI0 λi j=>.bl (decide (i<=j))) nA:=okB λdx dy res e=>by
 cases dx<;>first|exact noS e|(cases dy<;>first|exact noS e|cases e)
 exact⟨_,_,rfl,rfl,rfl⟩
theorem vP:OpB K (rI0 λi j=>.bl (decide (j<i))) lI:=okB λdx dy res e=>by
 cases dx<;>first|exact noS e|(cases dy<;>first|exact noS e|cases e)
 exact⟨_,_,rfl,rfl,rfl⟩
theorem Es:OpB K (rI0 λi j=>.bl (decide (j<=i))) uq:=okB λdx dy res e=>by
 cases dx<;>first|exact noS e|(cases dy<;>first|exact noS e|cases e)
 exact⟨_,_,rfl,rfl,rfl⟩
theorem ux:OpD K (rI HX λi j=>.int (i / j)) qv:=okI λdx dy res e=>by
 cases dx<;>first|exact noS e|(cases dy<;>try (exact noS e))
 rename_i i j
 dsimp only[qv]at e
 split at e
 ·rename_i hc
  cases e
  simp only[ag,zzi]at hc
  exact⟨i,j,rfl,rfl,hc,λ_ _=>.int _⟩
 ·cases e
theorem gO:OpD K (rI (λ_ j=>0<j) λi j=>.int (i % j)) fQ:=okI λdx dy res e=>by
 cases dx<;>first|exact noS e|(cases dy<;>try (exact noS e))
 rename_i i j
 dsimp only[fQ]at e
 split at e
 ·rename_i hc
  cases e
  exact⟨i,j,rfl,rfl,hc,λ_ _=>.int _⟩
 ·cases e
theorem nE:OpD K (rI HW λi j=>.int (i^j.toNat)) jX:=okI λdx dy res e=>by
 cases dx<;>first|exact noS e|(cases dy<;>try (exact noS e))
 rename_i i j
 dsimp only[jX]at e
 split at e
 ·rename_i hc
  cases e
  simp only[ag,zzi]at hc
  exact⟨i,j,rfl,rfl,⟨hc.1.1,hc.1.2,hc.2⟩,λ_ _=>.int _⟩
 ·cases e
theorem bT:UnD K (rU λi=>.int (-i)) bN:=by
 intro G F Z H ρ x dx res Q S ox e k
 cases dx<;>cases e
 exact⟨_,ox.int,k _ F H (Same.refl _) S (.int _)⟩
theorem mw{ds:List D}(r:RepL K F vs ds):vs=[]↔ds=[]:=by cases r<;>simp
def Ee(K:Fg):R2:=λx y H Q=>∃l b xs zs,x=.ref l/\y=.ref b/\SqL K H l xs/\SqL K H b zs/\xs.length+zs.length<=sizeLine/\∀p,H p=none->Q (.ref p) (upd H p (.lst (xs++zs)))
theorem Dq:OpR X (binaryOp .Add) (Ee X.K):=by
 intro pins s Z H x y v u Q I rx ry h
 obtain⟨l,b,xs,zs,rfl,rfl,hH,hB,hz,q⟩:=h
 cases rx
 cases ry
 obtain⟨its,r,pl,_⟩:=I.list hH
 obtain⟨its2,r2,pl2,_⟩:=I.list hB
 obtain⟨⟨cls,dd,data,sl⟩,ho,hc,n,hd⟩:=id pl.isList
 obtain⟨⟨cls2,dd2,data2,sl2⟩,ho2,hc2,n2,hd2⟩:=id pl2.isList
 simp only at hc hd hc2 hd2
 subst hc hd hc2 hd2
 have e:its.toArray++its2.toArray=(its++its2).toArray:=by simp
 refine concat_meets ⟨_,ho,rfl⟩ ⟨_,ho2,rfl⟩ noFill_list_add seq_list_add PySem.F.slot_list_add PySem.F.entry_list_add (PySem.F.args_list_add_2 _ _) (list_addW l b its.toArray its2.toArray n n2 dd dd2 sl sl2 (by rw[bj,bj,<-r.length,<-r2.length];exact hz)) ⟨ho,ho2,?_⟩
 rw[e]
 exact⟨.ref _,_,I.laid (t':=s.toks) (o:=.lst (xs++zs)) (λb ob q=>zzc _ q) (bo _) ⟨by rw[zzf];exact hz,_,0,r.append r2,zze _ rfl⟩,rfl,q _ (I.hok.fresh (bo _))⟩
def GP:R2:=λx y H Q=>∃i j,x=.str i/\y=.str j/\i.length+j.length<=sizeLine/\Q (.str (i++j)) H
def Eg(K:Fg):R2:=λx y H Q=>rI0 (λi j=>.int (i+j)) x y H Q\/(GP x y H Q\/(Ef K x y H Q\/Ee K x y H Q))
theorem aV:OpR X (binaryOp .Add) (Eg X.K):=op_add.or (OpR.or xq (op_cat0.or Dq))
theorem bh:OpD K (Eg K) aX:=by
 intro G F Z H ρ x y dx dy res Q S ox oy e k
 cases dx<;>first|exact noS e|(cases dy<;>try (exact noS e))
 ·cases e;exact .inl ⟨_,_,ox.int,oy.int,k _ F H (Same.refl _) S (.int _)⟩
 ·dsimp only[aX]at e
  split at e
  ·rename_i hz
   cases e
   exact .inr (.inl ⟨_,_,ox.str,oy.str,hz,k _ F H (Same.refl _) S (.str _)⟩)
  ·cases e
 ·dsimp only[aX]at e
  split at e
  ·rename_i hz
   cases e
   obtain⟨a,vs,rfl,h1,h2⟩:=ox.list S.fh
   obtain⟨b,us,rfl,g1,g2⟩:=oy.list S.fh
   refine .inr (.inr (.inr ⟨a,b,vs,us,rfl,rfl,h1,g1,by rw[h2.length,g2.length];exact hz,λp hp=>?_⟩))
   obtain⟨S2,r2⟩:=S.newLst hp (h2.append g2)
   obtain⟨F2,s3,S3,r3⟩:=S2.settle r2
   exact k _ F2 _ s3 S3 r3
  ·cases e
 ·dsimp only[aX]at e
  split at e
  ·rename_i hz
   cases e
   obtain⟨a,vs,rfl,h1,h2⟩:=ox.tuple S.fh
   obtain⟨b,us,rfl,g1,g2⟩:=oy.tuple S.fh
   refine .inr (.inr (.inl ⟨a,b,vs,us,rfl,rfl,h1,g1,by rw[h2.length,g2.length];exact hz,λz=>?_,λ_ z=>?_,λ_ _ p hp=>?_⟩))
   ·have z':=(mw h2).mp z
    subst z'
    exact k _ F H (Same.refl _) S oy.tup'
   ·have z':=(mw g2).mp z
    subst z'
    exact k _ F H (Same.refl _) S (by rw[wn];exact ox.tup')
   ·obtain⟨s2,S2,r2⟩:=S.newTup hp (h2.append g2)
    exact k _ _ _ s2 S2 r2
  ·cases e
theorem RepL.rep{ds:List D}(h:RepL K F vs ds):∀k:Nat,RepL K F (List.replicate k vs).flatten (List.replicate k ds).flatten
 | 0=>.nil
 | k+1=>by rw[gt,gt,pi,pi];exact h.append (RepL.rep h k)
theorem cC:OpD K (rI CMul λi j=>.int (i*j)) bw:=okI λdx dy res e=>by
 cases dx<;>first|exact noS e|(cases dy<;>try (exact noS e))
 rename_i i j
 dsimp only[bw]at e
 split at e
 ·rename_i hc
  cases e
  unfold vT at hc
  simp only[ue,ag,zzi]at hc
  exact⟨i,j,rfl,rfl,hc,λ_ _=>.int _⟩
 ·cases e
end
def qN(d e:D):Bool:=d.canLay0&&e.canLay0&&decide (d.depth<=1000)
def bD(d e:D):Option Bool:=if qN d e then some (PyData.eqv d e)else none
def fi(d e:D):Option Bool:=if qN d e then some (!PyData.eqv d e)else none
def iH(d:D)(xs:List D):Bool:=PyData.canLayAll0 xs&&d.canLay0&&decide (d.depth<=1000)
def EE(i j:Str):Bool:=!(Builtin.Str.occurrences j i 0 j.length 1).isEmpty
def lh(d c:D):Option Bool:=match c with
 | .list xs=>if iH d xs then some (xs.any λy=>PyData.eqv y d)else none
 | .tuple xs=>if iH d xs then some (xs.any λy=>PyData.eqv y d)else none
 | .str j=>match d with
  | .str i=>some (EE i j)
  | _=>none
 | _=>none
def jF(d c:D):Option Bool:=match c with
 | .list xs=>if iH d xs then some (!xs.any λy=>PyData.eqv y d)else none
 | .tuple xs=>if iH d xs then some (!xs.any λy=>PyData.eqv y d)else none
 | .str j=>match d with
  | .str i=>some (!EE i j)
  | _=>none
 | _=>none
def isNone:D->Bool
 | .none=>true
 | _=>false
def Ep(d e:D):Option Bool:=match e with
 | .none=>some (isNone d)
 | _=>none
def BB(d e:D):Option Bool:=match e with
 | .none=>some (!isNone d)
 | _=>none
def rD2(K:Fg)(f:D->D->Option Bool):R2:=λx y H Q=>∃d e b,Rep K H x d/\Rep K H y e/\f d e=some b/\Q (.bl b) H
theorem bf{f:D->D->Option Bool}:OpB K (rD2 K f) f:=by
 intro G F Z H ρ x y dx dy res Q S ox oy e k
 exact⟨dx,dy,res,ox.rep S.fh,oy.rep S.fh,e,k⟩
theorem Rep.non_iff{d:D}(r:Rep K F v d):(decide (v=.non))=isNone d:=by
 cases r<;>rfl
section
theorem bm(hu:X.A.units+1100<cLine):OpR X (compareOp .Eq) (rD2 X.K bD):=by
 intro pins s Z H x y v u Q I rx ry ⟨d,e,b,r1,r2,ho,q⟩
 unfold bD at ho
 split at ho
 case isFalse=>cases ho
 rename_i hc
 cases ho
 simp only[qN,ag,zzi]at hc
 obtain⟨as,ra⟩:=(du I).1 r1 hc.1.1 rx
 obtain⟨bs,rb⟩:=(du I).1 r2 hc.1.2 ry
 exact SeqAt.compareEq_reads ra rb hc.1.1 hc.1.2 (by have:=Nat.min_le_left d.depth e.depth;lia) ⟨.bl _,H,I,rfl,q⟩
theorem dR(hu:X.A.units+1100<cLine):OpR X (compareOp .NotEq) (rD2 X.K fi):=by
 intro pins s Z H x y v u Q I rx ry ⟨d,e,b,r1,r2,ho,q⟩
 unfold fi at ho
 split at ho
 case isFalse=>cases ho
 rename_i hc
 cases ho
 simp only[qN,ag,zzi]at hc
 obtain⟨as,ra⟩:=(du I).1 r1 hc.1.1 rx
 obtain⟨bs,rb⟩:=(du I).1 r2 hc.1.2 ry
 exact SeqAt.compareNe_reads ra rb hc.1.1 hc.1.2 (by have:=Nat.min_le_left d.depth e.depth;lia) ⟨.bl _,H,I,rfl,q⟩
theorem qr(hu:X.A.units+1100<cLine):OpR X (compareOp .In) (rD2 X.K lh):=by
 intro pins s Z H x y v u Q I rx ry ⟨d,e,b,r1,r2,ho,q⟩
 unfold lh at ho
 split at ho
 ·rename_i xs
  split at ho
  case isFalse=>cases ho
  rename_i hc
  cases ho
  simp only[iH,ag,zzi]at hc
  obtain⟨as,ra⟩:=(du I).1 r1 hc.1.2 rx
  obtain⟨bs,rb⟩:=(du I).1 r2 (by simpa[PyData.canLay0]using hc.1.1) ry
  exact SeqAt.in_list_reads rb ra hc.1.1 hc.1.2 (by have:=EA (PyData.depthAll xs) d.depth;lia) ⟨.bl _,H,I,rfl,q⟩
 ·rename_i xs
  split at ho
  case isFalse=>cases ho
  rename_i hc
  cases ho
  simp only[iH,ag,zzi]at hc
  obtain⟨as,ra⟩:=(du I).1 r1 hc.1.2 rx
  obtain⟨bs,rb⟩:=(du I).1 r2 (by simpa[PyData.canLay0]using hc.1.1) ry
  exact SeqAt.in_tuple_reads rb ra hc.1.1 hc.1.2 (by have:=EA (PyData.depthAll xs) d.depth;lia) ⟨.bl _,H,I,rfl,q⟩
 ·split at ho
  ·cases ho
   obtain rfl:=r1.str_inv;obtain rfl:=r2.str_inv
   exact zM pins s Z H _ _ v u Q I rx ry ⟨_,_,rfl,rfl,q⟩
  ·cases ho
 ·cases ho
theorem nv(hu:X.A.units+1100<cLine):OpR X (compareOp .NotIn) (rD2 X.K jF):=by
 intro pins s Z H x y v u Q I rx ry ⟨d,e,b,r1,r2,ho,q⟩
 unfold jF at ho
 split at ho
 ·rename_i xs
  split at ho
  case isFalse=>cases ho
  rename_i hc
  cases ho
  simp only[iH,ag,zzi]at hc
  obtain⟨as,ra⟩:=(du I).1 r1 hc.1.2 rx
  obtain⟨bs,rb⟩:=(du I).1 r2 (by simpa[PyData.canLay0]using hc.1.1) ry
  exact SeqAt.notIn_list_reads rb ra hc.1.1 hc.1.2 (by have:=EA (PyData.depthAll xs) d.depth;lia) ⟨.bl _,H,I,rfl,q⟩
 ·rename_i xs
  split at ho
  case isFalse=>cases ho
  rename_i hc
  cases ho
  simp only[iH,ag,zzi]at hc
  obtain⟨as,ra⟩:=(du I).1 r1 hc.1.2 rx
  obtain⟨bs,rb⟩:=(du I).1 r2 (by simpa[PyData.canLay0]using hc.1.1) ry
  exact SeqAt.notIn_tuple_reads rb ra hc.1.1 hc.1.2 (by have:=EA (PyData.depthAll xs) d.depth;lia) ⟨.bl _,H,I,rfl,q⟩
 ·split at ho
  ·cases ho
   obtain rfl:=r1.str_inv;obtain rfl:=r2.str_inv
   exact uk pins s Z H _ _ v u Q I rx ry ⟨_,_,rfl,rfl,q⟩
  ·cases ho
 ·cases ho
theorem Dn:OpR X (compareOp .Is) (rD2 X.K Ep):=by
 intro pins s Z H x y v u Q I rx ry ⟨d,e,b,r1,r2,ho,q⟩
 unfold Ep at ho
 split at ho
 ·cases ho
  cases r2
  refine Fx pins s Z H x _ v u Q I rx ry ⟨rfl,?_⟩
  rw[Rep.non_iff r1]
  exact q
 ·cases ho
theorem BA:OpR X (compareOp .IsNot) (rD2 X.K BB):=by
 intro pins s Z H x y v u Q I rx ry ⟨d,e,b,r1,r2,ho,q⟩
 unfold BB at ho
 split at ho
 ·cases ho
  cases r2
  refine Do pins s Z H x _ v u Q I rx ry ⟨rfl,?_⟩
  rw[Rep.non_iff r1]
  exact q
 ·cases ho
end
def aD:D->D->Option D
 | .list ds,.int i=>atI ds i
 | .tuple ds,.int i=>atI ds i
 | .str z,.int i=>if z.length<=sizeLine then(atI z.cps.toList i).map λc=>.str ⟨#[c]⟩else none
 | _,_=>none
theorem zk{ds:List D}{i:Int}{d:D}(r:RepL K F vs ds)(h:atI ds i=some d):∃v,atI vs i=some v/\Rep K F v d:=by
 unfold atI at h ⊢
 rw[r.length]
 cases q:ixN ds.length i with
 | none=>rw[q]at h;cases h
 | some j =>
  rw[q]at h
  exact r.get (i:=j) h
theorem aC:OpD K (rIx K) aD:=by
 intro G F Z H ρ x y dx dy res Q S ox oy e k
 cases dx<;>first|exact noS e|(cases dy<;>try (exact noS e))
 ·dsimp only[aD]at e
  split at e
  ·rename_i hz
   obtain⟨c,hc,rfl⟩:=Option.map_eq_some_iff.mp e
   exact .inr (.inr ⟨_,_,c,ox.str,oy.int,hz,hc,k _ F H (Same.refl _) S (.str _)⟩)
  ·cases e
 ·obtain⟨a,vs,rfl,h1,h2⟩:=ox.list S.fh
  obtain⟨v,e1,e2⟩:=zk h2 e
  exact .inl ⟨a,vs,_,v,rfl,oy.int,h1,e1,k v F H (Same.refl _) S e2⟩
 ·obtain⟨a,vs,rfl,h1,h2⟩:=ox.tuple S.fh
  obtain⟨v,e1,e2⟩:=zk h2 e
  exact .inr (.inl ⟨a,vs,_,v,rfl,oy.int,h1,e1,k v F H (Same.refl _) S e2⟩)
theorem Vals.one{us:List Value}(h:Vals [v] us):∃u,us=[u]/\RelV v u:=by
 cases h with|cons a b=>cases b;exact⟨_,rfl,a⟩
def cA:List D->Option D
 | [.list ds]=>some (.int ds.length)
 | [.tuple ds]=>some (.int ds.length)
 | [.str z]=>if z.length<=sizeLine then some (.int z.length)else none
 | _=>none
def cw:List D->Option D
 | [.list ds]=>some (.tuple ds)
 | [.tuple ds]=>some (.tuple ds)
 | _=>none
def GT(K:Fg):List V->Hp->VK->Prop:=λxs H Q=>(∃p ys,xs=[.ref p]/\(SqL K H p ys\/SqT K H p ys)/\Q (.int ys.length) H)\/∃z,xs=[.str z]/\z.length<=sizeLine/\Q (.int z.length) H
theorem aU:CallR X (.builtin "len") (GT X.K):=CallR.or uV uU
theorem bx:rH K (GT K) cA:=by
 intro G F Z H ρ xs ds res Q S o e k
 unfold cA at e
 split at e
 ·rename_i es
  cases e
  obtain⟨v,r,rfl,ho,hr⟩:=cW o
  obtain rfl:=ek hr
  obtain⟨a,vs,rfl,h1,h2⟩:=ho.list S.fh
  exact .inl ⟨a,vs,rfl,.inl h1,k _ F H (Same.refl _) S (by rw[h2.length];exact .int _)⟩
 ·rename_i es
  cases e
  obtain⟨v,r,rfl,ho,hr⟩:=cW o
  obtain rfl:=ek hr
  obtain⟨a,vs,rfl,h1,h2⟩:=ho.tuple S.fh
  exact .inl ⟨a,vs,rfl,.inr h1,k _ F H (Same.refl _) S (by rw[h2.length];exact .int _)⟩
 ·split at e
  ·rename_i hz
   cases e
   obtain⟨v,r,rfl,ho,hr⟩:=cW o
   obtain rfl:=ek hr
   exact .inr ⟨_,by rw[ho.str],hz,k _ F H (Same.refl _) S (.int _)⟩
  ·cases e
 ·cases e
theorem bR:rH K (λxs H Q=>∃p ys,xs=[.ref p]/\((SqL K H p ys/\∀l,H l=none->Q (.ref l) (upd H l (.tup ys)))\/(SqT K H p ys/\Q (.ref p) H))) cw:=by
 intro G F Z H ρ xs ds res Q S o e k
 unfold cw at e
 split at e
 ·rename_i es
  cases e
  obtain⟨v,r,rfl,ho,hr⟩:=cW o
  obtain rfl:=ek hr
  obtain⟨a,vs,rfl,h1,h2⟩:=ho.list S.fh
  refine⟨a,vs,rfl,.inl ⟨h1,λl hl=>?_⟩⟩
  obtain⟨s2,S2,r2⟩:=S.newTup hl h2
  exact k _ _ _ s2 S2 r2
 ·rename_i es
  cases e
  obtain⟨v,r,rfl,ho,hr⟩:=cW o
  obtain rfl:=ek hr
  have ho:=ho.tup'
  cases ho with
  | tup h1 h2=>exact⟨_,_,rfl,.inr ⟨SqT.of (S.fh _ _ h1),k _ F H (Same.refl _) S (show Rep K F _ _ from .tup h1 h2)⟩⟩
 ·cases e
def pV(d:D):Bool:=d.showable&&d.canLay0&&decide (d.depth<=1000)&&decide (d.shown.length<=sizeLine)
def kF:List D->Option D
 | [d]=>if pV d then some (.str d.shown)else none
 | _=>none
def Eb(K:Fg):List V->Hp->VK->Prop:=λxs H Q=>∃v d,xs=[v]/\Rep K H v d/\pV d=true/\Q (.str d.shown) H
theorem kS:rH K (Eb K) kF:=by
 intro G F Z H ρ xs ds res Q S o e k
 unfold kF at e
 split at e
 ·rename_i d
  split at e
  ·rename_i hc
   cases e
   obtain⟨v,r,rfl,ho,hr⟩:=cW o
   obtain rfl:=ek hr
   exact⟨v,d,rfl,ho.rep S.fh,hc,k _ F H (Same.refl _) S (.str _)⟩
  ·cases e
 ·cases e
theorem h7(hu:X.A.units+1100<cLine)(hg:X.A.guards=some []):CallR X (.builtin "repr") (Eb X.K):=by
 intro pins s Z H xs us Q I r h0
 obtain⟨v,d,rfl,rp,hc,q⟩:=h0
 obtain⟨u,rfl,ru⟩:=Vals.one r
 simp only[pV,ag,zzi]at hc
 obtain⟨as,ra⟩:=(du I).1 rp hc.1.1.2 ru
 have big:∀a,v=.ref a->wpAny (model X.prog X.w) X.A (call (.builtin "repr") [u]) (EP X pins Z Q) X.xe s:=λa e=>by
  subst e
  cases ru
  exact repr_of_reads' ra hc.1.1.1 (PyData.noDict_hsm (PyData.hasDict_of_canLay d hc.1.1.2)) hg (by lia) (λ_ _ e=>e) (λh' u tk hk=>⟨.str _,H,I.kept hk,⟨_,rfl⟩,q⟩) hc.2
 cases rp with
 | non=>cases ru;exact PySem.P.repr_of_none ⟨.str _,H,I.tok _,⟨_,rfl⟩,q⟩
 | bl b=>cases ru;exact PySem.P.repr_of_bool ⟨.str _,H,I.tok _,⟨_,rfl⟩,q⟩
 | int i=>obtain⟨t,rfl⟩:=ru;exact PySem.P.repr_of_int (by simpa[PyData.showable]using hc.1.1.1) ⟨.str _,H,I.tok _,⟨_,rfl⟩,q⟩
 | str x=>obtain⟨t,rfl⟩:=ru;exact PySem.P.repr_of_str ⟨.str _,H,I.tok _,⟨_,rfl⟩,q⟩ hc.2
 | tup h1 h2=>exact big _ rfl
 | lst h1 h2=>exact big _ rfl
 | dct h1 h2 h3=>exact big _ rfl
 | dck h1 h2 h3=>exact big _ rfl
 | exc _ _ _ _ _=>exact big _ rfl
 | fn _=>exact big _ rfl
def tyD:D->String
 | .none => "NoneType"
 | .bool _ => "bool"
 | .int _ => "int"
 | .str _ => "str"
 | .list _ => "list"
 | .tuple _ => "tuple"
 | .dict es=>if DH es then "" else "dict"
def isS(T S:String):Bool:=S==T||(S == "bool" && T == "int")
def isT(T:String)(d:D):Bool:=isS T (tyD d)
def intsOf:List D->Option (List Int)
 | []=>some []
 | .int i::r=>match intsOf r with
  | some l=>some (i::l)
  | none=>none
 | _=>none
theorem tv:∀{ds:List D} {ns:List Int},intsOf ds=some ns->ds=ns.map PyData.int
 | [],ns,h=>by cases h;rfl
 | .int i::r,ns,h=>by
  dsimp only[intsOf]at h
  split at h
  ·rename_i l e;cases h;rw[tv e];rfl
  ·cases h
 | .none::_,_,h=>by cases h
 | .bool _::_,_,h=>by cases h
 | .str _::_,_,h=>by cases h
 | .list _::_,_,h=>by cases h
 | .tuple _::_,_,h=>by cases h
 | .dict _::_,_,h=>by cases h
theorem sO{K:Fg}{F:Hp}:∀{vs:List V} {ns:List Int},RepL K F vs (ns.map PyData.int)->vs=ns.map V.int
 | _,[],h=>by cases h;rfl
 | _,n::r,h=>by
  cases h with
  | cons a b=>cases a;rw[sO b];rfl
theorem pE:∀{ns:List Int} {us:List Value},Vals (ns.map V.int) us->∃ps:List (Int×Tok),us=ps.map (λp=>Value.int p.1 p.2)/\ps.map Prod.fst=ns
 | [],_,h=>by cases h;exact⟨[],rfl,rfl⟩
 | n::r,_,h=>by
  cases h with
  | cons a b =>
   obtain⟨t,rfl⟩:=a
   obtain⟨ps,rfl,e⟩:=pE b
   exact⟨(n,t)::ps,rfl,by simp[e]⟩
def vW:List Int->Int
 | []=>0
 | n::r=>r.foldl max n
def Ad:List D->Option D
 | [.list ds]=>match intsOf ds with
  | some (n::r)=>some (.int (vW (n::r)))
  | _=>none
 | [.int i,.int j]=>some (.int (if j>i then j else i))
 | _=>none
def Ed(K:Fg)(f:List Int->Option Int):List V->Hp->VK->Prop:=λxs H Q=>∃a ns i,xs=[.ref a]/\SqL K H a (ns.map V.int)/\f ns=some i/\Q (.int i) H
def Hx:List Int->Option Int
 | []=>none
 | ns=>some (vW ns)
theorem vR{ps:List (Int×Tok)}:numAt ps.toArray i=(ps.map Prod.fst).getD i 0:=by
 unfold numAt
 rw[JO,al,ou]
theorem BC:rH K (λxs H Q=>Ed K Hx xs H Q\/∃i j,xs=[.int i,.int j]/\Q (.int (if j>i then j else i)) H) Ad:=by
 intro G F Z H ρ xs ds res Q S o e k
 unfold Ad at e
 split at e
 ·rename_i es
  split at e
  case h_2=>cases e
  rename_i n r' hns
  cases e
  obtain⟨v,r,rfl,ho,hr⟩:=cW o
  obtain rfl:=ek hr
  obtain⟨a,vs,rfl,h1,h2⟩:=ho.list S.fh
  rw[tv hns]at h2
  rw[sO h2]at h1
  exact .inl ⟨a,_,_,rfl,h1,rfl,k _ F H (Same.refl _) S (show Rep K F _ _ from .int _)⟩
 ·cases e
  obtain⟨v,r,rfl,ho,hr⟩:=cW o
  obtain⟨v2,r2,rfl,ho2,hr2⟩:=cW hr
  obtain rfl:=ek hr2
  exact .inr ⟨_,_,by rw[ho.int,ho2.int],k _ F H (Same.refl _) S (show Rep K F _ _ from .int _)⟩
 ·cases e
theorem Ac(r:List Int):∀n:Int,n<=r.foldl max n/\(∀i∈r,i<=r.foldl max n)/\(r.foldl max n=n\/r.foldl max n∈r):=by
 induction r with
 | nil=>intro n;exact⟨Int.le_refl _,λi hi=>(nomatch hi),.inl rfl⟩
 | cons a r ih =>
  intro n
  obtain⟨h1,h2,h3⟩:=ih (max n a)
  rw[Ix]
  refine⟨by lia,λi hi=>?_,?_⟩
  ·rcases List.mem_cons.mp hi with rfl|hi
   ·lia
   ·exact h2 i hi
  ·rcases h3 with h3|h3
   ·rw[h3]
    by_cases hna:n<=a
    ·right;rw[show max n a=a by lia];exact fu
    ·left;lia
   ·right;exact zzg _ h3
theorem td{ns:List Int}(h:ns≠[]):(∀i∈ns,i<=vW ns)/\vW ns∈ns:=by
 cases ns with
 | nil=>exact absurd rfl h
 | cons n r =>
  obtain⟨h1,h2,h3⟩:=Ac r n
  refine⟨λi hi=>?_,?_⟩
  ·rcases List.mem_cons.mp hi with rfl|hi
   ·exact h1
   ·exact h2 i hi
  ·rcases h3 with h3|h3
   ·show r.foldl max n∈_;rw[h3];exact fu
   ·exact zzg _ h3
theorem tK(hc:X.calm=true):CallR X (.builtin "max") (Ed X.K Hx):=by
 intro pins s Z H xs us Q I r h0
 obtain⟨a,ns,i,rfl,hq,e,q⟩:=h0
 obtain⟨u,rfl,ru⟩:=Vals.one r
 cases ru
 obtain⟨its,rv,pl,hz⟩:=I.list hq
 obtain⟨ps,rfl,rfl⟩:=pE rv
 have hne:ps≠[]:=by rintro rfl;cases e
 have hne':ps.map Prod.fst≠[]:=by simpa using hne
 have ei:i=vW (ps.map Prod.fst):=by
  cases hp:ps.map Prod.fst with
  | nil=>exact absurd hp hne'
  | cons n r=>rw[hp]at e;cases e;rfl
 subst ei
 have hl:s.heap.IsList a (intItems ps.toArray):=by
  have:=pl.isList
  unfold intItems
  simpa using this
 have hpos:0<ps.length:=List.length_pos_iff.mpr hne
 refine max_intList (I.ok.hd hc) hl (by simpa using hpos) λv h' tk hv hk=>?_
 obtain⟨t,rfl⟩:=intItems_at hv
 refine⟨.int _,H,I.kept hk,⟨_,rfl⟩,?_⟩
 have b:=argBest_gt (numAt ps.toArray) (ps.toArray.size - 1)
 generalize argBest (λi j=>decide (numAt ps.toArray i>numAt ps.toArray j)) (ps.toArray.size - 1)=m at b hv
 have hm:m<ps.length:=by
  have h0:=b.1
  simp at h0
  lia
 have hsp:=td hne'
 have e1:numAt ps.toArray m=vW (ps.map Prod.fst):=by
  refine Int.le_antisymm ?_ ?_
  ·refine hsp.1 _ ?_
   rw[vR,al,ax (by simpa using hm)]
   exact pI _
  ·obtain⟨j,hj,ej⟩:=List.getElem_of_mem hsp.2
   have h0:=b.2 j (by simp at hj ⊢;lia)
   rw[vR,al,ax hj]at h0
   rw[<-ej]
   exact h0
 rw[e1]
 exact q
def Hm(S T:String):Option Bool:=if(Value.type S==Value.type T)=true then some true else if PySem.W.kitMeta T=true then(fastBuiltinMro S).map (·.contains (.type T))else none
theorem DF(K:Fg)(S T:String):PySem.W.kitOne K (.type S) (.type T)=Hm S T:=rfl
theorem DD:∀S∈["NoneType", "bool", "int", "str", "list", "tuple", "dict"],∀T∈["bool", "int", "str", "list", "tuple", "dict"],Hm S T=some (isS T S):=by decide +kernel
theorem FH(K:Fg)(h:vq T=true)(d:D)(hx:∀es,d=.dict es->DH es=false):PySem.W.kitOne K (.type (tyD d)) (.type T)=some (isT T d):=by
 simp only[vq,ue,Jp]at h
 rw[DF]
 refine DD (tyD d) ?_ T (by rcases h with ((((rfl|rfl)|rfl)|rfl)|rfl)|rfl<;>simp)
 cases d with
 | dict es=>simp[tyD,hx es rfl]
 | _=>simp[tyD]
theorem B3{kvs:List (List Key×V)}{es:List (D×D)}(h:es.map (·.1)=kvs.map (λp=>FN p.1)):DH es=false:=by
 cases es with
 | nil=>rfl
 | cons e r =>
  cases kvs with
  | nil=>cases h
  | cons k ks =>
   obtain⟨e1,e2⟩:=e
   simp only[je,List.cons.injEq]at h
   rw[h.1]
   rfl
theorem B4{kvs:List (Key×V)}{es:List (D×D)}(h:es.map (·.1)=kvs.map (λp=>DG p.1)):DH es=false:=by
 cases es with
 | nil=>rfl
 | cons e r =>
  cases kvs with
  | nil=>cases h
  | cons k ks =>
   obtain⟨e1,e2⟩:=e
   obtain⟨k1,k2⟩:=k
   simp only[je,List.cons.injEq]at h
   rw[h.1]
   cases k1<;>rfl
theorem CU(h:vq T=true):isS T "" = false:=by
 simp only[vq,ue,Jp]at h
 rcases h with ((((rfl|rfl)|rfl)|rfl)|rfl)|rfl<;>rfl
theorem xK(hT:vq T=true){pins:zzk}{d:D}{u:Value}{Q:zzj}{E:zzj}(I:Inv X pins Z H s)(rp:Rep X.K H v d)(nf:isFn d=false)(ru:RelV v u)
  (h:∀tk,Q (.bool (isT T d)) { s with toks:=tk }):wpAny (model X.prog X.w) X.A (call (.builtin "isinstance") [u,.type T]) Q E s:=by
 have ee:=FH X.K hT d
 cases rp with
 | non =>
  have e:=ee λ_ z=>by cases z
  cases ru;exact we PySem.W.kitx_none I.kIn True.intro e (λz=>nomatch z) h
 | bl y =>
  have e:=ee λ_ z=>by cases z
  cases ru;exact we PySem.W.kitx_bool I.kIn True.intro e (λz=>nomatch z) h
 | int i =>
  have e:=ee λ_ z=>by cases z
  obtain⟨t,rfl⟩:=ru;exact we PySem.W.kitx_int I.kIn True.intro e (λz=>nomatch z) h
 | str y =>
  have e:=ee λ_ z=>by cases z
  obtain⟨t,rfl⟩:=ru;exact we PySem.W.kitx_str I.kIn True.intro e (λz=>nomatch z) h
 | lst h1 h2 =>
  have e:=ee λ_ z=>by cases z
  cases ru
  obtain⟨its,_,⟨o,n,e1,e2,_⟩,_⟩:=I.list h1
  exact we PySem.W.kitx_list I.kIn ⟨o,e1,e2⟩ e (λz=>nomatch z) h
 | tup h1 h2 =>
  have e:=ee λ_ z=>by cases z
  cases ru
  obtain⟨its,_,⟨o,e1,e2,_⟩,_⟩:=I.tuple (SqT.of h1)
  exact we PySem.W.kitx_tuple I.kIn ⟨o,e1,e2⟩ e (λz=>nomatch z) h
 | dct h1 h2 h3 =>
  have e:=ee λ_ z=>by cases z;exact B3 h2
  rw[show tyD (.dict _) = "dict" from by simp[tyD,B3 h2]]at e
  cases ru
  obtain⟨z,y,xs,kt,o,es,ep,g1,g2,_⟩:=HE I.hok h1
  exact we PySem.W.kitx_dict I.kIn ⟨o,g1,g2.1⟩ e (λz=>nomatch z) h
 | dck h1 h2 h3 =>
  have e:=ee λ_ z=>by cases z;exact B4 h2
  rw[show tyD (.dict _) = "dict" from by simp[tyD,B4 h2]]at e
  cases ru
  obtain⟨z,y,xs,kt,o,es,ep,g1,g2,_⟩:=HG I.hok h1
  exact we PySem.W.kitx_dict I.kIn ⟨o,g1,g2.1⟩ e (λz=>nomatch z) h
 | exc h1 q fx h2 h3 =>
  cases ru
  obtain⟨D,fI,xc⟩:=q.xc
  have at_:XAt H _ _ _:=⟨h1,λdx z=>by
   rcases fx with ⟨z',_⟩|⟨dx',z',y⟩
   ·rw[z']at z;cases z
   ·rw[z']at z;cases z;exact⟨_,y⟩⟩
  refine xL I xc q.kc at_ (q.no T hT) ?_
  rw[show isT T (.dict ((.none,.str _)::_))=false from CU hT]at h
  exact h
 | fn _=>cases nf
section
variable {ρ':En}
theorem _root_.L3.StOk.weak(S:StOk K G F Z H ρ)(hl:ρ'.length=ρ.length)(h:∀(i:Nat) (av:AV),ρ'[i]? = some (some av)->ρ[i]? = some (some av))(hp:∀(i:Nat) (c:OC),ρ[i]? = some (some (AV.op c))->ρ'[i]? = some (some (AV.op c))):StOk K G F Z H ρ':=by
 have ow':∀j c,own ρ' j c->own ρ j c:=λj c q=>q.imp (h _ _) (h _ _)
 refine⟨S.fh,S.oh,S.fo,S.ln.trans hl.symm,λj d q=>S.fz j d (h _ _ q),λj c q=>S.ow j c (ow' j c q),λj k c e a h1 h2=>S.dj j k c e a (ow' j c h1) (ow' k e h2),λj a q=>?_,λj c q=>S.pq j c (h _ _ q),S.fb⟩
 obtain⟨q1,c,q2⟩:=S.pp j a q
 exact⟨q1,c,hp _ _ q2⟩
theorem ju{av:AV}(h:(ρ++List.replicate k none)[i]? = some (some av)):ρ[i]? = some (some av):=by
 by_cases hi:i<ρ.length
 ·rw[ev hi]at h;exact h
 ·rw[u8 (Nat.not_lt.mp hi),JE]at h
  split at h<;>cases h
theorem _root_.L3.StOk.grow(S:StOk K G F Z H ρ)(k:Nat):StOk K G F (Z++List.replicate k none) H (ρ++List.replicate k none):=by
 have ap:∀{i:Nat} {v:V},Z[i]? = some (some v)->(Z++List.replicate k none)[i]? = some (some v):=λ{i v} e=>by
  rw[ev (List.getElem?_eq_some_iff.mp e).1];exact e
 have apr:∀{i:Nat} {v:AV},ρ[i]? = some (some v)->(ρ++List.replicate k none)[i]? = some (some v):=λ{i v} e=>by
  rw[ev (List.getElem?_eq_some_iff.mp e).1];exact e
 have ow':∀i c,own (ρ++List.replicate k none) i c->own ρ i c:=λi c h=>by
  rcases h with h|h
  ·exact .inl (ju h)
  ·exact .inr (ju h)
 refine⟨S.fh,S.oh,S.fo,by simp[S.ln],λi d h=>?_,λi c h=>?_,λi j c e a h1 h2 e1 e2=>?_,λi a h=>?_,λi c h=>S.pq i c (ju h),S.fb⟩
 ·obtain⟨v,e,r⟩:=S.fz i d (ju h);exact⟨v,ap e,r⟩
 ·obtain⟨a,e,oa⟩:=S.ow i c (ow' i c h);exact⟨a,ap e,oa⟩
 ·have o1:=ow' i c h1
  have o2:=ow' j e h2
  obtain⟨a1,q1,_⟩:=S.ow i c o1
  obtain⟨a2,q2,_⟩:=S.ow j e o2
  rw[ap q1]at e1;rw[ap q2]at e2
  injection e1 with e1;injection e2 with e2
  exact S.dj i j c e a o1 o2 (by rw[q1,e1]) (by rw[q2,e2])
 ·obtain⟨e,c,q⟩:=S.pp i a h;exact⟨ap e,c,apr q⟩
theorem _root_.L3.StOk.shrink(S:StOk K G F Z H ρ)(hn:n<=ρ.length)(hp:∀i a,G.P i=some a->i<n):StOk K G F (Z.take n) H (ρ.take n):=by
 have tk:∀{i:Nat} {v:AV},(ρ.take n)[i]? = some (some v)->i<n/\ρ[i]? = some (some v):=λ{i v} e=>by
  have hi:i<n:=by
   have:=(List.getElem?_eq_some_iff.mp e).1
   rw[ls]at this;lia
  rw[ib hi]at e
  exact⟨hi,e⟩
 have ow':∀i c,own (ρ.take n) i c->i<n/\own ρ i c:=λi c h=>by
  rcases h with h|h
  ·exact⟨(tk h).1,.inl (tk h).2⟩
  ·exact⟨(tk h).1,.inr (tk h).2⟩
 refine⟨S.fh,S.oh,S.fo,by simp[S.ln],λi d h=>?_,λi c h=>?_,λi j c e a h1 h2 e1 e2=>?_,λi a h=>?_,λi c h=>S.pq i c (tk h).2,S.fb⟩
 ·obtain⟨v,e,r⟩:=S.fz i d (tk h).2;exact⟨v,by rw[ib (tk h).1];exact e,r⟩
 ·obtain⟨a,e,oa⟩:=S.ow i c (ow' i c h).2;exact⟨a,by rw[ib (ow' i c h).1];exact e,oa⟩
 ·rw[ib (ow' i c h1).1]at e1
  rw[ib (ow' j e h2).1]at e2
  exact S.dj i j c e a (ow' i c h1).2 (ow' j e h2).2 e1 e2
 ·obtain⟨e,c,q⟩:=S.pp i a h
  exact⟨by rw[ib (hp i a h)];exact e,c,by rw[ib (hp i a h)];exact q⟩
end
theorem pH{l l':List α}(h:∀j,j<n->l'[j]? = l[j]?)(hl:l.length=n):l'.take n=l:=by
 apply List.ext_getElem?
 intro i
 by_cases hi:i<n
 ·rw[ib hi,h i hi]
 ·rw[List.getElem?_eq_none_iff.mpr (by rw[ls];lia),List.getElem?_eq_none_iff.mpr (by lia)]
inductive Kd where
 | dead|f|o|p|t|k
 | i (x:Str) (ns:List Str)|j (x:Str) (ns:List Str)
 | n
@[reducible] def SOf:List Kd->Type
 | []=>Unit
 | .dead::r=>SOf r
 | .f::r=>D×SOf r
 | .o::r=>List D×SOf r
 | .p::r=>List D×SOf r
 | .t::r=>List (D×D)×SOf r
 | .k::r=>List (D×D)×SOf r
 | .i _ _::r=>List D×SOf r
 | .j _ _::r=>List D×SOf r
 | .n::r=>List NK×SOf r
def rd:(sh:List Kd)->En->Option (SOf sh)
 | [],[]=>some ()
 | .dead::r,x::ρ=>match x with
  | some (.op _)=>none
  | _=>rd r ρ
 | .f::r,x::ρ=>match x with
  | some (.fz d)=>match rd r ρ with
   | some s=>some (d,s)
   | none=>none
  | _=>none
 | .o::r,x::ρ=>match x with
  | some (.ol (.l ds))=>match rd r ρ with
   | some s=>some (ds,s)
   | none=>none
  | _=>none
 | .p::r,x::ρ=>match x with
  | some (.op (.l ds))=>match rd r ρ with
   | some s=>some (ds,s)
   | none=>none
  | _=>none
 | .t::r,x::ρ=>match x with
  | some (.ol (.t ds))=>match rd r ρ with
   | some s=>some (ds,s)
   | none=>none
  | _=>none
 | .k::r,x::ρ=>match x with
  | some (.ol (.k ds))=>match rd r ρ with
   | some s=>some (ds,s)
   | none=>none
  | _=>none
 | .i y ns::r,x::ρ=>match x with
  | some (.ol (.i z ms ds))=>if z=y/\ms=ns then(match rd r ρ with
   | some s=>some (ds,s)
   | none=>none)else none
  | _=>none
 | .j y ns::r,x::ρ=>match x with
  | some (.op (.i z ms ds))=>if z=y/\ms=ns then(match rd r ρ with
   | some s=>some (ds,s)
   | none=>none)else none
  | _=>none
 | .n::r,x::ρ=>match x with
  | some (.ol (.n ds))=>match rd r ρ with
   | some s=>some (ds,s)
   | none=>none
  | _=>none
 | _,_=>none
def wr:(sh:List Kd)->SOf sh->En
 | [],_=>[]
 | .dead::r,s=>none::wr r s
 | .f::r,s=>some (.fz s.1)::wr r s.2
 | .o::r,s=>some (.ol (.l s.1))::wr r s.2
 | .p::r,s=>some (.op (.l s.1))::wr r s.2
 | .t::r,s=>some (.ol (.t s.1))::wr r s.2
 | .k::r,s=>some (.ol (.k s.1))::wr r s.2
 | .i y ns::r,s=>some (.ol (.i y ns s.1))::wr r s.2
 | .j y ns::r,s=>some (.op (.i y ns s.1))::wr r s.2
 | .n::r,s=>some (.ol (.n s.1))::wr r s.2
def Wk(w ρ:En):Prop:=w.length=ρ.length/\(∀(i:Nat) (av:AV),w[i]? = some (some av)->ρ[i]? = some (some av))/\(∀(i:Nat) (c:OC),ρ[i]? = some (some (AV.op c))->w[i]? = some (some (AV.op c)))
theorem iI{w:En}{x:Option AV}(h:Wk w ρ):Wk (x::w) (x::ρ):=by
 refine⟨congrArg (· + 1) h.1,λi av q=>?_,λi c q=>?_⟩
 ·cases i with
  | zero=>exact q
  | succ i=>exact h.2.1 i av q
 ·cases i with
  | zero=>exact q
  | succ i=>exact h.2.2 i c q
theorem CT{w:En}{x:Option AV}(hx:∀c,x≠some (AV.op c))(h:Wk w ρ):Wk (none::w) (x::ρ):=by
 refine⟨congrArg (· + 1) h.1,λi av q=>?_,λi c q=>?_⟩
 ·cases i with
  | zero=>cases q
  | succ i=>exact h.2.1 i av q
 ·cases i with
  | zero=>exact absurd (Option.some.inj q) (hx c)
  | succ i=>exact h.2.2 i c q
theorem km:∀(sh:List Kd) (ρ:En) (s:SOf sh),rd sh ρ=some s->Wk (wr sh s) ρ
 | [],[],s,h=>⟨rfl,λi av q=>q,λi c q=>q⟩
 | [],_::_,s,h=>by cases h
 | a::r,[],s,h=>by cases a<;>cases h
 | .dead::r,x::ρ,s,h=>by
  dsimp only[rd]at h
  split at h
  ·cases h
  ·rename_i hx
   exact CT hx (km r ρ s h)
 | .f::r,x::ρ,s,h=>by
  dsimp only[rd]at h
  split at h
  ·split at h
   ·rename_i s' e
    cases h
    exact iI (km r ρ s' e)
   ·cases h
  ·cases h
 | .o::r,x::ρ,s,h=>by
  dsimp only[rd]at h
  split at h
  ·split at h
   ·rename_i s' e
    cases h
    exact iI (km r ρ s' e)
   ·cases h
  ·cases h
 | .p::r,x::ρ,s,h=>by
  dsimp only[rd]at h
  split at h
  ·split at h
   ·rename_i s' e
    cases h
    exact iI (km r ρ s' e)
   ·cases h
  ·cases h
 | .t::r,x::ρ,s,h=>by
  dsimp only[rd]at h
  split at h
  ·split at h
   ·rename_i s' e
    cases h
    exact iI (km r ρ s' e)
   ·cases h
  ·cases h
 | .k::r,x::ρ,s,h=>by
  dsimp only[rd]at h
  split at h
  ·split at h
   ·rename_i s' e
    cases h
    exact iI (km r ρ s' e)
   ·cases h
  ·cases h
 | .i y ns::r,x::ρ,s,h=>by
  dsimp only[rd]at h
  split at h
  ·split at h
   ·rename_i hc
    split at h
    ·rename_i s' e
     cases h
     obtain⟨rfl,rfl⟩:=hc
     exact iI (km r ρ s' e)
    ·cases h
   ·cases h
  ·cases h
 | .j y ns::r,x::ρ,s,h=>by
  dsimp only[rd]at h
  split at h
  ·split at h
   ·rename_i hc
    split at h
    ·rename_i s' e
     cases h
     obtain⟨rfl,rfl⟩:=hc
     exact iI (km r ρ s' e)
    ·cases h
   ·cases h
  ·cases h
 | .n::r,x::ρ,s,h=>by
  dsimp only[rd]at h
  split at h
  ·split at h
   ·rename_i s' e
    cases h
    exact iI (km r ρ s' e)
   ·cases h
  ·cases h
theorem _root_.L3.StOk.rd{sh:List Kd}{s:SOf sh}(S:StOk K G F Z H ρ)(h:L4.rd sh ρ=some s):StOk K G F Z H (wr sh s):=by
 obtain⟨h1,h2,h3⟩:=km sh ρ s h
 exact S.weak h1 h2 h3
def rdk{S:Type}(sh:List Kd)(k:SOf sh->M S)(ρ:En):M S:=match rd sh ρ with
 | some s=>k s
 | none=>.bad
abbrev Ev(S α:Type):=(Ex->En->M S)->(α->En->M S)->En->M S
structure KS(S:Type) where
 nx:En->M S
 rt:D->En->M S
 rl:OC->En->M S
 bk:En->M S
 ct:En->M S
 x:Ex->En->M S
def KOk{S:Type}(OK:M S->Prop):Prop:=¬ OK .bad
def XL{S:Type}(X:Cx)(OK:M S->Prop)(x:Ex->En->M S)(G:Gh):Prop:=∀F ρ e,OK (x e ρ)->XW X G F ρ e
def AE{S:Type}(X:Cx)(e:Expr)(m:Ev S D):Prop :=
 ∀(OK:M S->Prop) (x:Ex->En->M S) (k:D->En->M S) (G:Gh) (F:Hp) (Z:L2.St) (H:Hp) (ρ:En) (Q:VK),KOk OK->XL X OK x G->StOk X.K G F Z H ρ->OK (m x k ρ) ->
  (∀d v F' H' ρ',Same F F'->StOk X.K G F' Z H' ρ'->Rep X.K F' v d->OK (k d ρ')->Q v H')->ij X e Z H Q
def AEt{S:Type}(X:Cx)(e:Expr)(m:Ev S Bool):Prop :=
 ∀(OK:M S->Prop) (x:Ex->En->M S) (k:Bool->En->M S) (G:Gh) (F:Hp) (Z:L2.St) (H:Hp) (ρ:En) (Q:Bool->Hp->Prop),KOk OK->XL X OK x G->StOk X.K G F Z H ρ->OK (m x k ρ) ->
  (∀d F' H' ρ',Same F F'->StOk X.K G F' Z H' ρ'->OK (k d ρ')->Q d H')->sG X e Z H Q
def AEw{S:Type}(X:Cx)(e:Expr)(m:Ev S Bool):Prop :=
 ∀(OK:M S->Prop) (x:Ex->En->M S) (k:Bool->En->M S) (G:Gh) (F:Hp) (Z:L2.St) (H:Hp) (ρ:En) (Q:Bool->Hp->Prop),KOk OK->XL X OK x G->StOk X.K G F Z H ρ->OK (m x k ρ) ->
  (∀d F' H' ρ',Same F F'->StOk X.K G F' Z H' ρ'->OK (k d ρ')->Q d H')->sE X e Z H Q
def AEb{S:Type}(X:Cx)(e:Expr)(m:Ev S Bool):Prop :=
 ∀(OK:M S->Prop) (x:Ex->En->M S) (k:Bool->En->M S) (G:Gh) (F:Hp) (Z:L2.St) (H:Hp) (ρ:En) (Q:VK),KOk OK->XL X OK x G->StOk X.K G F Z H ρ->OK (m x k ρ) ->
  (∀d F' H' ρ',Same F F'->StOk X.K G F' Z H' ρ'->OK (k d ρ')->Q (.bl d) H')->ij X e Z H Q
def AEa{S:Type}(X:Cx)(es:List Expr)(m:Ev S (List D)):Prop :=
 ∀(OK:M S->Prop) (x:Ex->En->M S) (k:List D->En->M S) (G:Gh) (F:Hp) (Z:L2.St) (H:Hp) (ρ:En) (Q:List V->Hp->Prop),KOk OK->XL X OK x G->StOk X.K G F Z H ρ->OK (m x k ρ) ->
  (∀ds vs F' H' ρ',Same F F'->StOk X.K G F' Z H' ρ'->vs.length=es.length->RepL X.K F' vs ds->OK (k ds ρ')->Q vs H')->j4 X es Z H Q
def AEl{S:Type}(X:Cx)(e:Expr)(m:Ev S (List D)):Prop :=
 ∀(OK:M S->Prop) (x:Ex->En->M S) (k:List D->En->M S) (G:Gh) (F:Hp) (Z:L2.St) (H:Hp) (ρ:En) (Q:VK),KOk OK->XL X OK x G->StOk X.K G F Z H ρ->OK (m x k ρ) ->
  (∀ds v F' H' ρ',Same F F'->StOk X.K G F' Z H' ρ'->Frs X.K G F' Z H' ρ' v (.l ds)->OK (k ds ρ')->Q v H')->ij X e Z H Q
def ePu{S α:Type}(p:Pu α):Ev S α:=λx k ρ=>(p ρ).on (λe=>x e ρ) (λa=>k a ρ)
section
variable {OK:M S->Prop} {x:Ex->En->M S} {k:α->En->M S} {p:Pu α} {C:α->Hp->Hp->Prop}
theorem W.of(hO:KOk OK)(hX:XL X OK x G)(h:OK (ePu p x k ρ))(w:∀a F' H',Same F F'->StOk X.K G F' Z H' ρ->OK (k a ρ)->C a F' H'):W X G F Z ρ (p ρ) C:=by
 unfold ePu at h
 cases hp:p ρ with
 | ret a=>rw[hp]at h;exact λF' H' s S'=>w a F' H' s S' h
 | exc e=>rw[hp]at h;exact hX F ρ e h
 | bad=>rw[hp]at h;exact hO h
end
section
variable {a c:Expr} {rest:List Expr} {p:Pu D} {pt:Pu Bool} {ps:Pu (List D)}
theorem aA(h:AP X e p):AE (S:=S) X e (ePu p):=λOK x k G F Z H ρ Q hO hX St ok kk=>h G F Z H ρ Q St (W.of hO hX ok λd F' H' s S' o v r=>kk d v F' H' ρ s S' r o)
theorem aW(h:AT X e pt):AEt (S:=S) X e (ePu pt):=λOK x k G F Z H ρ Q hO hX St ok kk=>h G F Z H ρ Q St (W.of hO hX ok λd F' H' s S' o=>kk d F' H' ρ s S' o)
theorem lY(h:AL X e ps):AEl (S:=S) X e (ePu ps):=λOK x k G F Z H ρ Q hO hX St ok kk=>h G F Z H ρ Q St (W.of hO hX ok λd F' H' s S' o v r=>kk d v F' H' ρ s S' r o)
def eZ(m:Ev S (List D)):Ev S D:=λx k ρ=>m x (λds ρ1=>k (.list ds) ρ1) ρ
def Jb(m:Ev S D):Ev S Bool:=λx k ρ=>m x (λd ρ1=>(asB d).on (λe=>x e ρ1) (λb=>k b ρ1)) ρ
def HC(f:D->D->Option D)(a b:Ev S D):Ev S D:=λx k ρ=>a x (λd ρ1=>b x (λd2 ρ2=>(oM (f d d2)).on (λe=>x e ρ2) (λr=>k r ρ2)) ρ1) ρ
def HB(f:D->D->Option Bool)(a b:Ev S D):Ev S Bool:=λx k ρ=>a x (λd ρ1=>b x (λd2 ρ2=>(oM (f d d2)).on (λe=>x e ρ2) (λr=>k r ρ2)) ρ1) ρ
def IZ:Ev S (List D):=λ_ k ρ=>k [] ρ
def HA(m:Ev S D)(ms:Ev S (List D)):Ev S (List D):=λx k ρ=>m x (λd ρ1=>ms x (λds ρ2=>k (d::ds) ρ2) ρ1) ρ
def IX(ms:Ev S (List D)):Ev S D:=λx k ρ=>ms x (λds ρ1=>k (.tuple ds) ρ1) ρ
def eOr(a b:Ev S Bool):Ev S Bool:=λx k ρ=>a x (λt ρ1=>if t then k true ρ1 else b x k ρ1) ρ
def IY(a:Ev S Bool):Ev S Bool:=λx k ρ=>a x (λt ρ1=>k (!t) ρ1) ρ
def eIf{α:Type}(c:Ev S Bool)(a b:Ev S α):Ev S α:=λx k ρ=>c x (λt ρ1=>if t then a x k ρ1 else b x k ρ1) ρ
theorem nr{OK:M S->Prop}(hO:KOk OK){o:Option α}{x:Ex->M S}{k:α->M S}(h:OK ((oM o).on x k)):∃a,o=some a/\OK (k a):=by
 cases o with
 | none=>exact(hO h).elim
 | some a=>exact⟨a,rfl,h⟩
theorem FW{OK:M S->Prop}(hO:KOk OK){ds:List α}{x:Ex->M S}{k:List α->M S}(h:OK ((dw ds).on x k)):ds.length<=sizeLine/\OK (k ds):=by
 unfold dw at h
 split at h
 ·exact⟨by assumption,h⟩
 ·exact(hO h).elim
variable {ma mb m:Ev S D} {ta tb tc:Ev S Bool} {ms:Ev S (List D)}
theorem yc(h:AE X e m):AEb X e (Jb m):=λOK x k G F Z H ρ Q hO hX St ok kk=>h OK x _ G F Z H ρ Q hO hX St ok λd v F' H' ρ' s S' r o=>by
 cases r with
 | bl b=>exact kk b F' H' ρ' s S' o
 | non=>exact(hO o).elim
 | int i=>exact(hO o).elim
 | str i=>exact(hO o).elim
 | tup _ _=>exact(hO o).elim
 | lst _ _=>exact(hO o).elim
 | dct _ _ _=>exact(hO o).elim
 | dck _ _ _=>exact(hO o).elim
 | exc _ _ _ _ _=>exact(hO o).elim
 | fn _=>exact(hO o).elim
theorem uS{OK:M S->Prop}{x:Ex->En->M S}{f:D->D->En->M S}(ha:AE X a ma)(hb:AE X b mb)(hO:KOk OK)(hX:XL X OK x G)(St:StOk X.K G F Z H ρ)
  (ok:OK (ma x (λd ρ1=>mb x (λd2 ρ2=>f d d2 ρ2) ρ1) ρ)) (k:∀u v dx dy F' H' ρ',Same F F'->StOk X.K G F' Z H' ρ'->Rep X.K F' u dx->Rep X.K F' v dy->OK (f dx dy ρ')->r u v H' Q):tOp r (ij X a) (ij X b) Z H Q :=
 ha OK x _ G F Z H ρ _ hO hX St ok λd v F1 H1 ρ1 s1 S1 r1 o1=>hb OK x _ G F1 Z H1 ρ1 _ hO hX S1 o1 λd2 u F2 H2 ρ2 s2 S2 r2 o2=>k v u d d2 F2 H2 ρ2 (s1.trans s2) S2 (r1.mono s2) r2 o2
theorem jb{op:Operator}{f:D->D->Option D}(ho:OpR X (binaryOp op) r)(hf:OpD X.K r f)(ha:AE X a ma)(hb:AE X b mb):AE X (.BinOp a op b pos) (HC f ma mb) :=
 λOK x k G F Z H ρ Q hO hX St ok kk=>sem (By ho bi bi) (uS ha hb hO hX St ok λu v dx dy F' H' ρ' s S' r1 r2 o=>by
  obtain⟨res,e,o'⟩:=nr hO o
  exact hf G F' Z H' ρ' u v dx dy res Q S' (.inl r1) (.inl r2) e λw F2 H2 s2 S2 r3=>kk res w F2 H2 ρ' (s.trans s2) S2 r3 o')
theorem gH{f:D->D->Option D}(hr:IxR X r)(hf:OpD X.K r f)(ha:AE X a ma)(hb:AE X b mb)(hs:vf b:=by exact λ_ _=>rfl):AE X (.Subscript a b pos) (HC f ma mb) :=
 λOK x k G F Z H ρ Q hO hX St ok kk=>sem (Ei hr bi bi hs) (uS ha hb hO hX St ok λu v dx dy F' H' ρ' s S' r1 r2 o=>by
  obtain⟨res,e,o'⟩:=nr hO o
  exact hf G F' Z H' ρ' u v dx dy res Q S' (.inl r1) (.inl r2) e λw F2 H2 s2 S2 r3=>kk res w F2 H2 ρ' (s.trans s2) S2 r3 o')
theorem zm{f:D->D->Option Bool}(ho:OpR X (compareOp op) r)(hf:OpB X.K r f)(ha:AE X a ma)(hb:AE X b mb)(hm:behindInMarks op b=false:=by rfl):AEt X (.Compare a [op] [b] pos) (HB f ma mb) :=
 λOK x k G F Z H ρ Q hO hX St ok kk=>rK (yA ho bi bi hm) (uS (Q:=λx H'=>∃k,x=.bl k/\Q k H') ha hb hO hX St ok λu v dx dy F' H' ρ' s S' r1 r2 o=>by
  obtain⟨res,e,o'⟩:=nr hO o
  exact hf G F' Z H' ρ' u v dx dy res _ S' (.inl r1) (.inl r2) e ⟨res,rfl,kk res F' H' ρ' s S' o'⟩)
theorem aQ:AEa (S:=S) X [] IZ:=λOK x k G F Z H ρ Q hO hX St ok kk=>w6 ui (kk [] [] F H ρ (Same.refl _) St rfl .nil ok)
theorem aG(h:AE X e m)(hr:AEa X es ms)(hs:starEach (e::es) X.env=(false,eval e X.env)::starEach es X.env:=by exact tW rfl):AEa X (e::es) (HA m ms) :=
 λOK x k G F Z H ρ Q hO hX St ok kk=>w6 (kR bi dQ hs) (h OK x _ G F Z H ρ _ hO hX St ok λd v F1 H1 ρ1 s1 S1 r1 o1 =>
  hr OK x _ G F1 Z H1 ρ1 _ hO hX S1 o1 λds vs F2 H2 ρ2 s2 S2 hl r2 o2=>kk (d::ds) (v::vs) F2 H2 ρ2 (s1.trans s2) S2 (by simp[hl]) (.cons (r1.mono s2) r2) o2)
theorem mh{x1}(h:AEa X es ms)(hz:es.length<=1000:=by decide +kernel):AE X (.Tuple es x1 pos) (IX ms) :=
 λOK x k G F Z H ρ Q hO hX St ok kk=>sem (Bw dQ) (h OK x _ G F Z H ρ _ hO hX St ok λds vs F1 H1 ρ1 s1 S1 hl r1 o1=>by
  refine⟨by rw[hl];exact nQ hz,λq hq=>?_⟩
  obtain⟨s2,S2,r2⟩:=S1.newTup hq r1
  exact kk _ _ _ _ ρ1 (s1.trans s2) S2 r2 o1)
theorem u7(ha:AEt X a ta):AEw X (.BoolOp .Or [a] pos) ta:=λOK x k G F Z H ρ Q hO hX St ok kk=>zC (Bg gM) (ha OK x k G F Z H ρ Q hO hX St ok kk)
theorem rj(ha:AEt X a ta)(hb:AEw X (.BoolOp .Or (b::rest) pos) tb):AEw X (.BoolOp .Or (a::b::rest) pos) (eOr ta tb) :=
 λOK x k G F Z H ρ Q hO hX St ok kk=>zC (Eh gM qc) (ha OK x _ G F Z H ρ _ hO hX St ok λt F1 H1 ρ1 s1 S1 o1=>by
  cases t with
  | true=>refine rS ?_;exact kk true F1 H1 ρ1 s1 S1 o1
  | false=>refine rT ?_;exact hb OK x k G F1 Z H1 ρ1 Q hO hX S1 o1 λd F2 H2 ρ2 s2 S2 o2=>kk d F2 H2 ρ2 (s1.trans s2) S2 o2)
theorem yb(h:AEw X e ta):AEt X e ta:=λOK x k G F Z H ρ Q hO hX St ok kk=>rK (λpins s Z H Q I h=>qc _ pins s Z H Q I h) (h OK x k G F Z H ρ Q hO hX St ok kk)
theorem u9(ha:AEt X a ta):AEt X (.UnaryOp .Not a pos) (IY ta) :=
 λOK x k G F Z H ρ Q hO hX St ok kk=>rK (Bj gM) (ha OK x _ G F Z H ρ _ hO hX St ok λt F1 H1 ρ1 s1 S1 o1=>kk (!t) F1 H1 ρ1 s1 S1 o1)
theorem CJ(ha:AEb X a ta)(he:∀whole,isTrue a X.env whole=(do let v <-whole;standAt a.pos;holding [v] (truthy v))):AEt X a ta :=
 λOK x k G F Z H ρ Q hO hX St ok kk=>rK (qd bi he) (ha OK x _ G F Z H ρ _ hO hX St ok λt F1 H1 ρ1 s1 S1 o1=>⟨t,rfl,kk t F1 H1 ρ1 s1 S1 o1⟩)
theorem HP(hc:AEt X c tc)(ha:AE X a ma)(hb:AE X b mb):AE X (.IfExp c a b pos) (eIf tc ma mb) :=
 λOK x k G F Z H ρ Q hO hX St ok kk=>sem (vK gM bi bi) (hc OK x _ G F Z H ρ _ hO hX St ok λt F1 H1 ρ1 s1 S1 o1=>by
  cases t with
  | true=>refine rS ?_;exact ha OK x k G F1 Z H1 ρ1 Q hO hX S1 o1 λd v F2 H2 ρ2 s2 S2 r2 o2=>kk d v F2 H2 ρ2 (s1.trans s2) S2 r2 o2
  | false=>refine rT ?_;exact hb OK x k G F1 Z H1 ρ1 Q hO hX S1 o1 λd v F2 H2 ρ2 s2 S2 r2 o2=>kk d v F2 H2 ρ2 (s1.trans s2) S2 r2 o2)
end
structure Walk(K:Fg)(J:It)(ds:List D)(F:Hp):Prop where
 go:∀(i:Nat) (G:Gh) (F2:Hp) (Z:L2.St) (H2:Hp) (ρ:En),Same F F2->StOk K G F2 Z H2 ρ->i<ds.length->J.go i H2
 yld:∀(i:Nat) (G:Gh) (F2:Hp) (Z:L2.St) (H2:Hp) (ρ:En) (x:V) (H3:Hp) (d:D),Same F F2->StOk K G F2 Z H2 ρ->ds[i]? = some d->J.yld i H2 x H3->∃F3,Same F2 F3/\StOk K G F3 Z H3 ρ/\Rep K F3 x d
 stop:∀(G:Gh) (F2:Hp) (Z:L2.St) (H2:Hp) (ρ:En),Same F F2->StOk K G F2 Z H2 ρ->J.stop ds.length H2
theorem zv{ds:List D}(h:SqL K F a vs)(r:RepL K F vs ds):Walk K (Itl K a) ds F where
 go:=λi G F2 Z H2 ρ s S hi=>by
  have hi':i<vs.length:=by rw[r.length];exact hi
  exact⟨vs,vs[i],S.fh.seq (s.seq h),by simp[hi']⟩
 yld:=λi G F2 Z H2 ρ x H3 d s S hd ⟨e,q⟩=>by
  subst e
  obtain⟨v,e1,e2⟩:=r.get hd
  have:=q vs (S.fh.seq (s.seq h))
  rw[e1]at this
  cases this
  exact⟨F2,Same.refl _,S,e2.mono s⟩
 stop:=λG F2 Z H2 ρ s S=>⟨vs,S.fh.seq (s.seq h),by rw[r.length];exact bo _⟩
theorem AM{ds:List D}(h:SqT K F a vs)(r:RepL K F vs ds):Walk K (Itt K a) ds F where
 go:=λi G F2 Z H2 ρ s S hi=>by
  have hi':i<vs.length:=by rw[r.length];exact hi
  exact⟨vs,vs[i],bC S.fh (bC s h),by simp[hi']⟩
 yld:=λi G F2 Z H2 ρ x H3 d s S hd ⟨e,q⟩=>by
  subst e
  obtain⟨v,e1,e2⟩:=r.get hd
  have:=q vs (bC S.fh (bC s h))
  rw[e1]at this
  cases this
  exact⟨F2,Same.refl _,S,e2.mono s⟩
 stop:=λG F2 Z H2 ρ s S=>⟨vs,bC S.fh (bC s h),by rw[r.length];exact bo _⟩
def jD(lo:Int)(n:Nat):List D:=(List.range n).map λ(i:Nat)=>PyData.int (lo+(i:Int))
theorem i7(lo:Int)(n:Nat):(jD lo n).length=n:=by simp[jD]
theorem pC(lo:Int)(n:Nat):Walk K (Itr lo n) (jD lo n) F where
 go:=λi G F2 Z H2 ρ s S hi=>by rw[i7]at hi;exact hi
 yld:=λi G F2 Z H2 ρ x H3 d s S hd ⟨e,q⟩=>by
  subst e q
  have e':(jD lo n)[i]? = some d:=hd
  unfold jD at e'
  rw[ou]at e'
  have hi:i<n:=by
   have:=(List.getElem?_eq_some_iff.mp hd).1
   rw[i7]at this;exact this
  rw[List.getElem?_range hi]at e'
  cases e'
  exact⟨F2,Same.refl _,S,.int _⟩
 stop:=λG F2 Z H2 ρ s S=>by rw[i7];exact bo _
@[irreducible] def j2(X:Cx)(tg iter:Expr):TI:=λZ H R=>∀(pins:zzk) (s:Shared),Inv X pins Z H s->wpAny (model X.prog X.w) X.A (eval iter X.env) (λv s1=>wpAny (model X.prog X.w) X.A (pyIter v) (PIE X pins Z tg R) X.xe s1) X.xe s
theorem uh:PI X tg e (j2 X tg e):=λpins s Z H R I h=>by unfold j2 at h;exact h pins s I
theorem wZ{t:TI}(h:PI X tg e t)(q:t Z H R):j2 X tg e Z H R:=by unfold j2;exact λpins s I=>h pins s Z H R I q
def AI(X:Cx)(tg e:Expr)(p:Pu (List D)):Prop :=
 ∀(G:Gh) (F:Hp) (Z:L2.St) (H:Hp) (ρ:En) (R:It->Hp->Prop),StOk X.K G F Z H ρ->W X G F Z ρ (p ρ) (λds F' H'=>∀J,Walk X.K J ds F'->R J H')->j2 X tg e Z H R
def AEi{S:Type}(X:Cx)(tg e:Expr)(m:Ev S (List D)):Prop :=
 ∀(OK:M S->Prop) (x:Ex->En->M S) (k:List D->En->M S) (G:Gh) (F:Hp) (Z:L2.St) (H:Hp) (ρ:En) (R:It->Hp->Prop),KOk OK->XL X OK x G->StOk X.K G F Z H ρ->OK (m x k ρ) ->
  (∀ds J F' H' ρ',Same F F'->StOk X.K G F' Z H' ρ'->Walk X.K J ds F'->OK (k ds ρ')->R J H')->j2 X tg e Z H R
theorem e8{ps:Pu (List D)}(h:AI X tg e ps):AEi (S:=S) X tg e (ePu ps):=λOK x k G F Z H ρ Q hO hX St ok kk=>h G F Z H ρ Q St (W.of hO hX ok λd F' H' s S' o v r=>kk d v F' H' ρ s S' r o)
def IR(K:Fg)(tl:TE):TI:=λZ H R=>tl Z H λx H1=>(∃a,x=.ref a/\(∃xs,SqL K H1 a xs)/\R (Itl K a) H1)\/∃a,x=.ref a/\(∃xs,SqT K H1 a xs)/\R (Itt K a) H1
theorem Fh{l:Expr}{tl:TE}(hl:PE X l tl):PI X tg l (IR X.K tl):=by
 intro pins s Z H R I h
 refine thn (hl pins s Z H _ I h) λv s1 ⟨x,H1,I1,r1,q1⟩=>?_
 rcases q1 with ⟨a,e,⟨xs,hq⟩,q⟩|⟨a,e,⟨xs,hq⟩,q⟩
 ·subst e
  cases r1
  obtain⟨its,rv,p,hz⟩:=I1.list hq
  refine wpAny_pyIter_list p.isList ?_
  refine⟨s1.heap.objs.size,[s1.heap.objs.size],_,_,H1,rfl,I1.kept (t':=s1.toks) λb o e=>zzc _ e,zy a _,⟨_,zze _ rfl,rfl,rfl⟩,λb hb=>?_,q⟩
  have e:b=s1.heap.objs.size:=by simpa using hb
  subst e
  exact I1.fpOk (bo _) (I1.hok.fresh (bo _))
 ·subst e
  cases r1
  obtain⟨its,rv,p,hz⟩:=I1.tuple hq
  refine ur (show s1.heap.IsTuple a its.toArray from p) ?_
  refine⟨s1.heap.objs.size,[s1.heap.objs.size],_,_,H1,rfl,I1.kept (t':=s1.toks) λb o e=>zzc _ e,wR a _,⟨_,zze _ rfl,rfl,rfl⟩,λb hb=>?_,q⟩
  have e:b=s1.heap.objs.size:=by simpa using hb
  subst e
  exact I1.fpOk (bo _) (I1.hok.fresh (bo _))
def fj:D->Option (List D)
 | .list ds=>some ds
 | .tuple ds=>some ds
 | _=>none
def pIt(p:Pu D):Pu (List D):=λρ=>bd (p ρ) λd=>oM (fj d)
def jx(i:Int):Bool:=decide (-(2^62)<=i)&&decide (i<2^62)
theorem fT{i:Int}(h:jx i=true) : -(2^62)<=i/\i<2^62:=by
 unfold jx at h
 simp only[ag,zzi]at h
 exact h
def ci:List D->Option (List D)
 | [.int j]=>if jx j then some (jD 0 j.toNat)else none
 | _=>none
def eC:List D->Option (List D)
 | [.int i,.int j]=>if jx i&&jx j then some (jD i (j - i).toNat)else none
 | _=>none
def FZ{S:Type}(f:List D->Option (List D))(ms:Ev S (List D)):Ev S (List D):=λx k ρ=>ms x (λds ρ1=>(oM (f ds)).on (λe=>x e ρ1) (λr=>k r ρ1)) ρ
section
variable {a:Expr} {pp:Pu D} {ps:Pa (List D)} {m:Ev S D} {ms:Ev S (List D)}
theorem A5{d:D}{ds:List D}(s:Same F H)(r:Rep X.K F v d)(hd:fj d=some ds)(k:∀J,Walk X.K J ds F->R J H) :
  (∃a,v=.ref a/\(∃xs,SqL X.K H a xs)/\R (Itl X.K a) H)\/∃a,v=.ref a/\(∃xs,SqT X.K H a xs)/\R (Itt X.K a) H:=by
 cases d with
 | list xs =>
  cases hd
  obtain⟨a,vs,rfl,h1,h2⟩:=r.lst_inv
  exact .inl ⟨_,rfl,⟨_,s.seq h1⟩,k _ (zv h1 h2)⟩
 | tuple xs =>
  cases hd
  obtain⟨a,vs,rfl,h1,h2⟩:=r.tup_inv
  exact .inr ⟨_,rfl,⟨_,SqT.of (s _ _ h1)⟩,k _ (AM (SqT.of h1) h2)⟩
 | _=>exact noS hd
theorem df(h:AP X e pp):AI X tg e (pIt pp):=λG F Z H ρ R S w=>wZ (Fh bi) (h G F Z H ρ _ S (w.bind.imp λd F1 H1 s1 S1 w1 v r1=>by
 obtain⟨ds,hd,k⟩:=w1.opt
 exact A5 S1.fh r1 hd (k F1 H1 (Same.refl _) S1)))
theorem sQ{ds out:List D}(r:RepL X.K F vs ds)(h:ci ds=some out)(k:∀J,Walk X.K J out F->R J H):∃j,vs=[.int j] /\ -(2^62)<=j/\j<2^62/\R (Itr 0 j.toNat) H:=by
 unfold ci at h
 split at h
 ·rename_i j
  split at h
  ·rename_i hs
   cases h
   obtain⟨v,rfl,r1⟩:=r.one_inv
   obtain rfl:=r1.int_inv
   exact⟨j,rfl,(fT hs).1,(fT hs).2,k _ (pC 0 j.toNat)⟩
  ·cases h
 ·cases h
theorem zI{ds out:List D}(r:RepL X.K F vs ds)(h:eC ds=some out)(k:∀J,Walk X.K J out F->R J H) :
  ∃i j,vs=[.int i,.int j]/\(-(2^62)<=i/\i<2^62 /\ -(2^62)<=j/\j<2^62)/\R (Itr i (j - i).toNat) H:=by
 unfold eC at h
 split at h
 ·rename_i i j
  split at h
  ·rename_i hs
   cases h
   rw[ag]at hs
   obtain⟨v,u,rfl,r1,r3⟩:=r.two_inv
   obtain rfl:=r1.int_inv
   obtain rfl:=r3.int_inv
   exact⟨i,j,rfl,⟨(fT hs.1).1,(fT hs.1).2,(fT hs.2).1,(fT hs.2).2⟩,k _ (pC i (j - i).toNat)⟩
  ·cases h
 ·cases h
theorem dN(hg:Gl X "range")(hm:X.mg "range" = none)(ha:AA X [a] ps)(hs:starEach [a] X.env=[(false,eval a X.env)]):AI X tg (.Call (.Name "range" p) [a] [] pos) (nq ci ps) :=
 λG F Z H ρ R S w=>wZ (sR hg hm dQ hs) (ha G F Z H ρ _ _ _ S w λds vs F1 H1 s1 S1 _ r1 w1=>by
  obtain⟨out,hd,k⟩:=w1.opt
  exact sQ r1 hd (k F1 H1 (Same.refl _) S1))
theorem lg(hg:Gl X "range")(hm:X.mg "range" = none)(ha:AA X [a,b] ps)(hs:starEach [a,b] X.env=[(false,eval a X.env),(false,eval b X.env)])(hs2:starEach [b] X.env=[(false,eval b X.env)]):AI X tg (.Call (.Name "range" p) [a,b] [] pos) (nq eC ps) :=
 λG F Z H ρ R S w=>wZ (zK hg hm dQ hs hs2) (ha G F Z H ρ _ _ _ S w λds vs F1 H1 s1 S1 _ r1 w1=>by
  obtain⟨out,hd,k⟩:=w1.opt
  exact zI r1 hd (k F1 H1 (Same.refl _) S1))
theorem lZ(hg:Gl X "range")(hm:X.mg "range" = none)(ha:AEa X [a] ms)(hs:starEach [a] X.env=[(false,eval a X.env)]):AEi X tg (.Call (.Name "range" p) [a] [] pos) (FZ ci ms) :=
 λOK x k G F Z H ρ R hO hX St ok kk=>wZ (sR hg hm dQ hs) (ha OK x _ G F Z H ρ _ hO hX St ok λds vs F1 H1 ρ1 s1 S1 _ r1 o1=>by
  obtain⟨out,hd,o⟩:=nr hO o1
  exact sQ r1 hd λJ wk=>kk out J F1 H1 ρ1 s1 S1 wk o)
end
abbrev Tg(S:Type):=D->(En->M S)->En->M S
def qD(ρ:En)(i:Nat):Bool:=decide (i<ρ.length)&&(match ρ[i]? with
 | some (some (.op _))=>false
 | _=>true)
theorem kr(h:qD ρ i=true):i<ρ.length/\∀c,ρ[i]? ≠ some (some (.op c)):=by
 unfold qD at h
 rw[ag]at h
 refine⟨by simpa using h.1,λc e=>?_⟩
 rw[e]at h
 exact absurd h.2 (by simp)
@[irreducible] def sH(X:Cx)(tg:Expr):TG:=λv Z H Q=>∀(pins:zzk) (s:Shared) (u:Value),Inv X pins Z H s->RelV v u->wpAny (model X.prog X.w) X.A (assign tg X.env u) (λ_ s'=>∃σ' H',Inv X pins σ' H' s'/\Q σ' H') X.xe s
@[irreducible] def pK(X:Cx)(tgs:List Expr):TGs:=λvs Z H Q=>∀(pins:zzk) (s:Shared) (us:List Value),Inv X pins Z H s->Vals vs us->wpAny (model X.prog X.w) X.A (assignInOrder ((assignEach tgs X.env).map (·.2)) us) (λ_ s'=>∃σ' H',Inv X pins σ' H' s'/\Q σ' H') X.xe s
theorem np:PG X tg (sH X tg):=λpins s Z H v u Q I r h=>by unfold sH at h;exact h pins s u I r
theorem yB{tgs:List Expr}:PGs X tgs (pK X tgs):=λpins s Z H vs us Q I r h=>by unfold pK at h;exact h pins s us I r
theorem GF{t:TG}{Q:L2.St->Hp->Prop}(h:PG X tg t)(q:t v Z H Q):sH X tg v Z H Q:=by unfold sH;exact λpins s u I r=>h pins s Z H v u Q I r q
theorem D4{tgs:List Expr}{t:TGs}{Q:L2.St->Hp->Prop}(h:PGs X tgs t)(q:t vs Z H Q):pK X tgs vs Z H Q:=by unfold pK;exact λpins s us I r=>h pins s Z H vs us Q I r q
def AG{S:Type}(X:Cx)(n:Nat)(tg:Expr)(st:Tg S):Prop :=
 ∀(OK:M S->Prop) (k:En->M S) (G:Gh) (F:Hp) (Z:L2.St) (H:Hp) (ρ:En) (v:V) (d:D) (Q:L2.St->Hp->Prop),KOk OK->StOk X.K G F Z H ρ->Rep X.K F v d->OK (st d k ρ) ->
  (∀σ' ρ',StOk X.K G F σ' H ρ'->(∀j,j<n->σ'[j]? = Z[j]? /\ ρ'[j]? = ρ[j]?)->σ'.length=Z.length->ρ'.length=ρ.length->OK (k ρ')->Q σ' H)->sH X tg v Z H Q
def AGs{S:Type}(X:Cx)(n:Nat)(tgs:List Expr)(st:List D->(En->M S)->En->M S):Prop :=
 ∀(OK:M S->Prop) (k:En->M S) (G:Gh) (F:Hp) (Z:L2.St) (H:Hp) (ρ:En) (vs:List V) (ds:List D) (Q:L2.St->Hp->Prop),KOk OK->StOk X.K G F Z H ρ->RepL X.K F vs ds->OK (st ds k ρ) ->
  (∀σ' ρ',StOk X.K G F σ' H ρ'->(∀j,j<n->σ'[j]? = Z[j]? /\ ρ'[j]? = ρ[j]?)->σ'.length=Z.length->ρ'.length=ρ.length->OK (k ρ')->Q σ' H)->pK X tgs vs Z H Q
def Hw{S:Type}(i:Nat):Tg S:=λd k ρ=>match qD ρ i with
 | true=>k (ρ.set i (some (.fz d)))
 | false=>.bad
def Hv{S:Type}:List D->(En->M S)->En->M S
 | [],k,ρ=>k ρ
 | _,_,_=>.bad
def FQ{S:Type}(t:Tg S)(ts:List D->(En->M S)->En->M S):List D->(En->M S)->En->M S
 | d::ds,k,ρ=>t d (λρ1=>ts ds k ρ1) ρ
 | [],_,_=>.bad
def un2{S:Type}(d:D)(k:D->D->M S):M S:=match d with
 | .tuple [a,b]=>k a b
 | _=>.bad
def EH{S:Type}(ts:List D->(En->M S)->En->M S):Tg S:=λd k ρ=>un2 d λa b=>ts [a,b] k ρ
section
theorem aY(hn:n<=i)(hN:X.N.Nodup)(hi:X.N[i]? = some x:=by rfl)(hx:Loc X.env.scope x:=by exact lo rfl)(hf:X.fn x=true\/X.env.scope.names.lookup x=some .local:=by first|exact .inl rfl|exact .inr rfl):AG (S:=S) X n (.Name x pos) (Hw i):=by
 intro OK k G F Z H ρ v d Q hO S r ok kk
 unfold Hw at ok
 split at ok
 ·rename_i ho
  obtain⟨hl,hop⟩:=kr ho
  refine GF (Dh hN hi hx hf) ?_
  exact kk _ _ (S.store hop hl (.inl ⟨d,rfl,r⟩)) (λj hj=>⟨rm (by lia),rm (by lia)⟩) (by simp) (by simp) ok
 ·exact(hO ok).elim
theorem eX:AGs (S:=S) X n [] Hv:=by
 intro OK k G F Z H ρ vs ds Q hO S r ok kk
 cases ds with
 | nil =>
  cases r
  exact D4 Dg ⟨rfl,kk Z ρ S (λ_ _=>⟨rfl,rfl⟩) rfl rfl ok⟩
 | cons d ds=>exact(hO ok).elim
theorem bJ{st:Tg S}{sts:List D->(En->M S)->En->M S}(h1:AG X n e st)(h2:AGs X n es sts)
  (hs:(assignEach (e::es) X.env).map (·.2)=assign e X.env::(assignEach es X.env).map (·.2)):AGs X n (e::es) (FQ st sts):=by
 intro OK k G F Z H ρ vs ds Q hO S r ok kk
 cases ds with
 | nil=>exact(hO ok).elim
 | cons d ds =>
  cases r with
  | cons rv rr =>
   refine D4 (Bu np yB hs) ⟨_,_,rfl,?_⟩
   refine h1 OK _ G F Z H ρ _ d _ hO S rv ok λσ1 ρ1 S1 kp1 l1 m1 o1=>?_
   exact h2 OK k G F σ1 H ρ1 _ ds _ hO S1 rr o1 λσ2 ρ2 S2 kp2 l2 m2 o2=>kk σ2 ρ2 S2 (λj hj=>⟨(kp2 j hj).1.trans (kp1 j hj).1,(kp2 j hj).2.trans (kp1 j hj).2⟩) (l2.trans l1) (m2.trans m1) o2
theorem DY{kk l:Nat}{sts:List D->(En->M S)->En->M S}{st:Tg S}(hc:X.calm=true)(h:AGs X n es sts)(hn:(assignEach es X.env).length=l)(hst:(assignEach es X.env).findIdx? (·.1)=none)
  (hw:∀(OK:M S->Prop) d k ρ,KOk OK->OK (st d k ρ)->∃ds,d=.tuple ds/\ds.length=l/\OK (sts ds k ρ)):AG X n (.Tuple es kk pos) st:=by
 intro OK k G F Z H ρ v d Q hO S r ok k2
 obtain⟨ds,rfl,hl,ok⟩:=hw OK d k ρ hO ok
 cases r with
 | tup h1 h2 =>
  refine GF (Fi hc yB hn hst) ⟨_,_,rfl,SqT.of (S.fh _ _ h1),by rw[h2.length];exact hl,?_⟩
  exact h OK k G F Z H ρ _ ds _ hO S h2 ok k2
theorem eY{kk:Nat}{sts:List D->(En->M S)->En->M S}(hc:X.calm=true)(h:AGs X n es sts)(hn:(assignEach es X.env).length=2)(hst:(assignEach es X.env).findIdx? (·.1)=none):AG X n (.Tuple es kk pos) (EH sts) :=
 DY hc h hn hst λOK d k ρ hO o=>by
  unfold EH un2 at o
  split at o
  ·exact⟨_,rfl,rfl,o⟩
  ·exact(hO o).elim
end
abbrev SM(S:Type):=KS S->En->M S
structure EOk{S:Type}(X:Cx)(OK:M S->Prop)(K:KS S)(G:Gh)(F:Hp)(E:Ends):Prop where
 nx:∀F' σ' H' ρ',Same F F'->StOk X.K G F' σ' H' ρ'->OK (K.nx ρ')->E.nx σ' H'
 rt:∀F' σ' H' ρ' d v,Same F F'->StOk X.K G F' σ' H' ρ'->Rep X.K F' v d->OK (K.rt d ρ')->E.rt v H'
 rl:∀F' σ' H' ρ' c v,Same F F'->StOk X.K G F' σ' H' ρ'->Frs X.K G F' σ' H' ρ' v c->OK (K.rl c ρ')->E.rt v H'
 bk:∀F' σ' H' ρ',Same F F'->StOk X.K G F' σ' H' ρ'->OK (K.bk ρ')->E.bk σ' H'
 ct:∀F' σ' H' ρ',Same F F'->StOk X.K G F' σ' H' ρ'->OK (K.ct ρ')->E.ct σ' H'
theorem EOk.up{OK:M S->Prop}{K:KS S}{E:Ends}(h:EOk X OK K G F E)(s:Same F F'):EOk X OK K G F' E :=
 ⟨λF2 σ' H' ρ' s2=>h.nx F2 σ' H' ρ' (s.trans s2),λF2 σ' H' ρ' d v s2=>h.rt F2 σ' H' ρ' d v (s.trans s2),λF2 σ' H' ρ' d v s2=>h.rl F2 σ' H' ρ' d v (s.trans s2),λF2 σ' H' ρ' s2=>h.bk F2 σ' H' ρ' (s.trans s2),λF2 σ' H' ρ' s2=>h.ct F2 σ' H' ρ' (s.trans s2)⟩
@[irreducible] def pJ(X:Cx)(st:Stmt):TS:=λE Z H=>∀(pins:zzk) (s:Shared),Inv X pins Z H s->wpAny (model X.prog X.w) X.A (exec st X.env) (SP X pins E) X.xe s
@[irreducible] def vx(X:Cx)(sts:List Stmt):TS:=λE Z H=>∀(pins:zzk) (s:Shared),Inv X pins Z H s->wpAny (model X.prog X.w) X.A (execs sts X.env) (SP X pins E) X.xe s
section
variable {sts:List Stmt} {E:Ends} {t:TS}
theorem Bn:PS X st (pJ X st):=λpins s Z H E I h=>by unfold pJ at h;exact h pins s I
theorem jE:PSs X sts (vx X sts):=λpins s Z H E I h=>by unfold vx at h;exact h pins s I
theorem tZ(h:PS X st t)(q:t E Z H):pJ X st E Z H:=by unfold pJ;exact λpins s I=>h pins s Z H E I q
theorem E2(h:PSs X sts t)(q:t E Z H):vx X sts E Z H:=by unfold vx;exact λpins s I=>h pins s Z H E I q
end
def AS{S:Type}(X:Cx)(st:Stmt)(m:SM S):Prop :=
 ∀(OK:M S->Prop) (K:KS S) (G:Gh) (F:Hp) (Z:L2.St) (H:Hp) (ρ:En) (E:Ends),KOk OK->XL X OK K.x G->StOk X.K G F Z H ρ->OK (m K ρ)->EOk X OK K G F E->pJ X st E Z H
def ASs{S:Type}(X:Cx)(st:List Stmt)(m:SM S):Prop :=
 ∀(OK:M S->Prop) (K:KS S) (G:Gh) (F:Hp) (Z:L2.St) (H:Hp) (ρ:En) (E:Ends),KOk OK->XL X OK K.x G->StOk X.K G F Z H ρ->OK (m K ρ)->EOk X OK K G F E->vx X st E Z H
section
def GI:SM S:=λK ρ=>K.nx ρ
def Im(m n:SM S):SM S:=λK ρ=>m { K with nx:=λρ1=>n K ρ1 } ρ
def sIf(c:Ev S Bool)(m n:SM S):SM S:=λK ρ=>c K.x (λb ρ1=>if b then m K ρ1 else n K ρ1) ρ
def sTo(sh:List Kd)(m:SM S):SM S:=λK ρ=>m { K with nx:=λρ1=>rdk sh (λs=>K.nx (wr sh s)) ρ1 } ρ
def E3(i:Nat)(m:Ev S D):SM S:=λK ρ=>m K.x (λd ρ1=>match qD ρ1 i with
 | true=>K.nx (ρ1.set i (some (.fz d)))
 | false=>.bad) ρ
def GG(i:Nat)(m:Ev S (List D)):SM S:=λK ρ=>m K.x (λds ρ1=>match qD ρ1 i with
 | true=>K.nx (ρ1.set i (some (.ol (.l ds))))
 | false=>.bad) ρ
def Iq(t:Tg S)(m:Ev S D):SM S:=λK ρ=>m K.x (λd ρ1=>t d K.nx ρ1) ρ
def Io(m:Ev S D):SM S:=λK ρ=>m K.x K.rt ρ
def GH(m:Ev S (List D)):SM S:=λK ρ=>m K.x (λds=>K.rl (.l ds)) ρ
def tY(ρ:En)(i:Nat)(ds:List D):En:=match ρ[i]? with
 | some (some (.op _))=>ρ.set i (some (.op (.l ds)))
 | _=>ρ.set i (some (.ol (.l ds)))
def GJ(i:Nat)(f:List D->List D->Option (List D))(ms:Ev S (List D)):SM S:=λK ρ=>match ko ρ i with
 | some _=>ms K.x (λas ρ1=>match ko ρ1 i with
  | some ds=>(oM (f ds as)).on (λe=>K.x e ρ1) (λds'=>K.nx (tY ρ1 i ds'))
  | none=>.bad) ρ
 | none=>.bad
def eB{T:Type}(step:T->D->(T->M S)->M S):List D->T->(T->M S)->M S
 | [],s,k=>k s
 | d::r,s,k=>step s d (λs'=>eB step r s' k)
@[reducible] def yM(sh:List Kd)(K:KS S)(kn:SOf sh->M S):KS S:={ K with
  nx:=λρ3=>rdk sh kn ρ3
  ct:=λρ3=>rdk sh kn ρ3
  bk:=λρ3=>rdk sh (λs'=>K.nx (wr sh s')) ρ3 }
def E5(sh:List Kd)(it:Ev S (List D))(t:Tg S)(mb:SM S):SM S:=λK ρ=>it K.x (λds ρ1=>rdk sh (λs=>eB (λs d kn=>t d (λρ2=>mb (yM sh K kn) ρ2) (wr sh s)) ds s (λs'=>K.nx (wr sh s'))) ρ1) ρ
end
theorem oq(ρ:En)(i:Nat)(ds ds0:List D)(h:ko ρ i=some ds0):tY ρ i ds=ρ.set i ((ρ[i]?.join).map fun | .op _=>.op (.l ds)|_=>.ol (.l ds)):=by
 unfold ko at h
 unfold tY
 split at h
 ·rename_i q;rw[q];rfl
 ·rename_i q;rw[q];rfl
 ·cases h
theorem lF{OK:M S->Prop}(hO:KOk OK){sh:List Kd}{k:SOf sh->M S}(h:OK (rdk sh k ρ)):∃s,rd sh ρ=some s/\OK (k s):=by
 unfold rdk at h
 split at h
 ·rename_i s e;exact⟨s,e,h⟩
 ·exact(hO h).elim
section
variable {sts rest:List Stmt} {m n:SM S} {c a:Expr} {me:Ev S D} {mt:Ev S Bool} {ml:Ev S (List D)} {tpos:Pos}
theorem aP:ASs (S:=S) X [] GI:=λOK K G F Z H ρ E hO hX St ok eo=>E2 C9 (eo.nx F Z H ρ (Same.refl _) St ok)
theorem au(h1:AS X st m)(h2:ASs X rest n):ASs X (st::rest) (Im m n):=λOK K G F Z H ρ E hO hX St ok eo =>
 E2 (Bl Bn jE) (h1 OK { K with nx:=λρ1=>n K ρ1 } G F Z H ρ _ hO hX St ok ⟨λF' σ' H' ρ' s S' o=>h2 OK K G F' σ' H' ρ' E hO hX S' o (eo.up s),eo.rt,eo.rl,eo.bk,eo.ct⟩)
theorem aB(h1:AS X st m):ASs X [st] m:=λOK K G F Z H ρ E hO hX St ok eo=>E2 (C8 Bn) (h1 OK K G F Z H ρ E hO hX St ok eo)
theorem bn{A B:List Stmt}(hc:AEt X c mt)(ha:ASs X A m)(hb:ASs X B n):AS X (.If c A B pos) (sIf mt m n):=λOK K G F Z H ρ E hO hX St ok eo =>
 tZ (G1 gM jE jE) (hc OK K.x _ G F Z H ρ _ hO hX St ok λt F1 H1 ρ1 s1 S1 o1=>by
  cases t with
  | true=>exact ha OK K G F1 Z H1 ρ1 E hO hX S1 o1 (eo.up s1)
  | false=>exact hb OK K G F1 Z H1 ρ1 E hO hX S1 o1 (eo.up s1))
theorem aS{sh:List Kd}(h:AS X st m):AS X st (sTo sh m):=λOK K G F Z H ρ E hO hX St ok eo =>
 h OK { K with nx:=λρ1=>rdk sh (λs=>K.nx (wr sh s)) ρ1 } G F Z H ρ E hO hX St ok ⟨λF' σ' H' ρ' s S' o=>by
  obtain⟨s',e',o'⟩:=lF hO o
  exact eo.nx F' σ' H' _ s (S'.rd e') o',eo.rt,eo.rl,eo.bk,eo.ct⟩
theorem aK(he:AE X e me):AS X (.Return (some e) pos) (Io me):=λOK K G F Z H ρ E hO hX St ok eo =>
 tZ (Bo bi) (he OK K.x K.rt G F Z H ρ _ hO hX St ok λd v F1 H1 ρ1 s1 S1 r1 o1=>eo.rt F1 Z H1 ρ1 d v s1 S1 r1 o1)
theorem DV(he:AEl X e ml):AS X (.Return (some e) pos) (GH ml):=λOK K G F Z H ρ E hO hX St ok eo =>
 tZ (Bo bi) (he OK K.x (λds=>K.rl (.l ds)) G F Z H ρ _ hO hX St ok λd v F1 H1 ρ1 s1 S1 r1 o1=>eo.rl F1 Z H1 ρ1 (.l d) v s1 S1 r1 o1)
theorem aO(hN:X.N.Nodup)(he:AE X e me)(hi:X.N[i]? = some x:=by rfl)(hx:Loc X.env.scope x:=by exact lo rfl)(hs:swapsWith e (some (.Name x pos')) pos.line X.env=pure false:=by rfl)(hf:X.fn x=true\/X.env.scope.names.lookup x=some .local:=by exact .inl rfl) :
  AS X (.Assign [.Name x pos'] e pos) (E3 i me):=λOK K G F Z H ρ E hO hX St ok eo =>
 tZ (Bm hN hi hx bi hs hf) (he OK K.x _ G F Z H ρ _ hO hX St ok λd v F1 H1 ρ1 s1 S1 r1 o1=>by
  split at o1
  ·rename_i ho
   obtain⟨hl,hop⟩:=kr ho
   exact eo.nx F1 _ H1 _ s1 (S1.store hop hl (.inl ⟨d,rfl,r1⟩)) o1
  ·exact(hO o1).elim)
theorem lc(hN:X.N.Nodup)(he:AEl X e ml)(hi:X.N[i]? = some x:=by rfl)(hx:Loc X.env.scope x:=by exact lo rfl)(hs:swapsWith e (some (.Name x pos')) pos.line X.env=pure false:=by rfl)(hf:X.fn x=true\/X.env.scope.names.lookup x=some .local:=by exact .inl rfl) :
  AS X (.Assign [.Name x pos'] e pos) (GG i ml):=λOK K G F Z H ρ E hO hX St ok eo =>
 tZ (Bm hN hi hx bi hs hf) (he OK K.x _ G F Z H ρ _ hO hX St ok λd v F1 H1 ρ1 s1 S1 r1 o1=>by
  split at o1
  ·rename_i ho
   obtain⟨hl,hop⟩:=kr ho
   exact eo.nx F1 _ H1 _ s1 (S1.store hop hl (.inr ⟨.l d,rfl,r1⟩)) o1
  ·exact(hO o1).elim)
theorem CC{t:Tg S}(he:AE X e me)(hg:AG X 0 tg t)(hs:swapsWithSole [tg] e pos.line X.env=pure false)(hw:swappedStores [tg] e X.env=pure none)
  (h1:(assignEach [tg] X.env).map (·.2)=[assign tg X.env]):AS X (.Assign [tg] e pos) (Iq t me):=λOK K G F Z H ρ E hO hX St ok eo =>
 tZ (Bp bi np hs hw h1) (he OK K.x _ G F Z H ρ _ hO hX St ok λd v F1 H1 ρ1 s1 S1 r1 o1 =>
  hg OK K.nx G F1 Z H1 ρ1 v d _ hO S1 r1 o1 λσ' ρ' S' _ _ _ o'=>eo.nx F1 σ' H1 ρ' s1 S' o')
end
section
variable {m n mb:SM S} {c a o:Expr} {me mi:Ev S D} {mt:Ev S Bool} {ml ms:Ev S (List D)} {tpos apos cpos:Pos}
theorem Gg{iter:Expr}{body:List Stmt}{sh:List Kd}{t:Tg S}(hp:PassesOwn (model X.prog X.w) X.A X.env X.xe)(hc:X.calm=true)(hi:AEi X tg iter ml)(hg:AG X 0 tg t)(hb:ASs X body mb)
  (hs:∀x,foldedSetIterable iter X.env x=pure x):AS X (.For tg iter body [] pos) (E5 sh ml t mb):=λOK K G F Z H ρ E hO hX St ok eo =>
 tZ (Fe hp hc uh np jE hs) (hi OK K.x _ G F Z H ρ _ hO hX St ok λds J F1 H1 ρ1 s1 S1 wk o1=>by
  obtain⟨s0,e0,o0⟩:=lF hO o1
  have S0:=S1.rd e0
  clear o1
  generalize hstep:(λ(s:SOf sh) d (kn:SOf sh->M S)=>t d (λρ2=>mb (yM sh K kn) ρ2) (wr sh s))=step at o0
  refine⟨λi m σ' H'=>∃F' s,m=ds.length - i/\i<=ds.length/\Same F1 F'/\StOk X.K G F' σ' H' (wr sh s)/\OK (eB step (ds.drop i) s (λs'=>K.nx (wr sh s'))),⟨ds.length,F1,s0,rfl,gh _,Same.refl _,S0,o0⟩,?_⟩
  rintro i m σ' H' ⟨F',s,rfl,hi,s2,S2,go⟩
  by_cases hlt:i<ds.length
  ·have ed:ds.drop i=ds[i]::ds.drop (i+1):=At hlt
   rw[ed]at go
   dsimp only[eB]at go
   rw[<-hstep]at go
   have again:∀F5 σ5 H5 ρ5,Same F' F5->StOk X.K G F5 σ5 H5 ρ5->OK (rdk sh (λs'=>eB step (ds.drop (i+1)) s' λs'=>K.nx (wr sh s')) ρ5) ->
     ∃m',m'<ds.length - i/\∃F' s,m'=ds.length - (i+1)/\i+1<=ds.length/\Same F1 F'/\StOk X.K G F' σ5 H5 (wr sh s)/\OK (eB step (ds.drop (i+1)) s (λs'=>K.nx (wr sh s'))):=λF5 σ5 H5 ρ5 s5 S5 o5=>by
    obtain⟨s',e',o'⟩:=lF hO o5
    exact⟨ds.length - (i+1),by omega,F5,s',rfl,hlt,s2.trans s5,S5.rd e',o'⟩
   refine .inr ⟨wk.go i G F' σ' H' _ s2 S2 hlt,λσ4 H4=>∃m',m'<ds.length - i/\∃F' s,m'=ds.length - (i+1)/\i+1<=ds.length/\Same F1 F'/\StOk X.K G F' σ4 H4 (wr sh s)/\OK (eB step (ds.drop (i+1)) s (λs'=>K.nx (wr sh s'))),λσ4 H4 h4=>h4,λx H2 y=>?_⟩
   obtain⟨F3,s3,S3,r3⟩:=wk.yld i G F' σ' H' _ x H2 ds[i] s2 S2 (by simp[hlt]) y
   refine hg OK _ G F3 σ' H2 (wr sh s) x ds[i] _ hO S3 r3 go λσ3 ρ3 S4 _ _ _ o4=>?_
   rw[hstep]at o4
   refine hb OK (yM sh K λs'=>eB step (ds.drop (i+1)) s' λs'=>K.nx (wr sh s')) G F3 σ3 H2 ρ3 _ hO hX S4 o4 ⟨λF5 σ5 H5 ρ5 s5 S5 o5=>?_,λF5 σ5 H5 ρ5 d v s5=>eo.rt F5 σ5 H5 ρ5 d v ((s1.trans (s2.trans s3)).trans s5),λF5 σ5 H5 ρ5 d v s5=>eo.rl F5 σ5 H5 ρ5 d v ((s1.trans (s2.trans s3)).trans s5),λF5 σ5 H5 ρ5 s5 S5 o5=>?_,λF5 σ5 H5 ρ5 s5 S5 o5=>?_⟩
   ·exact again F5 σ5 H5 ρ5 (s3.trans s5) S5 o5
   ·obtain⟨s',e',o'⟩:=lF hO o5
    exact eo.nx F5 σ5 H5 _ ((s1.trans (s2.trans s3)).trans s5) (S5.rd e') o'
   ·exact again F5 σ5 H5 ρ5 (s3.trans s5) S5 o5
  ·have ei:i=ds.length:=by omega
   subst ei
   rw[List.drop_length]at go
   exact .inl ⟨wk.stop G F' σ' H' _ s2 S2,eo.nx F' σ' H' _ (s1.trans s2) S2 go⟩)
theorem mz{ds:List D}(St:StOk K G F Z H ρ)(h:ko ρ i=some ds):∃a vs,Z[i]? = some (some (.ref a))/\H a=some (.lst vs)/\RepL K F vs ds:=by
 obtain⟨a,ea,oa⟩:=St.ow i _ (mB h)
 obtain⟨vs,h1,h2⟩:=oa.he
 exact⟨a,vs,ea,h1,h2⟩
theorem yE{a:Addr}{ds ds':List D}{vs':List V}(St:StOk K G F Z H ρ)(h:ko ρ i=some ds)(ha:Z[i]? = some (some (.ref a)))(r:RepL K F vs' ds') :
  StOk K G F Z (upd H a (.lst vs')) (tY ρ i ds'):=by
 rw[oq ρ i ds' ds h]
 exact St.change (mB h) ha (c':=.l ds') ⟨_,dq,r⟩
def jj(ds as:List D):Option (List D):=match as with
 | [d]=>if ds.length<sizeLine then some (ds++[d])else none
 | _=>none
theorem jV(hN:X.N[i]? = some x)(hv:Vis X.env.scope x)(he:AEa X [e] ms)
  (hbase:attributeBase (.Name x pos') "append" X.env (eval (.Name x pos') X.env)=eval (.Name x pos') X.env)
  (hfew:((backTo cpos (starEach [e] X.env)).all (λx=>!x.1)&&(backToKw cpos (keywordEach [] X.env)).all (λx=>x.1.isSome)
   && decide ([e].length+([]:List Keyword).length+(if([]:List Keyword).isEmpty then 0 else 1)<30))=true)
  (hline:(apos.endLine==cpos.line)=true) (hs:starEach [e] X.env=(false,eval e X.env)::starEach [] X.env) (hplain:(backTo cpos (starEach [] X.env)).any (·.1)=false)
  (hsw:swapsWith (.Call (.Attribute (.Name x pos') "append" apos) [e] [] cpos) none pos.line X.env=pure false) (hd:(x==("__debug__" : Str))=false:=by decide) (hcd:(x==("__classdict__" : Str))=false:=by decide) :
  AS X (.Expr (.Call (.Attribute (.Name x pos') "append" apos) [e] [] cpos) pos) (GJ i jj ms):=λOK K G F Z H ρ E hO hX St ok eo =>
 tZ (Da (G4 PySem.F.plainAttrs_list PySem.F.slot_list_append PySem.F.type_list_append zS (qi hN hv hd hcd) dQ hbase hfew hline hs hplain) hsw) (by
  unfold GJ at ok
  split at ok
  case h_2=>exact(hO ok).elim
  ·rename_i ds0 h0
   obtain⟨a,vs0,ea,hh,_⟩:=mz St h0
   refine⟨_,ea,.inl ⟨rfl,vs0,.inl (.inl hh)⟩,he OK K.x _ G F Z H ρ _ hO hX St ok λas ws F1 H1 ρ1 s1 S1 _ r1 o1=>?_⟩
   split at o1
   ·rename_i ds hds
    obtain⟨ds',hf,o2⟩:=nr hO o1
    obtain⟨a',vs,ea',hh',rv⟩:=mz S1 hds
    rw[ea]at ea'
    injection ea' with ea';injection ea' with ea';injection ea' with ea'
    subst ea'
    unfold jj at hf
    split at hf
    ·split at hf
     ·rename_i hz
      cases hf
      cases r1 with
      | cons ra rb =>
       cases rb
       refine⟨a,vs,_,rfl,rfl,hh',by rw[rv.length];exact hz,?_⟩
       exact eo.nx F1 Z _ _ s1 (yE S1 hds ea (rv.append (.cons ra .nil))) o2
     ·cases hf
    ·cases hf
   ·exact(hO o1).elim)
end
theorem map_some_get{l:List α}{x:α}:(l.map some)[i]? = some (some x)↔l[i]? = some x:=by
 rw[ou]
 cases l[i]? <;> simp
open Classical in
noncomputable def bO(G:Gh)(Z:L2.St)(ρ:En)(H:Hp)(ex:Option Addr):Hp:=λb=>if(∃(i:Nat) (c:OC),own ρ i c/\Z[i]? = some (some (V.ref b)))/\some b≠ex then H b else G.O b
def setC(ρ:En)(j:Nat)(c:OC):En:=ρ.set j ((ρ[j]?.join).map fun | .op _=>.op c|_=>.ol c)
section
variable {ds:List D}
theorem dY(S:StOk K G F Z H ρ){b:Addr}{o:HO}(h:G.O b=some o):bO G Z ρ H ex b=some o:=by
 unfold bO
 rw[ef]
 ·exact h
 ·rintro⟨⟨i,c,ho,e⟩,_⟩
  obtain⟨a,e',oa⟩:=S.ow i c ho
  rw[e]at e'
  injection e' with e';injection e' with e';injection e' with e'
  subst e'
  rw[oa.no]at h;cases h
theorem iP{b:Addr}(ho:own ρ i c)(e:Z[i]? = some (some (V.ref b)))(hx:some b≠ex):bO G Z ρ H ex b=H b:=by
 unfold bO
 rw[be ⟨⟨i,c,ho,e⟩,hx⟩]
theorem tI(S:StOk K G F Z H ρ):Same (bO G Z ρ H ex) H:=λb o h=>by
 unfold bO at h
 split at h
 ·exact h
 ·exact S.oh b o h
theorem _root_.L3.Held.notup{o:HO}(h:Held K F H a c)(e:H a=some o):CM o:=by
 cases c with
 | l ds=>obtain⟨vs,h1,_⟩:=h;rw[h1]at e;cases e;exact True.intro
 | t es=>obtain⟨vs,h1,_⟩:=h;rw[h1]at e;cases e;exact True.intro
 | k es=>obtain⟨vs,h1,_⟩:=h;rw[h1]at e;cases e;exact True.intro
 | i x ns ds=>obtain⟨C,dx,fs,h1,_⟩:=h;rw[h1]at e;cases e;exact True.intro
 | n ns=>obtain⟨o,xs,h1,_⟩:=h;rw[h1]at e;cases e;exact True.intro
theorem tJ(S:StOk K G F Z H ρ):∀b o,bO G Z ρ H ex b=some o->F b=none/\CM o:=λb o h=>by
 unfold bO at h
 split at h
 ·rename_i hc
  obtain⟨⟨i,c,ho,e⟩,_⟩:=hc
  obtain⟨a,e',oa⟩:=S.ow i c ho
  rw[e]at e'
  injection e' with e';injection e' with e';injection e' with e'
  subst e'
  exact⟨oa.nf,oa.he.notup h⟩
 ·exact S.fo b o h
theorem lS{av:AV}(h:((ds.map AV.fz).map some)[i]? = some (some av)):∃d,av=.fz d/\ds[i]? = some d:=by
 rw[map_some_get,ou]at h
 cases q:ds[i]? with
 | none=>rw[q]at h;cases h
 | some d=>rw[q]at h;cases h;exact⟨d,rfl,rfl⟩
theorem jG(h:own ((ds.map AV.fz).map some) i c):False:=by
 rcases h with h|h<;>(obtain⟨d,z,_⟩:=lS h;cases z)
theorem h8(S:StOk K G F Z H ρ)(r:RepL K F vs ds):StOk K ⟨λ_=>none,bO G Z ρ H none,F⟩ F (vs.map some) H ((ds.map AV.fz).map some):=by
 refine⟨S.fh,tI S,tJ S,by simp[r.length],λi d h=>?_,λi c h=>(jG h).elim,λi j c e a h=>(jG h).elim,λi a h=>(nomatch h),λi c h=>?_,Same.refl _⟩
 ·obtain⟨d',z,e⟩:=lS h
  cases z
  obtain⟨v,e1,e2⟩:=r.get e
  exact⟨v,map_some_get.mpr e1,e2⟩
 ·obtain⟨d',z,e⟩:=lS h;cases z
theorem lU{avs':List AV}(S:StOk K G F Z H ρ)(s1:Same F F')(S1:StOk K ⟨λ_=>none,bO G Z ρ H none,F⟩ F' (vs.map some) H' (avs'.map some)) :
  StOk K G F' Z H' ρ/\∀v c,Frs K ⟨λ_=>none,bO G Z ρ H none,F⟩ F' (vs.map some) H' (avs'.map some) v c->Frs K G F' Z H' ρ v c:=by
 have oo:∀b,bO G Z ρ H none b=none->G.O b=none:=λb h=>by
  cases q:G.O b with
  | none=>rfl
  | some o=>rw[dY S q]at h;cases h
 refine⟨⟨S1.fh,λb o h=>S1.oh b o (dY S h),λb o h=>S1.fo b o (dY S h),S.ln,λi d h=>?_,λi c h=>?_,S.dj,S.pp,S.pq,S.fb.trans s1⟩,λv cc h=>?_⟩
 ·obtain⟨v,e,r⟩:=S.fz i d h;exact⟨v,e,r.mono s1⟩
 ·obtain⟨a,e,oa⟩:=S.ow i c h
  obtain⟨o,ho⟩:=oa.he.some
  have q:bO G Z ρ H none a=some o:=by rw[iP h e (by simp)];exact ho
  exact⟨a,e,(S1.fo a o q).1,oa.no,(oa.he.mono s1).at (by rw[S1.oh a o q,ho])⟩
 ·obtain⟨a,rfl,oa,_⟩:=h
  refine⟨a,rfl,⟨oa.nf,oo a oa.no,oa.he⟩,λi e ho q=>?_⟩
  obtain⟨a',e',oa'⟩:=S.ow i e ho
  rw[q]at e'
  injection e' with e';injection e' with e';injection e' with e'
  subst e'
  obtain⟨o,hh⟩:=oa'.he.some
  have:=oa.no
  rw[show(⟨λ_=>none,bO G Z ρ H none,F⟩:Gh).O a=bO G Z ρ H none a from rfl,iP ho q (by simp),hh]at this
  cases this
def P1(a:Addr):Nat->Option Addr
 | 0=>some a
 | _=>none
theorem Ag(S:StOk K G F Z H ρ)(hj:own ρ j c)(ha:Z[j]? = some (some (V.ref a)))(r:RepL K F vs ds) :
  StOk K ⟨P1 a,bO G Z ρ H (some a),F⟩ F ((V.ref a::vs).map some) H ((AV.op c::ds.map AV.fz).map some):=by
 obtain⟨a',e',oa⟩:=S.ow j c hj
 rw[ha]at e'
 injection e' with e';injection e' with e';injection e' with e'
 subst e'
 have at0:∀i d,own ((AV.op c::ds.map AV.fz).map some) i d->i=0/\d=c:=λi d h=>by
  cases i with
  | zero=>rcases h with h|h<;>(simp at h);exact⟨rfl,h.symm⟩
  | succ i=>exact(jG (ds:=ds) (i:=i) (c:=d) (by unfold own at h ⊢;simpa using h)).elim
 refine⟨S.fh,tI S,tJ S,by simp[r.length],λi d h=>?_,λi d h=>?_,λi k d e b h1 h2 _ _=>?_,λi b h=>?_,λi d h=>?_,Same.refl _⟩
 ·cases i with
  | zero=>simp at h
  | succ i =>
   obtain⟨d',z,e⟩:=lS (ds:=ds) (i:=i) (av:=.fz d) (by simpa using h)
   cases z
   obtain⟨v,e1,e2⟩:=r.get e
   exact⟨v,by simpa using e1,e2⟩
 ·obtain⟨rfl,rfl⟩:=at0 i d h
  refine⟨a,rfl,oa.nf,?_,oa.he⟩
  show bO G Z ρ H (some a) a=none
  unfold bO
  rw[ef (by simp)]
  exact oa.no
 ·rw[(at0 i d h1).1,(at0 k e h2).1]
 ·cases i with
  | zero=>cases h;exact⟨rfl,c,rfl⟩
  | succ i=>cases h
 ·cases i with
  | zero=>exact⟨a,rfl⟩
  | succ i =>
   obtain⟨d',z,e⟩:=lS (ds:=ds) (i:=i) (av:=.op d) (by simpa using h)
   cases z
theorem xV{c':OC}{l:List AV}(S:StOk K G F Z H ρ)(hj:own ρ j c)(ha:Z[j]? = some (some (V.ref a)))(s1:Same F F')
  (S1:StOk K ⟨P1 a,bO G Z ρ H (some a),F⟩ F' ((V.ref a::vs).map some) H' ((AV.op c'::l).map some)) :
  StOk K G F' Z H' (setC ρ j c')/\∀v cc,Frs K ⟨P1 a,bO G Z ρ H (some a),F⟩ F' ((V.ref a::vs).map some) H' ((AV.op c'::l).map some) v cc->Frs K G F' Z H' (setC ρ j c') v cc:=by
 have oo:∀b,bO G Z ρ H (some a) b=none->G.O b=none:=λb h=>by
  cases q:G.O b with
  | none=>rfl
  | some o=>rw[dY S q]at h;cases h
 obtain⟨a',e',oa⟩:=S.ow j c hj
 rw[ha]at e'
 injection e' with e';injection e' with e';injection e' with e'
 subst e'
 have hl:j<ρ.length:=by rcases hj with h|h<;>exact(List.getElem?_eq_some_iff.mp h).1
 generalize hav:((ρ[j]?.join).map λ(x:AV)=>match x with | .op _=>AV.op c'|_=>AV.ol c')=av
 have hset:setC ρ j c'=ρ.set j av:=by rw[<-hav];rfl
 rw[hset]
 have ne:∀i,i≠j->(ρ.set j av)[i]? = ρ[i]?:=λi hi=>rm (Ne.symm hi)
 have atj:(ρ.set j av)[j]? = some av:=ug hl
 have kind:(ρ[j]? = some (some (.ol c))/\av=some (.ol c'))\/(ρ[j]? = some (some (.op c))/\av=some (.op c')):=by
  rcases hj with h|h
  ·exact .inl ⟨h,by rw[<-hav,h];rfl⟩
  ·exact .inr ⟨h,by rw[<-hav,h];rfl⟩
 have owni:∀i e,own (ρ.set j av) i e->(i=j/\e=c')\/(i≠j/\own ρ i e):=λi e h=>by
  by_cases hi:i=j
  ·subst hi
   unfold own at h
   rw[atj]at h
   rcases kind with ⟨_,k⟩|⟨_,k⟩<;>rw[k]at h<;>rcases h with h|h<;>cases h<;>exact .inl ⟨rfl,rfl⟩
  ·unfold own at h ⊢
   rw[ne i hi]at h
   exact .inr ⟨hi,h⟩
 have nea:∀i e b,i≠j->own ρ i e->Z[i]? = some (some (V.ref b))->b≠a:=λi e b hi ho q z=>by
  subst z
  exact hi (S.dj i j e c b ho hj q ha)
 have own1:OwnAt K ⟨P1 a,bO G Z ρ H (some a),F⟩ F' H' a c':=by
  obtain⟨b,e1,ob⟩:=S1.ow 0 c' (.inr rfl)
  have:V.ref a=V.ref b:=by simpa using e1
  injection this with this
  subst this
  exact ob
 refine⟨⟨S1.fh,λb o h=>S1.oh b o (dY S h),λb o h=>S1.fo b o (dY S h),by simpa using S.ln,λi d h=>?_,λi e h=>?_,λi k d e b h1 h2=>?_,λi b h=>?_,λi d h=>?_,S.fb.trans s1⟩,λv cc h=>?_⟩
 ·by_cases hi:i=j
  ·subst hi
   rw[atj]at h
   rcases kind with ⟨_,k⟩|⟨_,k⟩<;>rw[k]at h<;>cases h
  ·rw[ne i hi]at h
   obtain⟨v,e,r⟩:=S.fz i d h;exact⟨v,e,r.mono s1⟩
 ·rcases owni i e h with ⟨rfl,rfl⟩|⟨hi,ho⟩
  ·exact⟨a,ha,own1.nf,oa.no,own1.he⟩
  ·obtain⟨b,eb,ob⟩:=S.ow i e ho
   obtain⟨o,hh⟩:=ob.he.some
   have q:bO G Z ρ H (some a) b=some o:=by rw[iP ho eb (λz=>nea i e b hi ho eb (Option.some.inj z))];exact hh
   exact⟨b,eb,(S1.fo b o q).1,ob.no,(ob.he.mono s1).at (by rw[S1.oh b o q,hh])⟩
 ·have f:∀i e,own (ρ.set j av) i e->∃d,own ρ i d:=λi e h=>by
   rcases owni i e h with ⟨rfl,_⟩|⟨_,ho⟩
   ·exact⟨c,hj⟩
   ·exact⟨e,ho⟩
  exact S.dj i k _ _ b (f i d h1).choose_spec (f k e h2).choose_spec
 ·obtain⟨q1,e,q2⟩:=S.pp i b h
  refine⟨q1,?_⟩
  by_cases hi:i=j
  ·subst hi
   rcases kind with ⟨k1,k⟩|⟨k1,k⟩
   ·rw[k1]at q2;cases q2
   ·exact⟨c',by rw[atj,k]⟩
  ·exact⟨e,by rw[ne i hi];exact q2⟩
 ·by_cases hi:i=j
  ·subst hi
   rcases kind with ⟨k1,k⟩|⟨k1,k⟩
   ·rw[atj,k]at h;cases h
   ·exact S.pq i c k1
  ·rw[ne i hi]at h;exact S.pq i d h
 ·obtain⟨b,rfl,ob,nn⟩:=h
  refine⟨b,rfl,⟨ob.nf,oo b ob.no,ob.he⟩,λi e ho q=>?_⟩
  rcases owni i e ho with ⟨rfl,_⟩|⟨hi,ho'⟩
  ·rw[ha]at q
   injection q with q;injection q with q;injection q with q
   subst q
   exact nn 0 c' (.inr rfl) rfl
  ·obtain⟨b',eb,ob'⟩:=S.ow i e ho'
   rw[q]at eb
   injection eb with eb;injection eb with eb;injection eb with eb
   subst eb
   obtain⟨o,hh⟩:=ob'.he.some
   have:=ob.no
   rw[show(⟨P1 a,bO G Z ρ H (some a),F⟩:Gh).O b=bO G Z ρ H (some a) b from rfl,iP ho' q (λz=>nea i e b hi ho' q (Option.some.inj z)),hh]at this
   cases this
end
abbrev fzs(ds:List D):En:=(ds.map AV.fz).map some
def KD:KS D:=⟨λ_=>.ret .none,λd _=>.ret d,λ_ _=>.bad,λ_=>.bad,λ_=>.bad,λe _=>.exc e⟩
def asL{S:Type}(c:OC)(k:List D->M S):M S:=match c with
 | .l ds=>k ds
 | _=>.bad
def KL:KS (List D):=⟨λ_=>.bad,λ_ _=>.bad,λc _=>asL c .ret,λ_=>.bad,λ_=>.bad,λe _=>.exc e⟩
def at0{S:Type}(ρ:En)(k:List D->M S):M S:=match (ρ[0]? : Option (Option AV))with
 | some (some (AV.op (OC.l f)))=>k f
 | _=>.bad
def K1:KS (D×List D):=⟨λρ=>at0 ρ λf=>.ret (.none,f),λd ρ=>at0 ρ λf=>.ret (d,f),λ_ _=>.bad,λ_=>.bad,λ_=>.bad,λe _=>.exc e⟩
def rG(K:Fg)(G:Gh)(E:XK){α:Type}(m:M α)(C:α->Prop):Prop:=match m with
 | .ret a=>C a
 | .exc x=>∀F' H' Cl dd,GOk G F' H'->XR K F' Cl dd x->E (.ref Cl) dd H'
 | .bad=>False
def spD(K:Fg)(n:Nat)(mf:List D->M D):Sp:=λvs H Q E=>∃G F ds,vs.length=n/\StOk K G F (vs.map some) H (fzs ds)/\rG K G E (mf ds) λd=>∀v F' H',Same F F'->StOk K G F' (vs.map some) H' (fzs ds)->Rep K F' v d->Q v H'
def spL(K:Fg)(n:Nat)(mf:List D->M (List D)):Sp:=λvs H Q E=>∃G F ds,vs.length=n/\StOk K G F (vs.map some) H (fzs ds)/\rG K G E (mf ds) λd=>∀v F' H',Same F F'->StOk K G F' (vs.map some) H' (fzs ds)->Frs K G F' (vs.map some) H' (fzs ds) v (.l d)->Q v H'
def sp1(K:Fg)(n:Nat)(mf:List D->List D->M (D×List D)):Sp:=λvs H Q E=>∃G F f ds,vs.length=n/\StOk K G F (vs.map some) H (some (.op (.l f))::fzs ds)/\rG K G E (mf f ds) λr =>
 ∀v F' H',Same F F'->StOk K G F' (vs.map some) H' (some (.op (.l r.2))::fzs ds)->Rep K F' v r.1->Q v H'
section
variable {ds:List D}
theorem xY(S:StOk K G F (vs.map some) H (fzs ds))(s1:Same F F')(S1:StOk K G F' Z H' ρ):StOk K G F' (vs.map some) H' (fzs ds):=by
 refine⟨S1.fh,S1.oh,S1.fo,S.ln,λi d q=>?_,λi c q=>(jG q).elim,λi j c e a q=>(jG q).elim,S.pp,S.pq,S1.fb⟩
 obtain⟨v,e,r⟩:=S.fz i d q
 exact⟨v,e,r.mono s1⟩
theorem DT(S1:StOk K G F' Z H' ρ)(h:Frs K G F' Z H' ρ v c):Frs K G F' (vs.map some) H' (fzs ds) v c:=by
 obtain⟨a,rfl,oa,_⟩:=h
 exact⟨a,rfl,oa,λi e q=>(jG q).elim⟩
theorem own1{f:List D}(h:own (some (.op (.l f))::fzs ds) i c):i=0/\c=.l f:=by
 cases i with
 | zero=>rcases h with h|h<;>simp at h;exact⟨rfl,h.symm⟩
 | succ i=>exact(jG (ds:=ds) (i:=i) (c:=c) (by unfold own at h ⊢;simpa using h)).elim
theorem Cv{f f':List D}(S:StOk K G F (vs.map some) H (some (.op (.l f))::fzs ds))(s1:Same F F')(S1:StOk K G F' Z H' ρ)(h0:ρ[0]? = some (some (.op (.l f')))) :
  StOk K G F' (vs.map some) H' (some (.op (.l f'))::fzs ds)/\∀v c,Frs K G F' Z H' ρ v c->Frs K G F' (vs.map some) H' (some (.op (.l f'))::fzs ds) v c:=by
 obtain⟨a,ha⟩:=S1.pq 0 _ h0
 obtain⟨e1,_⟩:=S1.pp 0 a ha
 obtain⟨e2,_⟩:=S.pp 0 a ha
 obtain⟨b,eb,ob⟩:=S1.ow 0 _ (.inr h0)
 rw[e1]at eb
 injection eb with eb;injection eb with eb;injection eb with eb
 subst eb
 have only:∀i b,G.P i=some b->i=0:=λi b h=>by
  obtain⟨_,c,q⟩:=S.pp i b h
  exact(own1 (.inr q)).1
 refine⟨⟨S1.fh,S1.oh,S1.fo,S.ln,λi d q=>?_,λi c q=>?_,λi j c e b q1 q2 _ _=>?_,λi b q=>?_,λi c q=>?_,S1.fb⟩,λv c h=>?_⟩
 ·cases i with
  | zero=>simp at q
  | succ i =>
   obtain⟨v,e,r⟩:=S.fz (i+1) d (by simpa using q)
   exact⟨v,e,r.mono s1⟩
 ·obtain⟨rfl,rfl⟩:=own1 q
  exact⟨a,e2,ob⟩
 ·rw[(own1 q1).1,(own1 q2).1]
 ·have:=only i b q
  subst this
  exact⟨(S.pp 0 b q).1,_,rfl⟩
 ·obtain⟨rfl,_⟩:=own1 (.inr q)
  exact⟨a,ha⟩
 ·obtain⟨b,rfl,ob2,nn⟩:=h
  refine⟨b,rfl,ob2,λi e q z=>?_⟩
  obtain⟨rfl,rfl⟩:=own1 q
  rw[e2]at z
  injection z with z;injection z with z;injection z with z
  subst z
  exact nn 0 _ (.inr h0) e1
end
section
variable {qual:Str} {f:Addr} {N:List Str}
theorem vD{ds:List D}(hl:vs.length=ps.length)(S0:StOk K G F (vs.map some) H (fzs ds)):StOk K G F (L2.start N vs) H (fzs ds++List.replicate (N.length - ps.length) none):=by
 have e0:L2.start N vs=vs.map some++List.replicate (N.length - ps.length) none:=by unfold L2.start;rw[hl]
 rw[e0]
 exact S0.grow _
theorem FS{sp:Sp}(Fn:Fun K x qual st f fd)(S:FnScope N ps (aL st))(len:∀vs H Q E,sp vs H Q E->vs.length=ps.length)
  (hbody:∀(cdv:Value) (A:Around) (outer:List Env) (s:Shared) (H:Hp) (vs:List V) (Q:VK) (E:XK),Room k (A.deeper (envOfC qual (aL st) s.heap.objs.size f cdv))->sp vs H Q E ->
   ∃t,PSs (oS (CX1 P w) P w K mg base N qual (aL st) f cdv A outer s H E) (dG st) t/\t { nx:=λ_ H'=>Q .non H',rt:=Q } (start N vs) H):FnOk P w K mg base (CX1 P w) (k+1) f fd ps sp:=by
 obtain⟨oc,od,kV,doc,pm,an,cdv,ct,osl,rfl,lk,hcd⟩:=Fn.ex
 exact Hz lk hcd S len λA outer s H vs Q E hr hsp=>hbody cdv A outer s H vs Q E hr hsp
theorem Cf{C:α->Prop}{N:List Str}{qual:Str}{scope:Scope}{f:Addr}{cdv:Value}{outer:List Env}{e:Ex}(h:rG K G E (M.exc e:M α) C):XW (oS (CX1 P w) P w K mg base N qual scope f cdv A outer s H E) G F ρ e :=
 λF' H' s' a Cl dd pins Z g _ I xs _ xr=>DA I xs (h F' H' Cl dd g xr)
theorem bF{mb:SM D}{mf:List D->M D}(Fn:Fun K x qual st f fd)(Sc:FnScope N ps (aL st))
  (hb:∀(cdv:Value) (A:Around) (outer:List Env) (s:Shared) (H:Hp) (E:XK),Room k (A.deeper (envOfC qual (aL st) s.heap.objs.size f cdv)) ->
   ASs (oS (CX1 P w) P w K mg base N qual (aL st) f cdv A outer s H E) (dG st) mb)
  (hm:∀ds,ds.length=ps.length->mf ds=mb KD (fzs ds++List.replicate (N.length - ps.length) none)):FnOk P w K mg base (CX1 P w) (k+1) f fd ps (spD K ps.length mf):=by
 refine FS Fn Sc (λvs H Q E h=>?_) (λcdv A outer s H vs Q E hr h=>?_)
 ·obtain⟨_,_,_,h1,_⟩:=h;exact h1
 ·obtain⟨G,F0,ds,h1,S0,e⟩:=h
  have hl:ds.length=ps.length:=by have:=S0.ln;simp at this;lia
  rw[hm ds hl]at e
  refine⟨_,jE,hb cdv A outer s H E hr (λm=>rG K G E m _) KD G F0 _ H _ _ (λz=>z) (λF ρ e z=>Cf z) (vD h1 S0) e ?_⟩
  exact⟨λF' σ' H' ρ' s S' o=>(by exact o .non F' H' s (xY S0 s S') .non),λF' σ' H' ρ' d' v s S' r o=>(by exact o v F' H' s (xY S0 s S') r),λF' σ' H' ρ' d' v s S' r o=>(o:False).elim,λF' σ' H' ρ' s S' o=>(o:False).elim,λF' σ' H' ρ' s S' o=>(o:False).elim⟩
theorem Gi{k:List D->M S}{C:S->Prop}(h:rG K G E (asL c k) C):∃ds,c=.l ds/\rG K G E (k ds) C:=by
 cases c with
 | l ds=>exact⟨ds,rfl,h⟩
 | _=>exact(h:False).elim
theorem FT{mb:SM (List D)}{mf:List D->M (List D)}(Fn:Fun K x qual st f fd)(Sc:FnScope N ps (aL st))
  (hb:∀(cdv:Value) (A:Around) (outer:List Env) (s:Shared) (H:Hp) (E:XK),Room k (A.deeper (envOfC qual (aL st) s.heap.objs.size f cdv)) ->
   ASs (oS (CX1 P w) P w K mg base N qual (aL st) f cdv A outer s H E) (dG st) mb)
  (hm:∀ds,ds.length=ps.length->mf ds=mb KL (fzs ds++List.replicate (N.length - ps.length) none)):FnOk P w K mg base (CX1 P w) (k+1) f fd ps (spL K ps.length mf):=by
 refine FS Fn Sc (λvs H Q E h=>?_) (λcdv A outer s H vs Q E hr h=>?_)
 ·obtain⟨_,_,_,h1,_⟩:=h;exact h1
 ·obtain⟨G,F0,ds,h1,S0,e⟩:=h
  have hl:ds.length=ps.length:=by have:=S0.ln;simp at this;lia
  rw[hm ds hl]at e
  refine⟨_,jE,hb cdv A outer s H E hr (λm=>rG K G E m _) KL G F0 _ H _ _ (λz=>z) (λF ρ e z=>Cf z) (vD h1 S0) e ?_⟩
  exact⟨λF' σ' H' ρ' s S' o=>(o:False).elim,λF' σ' H' ρ' d' v s S' r o=>(o:False).elim,λF' σ' H' ρ' d' v s S' r o=>(by obtain⟨ds',rfl,o⟩:=Gi o;exact o v F' H' s (xY S0 s S') (DT S' r)),λF' σ' H' ρ' s S' o=>(o:False).elim,λF' σ' H' ρ' s S' o=>(o:False).elim⟩
theorem Cz{k:List D->M S}{C:S->Prop}(h:rG K G E (at0 ρ k) C):∃f,ρ[0]? = some (some (AV.op (OC.l f)))/\rG K G E (k f) C:=by
 unfold at0 at h
 split at h
 ·rename_i f q;exact⟨f,q,h⟩
 ·exact h.elim
theorem CZ{ds g:List D}(hl:vs.length=ps.length)(S0:StOk K G F (vs.map some) H (some (.op (.l g))::fzs ds)):StOk K G F (L2.start N vs) H (some (.op (.l g))::fzs ds++List.replicate (N.length - ps.length) none):=by
 have e0:L2.start N vs=vs.map some++List.replicate (N.length - ps.length) none:=by unfold L2.start;rw[hl]
 rw[e0]
 exact S0.grow _
theorem i9{mb:SM (D×List D)}{mf:List D->List D->M (D×List D)}(Fn:Fun K x qual st f fd)(Sc:FnScope N ps (aL st))
  (hb:∀(cdv:Value) (A:Around) (outer:List Env) (s:Shared) (H:Hp) (E:XK),Room k (A.deeper (envOfC qual (aL st) s.heap.objs.size f cdv)) ->
   ASs (oS (CX1 P w) P w K mg base N qual (aL st) f cdv A outer s H E) (dG st) mb)
  (hm:∀g ds,ds.length+1=ps.length->mf g ds=mb K1 (some (.op (.l g))::fzs ds++List.replicate (N.length - ps.length) none)):FnOk P w K mg base (CX1 P w) (k+1) f fd ps (sp1 K ps.length mf):=by
 refine FS Fn Sc (λvs H Q E h=>?_) (λcdv A outer s H vs Q E hr h=>?_)
 ·obtain⟨_,_,_,_,h1,_⟩:=h;exact h1
 ·obtain⟨G,F0,g,ds,h1,S0,e⟩:=h
  have hl:ds.length+1=ps.length:=by have:=S0.ln;simp at this;lia
  rw[hm g ds hl]at e
  refine⟨_,jE,hb cdv A outer s H E hr (λm=>rG K G E m _) K1 G F0 _ H _ _ (λz=>z) (λF ρ e z=>Cf z) (CZ h1 S0) e ?_⟩
  refine⟨λF' σ' H' ρ' s S' o=>?_,λF' σ' H' ρ' d' v s S' rv o=>?_,λF' σ' H' ρ' d' v s S' r o=>(o:False).elim,λF' σ' H' ρ' s S' o=>(o:False).elim,λF' σ' H' ρ' s S' o=>(o:False).elim⟩
  ·obtain⟨f',q,e'⟩:=Cz o
   exact e' .non F' H' s (Cv S0 s S' q).1 .non
  ·obtain⟨f',q,e'⟩:=Cz o
   exact e' v F' H' s (Cv S0 s S' q).1 rv
end
structure CF(P:Program)(w:World)(K:Fg)(mg:zzl)(base:Heap)(x:Str)(k:Nat)(sp:Sp):Prop where
 ex:∃(f:Addr) (fd:FuncData) (ps:List Str),FnOk P w K mg base (CX1 P w) k f fd ps sp/\mg x=some (.ref f)/\PySem.W.keepIn K (.ref f)=true/\L2.Binds K fd ps []
def IG(mf:List D->M D)(ps:Pa D):Pu D:=λρ=>ps (λds=>mf ds) ρ
def IF(mf:List D->M (List D))(ps:Pa (List D)):Pu (List D):=λρ=>ps (λds=>mf ds) ρ
section
def I9(mf:List D->M D)(ms:Ev S (List D)):Ev S D:=λx k ρ=>ms x (λds ρ1=>(mf ds).on (λe=>x e ρ1) (λd=>k d ρ1)) ρ
def Ja(mf:List D->List D->M (D×List D))(i:Nat)(ms:Ev S (List D)):Ev S D:=λx k ρ=>ms x (λds ρ1=>match ko ρ1 i with
 | some f=>(mf f ds).on (λe=>x e ρ1) (λr=>k r.1 (tY ρ1 i r.2))
 | none=>.bad) ρ
end
def EX(X:Cx)(G:Gh)(Z:L2.St):XK:=λc dd H'=>∃x ρ F1 F' C,c=.ref C/\XW X G F1 ρ x/\GOk G F' H'/\FzOk X.K F' Z ρ/\XR X.K F' C dd x
theorem XS.older{h:Heap}{lo lo':Nat}{e C:Addr}{dd:Option Addr}(xs:XS H h lo e C dd)(hl:lo'<=lo):XS H h lo' e C dd:=by
 obtain⟨oe,vs,q,c,d,z,z1,k⟩:=xs.obj
 refine⟨eg hl xs.yg,xs.trk,oe,vs,q,c,d,z,z1,k.imp id ?_⟩
 rintro⟨T,oT,ts,k,ne,l,r⟩
 exact⟨T,oT,ts,k,ne,eg hl l,r⟩
def rq(X:Cx)(Z:L2.St)(E:XK):Prop:=∀(pins:zzk) (H:Hp) (s:Shared) (e:Value) (s':Shared),Inv X pins Z H s->CX1 X.prog X.w X.stack H s E e s'->X.xe e s'
theorem yC:rq X Z (EX X G Z):=λpins H s e s' I h=>by
 obtain⟨a,C,dd,H',rfl,ho,hb,un,hk,xs,x,ρ,F1,F',C',ec,xw,g,fz,xr⟩:=h
 cases ec
 refine xw F' H' s' a C dd pins Z g fz (I.call' ho un hk hb λb z=>absurd z (by simp)) (xs.older I.sz) (λp hp z=>?_) xr
 exact absurd (cr (ba (I.pin p hp).1) (xs.tb z).2.1) (se _)
theorem EX.of{x:Ex}{C:Addr}{dd:Option Addr}{p:Nat->Option Addr}(S:StOk X.K G F Z H ρ)(xw:XW X G F ρ x)(g:GOk ⟨p,bO G Z ρ H ex,F⟩ F' H')(xr:XR X.K F' C dd x):EX X G Z (.ref C) dd H' :=
 ⟨x,ρ,F,F',C,rfl,xw,⟨g.fh,λb o h=>g.oh b o (dY S h),λb o h=>g.fo b o (dY S h),S.fb.trans g.fb⟩,S.fzok g.fb,xr⟩
section
variable {f:Addr} {sp:Sp}
theorem E7{pins:zzk}{us:List Value}(F:FnOk X.prog X.w X.K X.mg X.base (CX1 X.prog X.w) k f fd ps sp)(hr:Room k X.A)(hb:L2.Binds X.K fd ps [])(hx:rq X Z E)
  (I:Inv X pins Z H s) (r:Vals vs us) (h:sp vs H Q E):wpAny (model X.prog X.w) X.A (call (.ref f) us) (EP X pins Z Q) X.xe s:=by
 have hl:(us++[]).length=ps.length:=by rw[wn,<-r.length];exact F.len _ _ _ _ h
 have bb:=hb s us I.kIn hl
 rw[wn]at bb
 refine wpAny_call (codeAny_mono (F.run X.A X.stack s H ⟨us,[]⟩ us vs Q E hr I.env0 bb r h) λr s' hq=>?_)
 cases r with
 | error e=>exact hx pins H s e s' I hq
 | ok fl =>
  cases fl with
  | ret u=>exact I.after hq
  | next=>exact False.elim hq
  | brk=>exact False.elim hq
  | cont=>exact False.elim hq
theorem mr(F:FnOk X.prog X.w X.K X.mg X.base (CX1 X.prog X.w) k f fd ps sp)(hr:Room k X.A)(hg:Gl X x)(hm:X.mg x=some (.ref f))(hk:PySem.W.keepIn X.K (.ref f)=true)(hb:L2.Binds X.K fd ps [])(hx:rq X Z E)
  (hdb:(x==("__debug__" : Str))=false) (he:starEach (e::es) X.env=(false,eval e X.env)::starEach es X.env) (hpl:(backTo pos (starEach es X.env)).any (·.1)=false)
  (h:j4 X (e::es) Z H λvs H1=>sp vs H1 Q E):ij X (.Call (.Name x p) (e::es) [] pos) Z H Q:=by
 unfold ij
 intro pins s I
 unfold j4 at h
 refine Jn (yP I hg hm ?_ hdb)
 refine PySem.W.callWith_K (h₀:=X.base) I.ok.mod.kin hk (thn (h pos pins s I) λus s1 ⟨vs,H1,I1,r,q⟩=>⟨I1.kIn,?_⟩) he hpl
 exact E7 F hr hb hx I1 r q
end
section
variable {mf:List D->M D} {ml:List D->M (List D)} {m1:List D->List D->M (D×List D)} {m1L:List D->List D->M (List D×List D)} {pn:Pos} {ps:Pa D} {pl:Pa (List D)} {ms:Ev S (List D)}
theorem aZ(C:CF X.prog X.w X.K X.mg X.base x k (spD X.K n mf))(hr:Room k X.A)(ha:AA X (e::es) ps)(hg:Gl X x:=by rfl)(hn:(e::es).length=n:=by rfl)
  (hdb:(x==("__debug__" : Str))=false:=by decide) (he:starEach (e::es) X.env=(false,eval e X.env)::starEach es X.env:=by rfl) (hpl:(backTo pos (starEach es X.env)).any (·.1)=false:=by rfl):AP X (.Call (.Name x p) (e::es) [] pos) (IG mf ps):=by
 obtain⟨f,fd,pl,Fn,h1,h2,h3⟩:=C.ex
 intro G F Z H ρ Q St w
 refine mr Fn hr hg h1 h2 h3 (yC (G:=G)) hdb he hpl ?_
 refine ha G F Z H ρ _ _ _ St w λds vs F1 H1 s1 S1 hl r1 w1=>?_
 show spD X.K n mf vs H1 Q (EX X G Z)
 cases hd:mf ds with
 | bad=>rw[hd]at w1;exact w1.elim
 | exc e =>
  rw[hd]at w1
  exact⟨_,F1,ds,hl.trans hn,h8 S1 r1,by rw[hd];exact λF' H' Cl dd g xr=>EX.of S1 w1 g xr⟩
 | ret d =>
  rw[hd]at w1
  refine⟨_,F1,ds,hl.trans hn,h8 S1 r1,?_⟩
  rw[hd]
  intro v F2 H2 s2 S2 r2
  obtain⟨S3,t3⟩:=lU (avs':=ds.map AV.fz) S1 s2 S2
  exact w1 F2 H2 s2 S3 v r2
theorem HN(C:CF X.prog X.w X.K X.mg X.base x k (spL X.K n ml))(hr:Room k X.A)(ha:AA X (e::es) pl)(hg:Gl X x:=by rfl)(hn:(e::es).length=n:=by rfl)
  (hdb:(x==("__debug__" : Str))=false:=by decide) (he:starEach (e::es) X.env=(false,eval e X.env)::starEach es X.env:=by rfl) (hpl:(backTo pos (starEach es X.env)).any (·.1)=false:=by rfl):AL X (.Call (.Name x p) (e::es) [] pos) (IF ml pl):=by
 obtain⟨f,fd,pz,Fn,h1,h2,h3⟩:=C.ex
 intro G F Z H ρ Q St w
 refine mr Fn hr hg h1 h2 h3 (yC (G:=G)) hdb he hpl ?_
 refine ha G F Z H ρ _ _ _ St w λds vs F1 H1 s1 S1 hl r1 w1=>?_
 show spL X.K n ml vs H1 Q (EX X G Z)
 cases hd:ml ds with
 | bad=>rw[hd]at w1;exact w1.elim
 | exc e =>
  rw[hd]at w1
  exact⟨_,F1,ds,hl.trans hn,h8 S1 r1,by rw[hd];exact λF' H' Cl dd g xr=>EX.of S1 w1 g xr⟩
 | ret d =>
  rw[hd]at w1
  refine⟨_,F1,ds,hl.trans hn,h8 S1 r1,?_⟩
  rw[hd]
  intro v F2 H2 s2 S2 r2
  obtain⟨S3,t3⟩:=lU (avs':=ds.map AV.fz) S1 s2 S2
  exact w1 F2 H2 s2 S3 v (t3 v _ r2)
theorem zB{f g:List D}(h:ko ρ i=some g):tY ρ i f=setC ρ i (.l f):=oq ρ i f g h
theorem EM(C:CF X.prog X.w X.K X.mg X.base x k (spD X.K n mf))(hr:Room k X.A)(ha:AEa X (e::es) ms)(hg:Gl X x:=by rfl)(hn:(e::es).length=n:=by rfl)
  (hdb:(x==("__debug__" : Str))=false:=by decide) (he:starEach (e::es) X.env=(false,eval e X.env)::starEach es X.env:=by rfl) (hpl:(backTo pos (starEach es X.env)).any (·.1)=false:=by rfl):AE X (.Call (.Name x p) (e::es) [] pos) (I9 mf ms):=by
 obtain⟨f,fd,pl,Fn,h1,h2,h3⟩:=C.ex
 intro OK y kk G F Z H ρ Q hO hX St ok k2
 refine mr Fn hr hg h1 h2 h3 (yC (G:=G)) hdb he hpl ?_
 refine ha OK y _ G F Z H ρ _ hO hX St ok λds vs F1 H1 ρ1 s1 S1 hl r1 o1=>?_
 show spD X.K n mf vs H1 Q (EX X G Z)
 cases hd:mf ds with
 | bad=>rw[hd]at o1;exact(hO o1).elim
 | exc e =>
  rw[hd]at o1
  exact⟨_,F1,ds,hl.trans hn,h8 S1 r1,by rw[hd];exact λF' H' Cl dd g xr=>EX.of S1 (hX F1 ρ1 e o1) g xr⟩
 | ret d =>
  rw[hd]at o1
  refine⟨_,F1,ds,hl.trans hn,h8 S1 r1,?_⟩
  rw[hd]
  intro v F2 H2 s2 S2 r2
  obtain⟨S3,t3⟩:=lU (avs':=ds.map AV.fz) S1 s2 S2
  exact k2 d v F2 H2 ρ1 (s1.trans s2) S3 r2 o1
theorem xW{OK:M S->Prop}{z:Ex->En->M S}{kk:List D->En->M S}{Q:List V->Hp->Prop}(hN:X.N[i]? = some y)(hv:Vis X.env.scope y)(hd:(y==("__debug__" : Str))=false)(hcd:(y==("__classdict__" : Str))=false)
  (ha:AEa X es ms) (he:starEach (.Name y pn::es) X.env=(false,eval (.Name y pn) X.env)::starEach es X.env) (hO:KOk OK) (hX:XL X OK z G) (St:StOk X.K G F Z H ρ) (ok:OK (ms z (λds ρ1=>match ko ρ1 i with|some f=>kk (.list f::ds) ρ1|none=>.bad) ρ))
  (h0:(ko ρ i).isSome=true)
  (k2:∀a f ds vs F' H' ρ',Same F F'->StOk X.K G F' Z H' ρ'->ko ρ' i=some f->Z[i]? = some (some (V.ref a))->vs.length=es.length->RepL X.K F' vs ds->OK (kk (.list f::ds) ρ')->Q (.ref a::vs) H'):j4 X (.Name y pn::es) Z H Q:=by
 obtain⟨f0,hf0⟩:=Option.isSome_iff_exists.mp h0
 obtain⟨a,_,ea,_,_⟩:=mz St hf0
 refine w6 (kR (qi hN hv hd hcd) dQ he) ⟨_,ea,?_⟩
 refine ha OK z _ G F Z H ρ _ hO hX St ok λds vs F1 H1 ρ1 s1 S1 hl r1 o1=>?_
 split at o1
 ·rename_i f hf
  exact k2 a f ds vs F1 H1 ρ1 s1 S1 hf ea hl r1 o1
 ·exact(hO o1).elim
def ck{S α:Type}(i:Nat)(m:Ev S α):Ev S α:=λx k ρ=>match (ko ρ i).isSome with
 | true=>m x k ρ
 | false=>.bad
theorem qU{ds f:List D}(S:StOk K G F Z H ρ)(hj:ko ρ j=some f)(ha:Z[j]? = some (some (V.ref a)))(r:RepL K F vs ds) :
  StOk K ⟨P1 a,bO G Z ρ H (some a),F⟩ F ((V.ref a::vs).map some) H (some (.op (.l f))::fzs ds):=Ag S (mB hj) ha r
theorem bp(C:CF X.prog X.w X.K X.mg X.base x k (sp1 X.K n m1))(hr:Room k X.A)(ha:AEa X es ms)(hg:Gl X x:=by rfl)(hN:X.N[i]? = some y:=by rfl)(hv:Vis X.env.scope y:=by exact vi rfl)(hn:es.length+1=n:=by rfl)
  (hdb:(x==("__debug__" : Str))=false:=by decide) (he:starEach (.Name y pn::es) X.env=(false,eval (.Name y pn) X.env)::starEach es X.env:=by rfl) (hpl:(backTo pos (starEach es X.env)).any (·.1)=false:=by rfl)
  (hd:(y==("__debug__" : Str))=false:=by decide) (hcd:(y==("__classdict__" : Str))=false:=by decide):AE X (.Call (.Name x p) (.Name y pn::es) [] pos) (ck i (Ja m1 i ms)):=by
 obtain⟨f,fd,pl,Fn,h1,h2,h3⟩:=C.ex
 intro OK z kk G F Z H ρ Q hO hX St ok k2
 unfold ck at ok
 split at ok
 case h_2=>exact(hO ok).elim
 rename_i h0
 refine mr Fn hr hg h1 h2 h3 (yC (G:=G)) hdb he hpl ?_
 refine xW (OK:=OK) (z:=z) (kk:=λl ρ1=>match l with | .list f::ds=>(m1 f ds).on (λe=>z e ρ1) (λr=>kk r.1 (tY ρ1 i r.2))|_=>.bad) hN hv hd hcd ha he hO hX St ok h0 λa f ds vs F1 H1 ρ1 s1 S1 hf ea hl r1 o1=>?_
 have o1':OK ((m1 f ds).on (λe=>z e ρ1) (λr=>kk r.1 (tY ρ1 i r.2))):=o1
 show sp1 X.K n m1 (V.ref a::vs) H1 Q (EX X G Z)
 cases hd:m1 f ds with
 | bad=>rw[hd]at o1';exact(hO o1').elim
 | exc e =>
  rw[hd]at o1'
  exact⟨_,F1,f,ds,by simp[hl];exact hn,qU S1 hf ea r1,by rw[hd];exact λF' H' Cl dd g xr=>EX.of S1 (hX F1 ρ1 e o1') g xr⟩
 | ret r =>
  rw[hd]at o1'
  refine⟨_,F1,f,ds,by simp[hl];exact hn,qU S1 hf ea r1,?_⟩
  rw[hd]
  intro v F2 H2 s2 S2 r2
  obtain⟨S3,t3⟩:=xV (c':=.l r.2) (l:=ds.map AV.fz) S1 (mB hf) ea s2 S2
  rw[<-zB hf]at S3
  exact k2 r.1 v F2 H2 _ (s1.trans s2) S3 r2 o1'
end
theorem CF.zero{f:Addr}(k n:Nat)(h1:mg x=some (.ref f))(h2:PySem.W.keepIn K (.ref f)=true)(h3:L2.Binds K fd ps []) :
  CF P w K mg base x k (spD K n λ_=>.bad):=⟨f,fd,ps,⟨λvs H Q E h=>(by obtain⟨_,_,_,_,_,z⟩:=h;exact z.elim),λA outer s H args us vs Q E hr e0 hb hv h=>(by obtain⟨_,_,_,_,_,z⟩:=h;exact z.elim)⟩,h1,h2,h3⟩
theorem CF.zero1{f:Addr}(k n:Nat)(h1:mg x=some (.ref f))(h2:PySem.W.keepIn K (.ref f)=true)(h3:L2.Binds K fd ps []) :
  CF P w K mg base x k (sp1 K n λ_ _=>.bad):=⟨f,fd,ps,⟨λvs H Q E h=>(by obtain⟨_,_,_,_,_,_,z⟩:=h;exact z.elim),λA outer s H args us vs Q E hr e0 hb hv h=>(by obtain⟨_,_,_,_,_,_,z⟩:=h;exact z.elim)⟩,h1,h2,h3⟩
theorem _root_.L2.Room.m(r:Room k A)(h:j<=k:=by decide):Room j A:=r.mono h
theorem aR(r:Room k A):A.units+1100<cLine:=by have:=r.un;lia
def noX{S:Type}(m:M S):M S:=match m with
 | .ret s=>.ret s
 | _=>.bad
theorem kT(s:S):noX (M.ret s)=.ret s:=rfl
def bH(step:D->M (Option D)):List D->M (List D)
 | []=>.ret []
 | d::r=>bd (noX (step d)) λo=>bd (bH step r) λxs=>.ret (o.toList++xs)
theorem wu{step:D->M (Option D)}:∀{ds:List D} {e:Ex},bH step ds≠.exc e
 | [],e,h=>by cases h
 | d::r,e,h=>by
  unfold bH at h
  cases hs:step d with
  | ret o =>
   rw[hs,kT,cJ]at h
   cases hr:bH step r with
   | ret xs=>rw[hr]at h;cases h
   | exc e'=>exact wu hr
   | bad=>rw[hr]at h;cases h
  | exc e'=>rw[hs]at h;cases h
  | bad=>rw[hs]at h;cases h
def yD(k:Nat)(it:Pu (List D))(t:Tg (Option D))(pt:Pu Bool)(pe:Pu D):Pu (List D):=λρ=>bd (it ρ) λds =>
 bd (bH (λd=>t d (λρ1=>bd (pt ρ1) λb=>if b then bd (pe ρ1) λv=>.ret (some v)else .ret none) (ρ++List.replicate k none)) ds) dw
def iD{T:Type}(step:T->D->M (Option D×T)):List D->T->M (List D×T)
 | [],s=>.ret ([],s)
 | d::r,s=>bd (noX (step s d)) λp=>bd (iD step r p.2) λq=>.ret (p.1.toList++q.1,q.2)
theorem wt{T:Type}{step:T->D->M (Option D×T)}:∀{ds:List D} {s:T} {e:Ex},iD step ds s≠.exc e
 | [],s,e,h=>by cases h
 | d::r,s,e,h=>by
  unfold iD at h
  cases hs:step s d with
  | ret o =>
   rw[hs,kT,cJ]at h
   cases hr:iD step r o.2 with
   | ret xs=>rw[hr]at h;cases h
   | exc e'=>exact wt hr
   | bad=>rw[hr]at h;cases h
  | exc e'=>rw[hs]at h;cases h
  | bad=>rw[hs]at h;cases h
def EI{S:Type}(sh:List Kd)(k:Nat)(it:Ev S (List D))(t:Tg (Option D×SOf sh))(et:Ev (Option D×SOf sh) Bool)(ee:Ev (Option D×SOf sh) D):Ev S (List D):=λx kk ρ=>it x (λds ρ1=>rdk sh (λs =>
 (iD (λs d=>t d (λρ2=>et (λe _=>.exc e) (λb ρ3=>if b then ee (λe _=>.exc e) (λv ρ4=>rdk sh (λs'=>.ret (some v,s')) (ρ4.take sh.length)) ρ3 else rdk sh (λs'=>.ret (none,s')) (ρ3.take sh.length)) ρ2) (wr sh s++List.replicate k none)) ds s).on
  (λe=>x e ρ1) (λq=>(dw q.1).on (λe=>x e ρ1) (λout=>kk out (wr sh q.2)))) ρ1) ρ
def G7:Pu Bool:=λ_=>.ret true
def ATs(X:Cx)(ifs:List Expr)(p:Pu Bool):Prop :=
 ∀(G:Gh) (F:Hp) (Z:L2.St) (H:Hp) (ρ:En) (Q:Bool->Hp->Prop),StOk X.K G F Z H ρ->W X G F Z ρ (p ρ) (λd F' H'=>Q d H')->∀(pins:zzk) (s:Shared),Inv X pins Z H s ->
  wpAny (model X.prog X.w) X.A (forIn ifs true λc r=>if r=true then do let ok <-isTrue c X.env (eval c X.env);pure (ForInStep.yield ok)else pure (ForInStep.yield r)) (TP X pins Z Q) X.xe s
theorem cb:ATs X [] G7:=λG F Z H ρ Q S w pins s I=>C7 pins s Z H Q I (w F H (Same.refl _) S)
theorem DU{c:Expr}{p:Pu Bool}(h:AT X c p):ATs X [c] p:=λG F Z H ρ Q S w pins s I=>C6 gM pins s Z H Q I (h G F Z H ρ Q S w)
def Gr{S:Type}(X:Cx)(ifs:List Expr)(m:Ev S Bool):Prop :=
 ∀(OK:M S->Prop) (x:Ex->En->M S) (k:Bool->En->M S) (G:Gh) (F:Hp) (Z:L2.St) (H:Hp) (ρ:En) (Q:Bool->Hp->Prop),KOk OK->XL X OK x G->StOk X.K G F Z H ρ->OK (m x k ρ) ->
  (∀d F' H' ρ',Same F F'->StOk X.K G F' Z H' ρ'->OK (k d ρ')->Q d H')->∀(pins:zzk) (s:Shared),Inv X pins Z H s ->
  wpAny (model X.prog X.w) X.A (forIn ifs true λc r=>if r=true then do let ok <-isTrue c X.env (eval c X.env);pure (ForInStep.yield ok)else pure (ForInStep.yield r)) (TP X pins Z Q) X.xe s
theorem zl{ifs:List Expr}{p:Pu Bool}(h:ATs X ifs p):Gr (S:=S) X ifs (ePu p):=λOK x k G F Z H ρ Q hO hX St ok kk=>h G F Z H ρ Q St (W.of hO hX ok λd F' H' s S' o=>kk d F' H' ρ s S' o)
theorem W.rets{m:M α}{a:α}{C:α->Hp->Hp->Prop}(e:m=.ret a)(h:∀F' H',Same F F'->StOk X.K G F' Z H' ρ->C a F' H'):W X G F Z ρ m C:=by subst e;exact h
theorem AJ:∀(sh:List Kd) (s:SOf sh),(wr sh s).length=sh.length:=by
 intro sh
 induction sh with
 | nil=>intro s;rfl
 | cons a r ih=>intro s;cases a<;>simp[wr,ih]
inductive CIv{τ:Type}(K:Fg)(G:Gh)(Z:L2.St)(k:Nat)(ds:List D)(F1:Hp)(en:τ->En)(go:Nat->τ->List D->Prop)(out:List D):Nat->Nat->List V->L2.St->Hp->Prop
 | mk {i:Nat} {vs:List V} {σ':L2.St} {H':Hp} (F':Hp) (acc rest:List D) (s:τ) (hi:i<=ds.length) (s2:Same F1 F') (S2:StOk K G F' σ' H' (en s)) (kp:∀j,j<Z.length->σ'[j]? = Z[j]?) (hl:σ'.length=Z.length+k) (rp:RepL K F' vs acc) (g:go i s rest) (eo:out=acc++rest):CIv K G Z k ds F1 en go out i (ds.length - i) vs σ' H'
theorem CIv.on{τ:Type}{ds:List D}{F1:Hp}{en:τ->En}{go:Nat->τ->List D->Prop}{out:List D}{σ':L2.St}(F':Hp)(acc rest:List D)(s:τ)(hi:i<ds.length)(s2:Same F1 F')(S2:StOk K G F' σ' H' (en s))(kp:∀j,j<Z.length->σ'[j]? = Z[j]?)(hl:σ'.length=Z.length+k)(rp:RepL K F' vs acc)(g:go (i+1) s rest)(eo:out=acc++rest):∃m',m'<ds.length - i/\CIv K G Z k ds F1 en go out (i+1) m' vs σ' H' :=
 ⟨ds.length - (i+1),by lia,⟨F',acc,rest,s,hi,s2,S2,kp,hl,rp,g,eo⟩⟩
theorem xU{step:D->M (Option D)}{d:D}{r rest:List D}(h:bH step (d::r)=.ret rest):∃o rest',step d=.ret o/\bH step r=.ret rest'/\rest=o.toList++rest':=by
 unfold bH at h
 cases hs:step d with
 | bad=>rw[hs]at h;cases h
 | exc e=>rw[hs]at h;cases h
 | ret o =>
  rw[hs,kT,cJ]at h
  cases hr:bH step r with
  | bad=>rw[hr]at h;cases h
  | exc e=>rw[hr]at h;cases h
  | ret rest'=>rw[hr,cJ]at h;cases h;exact⟨o,rest',rfl,rfl,rfl⟩
theorem xT{T:Type}{step:T->D->M (Option D×T)}{d:D}{r rest:List D}{s sf:T}(h:iD step (d::r) s=.ret (rest,sf)):∃o sn rest',step s d=.ret (o,sn)/\iD step r sn=.ret (rest',sf)/\rest=o.toList++rest':=by
 unfold iD at h
 cases hs:step s d with
 | bad=>rw[hs]at h;cases h
 | exc e=>rw[hs]at h;cases h
 | ret o =>
  obtain⟨o,sn⟩:=o
  rw[hs,kT,cJ]at h
  cases hr:iD step r sn with
  | bad=>rw[hr]at h;cases h
  | exc e=>rw[hr]at h;cases h
  | ret q'=>obtain⟨rest',sf'⟩:=q';rw[hr,cJ]at h;cases h;exact⟨o,sn,rest',rfl,hr,rfl⟩
theorem tR{A B:Type}{m:M A}{f:A->M B}{b:B}(h:bd m f=.ret b):∃a,m=.ret a/\f a=.ret b:=by
 cases m with
 | bad=>cases h
 | exc e=>cases h
 | ret a=>exact⟨a,rfl,h⟩
section
def vz(X:Cx)(N':List Str)(scope:Scope)(tg:Expr):TG:=λv Z H Q=>∀cl s H0 fp C,sH (bU X N' scope cl s H0 fp C) tg v Z H Q
def vy(X:Cx)(N':List Str)(scope:Scope)(ifs:List Expr):TT:=λZ H Q=>∀cl s0 H0 fp C,∀(pins:zzk) (s:Shared),Inv (bU X N' scope cl s0 H0 fp C) pins Z H s ->
  wpAny (model X.prog X.w) (bU X N' scope cl s0 H0 fp C).A (forIn ifs true λc r=>if r=true then do let ok <-isTrue c (bU X N' scope cl s0 H0 fp C).env (eval c (bU X N' scope cl s0 H0 fp C).env);pure (ForInStep.yield ok)else pure (ForInStep.yield r)) (TP (bU X N' scope cl s0 H0 fp C) pins Z Q) (bU X N' scope cl s0 H0 fp C).xe s
def vA(X:Cx)(N':List Str)(scope:Scope)(e:Expr):TE:=λZ H Q=>∀cl s H0 fp C,ij (bU X N' scope cl s H0 fp C) e Z H Q
variable {elt iter:Expr} {ifs:List Expr} {scope:Scope} {N':List Str}
theorem zb{it:Pu (List D)}{t:Tg (Option D)}{pt:Pu Bool}{pe:Pu D}(hi:AI X tg iter it)
  (hg:∀cl s H fp C,AG (bU X N' scope cl s H fp C) X.N.length tg t) (ht:∀cl s H fp C,ATs (bU X N' scope cl s H fp C) ifs pt) (he:∀cl s H fp C,AP (bU X N' scope cl s H fp C) elt pe)
  (hσ:Z.length=X.N.length) (St:StOk X.K G F Z H ρ) (w:W X G F Z ρ (yD k it t pt pe ρ) λds F' H'=>∀v,Frs X.K G F' Z H' ρ v (.l ds)->Q v H') :
  yo (j2 X tg iter) k (vz X N' scope tg) (vy X N' scope ifs) (vA X N' scope elt) Z H Q:=by
 refine hi G F Z H ρ _ St (w.bind.imp λds F1 H1 s1 S1 w1 J wk=>?_)
 have hP:∀i a,G.P i=some a->i<Z.length:=λi a h=>(List.getElem?_eq_some_iff.mp (S1.pp i a h).1).1
 have hln:Z.length=ρ.length:=S1.ln
 have wc:=w1.bind
 revert wc
 generalize hstep:(λd=>t d (λρ1=>bd (pt ρ1) λb=>if b then bd (pe ρ1) λv=>.ret (some v)else .ret none) (ρ++List.replicate k none))=step
 intro wc
 cases hcc:bH step ds with
 | bad=>rw[hcc]at wc;exact wc.elim
 | exc e=>exact(wu hcc).elim
 | ret out =>
  rw[hcc]at wc
  have wf:∀F' H',Same F1 F'->StOk X.K G F' Z H' ρ->W X G F' Z ρ (dw out) λds F' H'=>∀v,Frs X.K G F' Z H' ρ v (.l ds)->Q v H':=wc
  have hfit:out.length<=sizeLine:=(wf F1 H1 (Same.refl _) S1).fit.1
  have fin:∀F' H',Same F1 F'->StOk X.K G F' Z H' ρ->∀v,Frs X.K G F' Z H' ρ v (.l out)->Q v H':=λF' H' s' S'=>(wf F' H' s' S').fit.2 F' H' (Same.refl _) S'
  have grown:∀{F' H' σ' ρ'},StOk X.K G F' σ' H' ρ'->(∀j,j<Z.length->σ'[j]? = Z[j]? /\ ρ'[j]? = ρ[j]?)->σ'.length=Z.length+k->StOk X.K G F' σ' H' (ρ++List.replicate k none):=λ{F' H' σ' ρ'} S' kp hl=>by
   refine S'.weak (by have:=S'.ln;simp;lia) (λi av q=>?_) (λi c q=>?_)
   ·have q':=ju q
    have hi:i<Z.length:=by rw[hln];exact(List.getElem?_eq_some_iff.mp q').1
    rw[(kp i hi).2];exact q'
   ·obtain⟨a,ha⟩:=S'.pq i c q
    have hi:=hP i a ha
    rw[ev (by lia),<-(kp i hi).2]
    exact q
  refine⟨CIv X.K G Z k ds F1 (λ_:Unit=>ρ++List.replicate k none) (λi _ rest=>bH step (ds.drop i)=.ret rest) out,
   ⟨_,⟨F1,[],out,(),gh _,Same.refl _,S1.grow k,λj hj=>by rw[ev hj],by simp,.nil,hcc,rfl⟩⟩,?_⟩
  rintro i m vs σ' H' ⟨F',acc,rest,_,hi,s2,S2,kp,hlen,rp,go,eo⟩
  refine⟨by rw[rp.length];rw[eo,zzf]at hfit;lia,?_⟩
  by_cases hlt:i<ds.length
  ·refine .inr ⟨wk.go i G F' σ' H' _ s2 S2 hlt,λx H2 y cl s0 H0 fp C=>?_⟩
   obtain⟨F3,s3,S3,r3⟩:=wk.yld i G F' σ' H' _ x H2 ds[i] s2 S2 (ax hlt) y
   rw[At hlt]at go
   obtain⟨o,rest',hst,hr,er⟩:=xU go
   subst er
   clear go
   rw[<-hstep]at hst
   refine hg cl s0 H0 fp C (λm=>m=.ret o) _ G F3 σ' H2 _ x ds[i] _ (λz=>nomatch z) S3 r3 hst λσ3 ρ3 S4 kp3 hl3 ml3 o4=>?_
   have kp':∀j,j<Z.length->σ3[j]? = Z[j]? /\ ρ3[j]? = ρ[j]?:=λj hj=>⟨((kp3 j (by lia)).1).trans (kp j hj),by rw[(kp3 j (by lia)).2,ev (by lia)]⟩
   obtain⟨b,hpt,o4⟩:=tR o4
   intro cl s0 H0 fp C
   refine ht cl s0 H0 fp C G F3 σ3 H2 ρ3 _ S4 (W.rets hpt λF5 H5 s5 S5=>?_)
   cases b with
   | true =>
    refine rS ?_
    obtain⟨v,hpe,o5⟩:=tR (m:=pe ρ3) o4
    cases o5
    intro cl s0 H0 fp C
    refine he cl s0 H0 fp C G F5 σ3 H5 ρ3 _ S5 (W.rets hpe λF6 H6 s6 S6 u ru=>?_)
    exact CIv.on F6 (acc++[v]) rest' () hlt (((s2.trans s3).trans s5).trans s6) (grown S6 kp' (by lia)) (λj hj=>(kp' j hj).1) (by lia) ((rp.mono ((s3.trans s5).trans s6)).append (.cons ru .nil)) hr (by rw[eo];simp)
   | false =>
    refine rT ?_
    have o4':(M.ret none:M (Option D))=M.ret o:=o4
    cases o4'
    exact CIv.on F5 acc rest' () hlt ((s2.trans s3).trans s5) (grown S5 kp' (by lia)) (λj hj=>(kp' j hj).1) (by lia) (rp.mono (s3.trans s5)) hr (by rw[eo];simp)
  ·have ei:i=ds.length:=by lia
   subst ei
   rw[List.drop_length]at go
   cases go
   rw[wn]at eo
   subst eo
   refine .inl ⟨wk.stop G F' σ' H' _ s2 S2,λp hp=>?_⟩
   have Ssh:=S2.shrink (n:=Z.length) (by simp;lia) hP
   have e1:σ'.take Z.length=Z:=pH kp rfl
   have e2:(ρ++List.replicate k none).take Z.length=ρ:=by rw[hln,List.take_left]
   rw[e1,e2]at Ssh
   obtain⟨S5,r5⟩:=Ssh.newLst hp rp
   exact fin F' _ s2 S5 _ r5
theorem cG{it:Pu (List D)}{t:Tg (Option D)}{pt:Pu Bool}{pe:Pu D}(hc:X.calm=true)(Sc:CompOk X N' k scope)(hi:AI X tg iter it)
  (hg:∀cl s H fp C,AG (bU X N' scope cl s H fp C) X.N.length tg t) (ht:∀cl s H fp C,ATs (bU X N' scope cl s H fp C) ifs pt) (he:∀cl s H fp C,AP (bU X N' scope cl s H fp C) elt pe)
  (hs:∀x,foldedSetIterable iter X.env x=pure x:=by exact λ_=>rfl):AL X (.ListComp elt [⟨tg,iter,ifs,0⟩] scope pos) (yD k it t pt pe):=by
 intro G F Z H ρ Q St w;unfold ij;intro pins s I
 refine Dk (wi:=j2 X tg iter) (g:=vz X N' scope tg) (tc:=vy X N' scope ifs) (te:=vA X N' scope elt) hc Sc (λx hx hf=>I.ok.has x.1 (Sc.free x hx hf)) uh
  (λcl s H fp C pins s' Z H v u Q I r h=>np pins s' Z H v u Q I r (h cl _ _ fp C)) (λcl s H fp C pins s' Z H Q I h=>h cl _ _ fp C pins s' I) (λcl s H fp C pins s' Z H Q I h=>bi pins s' Z H Q I (h cl _ _ fp C)) hs pins s Z H Q I (zb hi hg ht he I.len St w)
theorem Cg{sh:List Kd}{it:Ev S (List D)}{t:Tg (Option D×SOf sh)}{et:Ev (Option D×SOf sh) Bool}{ee:Ev (Option D×SOf sh) D}{OK:M S->Prop}{x:Ex->En->M S}{kk:List D->En->M S}(hi:AEi X tg iter it)
  (hg:∀cl s H fp C,AG (bU X N' scope cl s H fp C) X.N.length tg t) (ht:∀cl s H fp C,Gr (bU X N' scope cl s H fp C) ifs et) (he:∀cl s H fp C,AE (bU X N' scope cl s H fp C) elt ee)
  (hσ:Z.length=X.N.length) (hO:KOk OK) (hX:XL X OK x G) (St:StOk X.K G F Z H ρ) (ok:OK (EI sh k it t et ee x kk ρ)) (k2:∀ds v F' H' ρ',Same F F'->StOk X.K G F' Z H' ρ'->Frs X.K G F' Z H' ρ' v (.l ds)->OK (kk ds ρ')->Q v H') :
  yo (j2 X tg iter) k (vz X N' scope tg) (vy X N' scope ifs) (vA X N' scope elt) Z H Q:=by
 refine hi OK x _ G F Z H ρ _ hO hX St ok λds J F1 H1 ρ1 s1 S1 wk o1=>?_
 obtain⟨s0,e0,o0⟩:=lF hO o1
 clear o1
 have S0:=S1.rd e0
 have hshl:sh.length=Z.length:=(AJ sh s0).symm.trans S0.ln.symm
 have hlen0:∀s:SOf sh,(wr sh s).length=Z.length:=λs=>(AJ sh s).trans hshl
 have hP:∀i a,G.P i=some a->i<Z.length:=λi a h=>(List.getElem?_eq_some_iff.mp (S1.pp i a h).1).1
 revert o0
 generalize hstep:(λ(s:SOf sh) d=>t d (λρ2=>et (λe _=>.exc e) (λb ρ3=>if b then ee (λe _=>.exc e) (λv ρ4=>rdk sh (λs'=>.ret (some v,s')) (ρ4.take sh.length)) ρ3 else rdk sh (λs'=>.ret (none,s')) (ρ3.take sh.length)) ρ2) (wr sh s++List.replicate k none))=step
 intro o0
 cases hcc:iD step ds s0 with
 | bad=>rw[hcc]at o0;exact(hO o0).elim
 | exc e=>exact(wt hcc).elim
 | ret q =>
  obtain⟨out,sf⟩:=q
  rw[hcc,Fz]at o0
  obtain⟨hfit,o0⟩:=FW hO o0
  have again:∀{F' H' σ' ρ'} {s':SOf sh},StOk X.K G F' σ' H' ρ'->(∀j,j<Z.length->σ'[j]? = Z[j]?)->σ'.length=Z.length+k->rd sh (ρ'.take sh.length)=some s'->StOk X.K G F' σ' H' (wr sh s'++List.replicate k none):=λ{F' H' σ' ρ' s'} S' kp hl e'=>by
   obtain⟨h1,h2,h3⟩:=km sh _ s' e'
   have hρ':ρ'.length=Z.length+k:=by rw[<-S'.ln];exact hl
   refine S'.weak (by simp[hlen0];lia) (λi av q=>?_) (λi c q=>?_)
   ·have q':=ju q
    have:=h2 i av q'
    have hi:i<sh.length:=by
     have:=(List.getElem?_eq_some_iff.mp this).1
     rw[ls]at this;lia
    rw[ib hi]at this
    exact this
   ·obtain⟨a,ha⟩:=S'.pq i c q
    have hi:=hP i a ha
    rw[ev (by rw[hlen0];exact hi)]
    exact h3 i c (by rw[ib (by lia)];exact q)
  refine⟨CIv X.K G Z k ds F1 (λs=>wr sh s++List.replicate k none) (λi s rest=>iD step (ds.drop i) s=.ret (rest,sf)) out,
   ⟨_,⟨F1,[],out,s0,gh _,Same.refl _,S0.grow k,λj hj=>by rw[ev hj],by simp,.nil,hcc,rfl⟩⟩,?_⟩
  rintro i m vs σ' H' ⟨F',acc,rest,sc,hi,s2,S2,kp,hlen,rp,go,eo⟩
  refine⟨by rw[rp.length];rw[eo,zzf]at hfit;lia,?_⟩
  by_cases hlt:i<ds.length
  ·refine .inr ⟨wk.go i G F' σ' H' _ s2 S2 hlt,λx H2 y cl sx H0 fp C=>?_⟩
   obtain⟨F3,s3,S3,r3⟩:=wk.yld i G F' σ' H' _ x H2 ds[i] s2 S2 (ax hlt) y
   rw[At hlt]at go
   obtain⟨o,sn,rest',hst,hr,er⟩:=xT go
   subst er
   clear go
   rw[<-hstep]at hst
   refine hg cl sx H0 fp C (λm=>m=.ret (o,sn)) _ G F3 σ' H2 _ x ds[i] _ (λz=>nomatch z) S3 r3 hst λσ3 ρ3 S4 kp3 hl3 ml3 o4=>?_
   have kp':∀j,j<Z.length->σ3[j]? = Z[j]?:=λj hj=>((kp3 j (by lia)).1).trans (kp j hj)
   intro cl sx H0 fp C
   refine ht cl sx H0 fp C (λm=>m=.ret (o,sn)) (λe _=>.exc e) _ G F3 σ3 H2 ρ3 _ (λz=>nomatch z) (λF ρ e z=>nomatch z) S4 o4 λb F5 H5 ρ5 s5 S5 o5=>?_
   cases b with
   | true =>
    refine rS ?_
    intro cl sx H0 fp C
    refine he cl sx H0 fp C (λm=>m=.ret (o,sn)) (λe _=>.exc e) _ G F5 σ3 H5 ρ5 _ (λz=>nomatch z) (λF ρ e z=>nomatch z) S5 o5 λv u F6 H6 ρ6 s6 S6 ru o6=>?_
    obtain⟨s',e',o'⟩:=lF (OK:=λm=>m=.ret (o,sn)) (λz=>nomatch z) o6
    cases o'
    exact CIv.on F6 (acc++[v]) rest' sn hlt (((s2.trans s3).trans s5).trans s6) (again S6 kp' (by lia) e') kp' (by lia) ((rp.mono ((s3.trans s5).trans s6)).append (.cons ru .nil)) hr (by rw[eo];simp)
   | false =>
    refine rT ?_
    obtain⟨s',e',o'⟩:=lF (OK:=λm=>m=.ret (o,sn)) (λz=>nomatch z) o5
    cases o'
    exact CIv.on F5 acc rest' sn hlt ((s2.trans s3).trans s5) (again S5 kp' (by lia) e') kp' (by lia) (rp.mono (s3.trans s5)) hr (by rw[eo];simp)
  ·have ei:i=ds.length:=by lia
   subst ei
   rw[List.drop_length]at go
   cases go
   rw[wn]at eo
   subst eo
   refine .inl ⟨wk.stop G F' σ' H' _ s2 S2,λp hp=>?_⟩
   have Ssh:=S2.shrink (n:=Z.length) (by simp[hlen0]) hP
   have e1:σ'.take Z.length=Z:=pH kp rfl
   have e2:(wr sh sf++List.replicate k none).take Z.length=wr sh sf:=by rw[<-hlen0 sf,List.take_left]
   rw[e1,e2]at Ssh
   obtain⟨S5,r5⟩:=Ssh.newLst hp rp
   exact k2 _ _ F' _ _ (s1.trans s2) S5 r5 o0
theorem jU{spos:Pos}{it:Pu (List D)}{t:Tg (Option D)}{pt:Pu Bool}{pe:Pu D}
  (hN:X.N.Nodup) (hy:X.N[i]? = some y) (hly:Loc X.env.scope y) (hfn:X.fn y=true\/X.env.scope.names.lookup y=some .local) (hc:X.calm=true) (Sc:CompOk X N' k scope) (hi:AI X tg iter it)
  (hg:∀cl s H fp C,AG (bU X N' scope cl s H fp C) X.N.length tg t) (ht:∀cl s H fp C,ATs (bU X N' scope cl s H fp C) ifs pt) (he:∀cl s H fp C,AP (bU X N' scope cl s H fp C) elt pe)
  (hsw:swapsWith (.ListComp elt [⟨tg,iter,ifs,0⟩] scope pos) (some (.Name y pos')) spos.line X.env=pure true) (hs:∀x,foldedSetIterable iter X.env x=pure x) :
  AS (S:=S) X (.Assign [.Name y pos'] (.ListComp elt [⟨tg,iter,ifs,0⟩] scope pos) spos) (E3 i (ePu (pZ (yD k it t pt pe)))):=by
 intro OK K G F Z H ρ E hO hX St ok eo;unfold pJ;intro pins s I
 refine qe (wi:=j2 X tg iter) (g:=vz X N' scope tg) (tc:=vy X N' scope ifs) (te:=vA X N' scope elt) hN hy hly hfn hc Sc (λx hx hf=>I.ok.has x.1 (Sc.free x hx hf)) uh
  (λcl s H fp C pins s' Z H v u Q I r h=>np pins s' Z H v u Q I r (h cl _ _ fp C)) (λcl s H fp C pins s' Z H Q I h=>h cl _ _ fp C pins s' I) (λcl s H fp C pins s' Z H Q I h=>bi pins s' Z H Q I (h cl _ _ fp C)) hsw hs pins s Z H E I ?_
 refine zb hi hg ht he I.len St ?_
 have w:W X G F Z ρ (pZ (yD k it t pt pe) ρ) (λd F' H'=>∀v,Rep X.K F' v d->v0 i v Z H' E.nx):=W.of hO hX ok λd F' H' s S' o v r=>by
  have o':OK (match qD ρ i with|true=>K.nx (ρ.set i (some (.fz d)))|false=>.bad):=o
  split at o'
  ·rename_i ho
   obtain⟨hl,hop⟩:=kr ho
   exact eo.nx F' _ H' _ s (S'.store hop hl (.inl ⟨d,rfl,r⟩)) o'
  ·exact(hO o').elim
 refine w.bind.imp λds F' H' s1 S1 w1 v fr=>?_
 obtain⟨F2,s2,S2,r2⟩:=S1.settle (v:=v) (ds:=ds) fr
 exact w1 F2 H' s2 S2 v r2
theorem oD{spos:Pos}{sh:List Kd}{it:Ev S (List D)}{t:Tg (Option D×SOf sh)}{et:Ev (Option D×SOf sh) Bool}{ee:Ev (Option D×SOf sh) D}
  (hN:X.N.Nodup) (hy:X.N[i]? = some y) (hly:Loc X.env.scope y) (hfn:X.fn y=true\/X.env.scope.names.lookup y=some .local) (hc:X.calm=true) (Sc:CompOk X N' k scope) (hi:AEi X tg iter it)
  (hg:∀cl s H fp C,AG (bU X N' scope cl s H fp C) X.N.length tg t) (ht:∀cl s H fp C,Gr (bU X N' scope cl s H fp C) ifs et) (he:∀cl s H fp C,AE (bU X N' scope cl s H fp C) elt ee)
  (hsw:swapsWith (.ListComp elt [⟨tg,iter,ifs,0⟩] scope pos) (some (.Name y pos')) spos.line X.env=pure true) (hs:∀x,foldedSetIterable iter X.env x=pure x) :
  AS X (.Assign [.Name y pos'] (.ListComp elt [⟨tg,iter,ifs,0⟩] scope pos) spos) (E3 i (eZ (EI sh k it t et ee))):=by
 intro OK K G F Z H ρ E hO hX St ok eo;unfold pJ;intro pins s I
 refine qe (wi:=j2 X tg iter) (g:=vz X N' scope tg) (tc:=vy X N' scope ifs) (te:=vA X N' scope elt) hN hy hly hfn hc Sc (λx hx hf=>I.ok.has x.1 (Sc.free x hx hf)) uh
  (λcl s H fp C pins s' Z H v u Q I r h=>np pins s' Z H v u Q I r (h cl _ _ fp C)) (λcl s H fp C pins s' Z H Q I h=>h cl _ _ fp C pins s' I) (λcl s H fp C pins s' Z H Q I h=>bi pins s' Z H Q I (h cl _ _ fp C)) hsw hs pins s Z H E I ?_
 refine Cg hi hg ht he I.len hO hX St ok λds v F' H' ρ' s S' r o=>?_
 have o':OK (match qD ρ' i with|true=>K.nx (ρ'.set i (some (.fz (.list ds))))|false=>.bad):=o
 split at o'
 ·rename_i ho
  obtain⟨hl,hop⟩:=kr ho
  obtain⟨F2,s2,S2,r2⟩:=S'.settle (v:=v) (ds:=ds) r
  exact eo.nx F2 _ H' _ (s.trans s2) (S2.store hop hl (.inl ⟨_,rfl,r2⟩)) o'
 ·exact(hO o').elim
end
end L4
namespace HT
open PySem PySem.Spec PyProof.Rows
section
variable {prog:Program}{w:World}{A:Around}{E:zzj}{s:Shared}
theorem getItem_tuple_all{t sl:Addr}{items:Array Value}{vl vu:Value}{lo hi:Option Int}{Q:zzj}(ht:IsTup s.heap t items)(hs:s.heap.IsSliceOf sl vl vu .none)(pl:IsPart vl lo)(pu:IsPart vu hi)
  (hw:sIx items.size 0 lo=0/\sIx items.size items.size hi=items.size) (h:Q (.ref t) s):wpAny (model prog w) A (getItem (.ref t) (.ref sl)) Q E s:=by
 obtain⟨os,hos,hcs,hds⟩:=id hs
 have hTs:s.TypeIs (.ref sl) "slice":=⟨os,hos,hcs⟩
 unfold getItem
 try with_reducible refine Cn ?_
 first|refine zza (zzb ?_)|skip
 refine zza (wpAny_sequenceKey ht.typeIs (by decide) ?_)
 refine zza (ia (name:=Str.ofString "__getitem__") ht.typeIs mm
  (ll mm ht.typeIs entry_tuple_getitem ?_ (args_tuple_getitem _ _)))
 show wpAny _ _ (Builtin.Tuple.tupleItemsOf (.ref t) >>= _) _ _ s
 refine zza (tupleItemsOf_ ht ?_)
 refine zza (wpAny_typeOf hTs ?_)
 rw[be (by decide)]
 refine zza (jg hs pl pu ?_)
 have hyes:((((sIx items.size 0 lo:Nat):Int)==0&&(1:Int)==1&&(sIx items.size items.size hi - sIx items.size 0 lo)==items.size)=true):=by
  rw[hw.1,hw.2]
  simp
 show wpAny _ _ (if(((sIx items.size 0 lo:Nat):Int)==0&&(1:Int)==1&&(sIx items.size items.size hi - sIx items.size 0 lo)==items.size)=true then _ else _) _ _ s
 rw[be hyes]
 obtain⟨o,ho,hc,n,hd⟩:=id ht
 have hex:∀{Q':Bool->Shared->Prop},Q' true s->wpAny (model prog w) A.in1 (Builtin.Tuple.tupleIsExact (.ref t)) Q' E s:=λ{Q'} q=>by
  unfold Builtin.Tuple.tupleIsExact
  refine zza (wpAny_typeOf ht.typeIs (zzb ?_))
  exact q
 first
  | exact zza (hex (zza (Er (zzb ⟨_,rfl,zzb h⟩))))
  | exact zza (zza (hex (zza (Er (zzb (zzb ⟨_,rfl,zzb h⟩))))))
end
end HT
namespace L4
open PySem PySem.Spec PyProof.Rows L2 L3
variable {X:Cx}{K:Fg}{pos:Pos}{e:Expr}{T:String}{x:Str}
def cutD(ds:List D)(lo hi:Option Int):List D:=(ds.drop (HT.sIx ds.length 0 lo)).take (HT.sIx ds.length ds.length hi - HT.sIx ds.length 0 lo)
theorem za{F:Hp}{vs:List V}{ds:List D}(r:RepL K F vs ds)(lo hi:Option Int):RepL K F (wq vs lo hi) (cutD ds lo hi):=by
 unfold wq cutD
 rw[r.length]
 exact(r.drop _).take _
def Iv(K:Fg):V->Option Int->Option Int->Hp->VK->Prop:=λx lo hi H Q=>∃a xs,x=.ref a/\SqT K H a xs/\(HT.sIx xs.length 0 lo=0/\HT.sIx xs.length xs.length hi=xs.length)/\Q x H
theorem sl_tupA:SlR X (Iv X.K):=by
 intro pins s Z H x v vl vu lo hi sl Q I rx hs pl pu h
 obtain⟨a,xs,rfl,hx,hw,q⟩:=h
 cases rx
 obtain⟨its,r,ht,hz⟩:=I.tuple hx
 have hlen:its.toArray.size=xs.length:=by rw[bj];exact r.length.symm
 refine⟨"tuple",_,PyProof.Rows.slot_tuple_getitem.lookup,ht.typeIs,?_⟩
 exact HT.getItem_tuple_all ht hs pl pu (by rw[hlen];exact hw) ⟨.ref a,H,I,rfl,q⟩
def IB:Pu (Option Int):=λ_=>.ret none
def asI(d:D):M (Option Int):=match d with
 | .int i=>.ret (some i)
 | _=>.bad
def IE(p:Pu D):Pu (Option Int):=λρ=>bd (p ρ) asI
def fH(d:D)(lo hi:Option Int):Option D:=match d with
 | .tuple ds=>some (.tuple (cutD ds lo hi))
 | .list ds=>some (.list (cutD ds lo hi))
 | _=>none
def Ft(p:Pu D)(l h:Pu (Option Int)):Pu D:=λρ=>bd (p ρ) λd=>bd (l ρ) λlo=>bd (h ρ) λhi=>oM (fH d lo hi)
def APo(X:Cx)(e:Option Expr)(p:Pu (Option Int)):Prop :=
 ∀(G:Gh) (F:Hp) (Z:L2.St) (H:Hp) (ρ:En) (Q:Option Int->Hp->Prop),StOk X.K G F Z H ρ->W X G F Z ρ (p ρ) (λd F' H'=>Q d H')->∀(pins:zzk) (s:Shared),Inv X pins Z H s ->
  wpAny (model X.prog X.w) X.A (evalPart e X.env) (λu s'=>∃o H',Inv X pins Z H' s'/\IsPart u o/\Q o H') X.xe s
def Gx(X:Cx)(e:Option Expr):TO:=λZ H Q=>∀(pins:zzk) (s:Shared),Inv X pins Z H s->wpAny (model X.prog X.w) X.A (evalPart e X.env) (λu s'=>∃o H',Inv X pins Z H' s'/\IsPart u o/\Q o H') X.xe s
theorem Br{e:Option Expr}:PO X e (Gx X e):=λpins s Z H Q I h=>h pins s I
section
variable {lo hi:Option Expr} {p:Pu D} {pl ph:Pu (Option Int)} {p2:Pos}
theorem bY:APo X none IB:=λG F Z H ρ Q S w pins s I=>Dd pins s Z H Q I (w F H (Same.refl _) S)
theorem bL(h:AP X e p):APo X (some e) (IE p):=λG F Z H ρ Q S w pins s I=>Dc bi pins s Z H Q I (h G F Z H ρ _ S (w.bind.imp λd F1 H1 s1 S1 w1 v r=>by
 cases r with
 | int i=>exact⟨i,rfl,w1 F1 H1 (Same.refl _) S1⟩
 | bl b=>exact w1.elim
 | non=>exact w1.elim
 | str i=>exact w1.elim
 | tup _ _=>exact w1.elim
 | lst _ _=>exact w1.elim
 | dct _ _ _=>exact w1.elim
 | dck _ _ _=>exact w1.elim
 | exc _ _ _ _ _=>exact w1.elim
 | fn _=>exact w1.elim))
theorem bS(he:AO X e p)(hl:APo X lo pl)(hh:APo X hi ph):AP X (.Subscript e (.Slice lo hi none p2) pos) (Ft p pl ph) :=
 λG F Z H ρ Q S w=>sem (Bx (sl_tup.or (sl_tupA.or C0)) bi Br Br) (he G F Z H ρ _ S (w.bind.imp λd F1 H1 s1 S1 w1 x hx =>
  hl G F1 Z H1 ρ _ S1 (w1.bind.imp λlo F2 H2 s2 S2 w2=>hh G F2 Z H2 ρ _ S2 (w2.bind.imp λhi F3 H3 s3 S3 w3=>by
   obtain⟨res,hr,k⟩:=w3.opt
   have ox:=(hx.mono (s2.trans s3)).or S3
   cases d<;>try (cases hr)
   ·obtain⟨a,vs,rfl,h1,h2⟩:=ox.list S3.fh
    refine .inr (.inr ⟨a,vs,rfl,h1,λq hq=>?_⟩)
    obtain⟨S4,r4⟩:=S3.newLst hq (za h2 lo hi)
    obtain⟨F5,s5,S5,r5⟩:=S4.settle r4
    exact k F5 _ s5 S5 _ r5
   ·rename_i ds
    obtain⟨a,vs,rfl,h1,h2⟩:=ox.tuple S3.fh
    by_cases hw:HT.sIx vs.length 0 lo=0/\HT.sIx vs.length vs.length hi=vs.length
    ·refine .inr (.inl ⟨a,vs,rfl,h1,hw,k F3 H3 (Same.refl _) S3 _ ?_⟩)
     have:cutD ds lo hi=ds:=by
      unfold cutD
      rw[<-h2.length,hw.1,hw.2]
      simp[h2.length]
     rw[this]
     exact ox.tup'
    ·refine .inl ⟨a,vs,rfl,h1,hw,λq hq=>?_⟩
     obtain⟨s4,S4,r4⟩:=S3.newTup hq (za h2 lo hi)
     exact k _ _ s4 S4 _ r4))))
end
def xp(f g:D->D->Option Bool)(a b c:Pu D):Pu Bool:=λρ=>bd (a ρ) λx=>bd (b ρ) λy=>bd (oM (f x y)) λt=>if t then bd (c ρ) λz=>oM (g y z)else .ret false
section
variable {a b c:Expr} {pa pb pc:Pu D} {op op':CmpOp} {r r':R2} {f g:D->D->Option Bool}
theorem ww{G:Gh}{F H:Hp}{Z:L2.St}{ρ:En}{Q:VK}(hf:OpB X.K r f)(hg:OpB X.K r' g)(ha:AO X a pa)(hb:AO X b pb)(hc:AO X c pc)(S:StOk X.K G F Z H ρ)(w:W X G F Z ρ (xp f g pa pb pc ρ) λt F' H'=>Q (.bl t) H') :
  wW r r' (ij X a) (ij X b) (ij X c) Z H Q :=
 ha G F Z H ρ _ S (w.bind.imp λdx F1 H1 s1 S1 w1 x hx=>hb G F1 Z H1 ρ _ S1 (w1.bind.imp λdy F2 H2 s2 S2 w2 y hy=>by
  have w3:=w2.bind
  obtain⟨t,e,k⟩:=w3.opt
  refine hf G F2 Z H2 ρ x y dx dy t _ S2 ((hx.mono s2).or S2) (hy.or S2) e ⟨t,rfl,?_⟩
  have w4:=k F2 H2 (Same.refl _) S2
  cases t with
  | true =>
   refine rS ?_
   exact hc G F2 Z H2 ρ _ S2 ((show W X G F2 Z ρ (bd (pc ρ) λz=>oM (g dy z)) _ from w4).bind.imp λdz F3 H3 s3 S3 w5 z hz=>by
    obtain⟨t',e',k'⟩:=w5.opt
    exact hg G F3 Z H3 ρ y z dy dz t' _ S3 ((hy.mono s3).or S3) (hz.or S3) e' (k' F3 H3 (Same.refl _) S3))
  | false =>
   refine rT ?_
   exact(show W X G F2 Z ρ (.ret false) _ from w4) F2 H2 (Same.refl _) S2))
theorem wA(ho:OpR X (compareOp op) r)(ho':OpR X (compareOp op') r')(hf:OpB X.K r f)(hg:OpB X.K r' g)(ha:AO X a pa)(hb:AO X b pb)(hc:AO X c pc)(hm:lastMarks [op,op'] [b,c]=false):AB X (.Compare a [op,op'] [b,c] pos) (xp f g pa pb pc) :=
 λG F Z H ρ Q S w=>sem (Bz ho ho' bi bi bi hm) (ww hf hg ha hb hc S w)
theorem Cw(ho:OpR X (compareOp op) r)(ho':OpR X (compareOp op') r')(hf:OpB X.K r f)(hg:OpB X.K r' g)(ha:AO X a pa)(hb:AO X b pb)(hc:AO X c pc)(hm:lastMarks [op,op'] [b,c]=false):AT X (.Compare a [op,op'] [b,c] pos) (xp f g pa pb pc) :=
 λG F Z H ρ Q S w=>rK (Bk ho ho' bi bi bi hm) (ww (Q:=λx H'=>∃k,x=.bl k/\Q k H') hf hg ha hb hc S (w.imp λt F' H' _ _ q=>⟨t,rfl,q⟩))
end
def kq(d e:D):Option Bool:=match d,e with
 | .bool a,.bool b=>some (a==b)
 | _,.none=>some (isNone d)
 | _,_=>none
def lH(d e:D):Option Bool:=match d,e with
 | .bool a,.bool b=>some (a != b)
 | _,.none=>some (!isNone d)
 | _,_=>none
section
theorem uj:OpR X (compareOp .Is) (rD2 X.K kq):=by
 intro pins s Z H x y v u Q I rx ry ⟨d,e,b,r1,r2,ho,q⟩
 unfold kq at ho
 split at ho
 ·cases ho
  obtain rfl:=r1.bool_inv
  obtain rfl:=r2.bool_inv
  cases rx
  cases ry
  exact PyProof.Rows.is_bool ⟨.bl _,H,I,rfl,q⟩
 ·exact Dn pins s Z H x y v u Q I rx ry ⟨d,.none,b,r1,r2,by rw[<-ho];rfl,q⟩
 ·cases ho
theorem vM:OpR X (compareOp .IsNot) (rD2 X.K lH):=by
 intro pins s Z H x y v u Q I rx ry ⟨d,e,b,r1,r2,ho,q⟩
 unfold lH at ho
 split at ho
 ·cases ho
  obtain rfl:=r1.bool_inv
  obtain rfl:=r2.bool_inv
  cases rx
  cases ry
  exact PyProof.Rows.isnot_bool ⟨.bl _,H,I,rfl,q⟩
 ·exact BA pins s Z H x y v u Q I rx ry ⟨d,.none,b,r1,r2,by rw[<-ho];rfl,q⟩
 ·cases ho
end
def gl(T:String)(d:D):Option Bool:=if isFn d then none else some (isT T d)
def pIs(T:String)(p:Pu D):Pu Bool:=λρ=>bd (p ρ) λd=>oM (gl T d)
theorem cg{d:D}(h:isFn d=false):gl T d=some (isT T d):=by unfold gl;rw[h];rfl
def Iy(K:Fg)(T:String):List V->Hp->VK->Prop:=λxs H Q=>∃v d,xs=[v,.ty T]/\Rep K H v d/\isFn d=false/\Q (.bl (isT T d)) H
theorem DS(hT:vq T=true):CallR X (.builtin "isinstance") (Iy X.K T):=by
 intro pins s Z H xs us Q I r h
 obtain⟨v,d,rfl,rp,nf,q⟩:=h
 obtain⟨u,w,rfl,ru,rw'⟩:=vals2 r
 cases rw'
 exact xK hT I rp nf ru λtk=>⟨.bl _,H,I.tok tk,rfl,q⟩
section
variable {p:Pu D} {p1 p2:Pos}
theorem d9(hT:vq T=true)(hg:Gl X "isinstance")(hm:X.mg "isinstance" = none)(hgT:Gl X x)(hmT:X.mg x=none)(hv:bootBuiltins x=some (.type T))(ha:AO X e p)(hs:starEach [e,.Name x p2] X.env=(false,eval e X.env)::starEach [.Name x p2] X.env)(hs2:starEach [.Name x p2] X.env=(false,eval (.Name x p2) X.env)::starEach [] X.env)
  (hpl:(backTo pos (starEach [.Name x p2] X.env)).any (·.1)=false) (hn:x ≠ "__name__":=by decide) (hd:(x==("__debug__" : Str))=false:=by decide):AB X (.Call (.Name "isinstance" p1) [e,.Name x p2] [] pos) (pIs T p) :=
 λG F Z H ρ Q S w=>sem (qj (DS hT) hg hm (by decide +kernel) (kR bi (kR (Dm hgT hmT hv (v:=.ty T) rfl hn hd) ui hs2) hs) (by decide) (by decide) hs hpl) (ha G F Z H ρ _ S (w.bind.imp λd F1 H1 s1 S1 w1 v hv=>by
  obtain⟨b,hb,k⟩:=w1.opt
  unfold gl at hb
  split at hb
  ·cases hb
  ·rename_i nf
   cases hb
   exact⟨v,d,rfl,(hv.or S1).rep S1.fh,by simpa using nf,k F1 H1 (Same.refl _) S1⟩))
end
def boolsOf:List D->Option (List Bool)
 | []=>some []
 | .bool b::r=>match boolsOf r with
  | some l=>some (b::l)
  | none=>none
 | _=>none
theorem rg:∀{ds:List D} {bs:List Bool},boolsOf ds=some bs->ds=bs.map PyData.bool
 | [],_,h=>by cases h;rfl
 | .bool i::r,ns,h=>by
  dsimp only[boolsOf]at h
  split at h
  ·rename_i l e;cases h;rw[rg e];rfl
  ·cases h
 | .none::_,_,h=>by cases h
 | .int _::_,_,h=>by cases h
 | .str _::_,_,h=>by cases h
 | .list _::_,_,h=>by cases h
 | .tuple _::_,_,h=>by cases h
 | .dict _::_,_,h=>by cases h
theorem kL(bs:List Bool):boolsOf (bs.map PyData.bool)=some bs:=by
 induction bs with
 | nil=>rfl
 | cons b r ih=>simp[boolsOf,ih]
theorem pW{K:Fg}{F:Hp}:∀{vs:List V} {bs:List Bool},RepL K F vs (bs.map PyData.bool)->vs=bs.map V.bl
 | _,[],h=>by cases h;rfl
 | _,n::r,h=>by
  cases h with
  | cons a b=>cases a;rw[pW b];rfl
theorem pF:∀{bs:List Bool} {us:List Value},Vals (bs.map V.bl) us->us=bs.map Value.bool
 | [],_,h=>by cases h;rfl
 | n::r,_,h=>by
  cases h with
  | cons a b=>cases a;rw[pF b];rfl
def v8:List D->Option Bool
 | [.list ds]=>(boolsOf ds).map λbs=>bs.all id
 | _=>none
def xi(K:Fg)(f:List Bool->Bool):List V->Hp->VK->Prop:=λxs H Q=>∃a bs,xs=[.ref a]/\SqL K H a (bs.map V.bl)/\Q (.bl (f bs)) H
theorem BD{f:List Bool->Bool}{g:List D->Option Bool}(hg:∀l b,g l=some b->∃bs,l=[.list (bs.map PyData.bool)]/\b=f bs):yk K (xi K f) g:=by
 intro G F Z H ρ xs ds res Q S o e k
 obtain⟨bs,rfl,rfl⟩:=hg _ _ e
 obtain⟨v,r,rfl,ho,hr⟩:=cW o
 obtain rfl:=ek hr
 obtain⟨a,vs,rfl,h1,h2⟩:=ho.list S.fh
 rw[pW h2]at h1
 exact⟨a,bs,rfl,h1,k⟩
theorem xA:yk K (xi K λbs=>bs.all id) v8:=BD λl b h=>by
 unfold v8 at h
 split at h
 ·obtain⟨bs,e,rfl⟩:=Option.map_eq_some_iff.mp h
  exact⟨bs,by rw[rg e],rfl⟩
 ·cases h
theorem z9{prog:Program}{w:World}{A:Around}{E:zzj}{s:Shared}{l:Addr}{its:Array Value}{Q:zzj}(hl:s.heap.IsList l its)
  (h:∀s₂:Shared,s₂={ s with heap:=s.heap.push { cls:=.type "list_iterator",data:=.fields #[.ref l,.int 0 0] } } ->
   (s₂.heap.IsListIter s.heap.objs.size l 0/\s₂.heap.IsList l its)->l≠s.heap.objs.size->Q (.ref s.heap.objs.size) s₂) :
  wpAny (model prog w) A (pyIter (.ref l)) Q E s:=by
 have hlt:l<s.heap.objs.size:=by obtain⟨_,e,_⟩:=hl;exact ba e
 exact wpAny_pyIter_list hl (h _ rfl ⟨⟨_,zze _ rfl,rfl,rfl⟩,hl.push _⟩ (io hlt))
theorem vv{prog:Program}{w:World}{A:Around}(bs:List Bool):TruthOf prog w A (λi v=>(bs.map Value.bool).toArray[i]? = some v) (λi=>bs.getD i false):=λi v s Q E hP hQ=>by
 dsimp only at hP hQ
 rw[JO,ou]at hP
 obtain⟨b,e,rfl⟩:=Option.map_eq_some_iff.mp hP
 rw[al,e]at hQ
 exact ss hQ
theorem all_range(bs:List Bool):(List.range bs.length).all (λi=>bs.getD i false)=bs.all id:=by
 induction bs with
 | nil=>rfl
 | cons b r ih =>
  rw[bu,List.range_succ_eq_map,ir,ul,ir]
  simp only[List.getD_cons_zero,id_eq]
  congr 1
theorem qV(hc:X.calm=true):CallR X (.builtin "all") (xi X.K λbs=>bs.all id):=by
 intro pins s Z H xs us Q I r h
 obtain⟨a,bs,rfl,hq,q⟩:=h
 obtain⟨u,rfl,ru⟩:=Vals.one r
 cases ru
 obtain⟨its,rv,pl,hz⟩:=I.list hq
 rw[pF rv]at pl
 refine call_all_walk (z9 pl.isList λs₂ e st hlI=>?_)
 subst e
 refine⟨_,_,_,_,_,_,_,rfl,Walks.list (A:=X.A.in1) (I.ok.hd hc) _ a hlI (bs.map Value.bool).toArray,st,vv bs,λh' tk hk=>?_⟩
 refine⟨.bl (bs.all id),H,I.kept (old_kept hk),?_,q⟩
 show _=_
 rw[<-all_range bs]
 simp
def qM:List D->Option (List D)
 | [.list ds]=>some ds
 | [.tuple ds]=>some ds
 | _=>none
def GS(K:Fg):List V->Hp->VK->Prop:=λxs H Q=>∃p ys,xs=[.ref p]/\(SqL K H p ys\/SqT K H p ys)/\∀l,H l=none->Q (.ref l) (upd H l (.lst ys))
theorem yF:EN K (GS K) qM:=by
 intro G F Z H ρ xs ds res Q S o e k
 unfold qM at e
 split at e
 ·cases e
  obtain⟨v,r,rfl,ho,hr⟩:=cW o
  obtain rfl:=ek hr
  obtain⟨a,vs,rfl,h1,h2⟩:=ho.list S.fh
  refine⟨a,vs,rfl,.inl h1,λl hl=>?_⟩
  obtain⟨S2,r2⟩:=S.newLst hl h2
  exact k _ F _ (Same.refl _) S2 r2
 ·cases e
  obtain⟨v,r,rfl,ho,hr⟩:=cW o
  obtain rfl:=ek hr
  obtain⟨a,vs,rfl,h1,h2⟩:=ho.tuple S.fh
  refine⟨a,vs,rfl,.inr h1,λl hl=>?_⟩
  obtain⟨S2,r2⟩:=S.newLst hl h2
  exact k _ F _ (Same.refl _) S2 r2
 ·cases e
def nU:List D->Option D
 | [.int i]=>some (.int i)
 | [.bool b]=>some (.int (if b then 1 else 0))
 | _=>none
theorem uw:rH K (λxs H Q=>(∃i,xs=[.int i]/\Q (.int i) H)\/∃k,xs=[.bl k]/\Q (.int (if k then 1 else 0)) H) nU:=by
 intro G F Z H ρ xs ds res Q S o e k
 unfold nU at e
 split at e
 ·cases e
  obtain⟨v,r,rfl,ho,hr⟩:=cW o
  obtain rfl:=ek hr
  exact .inl ⟨_,by rw[ho.int],k _ F H (Same.refl _) S (.int _)⟩
 ·cases e
  obtain⟨v,r,rfl,ho,hr⟩:=cW o
  obtain rfl:=ek hr
  exact .inr ⟨_,by rw[ho.bool],k _ F H (Same.refl _) S (.int _)⟩
 ·cases e
theorem lf{v:V}{u:Value}{d:D}(hg:Gl X x)(hm:X.mg x=some u)(r:RelV v u)(rp:∀F,Rep X.K F v d)(hd:(x==("__debug__" : Str))=false):AP X (.Name x pos) (zL d) :=
 rh (Dj hg hm r hd) rp
section
variable {S:Type}
def putD(ds:List D)(j d:D):Option (List D):=match j with
 | .int k=>(ixN ds.length k).map λq=>ds.set q d
 | _=>none
def Ip(i:Nat)(mi me:Ev S D):SM S:=λK ρ=>me K.x (λd ρ1=>match ko ρ1 i with
 | some _=>mi K.x (λj ρ2=>match ko ρ2 i with
  | some ds=>(oM (putD ds j d)).on (λe=>K.x e ρ2) (λds'=>K.nx (tY ρ2 i ds'))
  | none=>.bad) ρ1
 | none=>.bad) ρ
variable {a b:Expr} {mi me:Ev S D} {pos' tpos apos cpos:Pos} {ml:Ev S (List D)}
theorem CB{i:Nat}(hN:X.N[i]? = some x)(hv:Vis X.env.scope x)(hi:AE X b mi)(he:AE X e me)(ha:∀v,assign (.Subscript (.Name x pos') b tpos) X.env v=(do
   let ov <-holding [v] (eval (.Name x pos') X.env)
   let iv <-holding [v,ov] (eval b X.env)
   standAt tpos
   holding [v,ov,iv] (setItem ov iv v)
   release [v,ov,iv] []))
  (hs:swapsWithSole [.Subscript (.Name x pos') b tpos] e pos.line X.env=pure false) (hw:swappedStores [.Subscript (.Name x pos') b tpos] e X.env=pure none)
  (h1:(assignEach [.Subscript (.Name x pos') b tpos] X.env).map (·.2)=[assign (.Subscript (.Name x pos') b tpos) X.env])
  (hd:(x==("__debug__" : Str))=false:=by decide) (hcd:(x==("__classdict__" : Str))=false:=by decide):AS X (.Assign [.Subscript (.Name x pos') b tpos] e pos) (Ip i mi me):=λOK K G F Z H ρ E hO hX St ok eo =>
 tZ (Bp bi (Fj (qi hN hv hd hcd) bi set_list ha) hs hw h1) (he OK K.x _ G F Z H ρ _ hO hX St ok λd v F1 H1 ρ1 s1 S1 r1 o1=>by
  split at o1
  case h_2=>exact(hO o1).elim
  rename_i ds0 hd0
  obtain⟨a,vs0,ea,_,_⟩:=mz S1 hd0
  refine⟨_,ea,hi OK K.x _ G F1 Z H1 ρ1 _ hO hX S1 o1 λj u F2 H2 ρ2 s2 S2 r2 o2=>?_⟩
  split at o2
  case h_2=>exact(hO o2).elim
  rename_i ds hds
  obtain⟨ds',hp,o3⟩:=nr hO o2
  obtain⟨a',vs,ea',hh,rv⟩:=mz S2 hds
  rw[ea]at ea'
  injection ea' with ea';injection ea' with ea';injection ea' with ea'
  subst ea'
  unfold putD at hp
  split at hp
  ·rename_i k
   obtain⟨q,hq,rfl⟩:=Option.map_eq_some_iff.mp hp
   obtain rfl:=r2.int_inv
   refine⟨a,vs,k,q,rfl,rfl,hh,by rw[rv.length];exact hq,?_⟩
   exact eo.nx F2 Z _ _ (s1.trans s2) (yE S2 hds ea (RepL.set (r1.mono s2) q rv)) o3
  ·cases hp)
end
def kindB(k:NameKind):Option NameKind->Bool
 | some k'=>k==k'
 | none=>false
def zc(N N':List Str)(k:Nat)(scope sc:Scope):Bool :=
 (scope.kind==.function)&&(N'.length==N.length+k)&&scope.names.all (λy=>y.2 != .cell||kindB .cell (scope.names.lookup y.1))&&scope.names.all (λy=>y.2 != .local||kindB .local (scope.names.lookup y.1))
  && ((List.range N.length).all λi=>match N'[i]? with
   | some x=>!(kindB .free (scope.names.lookup x)||kindB .local (scope.names.lookup x)||kindB .cell (scope.names.lookup x))||(N[i]? == some x&&kindB .free (scope.names.lookup x))
   | none=>true)
  && scope.names.all (λy=>y.2 != .free||kindB .cell (sc.names.lookup y.1)||kindB .free (sc.names.lookup y.1))
theorem kE{k:NameKind}{o:Option NameKind}(h:kindB k o=true):o=some k:=by
 cases o with
 | none=>cases h
 | some k'=>simp[kindB]at h;rw[h]
theorem B1{k:NameKind}{o:Option NameKind}(h:o=some k):kindB k o=true:=by subst h;simp[kindB]
theorem bq{N N':List Str}{k:Nat}{scope sc:Scope}(h:zc N N' k scope sc=true)(hN:X.N=N)(hs:X.env.scope=sc):CompOk X N' k scope:=by
 subst hN hs
 simp only[zc,ag,List.all_eq_true,Jp,ue,bne_iff_ne,ne_eq]at h
 obtain⟨⟨⟨⟨⟨h1,h2⟩,h3⟩,h4⟩,h5⟩,h6⟩:=h
 refine⟨h1,h2,λy hy hl=>?_,λy hy hl=>?_,λi x hi hx _ hk=>?_,λy hy hf=>?_⟩
 ·rcases h3 y hy with z|z
  ·exact absurd hl z
  ·exact kE z
 ·rcases h4 y hy with z|z
  ·exact absurd hl z
  ·exact kE z
 ·have:=h5 i (List.mem_range.mpr hi)
  rw[hx]at this
  simp only[ue,wP,ag,Jp]at this
  rcases this with z|⟨z1,z2⟩
  ·exfalso
   rcases hk with hk|hk|hk<;>simp[B1 hk]at z
  ·exact⟨z1,kE z2⟩
 ·rcases h6 y hy with (z|z)|z
  ·exact absurd hf z
  ·exact .inl (kE z)
  ·exact .inr (kE z)
theorem zX{H:Hp}{a:Addr}{ns:List Int}{mf:List D->M D}(hS:SqL K H a (ns.map V.int))(h:mf [.list (ns.map PyData.int)]=.ret (.bool true)):spD K 1 mf [.ref a] H (λv _=>v=.bl true) λ_ _ _=>False:=by
 refine⟨⟨λ_=>none,λ_=>none,H⟩,H,[.list (ns.map PyData.int)],rfl,⟨Same.refl _,λb o z=>(nomatch z),λb o z=>(nomatch z),rfl,λi d z=>?_,λi c z=>(jG (ds:=[.list (ns.map PyData.int)]) z).elim,λi j c e a z=>(jG (ds:=[.list (ns.map PyData.int)]) z).elim,λi a z=>(nomatch z),λi c z=>?_,Same.refl _⟩,?_⟩
 ·obtain⟨d',e,q⟩:=lS (ds:=[.list (ns.map PyData.int)]) z
  cases e
  cases i with
  | zero=>simp at q;subst q;exact⟨_,rfl,.lst hS (RepL.ints ns)⟩
  | succ i=>simp at q
 ·obtain⟨d',e,q⟩:=lS (ds:=[.list (ns.map PyData.int)]) z
  cases e
 ·rw[h]
  intro v F' H' s S' r
  cases r
  rfl
end L4
namespace HT
open PySem PySem.Spec PyProof.Rows
section
variable {prog:Program}{w:World}{A:Around}{E:zzj}{s:Shared}
theorem yd(n:Nat):Builtin.Slice.sliceAdjust none none (-1) (n:Int)=((n:Int) - 1,-1):=by
 unfold Builtin.Slice.sliceAdjust
 simp
theorem xk(n:Nat):Builtin.Slice.slicePlaces ((n:Int) - 1) (-1) (-1)=n:=by
 unfold Builtin.Slice.slicePlaces
 simp only[show ¬ ((-1:Int)>0) by decide,if_false,Int.neg_neg,Int.ediv_one]
 split<;>omega
theorem Bs(xs:Array Value):((List.range xs.size).filterMap λ(m:Nat)=>xs[(((xs.size:Nat):Int) - 1+(m:Int)*(-1)).toNat]?).toArray=xs.toList.reverse.toArray:=by
 congr 1
 apply List.ext_getElem?
 intro i
 have h:∀m,m<xs.size->xs[(((xs.size:Nat):Int) - 1+(m:Int)*(-1)).toNat]? = some (xs.toList.reverse.getD m .none):=λm hm=>by
  have e:(((xs.size:Nat):Int) - 1+(m:Int)*(-1)).toNat=xs.size - 1 - m:=by omega
  rw[e,Array.getElem?_eq_getElem (by omega),al,List.getElem?_reverse (by simpa using hm)]
  simp[show xs.size - 1 - m<xs.size by omega]
 have e2:(List.range xs.size).filterMap (λ(m:Nat)=>xs[(((xs.size:Nat):Int) - 1+(m:Int)*(-1)).toNat]?)=(List.range xs.size).map λm=>xs.toList.reverse.getD m .none:=by
  have:∀l:List Nat,(∀m∈l,m<xs.size)->l.filterMap (λ(m:Nat)=>xs[(((xs.size:Nat):Int) - 1+(m:Int)*(-1)).toNat]?)=l.map λm=>xs.toList.reverse.getD m .none:=by
   intro l
   induction l with
   | nil=>intro _;rfl
   | cons a r ih =>
    intro hl
    rw[ot,h a (hl a fu),je]
    simp only
    rw[ih λm hm=>hl m (zzg _ hm)]
  exact this _ λm hm=>List.mem_range.mp hm
 rw[e2,ou]
 by_cases hi:i<xs.size
 ·rw[List.getElem?_range hi]
  simp only[wT,al]
  rw[ax (by simpa using hi)]
  rfl
 ·rw[List.getElem?_eq_none_iff.mpr (by simp;omega),List.getElem?_eq_none_iff.mpr (by simp;omega)]
  rfl
theorem getItem_tuple_rev{t sl:Addr}{items:Array Value}{tk:Tok}{Q:zzj}(ht:IsTup s.heap t items)(hs:s.heap.IsSliceOf sl .none .none (.int (-1) tk))
  (h:Q (.ref s.heap.objs.size) { s with heap:=s.heap.push { cls:=.type "tuple",data:=.seq items.toList.reverse.toArray } })
  (hsz:items.size<=sizeLine):wpAny (model prog w) A (getItem (.ref t) (.ref sl)) Q E s:=by
 have htake:sizeOk (.seq items.toList.reverse.toArray):=by
  show items.toList.reverse.toArray.size<=sizeLine
  simpa using hsz
 obtain⟨os,hos,hcs,hds⟩:=id hs
 have hTs:s.TypeIs (.ref sl) "slice":=⟨os,hos,hcs⟩
 unfold getItem
 try with_reducible refine Cn ?_
 first|refine zza (zzb ?_)|skip
 refine zza (wpAny_sequenceKey ht.typeIs (by decide) ?_)
 refine zza (ia (name:=Str.ofString "__getitem__") ht.typeIs mm
  (ll mm ht.typeIs entry_tuple_getitem ?_ (args_tuple_getitem _ _)))
 show wpAny _ _ (Builtin.Tuple.tupleItemsOf (.ref t) >>= _) _ _ s
 refine zza (tupleItemsOf_ ht ?_)
 refine zza (wpAny_typeOf hTs ?_)
 rw[be (by decide)]
 have happ:∀{Q':Int×Int×Nat->Shared->Prop},Q' ((items.size:Int) - 1,-1,items.size) s->wpAny (model prog w) A.in1 (Builtin.Slice.sliceApplied (.ref sl) (pure (items.size:Int))) Q' E s:=λ{Q'} q=>by
  unfold Builtin.Slice.sliceApplied Builtin.Slice.sliceFields
  refine zza (zza (eT hos hds (x:=.none) rfl (zza (eT hos hds (x:=.none) rfl (zza (eT hos hds (x:=.int (-1) tk) rfl (zzb ?_)))))))
  refine zza (slicePart_int ?_)
  show wpAny _ _ (if((-1:Int)==0)=true then _ else _) _ _ s
  rw[ef (by decide)]
  refine zza (slicePart_none (zza (slicePart_none (zza (zzb ?_)))))
  show wpAny _ _ (match Builtin.Slice.sliceAdjust none none (-1) (items.size:Int)with|(lo,hi)=>pure (lo,(-1:Int),Builtin.Slice.slicePlaces lo hi (-1))) _ _ s
  rw[yd]
  show wpAny _ _ (pure ((items.size:Int) - 1,(-1:Int),Builtin.Slice.slicePlaces ((items.size:Int) - 1) (-1) (-1))) _ _ s
  rw[xk]
  exact zzb q
 refine zza (happ ?_)
 have hno:¬ (((items.size:Int) - 1==0&&(-1:Int)==1&&items.size==items.size)=true):=by
  simp
 show wpAny _ _ (if((items.size:Int) - 1==0&&(-1:Int)==1&&items.size==items.size)=true then _ else _) _ _ s
 rw[ef hno,Bs]
 first
  | exact zza (m:=Builtin.Tuple.tupleExact _) (gi (zzb ⟨_,rfl,zzb h⟩) htake)
  | exact zza (m:=Builtin.Tuple.tupleExact _) (gi (zza (zzb (zzb ⟨_,rfl,zzb h⟩))) htake)
  | exact zza (zza (m:=Builtin.Tuple.tupleExact _) (gi (zzb (zzb ⟨_,rfl,zzb h⟩)) htake))
  | exact zza (zza (m:=Builtin.Tuple.tupleExact _) (gi (zzb ⟨_,rfl,zzb h⟩) htake))
end
end HT
namespace L4
open PySem PySem.Spec PyProof.Rows L2 L3
variable {X:Cx}{pos:Pos}
def xP:D->Option D
 | .tuple ds=>some (.tuple ds.reverse)
 | _=>none
def IA(p:Pu D):Pu D:=λρ=>bd (p ρ) λd=>oM (xP d)
section
variable {e st:Expr} {p:Pu D} {p2:Pos}
theorem CH(he:AO X e p)(hst:PE X st (tUn (rU λi=>.int (-i)) (tC (.int 1)))):AP X (.Subscript e (.Slice none none (some st) p2) pos) (IA p):=λG F Z H ρ Q S w=>by
 unfold ij
 intro pins s I
 refine Subscript_ (thn (bi pins s Z H _ I (he G F Z H ρ _ S (w.bind.imp λd F1 H1 s1 S1 w1 v hv=>(show(λv H'=>∃F1 d,StOk X.K G F1 Z H' ρ/\VO X.K F1 Z ρ v d/\W X G F1 Z ρ (oM (xP d)) λd F' H'=>∀v,Rep X.K F' v d->Q v H') v H1 from⟨F1,d,S1,hv,w1⟩)))) λv s1 ⟨x,H1,I1,r1,F1,d,S1,hv,w1⟩=>?_)
 obtain⟨res,hr,k⟩:=w1.opt
 cases d<;>try (cases hr)
 rename_i ds
 obtain⟨a,vs,rfl,h1,h2⟩:=(hv.or S1).tuple S1.fh
 cases r1
 refine wpAny_Slice ?_
 rw[evalPart_none]
 refine zzb ?_
 refine zzb ?_
 rw[evalPart_some]
 refine thn (hst pins s1 Z H1 (λx H'=>x=.int (-1)/\H'=H1) I1 ⟨1,rfl,rfl,rfl⟩) λu s2 ⟨y,H2,I2,r2,e2,e3⟩=>?_
 subst e2 e3
 obtain⟨tk,rfl⟩:=r2
 obtain⟨its,rv,ht,hz⟩:=I2.tuple h1
 have I4:Inv X pins Z H2 { s2 with heap:=s2.heap.push { cls:=.type "slice",data:=.fields #[.none,.none,.int (-1) tk] } }:=I2.kept (t':=s2.toks) λb ob q=>zzc _ q
 obtain⟨its4,rv4,ht4,hz4⟩:=I4.tuple h1
 have hsl:({ s2 with heap:=s2.heap.push { cls:=.type "slice",data:=.fields #[.none,.none,.int (-1) tk] } }:Shared).heap.IsSliceOf s2.heap.objs.size .none .none (.int (-1) tk):=⟨_,zze _ rfl,rfl,rfl⟩
 have hg:wpAny (model X.prog X.w) X.A (getItem (.ref a) (.ref s2.heap.objs.size)) (EP X pins Z Q) X.xe { s2 with heap:=s2.heap.push { cls:=.type "slice",data:=.fields #[.none,.none,.int (-1) tk] } }:=by
  refine HT.getItem_tuple_rev ht4 hsl ?_ (by rw[bj,<-rv4.length];exact hz4)
  have hp:H2 (s2.heap.push { cls:=.type "slice",data:=.fields #[.none,.none,.int (-1) tk] }).objs.size=none:=I4.hok.fresh (bo _)
  obtain⟨s4,S4,r4⟩:=S1.newTup hp h2.reverse
  refine⟨.ref _,_,I4.laid (t':=s2.toks) (o:=.tup vs.reverse) (λb ob q=>zzc _ q) (bo _) ?_,rfl,k _ _ s4 S4 _ r4⟩
  refine⟨by rw[List.length_reverse];exact hz4,its4.reverse,?_,?_⟩
  ·have:∀{xs:List V} {us:List Value},Vals xs us->Vals xs.reverse us.reverse:=λ{xs us} r=>by
    induction r with
    | nil=>exact .nil
    | cons a b ih=>rw[DE,DE];exact ih.append (.cons a .nil)
   exact this rv4
  ·exact⟨IsTup.new _ _,TupN.new _ _⟩
 show wpAny (model X.prog X.w) X.A (subscriptTail e (.Slice none none (some st) p2) (.ref a) (.ref s2.heap.objs.size)) (EP X pins Z Q) X.xe { s2 with heap:=s2.heap.push { cls:=.type "slice",data:=.fields #[.none,.none,.int (-1) tk] } }
 exact tail_any (ops:=[.ref a,.ref s2.heap.objs.size]) ht4.typeIs PyProof.Rows.slot_tuple_getitem.lookup hg (by with_unfolding_all rfl)
end
section
variable {a:Expr} {pa:Pu D} {ta:TE}
theorem Di(ha:PE X a ta):PE X (.UnaryOp .Not a pos) (λZ H Q=>ta Z H λx H'=>∃k,Gk X.K x H' k/\Q (.bl (!k)) H'):=by
 intro pins s Z H Q I h
 refine UnaryOp_ (thn (ha pins s Z H _ I h) λv s1 ⟨x,H1,I1,r1,q1⟩=>?_)
 obtain⟨k,q1,q2⟩:=q1
 exact not_of (thn (AU pins s1 Z H1 x v (λc H'=>Q (.bl (!c)) H') I1 r1 ⟨k,q1,q2⟩) λc s2 ⟨H2,I2,q⟩=>⟨.bl (!c),H2,I2,rfl,q⟩)
theorem DZ(ha:AO X a pa):AB X (.UnaryOp .Not a pos) (Fu (G8 pa)) :=
 λG F Z H ρ Q S w=>sem (Di bi) (ha G F Z H ρ _ S (w.bind.bind.imp λx F1 H1 s1 S1 w1 v hv=>by
  obtain⟨bb,hb,k⟩:=w1.opt
  refine⟨bb,?_,k F1 H1 (Same.refl _) S1 F1 H1 (Same.refl _) S1⟩
  have o:=hv.or S1
  cases x with
  | none=>rw[o.none];cases hb;exact rfl
  | bool i=>rw[o.bool];cases hb;exact rfl
  | int i=>rw[o.int];cases hb;exact rfl
  | str i =>
   rw[o.str]
   unfold dP at hb
   dsimp only at hb
   split at hb
   ·rename_i hl;cases hb;exact⟨hl,rfl⟩
   ·cases hb
  | list ds=>obtain⟨a,vs,rfl,h1,h2⟩:=o.list S1.fh;cases hb;exact .inl ⟨vs,h1,(hV h2).symm⟩
  | tuple ds=>obtain⟨a,vs,rfl,h1,h2⟩:=o.tuple S1.fh;cases hb;exact .inr (.inl ⟨vs,h1,(hV h2).symm⟩)
  | dict ds=>cases hb))
end
noncomputable def gT{S T:Type}:(T->D->(T->M S)->M S)->List D->T->(T->M S)->M S:=Classical.choose (⟨@eB S T,rfl⟩:∃f,f = @eB S T)
theorem gu{S T:Type} : @gT S T = @eB S T:=Classical.choose_spec (⟨@eB S T,rfl⟩:∃f,f = @eB S T)
section
variable {S:Type}
noncomputable def A8(sh:List Kd)(it:Ev S (List D))(t:Tg S)(mb:SM S):SM S:=λK ρ=>it K.x (λds ρ1=>rdk sh (λs=>gT (λs d kn=>t d (λρ2=>mb (yM sh K kn) ρ2) (wr sh s)) ds s (λs'=>K.nx (wr sh s'))) ρ1) ρ
theorem A7(sh:List Kd)(it:Ev S (List D))(t:Tg S)(mb:SM S):A8 sh it t mb=E5 sh it t mb:=by
 unfold A8 E5
 rw[gu]
variable {mb:SM S} {c:Expr} {mt:Ev S Bool} {ml:Ev S (List D)}
theorem dm{tg iter:Expr}{body:List Stmt}{sh:List Kd}{t:Tg S}(hp:PassesOwn (model X.prog X.w) X.A X.env X.xe)(hc:X.calm=true)(hi:AEi X tg iter ml)(hg:AG X 0 tg t)(hb:ASs X body mb)
  (hs:∀x,foldedSetIterable iter X.env x=pure x:=by exact λ_=>rfl):AS X (.For tg iter body [] pos) (A8 sh ml t mb):=by
 rw[A7]
 exact Gg hp hc hi hg hb hs
end
end L4
namespace HT
open PySem PySem.Spec PyProof.Rows
theorem noFill_tuple_mul:fillsNumberSlot (.type "tuple") "mul" = pure false :=
 PySem.fillsNumberSlot_seq (id := "tuple.__mul__") (r:=some (.builtin "tuple.__rmul__")) PySem.F.slot_tuple_mul.lookup (by decide +kernel) PySem.F.slot_tuple_rmul.lookup (by decide +kernel)
theorem repeat_tuple:seqRepeat? (.type "tuple")=pure (some (.builtin "tuple.__mul__")):=by
 unfold seqRepeat?
 rw[PySem.seqSlot_of (T := "tuple") (name := "__mul__") (id := "tuple.__mul__") PySem.F.slot_tuple_mul.lookup (by decide +kernel),PySem.seqSlot_of (T := "tuple") (name := "__rmul__") (id := "tuple.__rmul__") PySem.F.slot_tuple_rmul.lookup (by decide +kernel)]
 rfl
theorem rmul_int_tuple(a:Int)(t:Tok)(l:Addr)(items:Array Value)(n:Nat)(d:Option Addr)(sl:Array (Option Value)) :
  Meets (Builtin.«int.__rmul__» ⟨[.int a t,.ref l],[]⟩) (λ_ R s=>s.heap.get? l=some { cls:=.type "tuple",dict:=d,data:=.seq items n,slots:=sl }/\R (.ok (.ret Value.notImplemented)) s) :=
 .of_wp λprog w A R s h=>by obtain⟨hp,g,dd,tk,os⟩:=s;obtain⟨hl,h⟩:=h;wp_walk;exact⟨_,rfl,h⟩
theorem tuple_mulW(l:Addr)(items:Array Value)(n:Nat)(d:Option Addr)(sl:Array (Option Value))(x:Int)(u:Tok)(h2:2<=x)(h3:x<2^63)(he:items.isEmpty=false)(hz:items.size*x<=(sizeLine:Int))(hz2:(List.foldl (λx1 x2=>x1++x2) #[] (List.replicate x.toNat items)).size<=sizeLine) :
  Meets (Builtin.«tuple.__mul__» ⟨[.ref l,.int x u],[]⟩) (λ_ R s=>s.heap.get? l=some { cls:=.type "tuple",dict:=d,data:=.seq items n,slots:=sl }/\R (.ok (.ret (Value.ref s.heap.objs.size))) { s with heap:=s.heap.push { cls:=Value.type "tuple",data:=Data.seq (List.foldl (λx1 x2=>x1++x2) #[] (List.replicate x.toNat items)) } }) :=
 .of_wp λprog w A R s h=>by
  obtain⟨hp,g,dd,tk,os⟩:=s;obtain⟨hl,h⟩:=h
  have f1:=AutoSeq1.idx_int;have f2:=Jy
  have hs:(sizeLine:Int)<=(2^63 - 1) / 8:=by decide
  wp_walk
  rw[ef (by simp;lia)]
  wp_walk using wpAny_loadPart' hl
  rw[ef (by simp[he];lia)]
  wp_walk using wpAny_loadPart' hl
  rw[ef (by simp[he];lia)]
  wp_walk using wpAny_loadPart' hl
  rw[ef (by lia)]
  wp_walk using wpAny_loadPart' hl
  rw[ef (by unfold Builtin.Tuple.tupleTooMany;simp;lia)]
  wp_walk using wpAny_loadPart' hl
  exact⟨_,rfl,h⟩
theorem tuple_mulW1(l:Addr)(items:Array Value)(n:Nat)(d:Option Addr)(sl:Array (Option Value))(u:Tok) :
  Meets (Builtin.«tuple.__mul__» ⟨[.ref l,.int 1 u],[]⟩) (λ_ R s=>s.heap.get? l=some { cls:=.type "tuple",dict:=d,data:=.seq items n,slots:=sl }/\R (.ok (.ret (Value.ref l))) s) :=
 .of_wp λprog w A R s h=>by
  obtain⟨hp,g,dd,tk,os⟩:=s;obtain⟨hl,h⟩:=h
  have f1:=AutoSeq1.idx_int;have f2:=Jy
  wp_walk using wpAny_loadPart' hl
  exact⟨_,rfl,h⟩
theorem tuple_mulW0(l:Addr)(items:Array Value)(n:Nat)(d:Option Addr)(sl:Array (Option Value))(x:Int)(u:Tok)(h1 : -(2^63)<=x)(h0:x<=0)(he:items.isEmpty=false) :
  Meets (Builtin.«tuple.__mul__» ⟨[.ref l,.int x u],[]⟩) (λ_ R s=>s.heap.get? l=some { cls:=.type "tuple",dict:=d,data:=.seq items n,slots:=sl }/\R (.ok (.ret (Value.ref s.heap.objs.size))) { s with heap:=s.heap.push { cls:=Value.type "tuple",data:=Data.seq #[] } }) :=
 .of_wp λprog w A R s h=>by
  obtain⟨hp,g,dd,tk,os⟩:=s;obtain⟨hl,h⟩:=h
  have f1:=AutoSeq1.idx_int;have f2:=Jy
  wp_walk
  rw[ef (by simp;lia)]
  wp_walk using wpAny_loadPart' hl
  rw[ef (by simp[he];lia)]
  wp_walk using wpAny_loadPart' hl
  exact⟨_,rfl,h⟩
end HT
namespace L4
open PySem PySem.Spec PyProof.Rows L2 L3
def dF:D->D->Option D
 | .tuple (a::r),.int k=>if decide (-(2^63)<=k)&&decide (k<2^63)&&decide ((a::r).length*k.toNat<=sizeLine)then some (.tuple (List.replicate k.toNat (a::r)).flatten)else none
 | _,_=>none
def Ec(K:Fg):R2:=λx y H Q=>∃l k xs,x=.ref l/\y=.int k/\SqT K H l xs/\xs≠[] /\ -(2^63)<=k/\k<2^63/\xs.length*k.toNat<=sizeLine /\
 (k=1->Q (.ref l) H)/\(k≠1->∀p,H p=none->Q (.ref p) (upd H p (.tup (List.replicate k.toNat xs).flatten)))
section
variable {X:Cx}
theorem fA:OpR X (binaryOp .Mult) (Ec X.K):=by
 intro pins s Z H x y v u Q I rx ry h
 obtain⟨l,k,xs,rfl,rfl,hH,hne,h1,h2,hz,q1,q2⟩:=h
 cases rx
 obtain⟨t,rfl⟩:=ry
 obtain⟨its,r,p1,_⟩:=I.tuple hH
 obtain⟨⟨cls,dd,data,sl⟩,ho,hc,n,hd⟩:=id p1
 simp only at hc hd
 subst hc hd
 have hne':its.toArray.isEmpty=false:=by
  have:its≠[]:=λz=>hne (r.nil_iff.mp z)
  cases its with
  | nil=>exact absurd rfl this
  | cons a b=>simp
 have hlen:its.length=xs.length:=r.length.symm
 have road:wpAny (model X.prog X.w) X.A (call (.builtin "tuple.__mul__") [.ref l,.int k t]) (EP X pins Z Q) X.xe s->wpAny (model X.prog X.w) X.A (binaryOp .Mult (.ref l) (.int k t)) (EP X pins Z Q) X.xe s:=λhgo =>
  wpAny_binaryOp_repeat_ref (T := "tuple") (U := "int") (by decide) ⟨_,ho,rfl⟩ (λs'=>typeIs_int s' k t) HT.noFill_tuple_mul F.fills_int_mul JM HT.repeat_tuple F.slot_int_index.lookup
   (Jo JM (typeIs_int s k t) F.entry_int_rmul (F.args_int_rmul_2 _ _) (HT.rmul_int_tuple k t l its.toArray n dd sl) ⟨ho,rfl,⟨_,ho,rfl⟩,hgo⟩)
 refine road ?_
 by_cases k1:k=1
 ·subst k1
  exact Jo JH ⟨_,ho,rfl⟩ JA (Jv _ _) (HT.tuple_mulW1 l its.toArray n dd sl t) ⟨ho,⟨.ref l,H,I,rfl,q1 rfl⟩⟩
 ·by_cases k0:k<=0
  ·refine Jo JH ⟨_,ho,rfl⟩ JA (Jv _ _) (HT.tuple_mulW0 l its.toArray n dd sl k t h1 k0 hne') ⟨ho,?_⟩
   have e:(List.replicate k.toNat xs).flatten=[]:=by rw[show k.toNat=0 by lia];rfl
   have q:=q2 k1
   rw[e]at q
   refine⟨.ref s.heap.objs.size,_,I.laid (t':=s.toks) (o:=.tup []) (λb ob q=>zzc _ q) (bo _) ?_,rfl,q _ (I.hok.fresh (bo _))⟩
   exact⟨gh _,[],.nil,IsTup.new _ _,TupN.new _ _⟩
  ·have f0:List.foldl (λx1 x2=>x1++x2) #[] (List.replicate k.toNat its.toArray)=(List.replicate k.toNat its).flatten.toArray:=by
    have:=foldl_rep its k.toNat []
    rw[JL]at this
    exact this
   have hsz:(List.replicate k.toNat its).flatten.length<=sizeLine:=by rw[len_rep,hlen,Nat.mul_comm];exact hz
   refine Jo JH ⟨_,ho,rfl⟩ JA (Jv _ _) (HT.tuple_mulW l its.toArray n dd sl k t (by lia) h2 hne' ?_ (by rw[f0,bj];exact hsz)) ⟨ho,?_⟩
   ·rw[bj,hlen]
    have:((xs.length*k.toNat:Nat):Int)<=(sizeLine:Int):=Int.ofNat_le.mpr hz
    rw[Int.natCast_mul,Int.toNat_of_nonneg (by lia)]at this
    exact this
   ·rw[f0]
    refine⟨.ref s.heap.objs.size,_,I.laid (t':=s.toks) (o:=.tup (List.replicate k.toNat xs).flatten) (λb ob q=>zzc _ q) (bo _) ?_,rfl,q2 k1 _ (I.hok.fresh (bo _))⟩
    exact⟨by rw[len_rep,Nat.mul_comm];exact hz,_,r.rep k.toNat,IsTup.new _ _,TupN.new _ _⟩
end
theorem Be{K:Fg}{F:Hp}{vs:List V}{ds:List D}(r:RepL K F vs ds)(n:Nat):RepL K F (List.replicate n vs).flatten (List.replicate n ds).flatten:=by
 induction n with
 | zero=>exact .nil
 | succ n ih=>rw[gt,gt,pi,pi];exact r.append ih
theorem fD{K:Fg}:OpD K (Ec K) dF:=by
 intro G F Z H ρ x y dx dy res Q S ox oy e k
 unfold dF at e
 split at e
 ·rename_i a r j
  split at e
  ·rename_i hc
   cases e
   simp only[ag,zzi]at hc
   obtain⟨l,vs,rfl,h1,h2⟩:=ox.tuple S.fh
   have hne:vs≠[]:=by cases h2;simp
   refine⟨l,j,vs,rfl,oy.int,h1,hne,hc.1.1,hc.1.2,by rw[h2.length];exact hc.2,λj1=>?_,λj1 p hp=>?_⟩
   ·subst j1
    refine k _ F H (Same.refl _) S ?_
    have:(List.replicate (1:Int).toNat (a::r)).flatten=a::r:=by simp
    rw[this]
    exact ox.tup'
   ·obtain⟨s2,S2,r2⟩:=S.newTup hp (Be h2 j.toNat)
    exact k _ _ _ s2 S2 r2
  ·cases e
 ·cases e
end L4
namespace PySem
open Sem (wp)
open AutoSeq1 (wpAny_loadPart')
variable {Q:zzj}{l1 l2:Addr}{xs ys:Array Value}
section
variable {prog:Program} {w:World} {A:Around} {E:zzj} {s:Shared}
theorem jH{it t:Addr}{i:Nat}{items}{x:Value}(hit:s.heap.IsTupleIter it t i)
  (ht:s.heap.IsTuple t items) (hx:items[i]? = some x)
  (hQ:∀h',h'.IsTupleIter it t (i+1)->Heap.SameBut it s.heap h'->Q x { s with heap:=h' }) :
  wpAny (model prog w) A (Builtin.SmallTypes.nextOf (.ref it)) Q E s:=by
 obtain⟨o,ho,hc,hd⟩:=id hit
 obtain⟨ol,hol,_,nl,hdl⟩:=ht
 unfold Builtin.SmallTypes.nextOf
 refine zza (ia (name:=Str.ofString "__next__") hit.typeIs iz
  (ll iz hit.typeIs ye ?_ (xv _)))
 show wpAny _ _ (field (.ref it) 0 >>= _) _ _ s
 refine zza (eT ho hd (x:=.ref t) rfl ?_)
 show wpAny _ _ (if(Value.ref t==Value.none)=true then _ else _) _ _ s
 rw[ef (show ¬ ((Value.ref t==Value.none)=true)from ni)]
 show wpAny _ _ (field (.ref it) 1 >>= _) _ _ s
 refine zza (eT ho hd (x:=.int i 0) rfl ?_)
 show wpAny _ _ (seqItems? (.ref t) >>= _) _ _ s
 refine zza (ix hol hdl ?_)
 simp only[lu,hx]
 refine zza (ze ho hd (by simp) (zzb ⟨x,rfl,zzb (hQ _ ?_ (Heap.SameBut.update ..))⟩))
 exact⟨_,wa _ ho (xz (kv hd _)),(Jt ..).trans hc,by
  rw[kv hd];simp[rawInt]⟩
theorem sZ{it t:Addr}{i:Nat}{items}(hh:A.handled=none)
  (hit:s.heap.IsTupleIter it t i) (ht:s.heap.IsTuple t items) (hx:items[i]? = none)
  (hE:∀h' e,Heap.ExtBut it s.heap h'->(∃o,h'.get? e=some o/\o.cls=.type "StopIteration")->E (.ref e) { s with heap:=h' }) :
  wpAny (model prog w) A (Builtin.SmallTypes.nextOf (.ref it)) Q E s:=by
 obtain⟨o,ho,hc,hd⟩:=id hit
 obtain⟨ol,hol,_,nl,hdl⟩:=ht
 unfold Builtin.SmallTypes.nextOf
 refine zza (ia (name:=Str.ofString "__next__") hit.typeIs iz
  (ll iz hit.typeIs ye ?_ (xv _)))
 show wpAny _ _ (field (.ref it) 0 >>= _) _ _ s
 refine zza (eT ho hd (x:=.ref t) rfl ?_)
 show wpAny _ _ (if(Value.ref t==Value.none)=true then _ else _) _ _ s
 rw[ef (show ¬ ((Value.ref t==Value.none)=true)from ni)]
 show wpAny _ _ (field (.ref it) 1 >>= _) _ _ s
 refine zza (eT ho hd (x:=.int i 0) rfl ?_)
 show wpAny _ _ (seqItems? (.ref t) >>= _) _ _ s
 refine zza (ix hol hdl ?_)
 simp only[lu,hx]
 refine zza (Er (zza (ze ho hd (by simp) ?_)))
 first
  | (show wpAny _ _ (newExc (.type "StopIteration") [] >>= _) _ _ _
     refine zza ?_
     simp only[newExc,newTuple]
     refine zza (gi ?_ (by size_fits))
     refine zza (m:=firstArgMember _ _) (wpAny_of_eq (a:=Value.none) (by first|rfl|(simp only[firstArgMember];rfl)) ?_)
     refine gi ?_ (by size_fits)
     simp only[raiseNew]
     refine zza (wpAny_handled ?_)
     first|rw[show A.in1.handled=none from hh]|rw[hh]
     refine zza (zzb (wpAny_throw ?_))
     exact hE _ _ (((Heap.SameBut.update ..).extBut.push _).push _) ⟨_,zze _ rfl,rfl⟩)
  | (refine zza (Go ?_)
     show wpAny _ _ (newExc (.type "StopIteration") [] >>= _) _ _ _
     refine zza ?_
     simp only[newExc,newTuple]
     refine zza (gi ?_ (by size_fits))
     refine zza (m:=firstArgMember _ _) (wpAny_of_eq (a:=Value.none) (by first|rfl|(simp only[firstArgMember];rfl)) ?_)
     refine gi ?_ (by size_fits)
     simp only[raiseNew]
     refine zza (wpAny_handled ?_)
     first|rw[show A.in1.handled=none from hh]|rw[hh]
     refine zza (zzb (wpAny_throw ?_))
     exact hE _ _ (((Heap.SameBut.update ..).extBut.push _).push _) ⟨_,zze _ rfl,rfl⟩)
structure Zt(h:Heap)(z p q i1 i2 l1 l2:Addr)(f0 u v:Value)(k1 k2:Nat):Prop where
 z0:IsZip h z p q f0
 p0:IsPair h p (.ref i1) (.ref i2)
 q0:IsPair h q u v
 a0:h.IsTupleIter i1 l1 k1
 b0:h.IsTupleIter i2 l2 k2
theorem zo{z p q i1 i2:Addr}{k:Nat}{x y u v:Value}(D:ZipApart z p q i1 i2 l1 l2)
  (T:Zt s.heap z p q i1 i2 l1 l2 .none u v k k) (e1:s.heap.IsTuple l1 xs) (e2:s.heap.IsTuple l2 ys) (hx:xs[k]? = some x) (hy:ys[k]? = some y)
  (hQ:∀h',Zt h' z p q i1 i2 l1 l2 (rawInt s.heap.objs.size) x y (k+1) (k+1)->IsPair h' s.heap.objs.size x y ->
   (∀c o,c≠z->c≠q->c≠i1->c≠i2->s.heap.get? c=some o->h'.get? c=some o)->Q (.ref s.heap.objs.size) { s with heap:=h' }) :
  wpAny (model prog w) A (Builtin.«zip.__next__» ⟨[.ref z],[]⟩) (λfin s'=>∃r,fin=.done (.ret r)/\Q r s') E s:=by
 have z0:=T.z0
 show wpAny _ _ (field (.ref z) 2 >>= _) _ _ _
 refine zza (eT z0 rfl (x:=.bool false) rfl ?_)
 show wpAny _ _ (field (.ref z) 3 >>= _) _ _ _
 refine zza (eT z0 rfl (x:=.ref p) rfl (zza (ix T.p0 rfl ?_)))
 show wpAny _ _ (Builtin.SmallTypes.ownedTupleIsFree (.ref z) >>= _) _ _ _
 refine zza ?_
 unfold Builtin.SmallTypes.ownedTupleIsFree
 refine zza (eT z0 rfl (x:=.none) rfl (zzb ?_))
 simp only[aw]
 refine zza (Er (zza (eT z0 rfl (x:=.ref q) rfl ?_)))
 refine zza (ki z0 (by simp) λg1 (z1:IsZip g1 z p q .ellipsis) (m1:Heap.SameBut z s.heap g1)=>zza ?_)
 simp only[JD,JK,CA,Jr]
 refine zza (zza (Ch ?_))
 show wpAny _ _ (Builtin.SmallTypes.nextOf (.ref i1) >>= _) _ _ _
 refine zza (jH (T.a0.at λo e=>m1.extBut _ _ D.i1z e) (e1.extBut m1.extBut D.l1z) hx λg2 a2 (m2:Heap.SameBut i1 g1 g2)=>zzb ?_)
 have q2:IsPair g2 q u v:=m2.extBut _ _ D.TOi1 (m1.extBut _ _ D.TOz T.q0)
 refine zza (ix q2 rfl (zza (yp q2 λg3 (q3:IsPair g3 q x v) (m3:Heap.SameBut q g2 g3)=>zza (Go (zzb ?_)))))
 refine zza (zza (Ch ?_))
 show wpAny _ _ (Builtin.SmallTypes.nextOf (.ref i2) >>= _) _ _ _
 refine zza (jH (T.b0.at λo e=>m3.extBut _ _ D.TOi2.symm (m2.extBut _ _ D.i12.symm (m1.extBut _ _ D.i2z e)))
  (((e2.extBut m1.extBut D.l2z).extBut m2.extBut D.l2i1).extBut m3.extBut D.l2TO) hy λg4 b4 (m4:Heap.SameBut i2 g3 g4)=>zzb ?_)
 have q4:IsPair g4 q x v:=m4.extBut _ _ D.TOi2 q3
 refine zza (ix q4 rfl (zza (yp q4 λg5 (q5:IsPair g5 q x y) (m5:Heap.SameBut q g4 g5)=>zza (Go (zzb (zzb ?_))))))
 refine zza (ix q5 rfl (zza (wpAny_newTuple ?_)))
 have sz:g5.objs.size=s.heap.objs.size:=by rw[m5.1,m4.1,m3.1,m2.1,m1.1]
 have z5:IsZip g5 z p q .ellipsis:=m5.extBut _ _ D.TOz.symm (m4.extBut _ _ D.i2z.symm (m3.extBut _ _ D.TOz.symm (m2.extBut _ _ D.i1z.symm z1)))
 have k5:∀c o,c≠z->c≠q->c≠i1->c≠i2->s.heap.get? c=some o->g5.get? c=some o:=λc o c1 c2 c3 c4 e =>
  m5.extBut _ _ c2 (m4.extBut _ _ c4 (m3.extBut _ _ c2 (m2.extBut _ _ c3 (m1.extBut _ _ c1 e))))
 have a5:g5.IsTupleIter i1 l1 (k+1):=a2.at λo e=>m5.extBut _ _ D.TOi1.symm (m4.extBut _ _ D.i12 (m3.extBut _ _ D.TOi1.symm e))
 have b5:g5.IsTupleIter i2 l2 (k+1):=b4.at λo e=>m5.extBut _ _ D.TOi2.symm e
 have lz:z<g5.objs.size:=ba z5
 show wpAny _ _ (Builtin.SmallTypes.ownedTupleHandOut (.ref z) (.ref g5.objs.size) >>= _) _ _ _
 refine zza ?_
 unfold Builtin.SmallTypes.ownedTupleHandOut
 have z6:IsZip (g5.push { cls:=.type "tuple",data:=.seq #[x,y] }) z p q .ellipsis:=zzc _ z5
 refine zza (ki z6 (by simp) λg7 (z7:IsZip g7 z p q (rawInt g5.objs.size)) m7=>?_)
 refine ki z7 (by simp) λg8 (z8:IsZip g8 z p q (rawInt g5.objs.size)) m8=>?_
 have up:∀c o,c≠z->g5.get? c=some o->g8.get? c=some o:=λc o c1 e=>m8.extBut _ _ c1 (m7.extBut _ _ c1 (zzc _ e))
 have t8:IsPair g8 g5.objs.size x y:=m8.extBut _ _ (nu lz) (m7.extBut _ _ (nu lz) (zze _ rfl))
 rw[sz]at z8 t8
 refine zzb ⟨_,rfl,?_⟩
 show Q (.ref g5.objs.size) _
 rw[sz]
 exact hQ g8 ⟨z8,up _ _ D.TIz (k5 _ _ D.TIz D.TITO D.TIi1 D.TIi2 T.p0),up _ _ D.TOz q5,a5.at λo e=>up _ o D.i1z e,b5.at λo e=>up _ o D.i2z e⟩ t8 λc o c1 c2 c3 c4 e=>up c o c1 (k5 c o c1 c2 c3 c4 e)
theorem AF{z p q i1 i2:Addr}{k:Nat}{u v:Value}{Q:Fin->Shared->Prop}(hh:A.handled=none)(D:ZipApart z p q i1 i2 l1 l2)
  (T:Zt s.heap z p q i1 i2 l1 l2 .none u v k k) (e1:s.heap.IsTuple l1 xs) (e2:s.heap.IsTuple l2 ys) (en:xs[k]? = none\/ys[k]? = none)
  (hE:∀h' e,(∀c o,c≠z->c≠q->c≠i1->c≠i2->s.heap.get? c=some o->h'.get? c=some o)->(∃o,h'.get? e=some o/\o.cls=.type "StopIteration")->E (.ref e) { s with heap:=h' }) :
  wpAny (model prog w) A (Builtin.«zip.__next__» ⟨[.ref z],[]⟩) Q E s:=by
 have z0:=T.z0
 show wpAny _ _ (field (.ref z) 2 >>= _) _ _ _
 refine zza (eT z0 rfl (x:=.bool false) rfl ?_)
 show wpAny _ _ (field (.ref z) 3 >>= _) _ _ _
 refine zza (eT z0 rfl (x:=.ref p) rfl (zza (ix T.p0 rfl ?_)))
 show wpAny _ _ (Builtin.SmallTypes.ownedTupleIsFree (.ref z) >>= _) _ _ _
 refine zza ?_
 unfold Builtin.SmallTypes.ownedTupleIsFree
 refine zza (eT z0 rfl (x:=.none) rfl (zzb ?_))
 simp only[aw]
 refine zza (Er (zza (eT z0 rfl (x:=.ref q) rfl ?_)))
 refine zza (ki z0 (by simp) λg1 (z1:IsZip g1 z p q .ellipsis) (m1:Heap.SameBut z s.heap g1)=>zza ?_)
 simp only[JD,JK,CA,Jr]
 refine zza (zza (Ch ?_))
 show wpAny _ _ (Builtin.SmallTypes.nextOf (.ref i1) >>= _) _ _ _
 have a1:g1.IsTupleIter i1 l1 k:=T.a0.at λo e=>m1.extBut _ _ D.i1z e
 cases hx:xs[k]? with
 | none =>
  refine zza (sZ hh a1 (e1.extBut m1.extBut D.l1z) hx λg2 e (m2:Heap.ExtBut i1 g1 g2) ⟨oe,ho,hc⟩=>?_)
  have z2:IsZip g2 z p q .ellipsis:=m2 _ _ D.i1z.symm z1
  have ne:e≠z:=λx=>by subst x;rw[z2]at ho;cases ho;simp at hc
  exact ki z2 (by simp) λg3 _ m3=>hE g3 e (λc o c1 _ c3 _ x=>m3.extBut _ _ c1 (m2 _ _ c3 (m1.extBut _ _ c1 x))) ⟨oe,m3.extBut _ _ ne ho,hc⟩
 | some x =>
  have hy:ys[k]? = none:=by rcases en with h|h;rw[hx]at h;cases h;exact h
  refine zza (jH a1 (e1.extBut m1.extBut D.l1z) hx λg2 a2 (m2:Heap.SameBut i1 g1 g2)=>zzb ?_)
  have q2:IsPair g2 q u v:=m2.extBut _ _ D.TOi1 (m1.extBut _ _ D.TOz T.q0)
  refine zza (ix q2 rfl (zza (yp q2 λg3 (q3:IsPair g3 q x v) (m3:Heap.SameBut q g2 g3)=>zza (Go (zzb ?_)))))
  refine zza (zza (Ch ?_))
  show wpAny _ _ (Builtin.SmallTypes.nextOf (.ref i2) >>= _) _ _ _
  refine zza (sZ hh (T.b0.at λo e=>m3.extBut _ _ D.TOi2.symm (m2.extBut _ _ D.i12.symm (m1.extBut _ _ D.i2z e)))
   (((e2.extBut m1.extBut D.l2z).extBut m2.extBut D.l2i1).extBut m3.extBut D.l2TO) hy λg4 e (m4:Heap.ExtBut i2 g3 g4) ⟨oe,ho,hc⟩=>?_)
  have z4:IsZip g4 z p q .ellipsis:=m4 _ _ D.i2z.symm (m3.extBut _ _ D.TOz.symm (m2.extBut _ _ D.i1z.symm z1))
  have ne:e≠z:=λx=>by subst x;rw[z4]at ho;cases ho;simp at hc
  exact ki z4 (by simp) λg5 _ m5=>hE g5 e (λc o c1 c2 c3 c4 x=>m5.extBut _ _ c1 (m4 _ _ c4 (m3.extBut _ _ c2 (m2.extBut _ _ c3 (m1.extBut _ _ c1 x))))) ⟨oe,m5.extBut _ _ ne ho,hc⟩
abbrev zT1(h:Heap)(l1:Addr):Heap:=h.push { cls:=.type "tuple_iterator",data:=.fields #[.ref l1,.int 0 0] }
abbrev zT2(h:Heap)(l1 l2:Addr):Heap:=(zT1 h l1).push { cls:=.type "tuple_iterator",data:=.fields #[.ref l2,.int 0 0] }
abbrev zT3(h:Heap)(l1 l2:Addr):Heap:=(zT2 h l1 l2).push { cls:=.type "tuple",data:=.seq #[.ref h.objs.size,.ref (zT1 h l1).objs.size] }
abbrev zT4(h:Heap)(l1 l2:Addr):Heap:=(zT3 h l1 l2).push { cls:=.type "tuple",data:=.seq #[.none,.none] }
abbrev zT5(h:Heap)(l1 l2:Addr):Heap:=(zT4 h l1 l2).push { cls:=.type "zip",data:=.fields #[.none,.bool false,.bool false,.ref (zT2 h l1 l2).objs.size,.ref (zT3 h l1 l2).objs.size] }
theorem AD(l1 l2:Addr)(xs ys:Array Value) :
  Meets (Builtin.«zip.__new__» ⟨[.type "zip",.ref l1,.ref l2],[]⟩) (λ_ R s=>s.heap.IsTuple l1 xs/\s.heap.IsTuple l2 ys /\
   R (.ok (.ret (.ref (zT4 s.heap l1 l2).objs.size))) { s with heap:=zT5 s.heap l1 l2 }) :=
 .of_wp λprog w A R s h=>by
  obtain⟨hp,g,d,tk,os⟩:=s;obtain⟨e1,e2,h⟩:=h
  have hsub:=sub_zip
  have L1:Heap.IsTuple (Shared.heap ⟨hp,g,d,tk,os⟩) l1 xs:=e1
  have L2:Heap.IsTuple (Shared.heap ⟨hp.push { cls:=.type "tuple_iterator",data:=.fields #[.ref l1,.int 0 0] },g,d,tk,os⟩) l2 ys:=by
   obtain⟨o,ho,r⟩:=e2
   exact⟨o,zzc _ ho,r⟩
  wp_walk using ur L1,ur L2
  exact⟨_,rfl,h⟩
theorem zp(e1:s.heap.IsTuple l1 xs)(e2:s.heap.IsTuple l2 ys)
  (h:∀h',Zt h' (s.heap.objs.size+4) (s.heap.objs.size+2) (s.heap.objs.size+3) s.heap.objs.size (s.heap.objs.size+1) l1 l2 .none .none .none 0 0 ->
   (∀c o,s.heap.get? c=some o->h'.get? c=some o)->Q (.ref (s.heap.objs.size+4)) { s with heap:=h' }) :
  wpAny (model prog w) A (call (.type "zip") [.ref l1,.ref l2]) Q E s:=by
 refine callType_new F.called_zip (by decide) (F.typeCall_zip_2 _ _) (F.newCall_zip_2 _ _) (λobj=>F.args_object_init_3 obj _ _) F.entry_zip_new
  (AD l1 l2 xs ys) ⟨e1,e2,?_⟩
 have y1:(zT1 s.heap l1).objs.size=s.heap.objs.size+1:=kw ..
 have y2:(zT2 s.heap l1 l2).objs.size=s.heap.objs.size+2:=by rw[kw,y1]
 have y3:(zT3 s.heap l1 l2).objs.size=s.heap.objs.size+3:=by rw[kw,y2]
 have y4:(zT4 s.heap l1 l2).objs.size=s.heap.objs.size+4:=by rw[kw,y3]
 have g5:(zT5 s.heap l1 l2).get? (zT4 s.heap l1 l2).objs.size=some _:=zze _ rfl
 have g4:(zT5 s.heap l1 l2).get? (zT3 s.heap l1 l2).objs.size=some _:=zzc _ (zze _ rfl)
 have g3:(zT5 s.heap l1 l2).get? (zT2 s.heap l1 l2).objs.size=some _:=zzc _ (zzc _ (zze _ rfl))
 have g2:(zT5 s.heap l1 l2).get? (zT1 s.heap l1).objs.size=some _:=zzc _ (zzc _ (zzc _ (zze _ rfl)))
 have g1:(zT5 s.heap l1 l2).get? s.heap.objs.size=some _:=zzc _ (zzc _ (zzc _ (zzc _ (zze _ rfl))))
 show _/\_
 rw[y2,y3,y4]at g5
 rw[y1,y2]at g3
 rw[y3]at g4
 rw[y1]at g2
 rw[y4]
 exact⟨⟨_,g5,rfl⟩,h _ ⟨g5,g3,g4,⟨_,g1,rfl,rfl⟩,⟨_,g2,rfl,rfl⟩⟩ λc o x=>zzc _ (zzc _ (zzc _ (zzc _ (zzc _ x))))⟩
end
end PySem
namespace L4
open PySem PySem.Spec PyProof.Rows L2 L3
variable {X:Cx}{H:Hp}{elts:List Expr}{x1:Nat}{pos:Pos}
def Itz(K:Fg)(a b:Addr):It :=
 ⟨λi H=>∃xs x ys y,SqT K H a xs/\xs[i]? = some x/\SqT K H b ys/\ys[i]? = some y,
  λi H r H'=>∃p x y,(∀xs,SqT K H a xs->xs[i]? = some x)/\(∀ys,SqT K H b ys->ys[i]? = some y)/\H p=none/\r=.ref p/\H'=upd H p (.tup [x,y]),
  λi H=>∃xs ys,SqT K H a xs/\SqT K H b ys/\(xs.length<=i\/ys.length<=i)⟩
theorem oB{pins:zzk}{Z:L2.St}{s:Shared}{h':Heap}{t':Nat}{fp:List Addr}(I:Inv X pins Z H s)(hf:∀b∈fp,mj X pins H b)
  (k:∀b o,b∉fp->s.heap.get? b=some o->h'.get? b=some o):Inv X pins Z H { s with heap:=h',toks:=t' }:=by
 have nit:∀b u,H b=some u->b∉fp:=λb u e z=>by rw[(hf b z).1]at e;cases e
 refine I.step (g':=s.gens) (d':=s.drawn) (ch:=fp) (λb hb=>?_) (λb o _ _ hc e _=>k b o hc e) (λb o _ _ hc e _=>⟨o.slots,k b o hc e⟩) (λ_ _ _ _ n=>n)
  (λb o hc e=>⟨o,k b o hc e⟩) (λ_ _ e=>e) (λ_ _ _ e=>e) (λb ps e=>⟨#[],by rw[e];simp⟩) (λm hm=>?_) (λb u e=>?_) I.bare
 ·obtain⟨f0,f1,f2,f3,f4,f5⟩:=hf b hb
  exact⟨f3,f1,f4,f5⟩
 ·obtain⟨o,es,ep,ho,r⟩:=hm
  exact⟨o,es,ep,k _ o (λz=>(hf _ z).2.1 rfl) ho,r⟩
 ·refine(I.hok b u e).stay (λc v hc q=>k c v ?_ q) (λ_ q=>q) λ_ _ q=>q
  rcases hc with z|z
  ·rw[z];exact nit b u e
  ·exact nit c _ z
theorem qk{pins:zzk}{Z:L2.St}{s:Shared}{ch:List Addr}{x y:V}{x' y':Value}{t:Nat}{h2:Heap}(I:Inv X pins Z H s)(hf:∀c∈ch,mj X pins H c)(ru:RelV x x')(ru2:RelV y y')
  (keep2:∀c o,c∉ch->s.heap.get? c=some o->h2.get? c=some o) (tup2:h2.get? s.heap.objs.size=some { cls:=.type "tuple",data:=.seq #[x',y'] }) :
  Inv X pins Z (upd H s.heap.objs.size (.tup [x,y])) { s with heap:=h2,toks:=t }:=by
 have fr:=I.fresh
 have nit:∀c o,H c=some o->c∉ch:=λc o e m=>by rw[(hf c m).1]at e;cases e
 have hok:HOk X.prog X.w (upd H s.heap.objs.size (.tup [x,y])) h2:=λc ob e=>by
  by_cases hb:c=s.heap.objs.size
  ·subst hb
   rw[dq]at e
   cases e
   exact⟨by show 2<=sizeLine;decide,[x',y'],.cons ru (.cons ru2 .nil),⟨_,tup2,rfl,_,rfl⟩,⟨_,tup2,rfl⟩⟩
  ·rw[bv hb]at e
   refine(I.hok c ob e).stay (λc' v' hc' e'=>?_) (λc' e'=>by rw[bv (bE e' fr)];exact e') λc' ys e'=>by rw[bv (bE e' fr)];exact e'
   rcases hc' with z'|z'
   ·rw[z']at e' ⊢;exact keep2 c v' (nit c ob e) e'
   ·exact keep2 c' v' (nit c' _ z') e'
 refine I.step (g':=s.gens) (d':=s.drawn) (t':=t) (h':=h2) (ch:=ch) (λc hc=>?_) (λc o _ _ hch e _=>keep2 c o hch e) (λc o _ _ hch e _=>⟨o.slots,keep2 c o hch e⟩)
  (λc o _ e n=>by rw[bv (io (ba e))];exact n) (λc o hch e=>⟨o,keep2 c o hch e⟩)
  (λc ys e=>by rw[bv (bE e fr)];exact e) (λc o u' e=>by rw[bv (bE e fr)];exact e) (λc ps e=>⟨#[],by rw[bv (bE e fr),e];simp⟩) (λm hm=>?_) hok I.bare
 ·obtain⟨f0,f1,f2,f3,f4,f5⟩:=hf c hc
  exact⟨f3,f1,f4,f5⟩
 ·obtain⟨o,es,ep,ho',r⟩:=hm
  exact⟨o,es,ep,keep2 _ o (λm=>(hf _ m).2.1 rfl) ho',r⟩
theorem AQ{P:Program}{w:World}{K:Fg}(a b z p q i1 i2:Addr)(D:ZipApart z p q i1 i2 a b) :
  Turn P w K (.Tuple elts x1 pos) (Itz K a b) [z,p,q,i1,i2] z (λi h=>∃u v,Zt h z p q i1 i2 a b .none u v i i) where
 mem:=by simp
 obj:=λi h ⟨u,v,T⟩ c hc=>by
  simp only[ak,ai,el]at hc
  rcases hc with rfl|rfl|rfl|rfl|rfl
  ·exact⟨_,T.z0,λv z=>nomatch z⟩
  ·exact⟨_,T.p0,λv z=>nomatch z⟩
  ·exact⟨_,T.q0,λv z=>nomatch z⟩
  ·obtain⟨o,e1,c,d⟩:=T.a0
   exact⟨o,e1,λv z=>by rw[d]at z;cases z⟩
  ·obtain⟨o,e1,c,d⟩:=T.b0
   exact⟨o,e1,λv z=>by rw[d]at z;cases z⟩
 keep:=λi h h' ⟨u,v,T⟩ k=>⟨u,v,k z (by simp) _ T.z0,k p (by simp) _ T.p0,k q (by simp) _ T.q0,T.a0.at λo e=>k i1 (by simp) o e,T.b0.at λo e=>k i2 (by simp) o e⟩
 item:=by
  intro X hP hw hK hc i pins s Z H E I hf ⟨u,v,T⟩ hg
  subst hP hw hK
  obtain⟨xs,x,ys,y,hq,hx,hq2,hy⟩:=hg
  obtain⟨its,rv,pa,hz⟩:=I.tuple hq
  obtain⟨jts,rv2,pb,hz2⟩:=I.tuple hq2
  obtain⟨x',hu,ru⟩:=rv.get hx
  obtain⟨y',hu2,ru2⟩:=rv2.get hy
  have hT:s.TypeIs (.ref z) "zip":=⟨_,T.z0,rfl⟩
  unfold pyNext
  refine zza (ES (ia (name:=Str.ofString "__next__") hT wo
   (ll wo hT JG (zo D T (show s.heap.IsTuple a its.toArray from pa) (show s.heap.IsTuple b jts.toArray from pb) (x:=x') (y:=y') (by simpa using hu) (by simpa using hu2) λh1 T1 t1 k1=>zzb ?_) (Ju _))))
  refine⟨_,rfl,wpAny_letOwnedTupleGo_zip T1.z0 λh2 z2 (m2:Heap.SameBut z h1 h2)=>?_⟩
  have lt:∀{c o},s.heap.get? c=some o->s.heap.objs.size≠c:=λe=>nu (ba e)
  have ltz:=lt T.z0
  have ltp:=lt T.p0
  have ltq:=lt T.q0
  have lt1:s.heap.objs.size≠i1:=by obtain⟨_,e,_⟩:=T.a0;exact lt e
  have lt2:s.heap.objs.size≠i2:=by obtain⟨_,e,_⟩:=T.b0;exact lt e
  have keep2:∀c o,c∉[z,p,q,i1,i2]->s.heap.get? c=some o->h2.get? c=some o:=λc o hc e=>by
   simp only[ak,ai,el,not_or]at hc
   exact m2.extBut _ _ hc.1 (k1 c o hc.1 hc.2.2.1 hc.2.2.2.1 hc.2.2.2.2 e)
  have tup2:h2.get? s.heap.objs.size=some { cls:=.type "tuple",data:=.seq #[x',y'] }:=m2.extBut _ _ ltz t1
  have I1:Inv X pins Z (upd H s.heap.objs.size (.tup [x,y])) { s with heap:=h2,toks:=s.toks }:=qk I hf ru ru2 keep2 tup2
  refine⟨.ref s.heap.objs.size,_,I1,rfl,⟨_,x,y,λys' hy'=>by rw[I.tuple_inj hy' hq];exact hx,λys' hy'=>by rw[I.tuple_inj hy' hq2];exact hy,I.fresh,rfl,rfl⟩,
   ⟨x',y',z2,m2.extBut _ _ D.TIz T1.p0,m2.extBut _ _ D.TOz T1.q0,T1.a0.at λo e=>m2.extBut _ _ D.i1z e,T1.b0.at λo e=>m2.extBut _ _ D.i2z e⟩,λc hc=>?_⟩
  have nc:c≠s.heap.objs.size:=by
   simp only[ak,ai,el]at hc
   rcases hc with rfl|rfl|rfl|rfl|rfl
   ·exact ltz.symm
   ·exact ltp.symm
   ·exact ltq.symm
   ·exact lt1.symm
   ·exact lt2.symm
  rw[bv nc]
  exact(hf c hc).1
 done:=by
  intro X hP hw hK hc i pins s Z H E I hf ⟨u,v,T⟩ hg
  subst hP hw hK
  obtain⟨xs,ys,hq,hq2,hl⟩:=hg
  obtain⟨its,rv,pa,hz⟩:=I.tuple hq
  obtain⟨jts,rv2,pb,hz2⟩:=I.tuple hq2
  have l1:=rv.length
  have l2:=rv2.length
  have hT:s.TypeIs (.ref z) "zip":=⟨_,T.z0,rfl⟩
  unfold pyNext
  refine zza (ES (ia (name:=Str.ofString "__next__") hT wo
   (ll wo hT JG (AF (I.ok.hd hc) D T (show s.heap.IsTuple a its.toArray from pa) (show s.heap.IsTuple b jts.toArray from pb)
    (hl.imp (λh=>by simp;lia) (λh=>by simp;lia)) λh' e k he=>?_) (Ju _))))
  obtain⟨o,ho,hcl⟩:=he
  refine zza (wpAny_isInstance (T := "StopIteration") (b:=true) ⟨o,ho,hcl⟩ isSubtype_stop ?_)
  exact zzb ⟨rfl,oB (t':=s.toks) I hf λc o hc e=>by
   simp only[ak,ai,el,not_or]at hc
   exact k c o hc.1 hc.2.2.1 hc.2.2.2.1 hc.2.2.2.2 e⟩
 self:=λ_ _ _ _ _ ⟨u,v,T⟩ h=>Jz T.z0 h
def iG(as bs:List D):List D:=List.zipWith (λx y=>PyData.tuple [x,y]) as bs
theorem AK{K:Fg}{F:Hp}{a b:Addr}{vs ws:List V}{as bs:List D}(h:SqT K F a vs)(r:RepL K F vs as)(h2:SqT K F b ws)(r2:RepL K F ws bs):Walk K (Itz K a b) (iG as bs) F where
 go:=λi G F2 Z H2 ρ s S hi=>by
  simp only[iG,Ba]at hi
  have i1:i<vs.length:=by rw[r.length];lia
  have i2:i<ws.length:=by rw[r2.length];lia
  exact⟨vs,vs[i],ws,ws[i],bC S.fh (bC s h),by simp[i1],bC S.fh (bC s h2),by simp[i2]⟩
 yld:=λi G F2 Z H2 ρ x H3 d s S hd ⟨p,y,y',hy,hy',hp,hx,hH⟩=>by
  subst hx hH
  unfold iG at hd
  rw[List.getElem?_zipWith]at hd
  cases e:as[i]? with
  | none=>rw[e]at hd;cases hd
  | some d1 =>
   cases e':bs[i]? with
   | none=>rw[e,e']at hd;cases hd
   | some d2 =>
    rw[e,e']at hd
    simp at hd
    subst hd
    obtain⟨v,g1,g2⟩:=r.get e
    obtain⟨v',g3,g4⟩:=r2.get e'
    have z1:=hy vs (bC S.fh (bC s h))
    have z2:=hy' ws (bC S.fh (bC s h2))
    rw[g1]at z1
    rw[g3]at z2
    cases z1
    cases z2
    obtain⟨s2,S2,r2⟩:=S.newTup hp (RepL.cons (g2.mono s) (RepL.cons (g4.mono s) RepL.nil))
    exact⟨_,s2,S2,r2⟩
 stop:=λG F2 Z H2 ρ s S=>⟨vs,ws,bC S.fh (bC s h),bC S.fh (bC s h2),by
  rw[r.length,r2.length];simp only[iG,Ba];lia⟩
def IQ(K:Fg)(tl:TA):TI:=λZ H R=>tl Z H λxs H1=>∃a b,xs=[.ref a,.ref b]/\(∃ys,SqT K H1 a ys)/\(∃ys,SqT K H1 b ys)/\R (Itz K a b) H1
theorem Ff{e1 e2:Expr}{tl:TA}{tp p:Pos}(hg:Gl X "zip")(hm:X.mg "zip" = none)(ha:PA X [e1,e2] tl)
  (hs:starEach [e1,e2] X.env=[(false,eval e1 X.env),(false,eval e2 X.env)]) (hs2:starEach [e2] X.env=[(false,eval e2 X.env)]) :
  PI X (.Tuple elts x1 tp) (.Call (.Name "zip" p) [e1,e2] [] pos) (IQ X.K tl):=by
 intro pins s Z H R I h
 refine Call_ (kD I hg hm (show bootBuiltins "zip" = some (.type "zip") by decide +kernel) (sd (thn (ha pos pins s Z H _ I h) λus s1 ⟨vs,H1,I1,r1,q1⟩=>?_) (by rw[hs,hs2]) (by rw[hs2];rfl)) (by decide) (by decide))
 obtain⟨a,b,rfl,⟨ys,hq⟩,⟨zs,hq2⟩,q⟩:=q1
 cases r1 with
 | cons r rr =>
  cases rr with
  | cons r' rr =>
   cases rr
   cases r
   cases r'
   obtain⟨its,rv,pt,hz⟩:=I1.tuple hq
   obtain⟨jts,rv2,pt2,hz2⟩:=I1.tuple hq2
   have la:a<s1.heap.objs.size:=by obtain⟨o,e1,_⟩:=pt;exact ba e1
   have lb:b<s1.heap.objs.size:=by obtain⟨o,e1,_⟩:=pt2;exact ba e1
   refine zp (show s1.heap.IsTuple a its.toArray from pt) (show s1.heap.IsTuple b jts.toArray from pt2) λh' T hk=>?_
   refine Jz (s:={ s1 with heap:=h' }) T.z0 ?_
   refine⟨s1.heap.objs.size+4,[s1.heap.objs.size+4,s1.heap.objs.size+2,s1.heap.objs.size+3,s1.heap.objs.size,s1.heap.objs.size+1],_,_,H1,rfl,I1.kept (t':=s1.toks) hk,AQ a b _ _ _ _ _ (zipApart_new la lb),⟨_,_,T⟩,λc hc=>?_,q⟩
   have:s1.heap.objs.size<=c:=by
    simp only[ak,ai,el]at hc
    rcases hc with rfl|rfl|rfl|rfl|rfl<;>simp
   exact I1.fpOk this (I1.hok.fresh this)
def xO:List D->Option (List D)
 | [.tuple as,.tuple bs]=>some (iG as bs)
 | _=>none
section
variable {tg e1 e2:Expr} {ps:(List D->M (List D))->Pu (List D)} {p tp:Pos}
theorem EO{F:Hp}{vs:List V}{ds out:List D}{R:It->Hp->Prop}(s:Same F H)(r:RepL X.K F vs ds)(h:xO ds=some out)(k:∀J,Walk X.K J out F->R J H) :
  ∃a b,vs=[.ref a,.ref b]/\(∃ys,SqT X.K H a ys)/\(∃ys,SqT X.K H b ys)/\R (Itz X.K a b) H:=by
 unfold xO at h
 split at h
 ·cases h
  obtain⟨v,u,rfl,r1,r2⟩:=r.two_inv
  obtain⟨a,as,rfl,a1,a2⟩:=r1.tup_inv
  obtain⟨b,bs,rfl,b1,b2⟩:=r2.tup_inv
  exact⟨_,_,rfl,⟨_,SqT.of (s _ _ a1)⟩,⟨_,SqT.of (s _ _ b1)⟩,k _ (AK (SqT.of a1) a2 (SqT.of b1) b2)⟩
 ·cases h
theorem CI{ps:Pa (List D)}(hg:Gl X "zip")(hm:X.mg "zip" = none)(ha:AA X [e1,e2] ps)(hs:starEach [e1,e2] X.env=[(false,eval e1 X.env),(false,eval e2 X.env)])(hs2:starEach [e2] X.env=[(false,eval e2 X.env)]):AI X (.Tuple elts x1 tp) (.Call (.Name "zip" p) [e1,e2] [] pos) (nq xO ps) :=
 λG F Z H ρ R S w=>wZ (Ff hg hm dQ hs hs2) (ha G F Z H ρ _ _ _ S w λds vs F1 H1 s1 S1 _ r1 w1=>by
  obtain⟨out,hd,k⟩:=w1.opt
  exact EO S1.fh r1 hd (k F1 H1 (Same.refl _) S1))
end
end L4
namespace HT
end HT
namespace PySem
open Sem (wp)
open AutoSeq1 (wpAny_loadPart')
variable {prog:Program}{w:World}{A:Around}{Q:zzj}
section
variable {E:zzj} {s:Shared}
theorem oN{it t:Addr}{i:Nat}{items}{x:Value}(hit:s.heap.IsTupleIter it t i)
  (ht:s.heap.IsTuple t items) (hx:items[i]? = some x)
  (hQ:∀h',h'.IsTupleIter it t (i+1)->Heap.SameBut it s.heap h'->Q x { s with heap:=h' }) :
  wpAny (model prog w) A (Builtin.SmallTypes.nextOf (.ref it)) Q E s:=by
 obtain⟨o,ho,hc,hd⟩:=id hit
 obtain⟨ol,hol,_,nl,hdl⟩:=ht
 unfold Builtin.SmallTypes.nextOf
 refine zza (ia (name:=Str.ofString "__next__") hit.typeIs iz
  (ll iz hit.typeIs ye ?_ (xv _)))
 show wpAny _ _ (field (.ref it) 0 >>= _) _ _ s
 refine zza (eT ho hd (x:=.ref t) rfl ?_)
 show wpAny _ _ (if(Value.ref t==Value.none)=true then _ else _) _ _ s
 rw[ef (show ¬ ((Value.ref t==Value.none)=true)from ni)]
 show wpAny _ _ (field (.ref it) 1 >>= _) _ _ s
 refine zza (eT ho hd (x:=.int i 0) rfl ?_)
 show wpAny _ _ (seqItems? (.ref t) >>= _) _ _ s
 refine zza (ix hol hdl ?_)
 simp only[lu,hx]
 refine zza (ze ho hd (by simp) (zzb ⟨x,rfl,zzb (hQ _ ?_ (Heap.SameBut.update ..))⟩))
 exact⟨_,wa _ ho (xz (kv hd _)),(Jt ..).trans hc,by
  rw[kv hd];simp[rawInt]⟩
theorem ku{it t:Addr}{i:Nat}{items}(hh:A.handled=none)
  (hit:s.heap.IsTupleIter it t i) (ht:s.heap.IsTuple t items) (hx:items[i]? = none)
  (hE:∀h' e,Heap.ExtBut it s.heap h'->(∃o,h'.get? e=some o/\o.cls=.type "StopIteration")->E (.ref e) { s with heap:=h' }) :
  wpAny (model prog w) A (Builtin.SmallTypes.nextOf (.ref it)) Q E s:=by
 obtain⟨o,ho,hc,hd⟩:=id hit
 obtain⟨ol,hol,_,nl,hdl⟩:=ht
 unfold Builtin.SmallTypes.nextOf
 refine zza (ia (name:=Str.ofString "__next__") hit.typeIs iz
  (ll iz hit.typeIs ye ?_ (xv _)))
 show wpAny _ _ (field (.ref it) 0 >>= _) _ _ s
 refine zza (eT ho hd (x:=.ref t) rfl ?_)
 show wpAny _ _ (if(Value.ref t==Value.none)=true then _ else _) _ _ s
 rw[ef (show ¬ ((Value.ref t==Value.none)=true)from ni)]
 show wpAny _ _ (field (.ref it) 1 >>= _) _ _ s
 refine zza (eT ho hd (x:=.int i 0) rfl ?_)
 show wpAny _ _ (seqItems? (.ref t) >>= _) _ _ s
 refine zza (ix hol hdl ?_)
 simp only[lu,hx]
 refine zza (Er (zza (ze ho hd (by simp) ?_)))
 first
  | (show wpAny _ _ (newExc (.type "StopIteration") [] >>= _) _ _ _
     refine zza ?_
     simp only[newExc,newTuple]
     refine zza (gi ?_ (by size_fits))
     refine zza (m:=firstArgMember _ _) (wpAny_of_eq (a:=Value.none) (by first|rfl|(simp only[firstArgMember];rfl)) ?_)
     refine gi ?_ (by size_fits)
     simp only[raiseNew]
     refine zza (wpAny_handled ?_)
     first|rw[show A.in1.handled=none from hh]|rw[hh]
     refine zza (zzb (wpAny_throw ?_))
     exact hE _ _ (((Heap.SameBut.update ..).extBut.push _).push _) ⟨_,zze _ rfl,rfl⟩)
  | (refine zza (Go ?_)
     show wpAny _ _ (newExc (.type "StopIteration") [] >>= _) _ _ _
     refine zza ?_
     simp only[newExc,newTuple]
     refine zza (gi ?_ (by size_fits))
     refine zza (m:=firstArgMember _ _) (wpAny_of_eq (a:=Value.none) (by first|rfl|(simp only[firstArgMember];rfl)) ?_)
     refine gi ?_ (by size_fits)
     simp only[raiseNew]
     refine zza (wpAny_handled ?_)
     first|rw[show A.in1.handled=none from hh]|rw[hh]
     refine zza (zzb (wpAny_throw ?_))
     exact hE _ _ (((Heap.SameBut.update ..).extBut.push _).push _) ⟨_,zze _ rfl,rfl⟩)
end
theorem tG(hh:A.handled=none)(it l:Addr)(hne:l≠it)(items:Array Value) :
  Draws prog w A it [it,l] items.size (λi v=>items[i]? = some v) (λi h=>h.IsTupleIter it l i/\h.IsTuple l items) where
 live:=λ_ _ st=>let ⟨o,ho,_⟩:=st.1;⟨o,ho⟩
 frame:=λ_ _ _ st hk=>⟨st.1.at λo e=>hk it (by simp) o e,by obtain⟨o,e,r⟩:=st.2;exact⟨o,hk l (by simp) o e,r⟩⟩
 item:=λi s Q E hi st hQ=>by
  refine oN st.1 st.2 (x:=items[i]) (by simp[hi]) λh' hit' hs'=>?_
  exact hQ _ h' s.toks (by simp[hi]) ⟨hit',st.2.extBut hs'.extBut hne⟩ hs'
 done:=λs Q E st hE=>ku hh st.1 st.2 (by simp) hE
set_option maxHeartbeats 1000000 in
theorem oO(l:Addr)(items:Array Value)(n:Nat)(dct:Option Addr)(sl:Array (Option Value)) :
  Meets (Builtin.«enumerate.__new__» ⟨[.type "enumerate",.ref l],[]⟩) (λ_ R s=>s.heap.get? l=some { cls:=.type "tuple",dict:=dct,data:=.seq items n,slots:=sl } /\
   R (.ok (.ret (.ref (s.heap.push { cls:=.type "tuple_iterator",data:=.fields #[.ref l,.int 0 0] }).objs.size)))
    { s with heap:=(s.heap.push { cls:=.type "tuple_iterator",data:=.fields #[.ref l,.int 0 0] }).push { cls:=.type "enumerate",data:=.fields #[.none,.bool false,.ref s.heap.objs.size,rawInt 0,.none,.none] } }) :=
 .of_wp λprog w A R s h=>by
  obtain⟨hp,g,d,tk,os⟩:=s;obtain⟨hl,h⟩:=h
  have hsub:=sub_enumerate
  have hL:Heap.IsTuple (Shared.heap ⟨hp,g,d,tk,os⟩) l items:=⟨_,hl,rfl,n,rfl⟩
  wp_walk using wpAny_loadPart' hl
  refine wpAny_stack_any λst=>zzb ?_
  split
  ·rename_i c _ _ _ _ _
   cases (c==Value.type "enumerate")
   ·wp_walk using wpAny_loadPart' hl,ur hL
    exact⟨_,rfl,h⟩
   ·wp_walk using wpAny_loadPart' hl,ur hL
    exact⟨_,rfl,h⟩
  ·wp_walk using wpAny_loadPart' hl,ur hL
   exact⟨_,rfl,h⟩
section
variable {E:zzj} {s:Shared}
theorem oV{l:Addr}{items:Array Value}(hL:s.heap.IsTuple l items)
  (h:∀h',IsEnum h' (s.heap.objs.size+1) s.heap.objs.size 0 .none->h'.IsTupleIter s.heap.objs.size l 0->h'.objs.size=s.heap.objs.size+2 ->
   (∀b o,s.heap.get? b=some o->h'.get? b=some o)->Q (.ref (s.heap.objs.size+1)) { s with heap:=h' }) :
  wpAny (model prog w) A (call (.type "enumerate") [.ref l]) Q E s:=by
 obtain⟨⟨c,dct,dt,sl⟩,hl,hc,n,hd⟩:=hL
 replace hc:c=.type "tuple":=hc
 replace hd:dt=.seq items n:=hd
 subst hc hd
 refine callType_new F.called_enumerate (by decide) (F.typeCall_enumerate_1 _) (F.newCall_enumerate_1 _) (λobj=>F.args_object_init_2 obj _) F.entry_enumerate_new
  (oO l items n dct sl) ⟨hl,?_⟩
 have hz:(s.heap.push { cls:=.type "tuple_iterator",data:=.fields #[.ref l,.int 0 0] }).objs.size=s.heap.objs.size+1:=kw ..
 show _/\_
 rw[hz]
 have he:IsEnum ((s.heap.push { cls:=.type "tuple_iterator",data:=.fields #[.ref l,.int 0 0] }).push
   { cls:=.type "enumerate",data:=.fields #[.none,.bool false,.ref s.heap.objs.size,rawInt 0,.none,.none] }) (s.heap.objs.size+1) s.heap.objs.size 0 .none:=by
  have:=zze (s.heap.push { cls:=.type "tuple_iterator",data:=.fields #[.ref l,.int 0 0] })
   (o:={ cls:=.type "enumerate",data:=.fields #[.none,.bool false,.ref s.heap.objs.size,rawInt 0,.none,.none] }) rfl
  rw[hz]at this;exact this
 refine⟨⟨_,he,rfl⟩,h _ he ⟨_,zzc _ (zze _ rfl),rfl,rfl⟩ (by rw[kw,hz]) λb o x=>zzc _ (zzc _ x)⟩
end
end PySem
namespace L3
open PySem PySem.Spec PyProof.Rows L2 L4
def Ite(K:Fg)(a:Addr):It :=
 ⟨λi H=>∃xs x,SqT K H a xs/\xs[i]? = some x,λi H y H'=>∃p x,(∀xs,SqT K H a xs->xs[i]? = some x)/\H p=none/\y=.ref p/\H'=upd H p (.tup [.int i,x]),λi H=>∃xs,SqT K H a xs/\xs.length<=i⟩
theorem Ce{X:Cx}{pins:zzk}{Z:L2.St}{H:Hp}{s:Shared}{e it:Addr}{i:Nat}{x:V}{x':Value}{tk:Nat}{h2:Heap}(I:Inv X pins Z H s)(fe:mj X pins H e)(ft:mj X pins H it)(ru:RelV x x')
  (keep2:∀b o,b≠e->b≠it->s.heap.get? b=some o->h2.get? b=some o) (tup2:h2.get? s.heap.objs.size=some { cls:=.type "tuple",data:=.seq #[.int i tk,x'] }) :
  Inv X pins Z (upd H s.heap.objs.size (.tup [.int i,x])) { s with heap:=h2,toks:=tk+1 }:=by
 refine qk (ch:=[e,it]) I (λc hc=>?_) (⟨tk,rfl⟩:RelV (.int i) (.int i tk)) ru (λb o hch q=>keep2 b o (λz=>hch (by rw[z];exact fu)) (λz=>hch (by rw[z];exact zzg _ fu)) q) tup2
 rcases List.mem_cons.mp hc with rfl|hb
 ·exact fe
 ·rw[List.mem_singleton.mp hb];exact ft
theorem zA{P:Program}{w:World}{K:Fg}{elts:List Expr}{x1:Nat}{pos:Pos}(a it e:Addr)(hai:a≠it)(hei:e≠it)(hea:e≠a) :
  Turn P w K (.Tuple elts x1 pos) (Ite K a) [e,it] e (λi h=>(∃old,IsEnum h e it i old)/\h.IsTupleIter it a i) where
 mem:=by simp
 obj:=λi h st b hb=>by
  obtain⟨⟨old,he⟩,o,e1,c,d⟩:=st
  rcases List.mem_cons.mp hb with rfl|hb
  ·exact⟨_,he,λv z=>nomatch z⟩
  ·rw[List.mem_singleton.mp hb]
   exact⟨o,e1,λv z=>by rw[d]at z;cases z⟩
 keep:=λi h h' st k=>by
  obtain⟨⟨old,he⟩,ht⟩:=st
  exact⟨⟨old,k e (by simp) _ he⟩,ht.at λo e=>k it (by simp) o e⟩
 item:=by
  intro X hP hw hK hc i pins s Z H E I hf st hg
  subst hP hw hK
  obtain⟨xs,x,hq,hx⟩:=hg
  obtain⟨its,rv,p,hz⟩:=I.tuple hq
  obtain⟨u,hu,ru⟩:=rv.get hx
  obtain⟨⟨old,he⟩,ht⟩:=st
  have D:=tG (prog:=X.prog) (w:=X.w) (A:=X.A.in1) (I.ok.hd hc) it a hai its.toArray
  have hi:i<its.toArray.size:=by simpa using(List.getElem?_eq_some_iff.mp hu).1
  have fe:=hf e (by simp)
  have ft:=hf it (by simp)
  refine wpAny_pyNext_enum_itemD D he ⟨ht,show s.heap.IsTuple a its.toArray from p⟩ hi hei (by simp[hei,hea]) λx' h' tk hP ho hs' hT hsz hk=>?_
  have ex:x'=u:=by
   have:its.toArray[i]? = some x':=hP
   rw[JO,hu]at this
   exact(Option.some.inj this).symm
  subst ex
  refine⟨_,rfl,wpAny_letOwnedTupleGo_enum ho λh2 he2 sb2=>?_⟩
  have hpe:s.heap.objs.size≠e:=nu (ba he)
  have hpi:s.heap.objs.size≠it:=by obtain⟨o,e1,_⟩:=ht;exact nu (ba e1)
  have keep2:∀b o,b≠e->b≠it->s.heap.get? b=some o->h2.get? b=some o:=λb o h1 h2' q=>(sb2.2 b h1).trans (hk b o h1 h2' q)
  have tup2:h2.get? s.heap.objs.size=some { cls:=.type "tuple",data:=.seq #[.int i tk,x'] }:=(sb2.2 _ hpe).trans hT
  have I1:Inv X pins Z (upd H s.heap.objs.size (.tup [.int i,x])) { s with heap:=h2,toks:=tk+1 }:=Ce I fe ft ru keep2 tup2
  refine⟨.ref s.heap.objs.size,_,I1,rfl,⟨_,x,λys hy=>by rw[I.tuple_inj hy hq];exact hx,I.fresh,rfl,rfl⟩,⟨⟨_,by simpa using he2⟩,?_⟩,λb hb=>?_⟩
  ·obtain⟨o,e1,r⟩:=hs'.1
   exact⟨o,(sb2.2 it (Ne.symm hei)).trans e1,r⟩
  ·rcases List.mem_cons.mp hb with rfl|hb
   ·rw[bv (Ne.symm hpe)];exact fe.1
   ·rw[List.mem_singleton.mp hb,bv (Ne.symm hpi)];exact ft.1
 done:=by
  intro X hP hw hK hc i pins s Z H E I hf st hg
  subst hP hw hK
  obtain⟨xs,hq,hx⟩:=hg
  obtain⟨its,rv,p,hz⟩:=I.tuple hq
  obtain⟨⟨old,he⟩,ht⟩:=st
  obtain⟨g0,g1,g2,g3,g4,g5⟩:=hf it (by simp)
  have hl:=rv.length
  have D:=tG (prog:=X.prog) (w:=X.w) (A:=X.A.in1) (I.ok.hd hc) it a hai its.toArray
  have hT:s.TypeIs (.ref e) "enumerate":=⟨_,he,rfl⟩
  unfold pyNext
  refine zza (ES (ia (name:=Str.ofString "__next__") hT F.slot_enumerate_next
   (ll F.slot_enumerate_next hT F.entry_enumerate_next ?_ (F.args_enumerate_next_1 _))))
  show wpAny _ _ (field (.ref e) 2 >>= _) _ _ _
  refine zza (eT he rfl (x:=.ref it) rfl ?_)
  refine zza (ku (I.ok.hd hc) ht (show s.heap.IsTuple a its.toArray from p) (by simp;lia) λh' x he' hx'=>?_)
  obtain⟨o,ho,hcl⟩:=hx'
  refine zza (wpAny_isInstance (T := "StopIteration") (b:=true) ⟨o,ho,hcl⟩ isSubtype_stop ?_)
  exact zzb ⟨rfl,I.turned (t':=s.toks) (λb o hb e=>he' b o hb e) g0 g1 g3 g4 g5⟩
 self:=λ_ _ _ _ _ st h=>by
  obtain⟨⟨old,he⟩,ht⟩:=st
  exact wpAny_pyIter_enum he h
def wm(ds:List D):List D:=ds.zipIdx.map λp=>PyData.tuple [.int (p.2:Int),p.1]
theorem mS(ds:List D):(wm ds).length=ds.length:=by simp[wm]
theorem zw{K:Fg}{F:Hp}{a:Addr}{vs:List V}{ds:List D}(h:SqT K F a vs)(r:RepL K F vs ds):Walk K (Ite K a) (wm ds) F where
 go:=λi G F2 Z H2 ρ s S hi=>by
  have hi':i<vs.length:=by rw[r.length];rw[mS]at hi;exact hi
  exact⟨vs,vs[i],bC S.fh (bC s h),by simp[hi']⟩
 yld:=λi G F2 Z H2 ρ x H3 d s S hd ⟨p,y,hy,hp,hx,hH⟩=>by
  subst hx hH
  unfold wm at hd
  rw[ou,List.getElem?_zipIdx]at hd
  cases q:ds[i]? with
  | none=>rw[q]at hd;cases hd
  | some d' =>
   rw[q]at hd
   simp at hd
   subst hd
   obtain⟨v,e1,e2⟩:=r.get q
   have:=hy vs (bC S.fh (bC s h))
   rw[e1]at this
   cases this
   obtain⟨s2,S2,r2⟩:=S.newTup hp (RepL.cons (Rep.int (i:Int)) (RepL.cons (e2.mono s) RepL.nil))
   exact⟨_,s2,S2,r2⟩
 stop:=λG F2 Z H2 ρ s S=>⟨vs,bC S.fh (bC s h),by rw[r.length,mS];exact bo _⟩
def Hu(K:Fg)(tl:TA):TI:=λZ H R=>tl Z H λxs H1=>∃a,xs=[.ref a]/\(∃ys,SqT K H1 a ys)/\R (Ite K a) H1
theorem Df{X:Cx}{e:Expr}{tl:TA}{elts:List Expr}{x1:Nat}{tp p pos:Pos}(hg:Gl X "enumerate")(hm:X.mg "enumerate" = none)(ha:PA X [e] tl)(hs:starEach [e] X.env=[(false,eval e X.env)]) :
  PI X (.Tuple elts x1 tp) (.Call (.Name "enumerate" p) [e] [] pos) (Hu X.K tl):=by
 intro pins s Z H R I h
 refine Jn (kD I hg hm (show bootBuiltins "enumerate" = some (.type "enumerate") by decide +kernel) ?_ (by decide) (by decide))
 refine sd (thn (ha pos pins s Z H _ I h) λus s1 ⟨vs,H1,I1,r1,q1⟩=>?_) hs rfl
 obtain⟨a,rfl,⟨ys,hq⟩,q⟩:=q1
 obtain⟨u,rfl,ru⟩:=L2.Vals.one r1
 cases ru
 obtain⟨its,rv,pt,hz⟩:=I1.tuple hq
 have alt:a<s1.heap.objs.size:=by obtain⟨o,e1,_⟩:=pt;exact ba e1
 refine oV (show s1.heap.IsTuple a its.toArray from pt) λh' he ht hsz hk=>?_
 refine wpAny_pyIter_enum (s:={ s1 with heap:=h' }) he ?_
 refine⟨s1.heap.objs.size+1,[s1.heap.objs.size+1,s1.heap.objs.size],_,_,H1,rfl,I1.kept (t':=s1.toks) hk,zA a s1.heap.objs.size (s1.heap.objs.size+1) (io alt) (Nat.succ_ne_self _) (nu (Nat.lt_succ_of_lt alt)),⟨⟨_,he⟩,ht⟩,λb hb=>?_,q⟩
 rcases List.mem_cons.mp hb with rfl|hb
 ·exact I1.fpOk (Nat.le_succ _) (I1.hok.fresh (Nat.le_succ _))
 ·rw[List.mem_singleton.mp hb]
  exact I1.fpOk (bo _) (I1.hok.fresh (bo _))
end L3
namespace L4
open PySem PySem.Spec PyProof.Rows L2 L3
variable {F H:Hp}{X:Cx}{G:Gh}{Z:L2.St}{ρ:En}{p:Addr}{o:HO}
def v7:List D->Option (List D)
 | [.tuple ds]=>some (wm ds)
 | _=>none
section
variable {tg e:Expr} {p pos tp:Pos} {elts:List Expr} {x1:Nat}
theorem DO{vs:List V}{ds out:List D}{R:It->Hp->Prop}(s:Same F H)(r:RepL X.K F vs ds)(h:v7 ds=some out)(k:∀J,Walk X.K J out F->R J H) :
  ∃a,vs=[.ref a]/\(∃ys,SqT X.K H a ys)/\R (Ite X.K a) H:=by
 unfold v7 at h
 split at h
 ·cases h
  obtain⟨v,rfl,r1⟩:=r.one_inv
  obtain⟨a,vs,rfl,a1,a2⟩:=r1.tup_inv
  exact⟨_,rfl,⟨_,SqT.of (s _ _ a1)⟩,k _ (zw (SqT.of a1) a2)⟩
 ·cases h
theorem DX{ps:Pa (List D)}(hg:Gl X "enumerate")(hm:X.mg "enumerate" = none)(ha:AA X [e] ps)(hs:starEach [e] X.env=[(false,eval e X.env)]):AI X (.Tuple elts x1 tp) (.Call (.Name "enumerate" p) [e] [] pos) (nq v7 ps) :=
 λG F Z H ρ R S w=>wZ (Df hg hm dQ hs) (ha G F Z H ρ _ _ _ S w λds vs F1 H1 s1 S1 _ r1 w1=>by
  obtain⟨out,hd,k⟩:=w1.opt
  exact DO S1.fh r1 hd (k F1 H1 (Same.refl _) S1))
end
def Gh.add(G:Gh)(p:Addr)(o:HO):Gh:={ G with O:=upd G.O p o }
theorem _root_.L3.StOk.hold{K:Fg}(S:StOk K G F Z H ρ)(hp:H p=some o)(fp:F p=none)(ne:∀(i:Nat) (e:OC),own ρ i e->Z[i]? ≠ some (some (V.ref p)))(nt:CM o:=by exact True.intro):StOk K (Gh.add G p o) F Z H ρ:=by
 refine⟨S.fh,λb u e=>?_,λb u e=>?_,S.ln,S.fz,λi c h=>?_,S.dj,S.pp,S.pq,S.fb⟩
 ·by_cases hb:b=p
  ·subst hb
   rw[show(Gh.add G b o).O b=some o from dq]at e
   cases e;exact hp
  ·rw[show(Gh.add G p o).O b=G.O b from bv hb]at e
   exact S.oh b u e
 ·by_cases hb:b=p
  ·subst hb
   rw[show(Gh.add G b o).O b=some o from dq]at e
   cases e
   exact⟨fp,nt⟩
  ·rw[show(Gh.add G p o).O b=G.O b from bv hb]at e
   exact S.fo b u e
 ·obtain⟨a,e,oa⟩:=S.ow i c h
  refine⟨a,e,oa.nf,?_,oa.he⟩
  have:a≠p:=λz=>ne i c h (by rw[e,z])
  exact(show(Gh.add G p o).O a=G.O a from bv this).trans oa.no
theorem _root_.L3.StOk.unhold{K:Fg}(hn:G.O p=none)(S:StOk K (Gh.add G p o) F Z H ρ) :
  StOk K G F Z H ρ/\H p=some o/\F p=none/\∀(i:Nat) (e:OC),own ρ i e->Z[i]? ≠ some (some (V.ref p)):=by
 have at_p:(Gh.add G p o).O p=some o:=dq
 have gU:∀b,b≠p->(Gh.add G p o).O b=G.O b:=λb hb=>bv hb
 have nb:∀b u,G.O b=some u->b≠p:=λb u e z=>by rw[z,hn]at e;cases e
 refine⟨⟨S.fh,λb u e=>S.oh b u ((gU b (nb b u e)).trans e),λb u e=>S.fo b u ((gU b (nb b u e)).trans e),S.ln,S.fz,λi c h=>?_,S.dj,S.pp,S.pq,S.fb⟩,S.oh p o at_p,(S.fo p o at_p).1,λi c h e=>?_⟩
 ·obtain⟨a,e,oa⟩:=S.ow i c h
  have:a≠p:=λz=>by have:=oa.no;rw[z,at_p]at this;cases this
  exact⟨a,e,oa.nf,(gU a this).symm.trans oa.no,oa.he⟩
 ·obtain⟨a,e',oa⟩:=S.ow i c h
  rw[e]at e'
  injection e' with e';injection e' with e';injection e' with e'
  have:=oa.no
  rw[<-e',at_p]at this
  cases this
theorem W.held{α:Type}{m:M α}{C:α->Hp->Hp->Prop}(hn:G.O p=none)(h:W X G F Z ρ m C) :
  W X (Gh.add G p o) F Z ρ m λa F' H'=>C a F' H':=by
 cases m with
 | ret a=>exact λF2 H2 s2 S2=>h F2 H2 s2 (S2.unhold hn).1
 | exc x =>
  have nb:∀b u,G.O b=some u->b≠p:=λb u e z=>by rw[z,hn]at e;cases e
  have gU:∀b u,G.O b=some u->(Gh.add G p o).O b=some u:=λb u e=>(show(Gh.add G p o).O b=G.O b from bv (nb b u e)).trans e
  exact λF' H' s' a C dd pins Z g fz I xs hp xr=>h F' H' s' a C dd pins Z ⟨g.fh,λb u e=>g.oh b u (gU b u e),λb u e=>g.fo b u (gU b u e),g.fb⟩ fz I xs hp xr
 | bad=>exact h
def G9(pa:Pu (List D))(pb:Pu D):Pu (List D):=λρ=>bd (pa ρ) λds=>bd (pb ρ) λy=>oM (qu (.list ds) y)
theorem Gj{a b:Expr}{pos:Pos}{pa:Pu (List D)}{pb:Pu D}(ha:AL X a pa)(hb:AO X b pb):AL X (.BinOp a .Mult b pos) (G9 pa pb) :=
 λG F Z H ρ Q S w=>sem (By Fw bi bi) (ha G F Z H ρ _ S (w.bind.imp λds F1 H1 s1 S1 w1 v fr=>by
  obtain⟨p,rfl,oa,ne⟩:=fr
  obtain⟨vs,h1,h2⟩:=oa.he
  have S1':=S1.hold h1 oa.nf ne
  refine hb (Gh.add G p (.lst vs)) F1 Z H1 ρ _ S1' ((W.held oa.no w1.bind).imp λy F2 H2 s2 S2 w2 u hu=>?_)
  obtain⟨S2',g1,g2,g3⟩:=S2.unhold oa.no
  obtain⟨res,e,kk⟩:=w2.opt
  cases y<;>try (cases e)
  rename_i k'
  dsimp only[qu]at e
  split at e
  case isFalse=>cases e
  rename_i hc
  cases e
  simp only[ag,zzi]at hc
  have hi:u=.int k':=(hu.or S2).int
  subst hi
  refine⟨p,k',vs,rfl,rfl,g1,hc.1.1,hc.1.2,by rw[h2.length];exact hc.2,λq hq=>?_⟩
  obtain⟨S3,r3⟩:=S2'.newLst hq (RepL.rep (h2.mono s2) k'.toNat)
  exact kk F2 _ (Same.refl _) S3 _ r3))
end L4
namespace HT
end HT
namespace L4
open PySem PySem.Spec PyProof.Rows L2 L3
variable {α:Type}{K:Fg}{x qual p0 p1 p2 p3:Str}{st:Stmt}{fd:FuncData}
theorem zV{us:List α}{n:Nat}(h:us.length=n+1):∃a r,us=a::r/\r.length=n:=by
 cases us with
 | nil=>exact absurd h (Nat.succ_ne_zero n).symm
 | cons a r=>exact⟨a,r,rfl,Nat.succ.inj h⟩
theorem BY{us:List α}(h:us.length=1):∃a0,us=[a0]:=by
 obtain⟨a0,r,rfl,h0⟩:=zV h
 obtain rfl:=List.eq_nil_of_length_eq_zero h0
 exact⟨a0,rfl⟩
theorem Hl{us:List α}(h:us.length=2):∃a0 a1,us=[a0,a1]:=by
 obtain⟨a0,r,rfl,h0⟩:=zV h
 obtain⟨a1,rfl⟩:=BY h0
 exact⟨a0,a1,rfl⟩
theorem Hk{us:List α}(h:us.length=3):∃a0 a1 a2,us=[a0,a1,a2]:=by
 obtain⟨a0,r,rfl,h0⟩:=zV h
 obtain⟨a1,a2,rfl⟩:=Hl h0
 exact⟨a0,a1,a2,rfl⟩
theorem Hj{us:List α}(h:us.length=4):∃a0 a1 a2 a3,us=[a0,a1,a2,a3]:=by
 obtain⟨a0,r,rfl,h0⟩:=zV h
 obtain⟨a1,a2,a3,rfl⟩:=Hk h0
 exact⟨a0,a1,a2,a3,rfl⟩
theorem Hi{us:List α}(h:us.length=5):∃a0 a1 a2 a3 a4,us=[a0,a1,a2,a3,a4]:=by
 obtain⟨a0,r,rfl,h0⟩:=zV h
 obtain⟨a1,a2,a3,a4,rfl⟩:=Hj h0
 exact⟨a0,a1,a2,a3,a4,rfl⟩
theorem II{us:List α}(h:us.length=6):∃a0 a1 a2 a3 a4 a5,us=[a0,a1,a2,a3,a4,a5]:=by
 obtain⟨a0,r,rfl,h0⟩:=zV h
 obtain⟨a1,a2,a3,a4,a5,rfl⟩:=Hi h0
 exact⟨a0,a1,a2,a3,a4,a5,rfl⟩
theorem Au{f:Addr}(F:Fun K x qual st f fd)
  (h:∀(kV doc pm:Value) (an:Option Addr) (cdv ct:Value) (u0:Value),bindArgs (PySem.W.fnOf x qual (fJ st) (dG st) (aL st) .none kV doc pm an cdv ct) ⟨[u0],[]⟩=pure (List.zip [p0] [u0])):Binds K fd [p0] [] :=
 F.binds λa b c d e g us hl=>by obtain⟨u0,rfl⟩:=BY hl;exact h a b c d e g u0
theorem jr{f:Addr}(F:Fun K x qual st f fd)
  (h:∀(kV doc pm:Value) (an:Option Addr) (cdv ct:Value) (u0 u1:Value),bindArgs (PySem.W.fnOf x qual (fJ st) (dG st) (aL st) .none kV doc pm an cdv ct) ⟨[u0,u1],[]⟩=pure (List.zip [p0,p1] [u0,u1])):Binds K fd [p0,p1] [] :=
 F.binds λa b c d e g us hl=>by obtain⟨u0,u1,rfl⟩:=Hl hl;exact h a b c d e g u0 u1
theorem n5{f:Addr}(F:Fun K x qual st f fd)
  (h:∀(kV doc pm:Value) (an:Option Addr) (cdv ct:Value) (u0 u1 u2:Value),bindArgs (PySem.W.fnOf x qual (fJ st) (dG st) (aL st) .none kV doc pm an cdv ct) ⟨[u0,u1,u2],[]⟩=pure (List.zip [p0,p1,p2] [u0,u1,u2])):Binds K fd [p0,p1,p2] [] :=
 F.binds λa b c d e g us hl=>by obtain⟨u0,u1,u2,rfl⟩:=Hk hl;exact h a b c d e g u0 u1 u2
theorem xX{f:Addr}(F:Fun K x qual st f fd)
  (h:∀(kV doc pm:Value) (an:Option Addr) (cdv ct:Value) (u0 u1 u2 u3:Value),bindArgs (PySem.W.fnOf x qual (fJ st) (dG st) (aL st) .none kV doc pm an cdv ct) ⟨[u0,u1,u2,u3],[]⟩=pure (List.zip [p0,p1,p2,p3] [u0,u1,u2,u3])):Binds K fd [p0,p1,p2,p3] [] :=
 F.binds λa b c d e g us hl=>by obtain⟨u0,u1,u2,u3,rfl⟩:=Hj hl;exact h a b c d e g u0 u1 u2 u3
theorem uW{f:Addr}{p4:Str}(F:Fun K x qual st f fd)
  (h:∀(kV doc pm:Value) (an:Option Addr) (cdv ct:Value) (u0 u1 u2 u3 u4:Value),bindArgs (PySem.W.fnOf x qual (fJ st) (dG st) (aL st) .none kV doc pm an cdv ct) ⟨[u0,u1,u2,u3,u4],[]⟩=pure (List.zip [p0,p1,p2,p3,p4] [u0,u1,u2,u3,u4])):Binds K fd [p0,p1,p2,p3,p4] [] :=
 F.binds λa b c d e g us hl=>by obtain⟨u0,u1,u2,u3,u4,rfl⟩:=Hi hl;exact h a b c d e g u0 u1 u2 u3 u4
theorem HL{f:Addr}{p4 p5:Str}(F:Fun K x qual st f fd)
  (h:∀(kV doc pm:Value) (an:Option Addr) (cdv ct:Value) (u0 u1 u2 u3 u4 u5:Value),bindArgs (PySem.W.fnOf x qual (fJ st) (dG st) (aL st) .none kV doc pm an cdv ct) ⟨[u0,u1,u2,u3,u4,u5],[]⟩=pure (List.zip [p0,p1,p2,p3,p4,p5] [u0,u1,u2,u3,u4,u5])):Binds K fd [p0,p1,p2,p3,p4,p5] [] :=
 F.binds λa b c d e g us hl=>by obtain⟨u0,u1,u2,u3,u4,u5,rfl⟩:=II hl;exact h a b c d e g u0 u1 u2 u3 u4 u5
end L4
namespace TS
end TS
namespace TS
end TS
namespace TS
end TS
namespace TS
end TS
namespace TS
end TS
namespace TS
end TS
namespace TS
end TS
namespace TS
end TS
namespace TS
end TS
namespace TS
end TS
namespace TS
end TS
namespace TS
end TS
namespace L4
open PySem PySem.Spec PyProof.Rows L2 L3
section
variable {α:Type}{l:List α}
theorem ln0(h:l.length=0):l=[]:=List.eq_nil_of_length_eq_zero h
theorem lnS{n:Nat}(h:l.length=n+1):∃a t,l=a::t/\t.length=n :=
 List.recOn (motive:=λl=>l.length=n+1->∃a t,l=a::t/\t.length=n) l (λh=>(Nat.succ_ne_zero n h.symm).elim) (λa t _ h=>⟨a,t,rfl,Nat.succ.inj h⟩) h
theorem ln1(h:l.length=1):∃a,l=[a]:=by obtain⟨a,t,e,q⟩:=lnS h;exact⟨a,by rw[e,ln0 q]⟩
theorem ln2(h:l.length=2):∃a b,l=[a,b]:=by obtain⟨a,t,rfl,q⟩:=lnS h;obtain⟨b,rfl⟩:=ln1 q;exact⟨a,b,rfl⟩
theorem ln3(h:l.length=3):∃a b c,l=[a,b,c]:=by obtain⟨a,t,rfl,q⟩:=lnS h;obtain⟨b,c,rfl⟩:=ln2 q;exact⟨a,b,c,rfl⟩
theorem ln4(h:l.length=4):∃a b c d,l=[a,b,c,d]:=by obtain⟨a,t,rfl,q⟩:=lnS h;obtain⟨b,c,d,rfl⟩:=ln3 q;exact⟨a,b,c,d,rfl⟩
theorem ln5(h:l.length=5):∃a b c d e,l=[a,b,c,d,e]:=by obtain⟨a,t,rfl,q⟩:=lnS h;obtain⟨b,c,d,e,rfl⟩:=ln4 q;exact⟨a,b,c,d,e,rfl⟩
end
section
variable {K:Fg}{h:Heap}{mg:zzl}{x qual:Str}{st:Stmt}{f T:Addr}{oc:Value}{od an:Option Addr}{osl:Array (Option Value)}{kV doc pm cdv ct:Value}
def Fa(K:Fg)(x:Str)(st:Stmt):Prop:=∃f fd,PySem.W.nsIn K mainGlobals x=some (some (.ref f))/\Fun K x x st f fd
theorem bG(a:PySem.W.nsIn K mainGlobals x=some (some (.ref f)))(l:K.lookup f=some ⟨oc,od,.func (PySem.W.fnOf x x (fJ st) (dG st) (aL st) .none kV doc pm an cdv ct),osl⟩)
  (c:PySem.W.codeIn K cdv x=true) (k:PySem.W.keepIn K (.ref f)=true):Fa K x st:=⟨f,_,a,FR l c k⟩
def Hq:Option (Option Value)->Bool
 | some none=>true
 | _=>false
theorem HM{l:List Str}(X:K.In h)(G:h.Ns mainGlobals mg)(z:(l.all λx=>Hq (PySem.W.nsIn K mainGlobals x))=true):∀x∈l,mg x=none:=λx hx=>by
 have q:=List.all_eq_true.mp z x hx
 generalize e:PySem.W.nsIn K mainGlobals x=o at q
 match o,q with
 | some none,_=>exact PySem.W.mg_none_of X G e
end
end L4
namespace WD
end WD
set_option maxHeartbeats 3200000
namespace L4
open PySem PySem.Spec PyProof.Rows L2 L3
theorem ED{h h':Heap}{i l:Addr}{k:Nat}(x:h.IsListIter i l k)(kp:∀o,h.get? i=some o->h'.get? i=some o):h'.IsListIter i l k:=let ⟨o,e,r⟩:=x;⟨o,kp o e,r⟩
end L4
namespace WD
end WD
namespace PySem
open PyProof.Rows
section
variable {prog:Program}{w:World}{A:Around}{E:zzj}{s:Shared}
structure Zm(h:Heap)(z p q i1 i2 l1 l2:Addr)(f0 u v:Value)(k1 k2:Nat):Prop where
 z0:IsZip h z p q f0
 p0:IsPair h p (.ref i1) (.ref i2)
 q0:IsPair h q u v
 a0:h.IsListIter i1 l1 k1
 b0:h.IsTupleIter i2 l2 k2
theorem zq{z p q i1 i2 l1 l2:Addr}{k:Nat}{xs ys:Array Value}{x y u v:Value}{Q:zzj}(D:ZipApart z p q i1 i2 l1 l2)
  (T:Zm s.heap z p q i1 i2 l1 l2 .none u v k k) (e1:s.heap.IsList l1 xs) (e2:s.heap.IsTuple l2 ys) (hx:xs[k]? = some x) (hy:ys[k]? = some y)
  (hQ:∀h',Zm h' z p q i1 i2 l1 l2 (rawInt s.heap.objs.size) x y (k+1) (k+1)->IsPair h' s.heap.objs.size x y ->
   (∀c o,c≠z->c≠q->c≠i1->c≠i2->s.heap.get? c=some o->h'.get? c=some o)->Q (.ref s.heap.objs.size) { s with heap:=h' }) :
  wpAny (model prog w) A (Builtin.«zip.__next__» ⟨[.ref z],[]⟩) (λfin s'=>∃r,fin=.done (.ret r)/\Q r s') E s:=by
 have z0:=T.z0
 show wpAny _ _ (field (.ref z) 2 >>= _) _ _ _
 refine zza (eT z0 rfl (x:=.bool false) rfl ?_)
 show wpAny _ _ (field (.ref z) 3 >>= _) _ _ _
 refine zza (eT z0 rfl (x:=.ref p) rfl (zza (ix T.p0 rfl ?_)))
 show wpAny _ _ (Builtin.SmallTypes.ownedTupleIsFree (.ref z) >>= _) _ _ _
 refine zza ?_
 unfold Builtin.SmallTypes.ownedTupleIsFree
 refine zza (eT z0 rfl (x:=.none) rfl (zzb ?_))
 simp only[aw]
 refine zza (Er (zza (eT z0 rfl (x:=.ref q) rfl ?_)))
 refine zza (ki z0 (by simp) λg1 (z1:IsZip g1 z p q .ellipsis) (m1:Heap.SameBut z s.heap g1)=>zza ?_)
 simp only[JD,JK,CA,Jr]
 refine zza (zza (Ch ?_))
 show wpAny _ _ (Builtin.SmallTypes.nextOf (.ref i1) >>= _) _ _ _
 refine zza (wpAny_nextOf_list_item (T.a0.at λo e=>m1.extBut _ _ D.i1z e) (e1.extBut m1.extBut D.l1z) hx λg2 a2 (m2:Heap.SameBut i1 g1 g2)=>zzb ?_)
 have q2:IsPair g2 q u v:=m2.extBut _ _ D.TOi1 (m1.extBut _ _ D.TOz T.q0)
 refine zza (ix q2 rfl (zza (yp q2 λg3 (q3:IsPair g3 q x v) (m3:Heap.SameBut q g2 g3)=>zza (Go (zzb ?_)))))
 refine zza (zza (Ch ?_))
 show wpAny _ _ (Builtin.SmallTypes.nextOf (.ref i2) >>= _) _ _ _
 refine zza (jH (T.b0.at λo e=>m3.extBut _ _ D.TOi2.symm (m2.extBut _ _ D.i12.symm (m1.extBut _ _ D.i2z e)))
  (((e2.extBut m1.extBut D.l2z).extBut m2.extBut D.l2i1).extBut m3.extBut D.l2TO) hy λg4 b4 (m4:Heap.SameBut i2 g3 g4)=>zzb ?_)
 have q4:IsPair g4 q x v:=m4.extBut _ _ D.TOi2 q3
 refine zza (ix q4 rfl (zza (yp q4 λg5 (q5:IsPair g5 q x y) (m5:Heap.SameBut q g4 g5)=>zza (Go (zzb (zzb ?_))))))
 refine zza (ix q5 rfl (zza (wpAny_newTuple ?_)))
 have sz:g5.objs.size=s.heap.objs.size:=by rw[m5.1,m4.1,m3.1,m2.1,m1.1]
 have z5:IsZip g5 z p q .ellipsis:=m5.extBut _ _ D.TOz.symm (m4.extBut _ _ D.i2z.symm (m3.extBut _ _ D.TOz.symm (m2.extBut _ _ D.i1z.symm z1)))
 have k5:∀c o,c≠z->c≠q->c≠i1->c≠i2->s.heap.get? c=some o->g5.get? c=some o:=λc o c1 c2 c3 c4 e =>
  m5.extBut _ _ c2 (m4.extBut _ _ c4 (m3.extBut _ _ c2 (m2.extBut _ _ c3 (m1.extBut _ _ c1 e))))
 have a5:g5.IsListIter i1 l1 (k+1):=a2.at λo e=>m5.extBut _ _ D.TOi1.symm (m4.extBut _ _ D.i12 (m3.extBut _ _ D.TOi1.symm e))
 have b5:g5.IsTupleIter i2 l2 (k+1):=b4.at λo e=>m5.extBut _ _ D.TOi2.symm e
 have lz:z<g5.objs.size:=ba z5
 show wpAny _ _ (Builtin.SmallTypes.ownedTupleHandOut (.ref z) (.ref g5.objs.size) >>= _) _ _ _
 refine zza ?_
 unfold Builtin.SmallTypes.ownedTupleHandOut
 have z6:IsZip (g5.push { cls:=.type "tuple",data:=.seq #[x,y] }) z p q .ellipsis:=zzc _ z5
 refine zza (ki z6 (by simp) λg7 (z7:IsZip g7 z p q (rawInt g5.objs.size)) m7=>?_)
 refine ki z7 (by simp) λg8 (z8:IsZip g8 z p q (rawInt g5.objs.size)) m8=>?_
 have up:∀c o,c≠z->g5.get? c=some o->g8.get? c=some o:=λc o c1 e=>m8.extBut _ _ c1 (m7.extBut _ _ c1 (zzc _ e))
 have t8:IsPair g8 g5.objs.size x y:=m8.extBut _ _ (nu lz) (m7.extBut _ _ (nu lz) (zze _ rfl))
 rw[sz]at z8 t8
 refine zzb ⟨_,rfl,?_⟩
 show Q (.ref g5.objs.size) _
 rw[sz]
 exact hQ g8 ⟨z8,up _ _ D.TIz (k5 _ _ D.TIz D.TITO D.TIi1 D.TIi2 T.p0),up _ _ D.TOz q5,a5.at λo e=>up _ o D.i1z e,b5.at λo e=>up _ o D.i2z e⟩ t8 λc o c1 c2 c3 c4 e=>up c o c1 (k5 c o c1 c2 c3 c4 e)
abbrev zM1(h:Heap)(l1:Addr):Heap:=h.push { cls:=.type "list_iterator",data:=.fields #[.ref l1,.int 0 0] }
abbrev zM2(h:Heap)(l1 l2:Addr):Heap:=(zM1 h l1).push { cls:=.type "tuple_iterator",data:=.fields #[.ref l2,.int 0 0] }
abbrev zM3(h:Heap)(l1 l2:Addr):Heap:=(zM2 h l1 l2).push { cls:=.type "tuple",data:=.seq #[.ref h.objs.size,.ref (zM1 h l1).objs.size] }
abbrev zM4(h:Heap)(l1 l2:Addr):Heap:=(zM3 h l1 l2).push { cls:=.type "tuple",data:=.seq #[.none,.none] }
abbrev zM5(h:Heap)(l1 l2:Addr):Heap:=(zM4 h l1 l2).push { cls:=.type "zip",data:=.fields #[.none,.bool false,.bool false,.ref (zM2 h l1 l2).objs.size,.ref (zM3 h l1 l2).objs.size] }
theorem AH(l1 l2:Addr)(xs ys:Array Value) :
  Meets (Builtin.«zip.__new__» ⟨[.type "zip",.ref l1,.ref l2],[]⟩) (λ_ R s=>s.heap.IsList l1 xs/\s.heap.IsTuple l2 ys /\
   R (.ok (.ret (.ref (zM4 s.heap l1 l2).objs.size))) { s with heap:=zM5 s.heap l1 l2 }) :=
 .of_wp λprog w A R s h=>by
  obtain⟨hp,g,d,tk,os⟩:=s;obtain⟨e1,e2,h⟩:=h
  have hsub:=sub_zip
  have L1:Heap.IsList (Shared.heap ⟨hp,g,d,tk,os⟩) l1 xs:=e1
  have L2:Heap.IsTuple (Shared.heap ⟨hp.push { cls:=.type "list_iterator",data:=.fields #[.ref l1,.int 0 0] },g,d,tk,os⟩) l2 ys:=by
   obtain⟨o,ho,r⟩:=e2
   exact⟨o,zzc _ ho,r⟩
  wp_walk using wpAny_pyIter_list L1,ur L2
  exact⟨_,rfl,h⟩
theorem zt{l1 l2:Addr}{xs ys:Array Value}{Q:zzj}(e1:s.heap.IsList l1 xs)(e2:s.heap.IsTuple l2 ys)
  (h:∀h',Zm h' (s.heap.objs.size+4) (s.heap.objs.size+2) (s.heap.objs.size+3) s.heap.objs.size (s.heap.objs.size+1) l1 l2 .none .none .none 0 0 ->
   (∀c o,s.heap.get? c=some o->h'.get? c=some o)->Q (.ref (s.heap.objs.size+4)) { s with heap:=h' }) :
  wpAny (model prog w) A (call (.type "zip") [.ref l1,.ref l2]) Q E s:=by
 refine callType_new F.called_zip (by decide) (F.typeCall_zip_2 _ _) (F.newCall_zip_2 _ _) (λobj=>F.args_object_init_3 obj _ _) F.entry_zip_new
  (AH l1 l2 xs ys) ⟨e1,e2,?_⟩
 have y1:(zM1 s.heap l1).objs.size=s.heap.objs.size+1:=kw ..
 have y2:(zM2 s.heap l1 l2).objs.size=s.heap.objs.size+2:=by rw[kw,y1]
 have y3:(zM3 s.heap l1 l2).objs.size=s.heap.objs.size+3:=by rw[kw,y2]
 have y4:(zM4 s.heap l1 l2).objs.size=s.heap.objs.size+4:=by rw[kw,y3]
 have g5:(zM5 s.heap l1 l2).get? (zM4 s.heap l1 l2).objs.size=some _:=zze _ rfl
 have g4:(zM5 s.heap l1 l2).get? (zM3 s.heap l1 l2).objs.size=some _:=zzc _ (zze _ rfl)
 have g3:(zM5 s.heap l1 l2).get? (zM2 s.heap l1 l2).objs.size=some _:=zzc _ (zzc _ (zze _ rfl))
 have g2:(zM5 s.heap l1 l2).get? (zM1 s.heap l1).objs.size=some _:=zzc _ (zzc _ (zzc _ (zze _ rfl)))
 have g1:(zM5 s.heap l1 l2).get? s.heap.objs.size=some _:=zzc _ (zzc _ (zzc _ (zzc _ (zze _ rfl))))
 show _/\_
 rw[y2,y3,y4]at g5
 rw[y1,y2]at g3
 rw[y3]at g4
 rw[y1]at g2
 rw[y4]
 exact⟨⟨_,g5,rfl⟩,h _ ⟨g5,g3,g4,⟨_,g1,rfl,rfl⟩,⟨_,g2,rfl,rfl⟩⟩ λc o x=>zzc _ (zzc _ (zzc _ (zzc _ (zzc _ x))))⟩
end
end PySem
namespace L4
theorem ln6{α:Type}{l:List α}(h:l.length=6):∃a b c d e f,l=[a,b,c,d,e,f]:=by obtain⟨a,t,rfl,q⟩:=lnS h;obtain⟨b,c,d,e,f,rfl⟩:=ln5 q;exact⟨a,b,c,d,e,f,rfl⟩
end L4
namespace PySem
open PyProof.Rows
theorem zr{prog:Program}{w:World}{A:Around}{E:zzj}{s:Shared}{z p q i1 i2 l1 l2:Addr}{k:Nat}{xs:Array Value}{u v:Value}{Q:Fin->Shared->Prop}(hh:A.handled=none)(D:ZipApart z p q i1 i2 l1 l2)
  (T:Zm s.heap z p q i1 i2 l1 l2 .none u v k k) (e1:s.heap.IsList l1 xs) (hx:xs[k]? = none)
  (hE:∀h' e,(∀c o,c≠z->c≠q->c≠i1->c≠i2->s.heap.get? c=some o->h'.get? c=some o)->(∃o,h'.get? e=some o/\o.cls=.type "StopIteration")->E (.ref e) { s with heap:=h' }) :
  wpAny (model prog w) A (Builtin.«zip.__next__» ⟨[.ref z],[]⟩) Q E s:=by
 have z0:=T.z0
 refine(show wpAny (model prog w) A (field (.ref z) 2 >>= _) _ _ _ from zza (eT z0 rfl (x:=.bool false) rfl ?_))
 refine(show wpAny (model prog w) A (field (.ref z) 3 >>= _) _ _ _ from zza (eT z0 rfl (x:=.ref p) rfl (zza (ix T.p0 rfl ?_))))
 refine(show wpAny (model prog w) A (Builtin.SmallTypes.ownedTupleIsFree (.ref z) >>= _) _ _ _ from zza ?_)
 unfold Builtin.SmallTypes.ownedTupleIsFree
 refine zza (eT z0 rfl (x:=.none) rfl (zzb ?_))
 simp only[aw]
 refine zza (Er (zza (eT z0 rfl (x:=.ref q) rfl ?_)))
 refine zza (ki z0 (by simp) λg1 (y1:IsZip g1 z p q .ellipsis) (m1:Heap.SameBut z s.heap g1)=>zza ?_)
 simp only[JD,JK,CA,Jr]
 refine zza (zza (Ch (show wpAny (model prog w) A (Builtin.SmallTypes.nextOf (.ref i1) >>= _) _ _ _ from ?_)))
 refine zza (wpAny_nextOf_list_end hh (T.a0.at λo e=>m1.extBut _ _ D.i1z e) (e1.extBut m1.extBut D.l1z) hx λg2 e m2 ⟨oe,f1,f2⟩=>?_)
 have y2:IsZip g2 z p q .ellipsis:=m2 _ _ D.i1z.symm y1
 have ne:e≠z:=λx=>by subst x;rw[y2]at f1;cases f1;simp at f2
 exact ki y2 (by simp) λg3 _ m3=>hE g3 e (λc o c1 _ c3 _ x=>m3.extBut _ _ c1 (m2 _ _ c3 (m1.extBut _ _ c1 x))) ⟨oe,m3.extBut _ _ ne f1,f2⟩
end PySem
namespace L4
open PySem PySem.Spec PyProof.Rows L2 L3
variable {K:Fg}{elts:List Expr}{x1:Nat}{pos:Pos}
def D0(K:Fg)(a b:Addr):It :=
 ⟨λi H=>∃xs x ys y,SqL K H a xs/\xs[i]? = some x/\SqT K H b ys/\ys[i]? = some y,
  λi H r H'=>∃p x y,(∀xs,SqL K H a xs->xs[i]? = some x)/\(∀ys,SqT K H b ys->ys[i]? = some y)/\H p=none/\r=.ref p/\H'=upd H p (.tup [x,y]),
  λi H=>∃xs,SqL K H a xs/\xs.length<=i⟩
theorem zx{P:Program}{w:World}(a b z p q i1 i2:Addr)(D:ZipApart z p q i1 i2 a b) :
  Turn P w K (.Tuple elts x1 pos) (D0 K a b) [z,p,q,i1,i2] z (λi h=>∃u v,Zm h z p q i1 i2 a b .none u v i i) where
 mem:=by simp
 obj:=λi h ⟨u,v,T⟩ c hc=>by
  simp only[ak,ai,el]at hc
  rcases hc with rfl|rfl|rfl|rfl|rfl
  ·exact⟨_,T.z0,λv z=>nomatch z⟩
  ·exact⟨_,T.p0,λv z=>nomatch z⟩
  ·exact⟨_,T.q0,λv z=>nomatch z⟩
  ·obtain⟨o,e1,c,d⟩:=T.a0
   exact⟨o,e1,λv z=>by rw[d]at z;cases z⟩
  ·obtain⟨o,e1,c,d⟩:=T.b0
   exact⟨o,e1,λv z=>by rw[d]at z;cases z⟩
 keep:=λi h h' ⟨u,v,T⟩ k=>⟨u,v,k z (by simp) _ T.z0,k p (by simp) _ T.p0,k q (by simp) _ T.q0,ED T.a0 λo e=>k i1 (by simp) o e,T.b0.at λo e=>k i2 (by simp) o e⟩
 item:=by
  intro X hP hw hK hc i pins s Z H E I hf ⟨u,v,T⟩ hg
  subst hP hw hK
  obtain⟨xs,x,ys,y,hq,hx,hq2,hy⟩:=hg
  obtain⟨its,rv,pa,hz⟩:=I.list hq
  obtain⟨jts,rv2,pb,hz2⟩:=I.tuple hq2
  obtain⟨x',hu,ru⟩:=rv.get hx
  obtain⟨y',hu2,ru2⟩:=rv2.get hy
  have hT:s.TypeIs (.ref z) "zip":=⟨_,T.z0,rfl⟩
  unfold pyNext
  refine zza (ES (ia (name:=Str.ofString "__next__") hT wo
   (ll wo hT JG (zq D T (show s.heap.IsList a its.toArray from pa.isList) (show s.heap.IsTuple b jts.toArray from pb) (x:=x') (y:=y') (by simpa using hu) (by simpa using hu2) λh1 T1 t1 k1=>zzb ?_) (Ju _))))
  refine⟨_,rfl,wpAny_letOwnedTupleGo_zip T1.z0 λh2 z2 (m2:Heap.SameBut z h1 h2)=>?_⟩
  have lt:∀{c o},s.heap.get? c=some o->s.heap.objs.size≠c:=λe=>nu (ba e)
  have ltz:=lt T.z0
  have ltp:=lt T.p0
  have ltq:=lt T.q0
  have lt1:s.heap.objs.size≠i1:=by obtain⟨_,e,_⟩:=T.a0;exact lt e
  have lt2:s.heap.objs.size≠i2:=by obtain⟨_,e,_⟩:=T.b0;exact lt e
  have keep2:∀c o,c∉[z,p,q,i1,i2]->s.heap.get? c=some o->h2.get? c=some o:=λc o hc e=>by
   simp only[ak,ai,el,not_or]at hc
   exact m2.extBut _ _ hc.1 (k1 c o hc.1 hc.2.2.1 hc.2.2.2.1 hc.2.2.2.2 e)
  have tup2:h2.get? s.heap.objs.size=some { cls:=.type "tuple",data:=.seq #[x',y'] }:=m2.extBut _ _ ltz t1
  have I1:Inv X pins Z (upd H s.heap.objs.size (.tup [x,y])) { s with heap:=h2,toks:=s.toks }:=qk I hf ru ru2 keep2 tup2
  refine⟨.ref s.heap.objs.size,_,I1,rfl,⟨_,x,y,λys' hy'=>by rw[I.list_inj hy' hq];exact hx,λys' hy'=>by rw[I.tuple_inj hy' hq2];exact hy,I.fresh,rfl,rfl⟩,
   ⟨x',y',z2,m2.extBut _ _ D.TIz (k1 _ _ D.TIz D.TITO D.TIi1 D.TIi2 T.p0),m2.extBut _ _ D.TOz T1.q0,ED T1.a0 λo e=>m2.extBut _ _ D.i1z e,T1.b0.at λo e=>m2.extBut _ _ D.i2z e⟩,λc hc=>?_⟩
  have nc:c≠s.heap.objs.size:=by
   simp only[ak,ai,el]at hc
   rcases hc with rfl|rfl|rfl|rfl|rfl
   ·exact ltz.symm
   ·exact ltp.symm
   ·exact ltq.symm
   ·exact lt1.symm
   ·exact lt2.symm
  rw[bv nc]
  exact(hf c hc).1
 done:=by
  intro X hP hw hK hc i pins s Z H E I hf ⟨u,v,T⟩ hg
  subst hP hw hK
  obtain⟨xs,hq,hl⟩:=hg
  obtain⟨its,rv,pa,hz⟩:=I.list hq
  have l1:=rv.length
  have hT:s.TypeIs (.ref z) "zip":=⟨_,T.z0,rfl⟩
  unfold pyNext
  refine zza (ES (ia (name:=Str.ofString "__next__") hT wo
   (ll wo hT JG (zr (I.ok.hd hc) D T (show s.heap.IsList a its.toArray from pa.isList) (by simp;lia) λh' e k he=>?_) (Ju _))))
  obtain⟨o,ho,hcl⟩:=he
  refine zza (wpAny_isInstance (T := "StopIteration") (b:=true) ⟨o,ho,hcl⟩ isSubtype_stop ?_)
  exact zzb ⟨rfl,oB (t':=s.toks) I hf λc o hc e=>by
   simp only[ak,ai,el,not_or]at hc
   exact k c o hc.1 hc.2.2.1 hc.2.2.2.1 hc.2.2.2.2 e⟩
 self:=λ_ _ _ _ _ ⟨u,v,T⟩ h=>Jz T.z0 h
theorem zu{F:Hp}{a b:Addr}{vs ws:List V}{as bs:List D}(h:SqL K F a vs)(r:RepL K F vs as)(h2:SqT K F b ws)(r2:RepL K F ws bs)(hl:as.length=bs.length):Walk K (D0 K a b) (iG as bs) F where
 go:=λi G F2 Z H2 ρ s S hi=>by
  simp only[iG,Ba]at hi
  have i1:i<vs.length:=by rw[r.length];lia
  have i2:i<ws.length:=by rw[r2.length];lia
  exact⟨vs,vs[i],ws,ws[i],(S.fh.seq (s.seq h)),by simp[i1],bC S.fh (bC s h2),by simp[i2]⟩
 yld:=λi G F2 Z H2 ρ x H3 d s S hd ⟨p,y,y',hy,hy',hp,hx,hH⟩=>by
  subst hx hH
  unfold iG at hd
  rw[List.getElem?_zipWith]at hd
  cases e:as[i]? with
  | none=>rw[e]at hd;cases hd
  | some d1 =>
   cases e':bs[i]? with
   | none=>rw[e,e']at hd;cases hd
   | some d2 =>
    rw[e,e']at hd
    simp at hd
    subst hd
    obtain⟨v,g1,g2⟩:=r.get e
    obtain⟨v',g3,g4⟩:=r2.get e'
    have z1:=hy vs ((S.fh.seq (s.seq h)))
    have z2:=hy' ws (bC S.fh (bC s h2))
    rw[g1]at z1
    rw[g3]at z2
    cases z1
    cases z2
    obtain⟨s2,S2,r2⟩:=S.newTup hp (RepL.cons (g2.mono s) (RepL.cons (g4.mono s) RepL.nil))
    exact⟨_,s2,S2,r2⟩
 stop:=λG F2 Z H2 ρ s S=>⟨vs,(S.fh.seq (s.seq h)),by
  rw[r.length];simp only[iG,Ba];lia⟩
def Hr(K:Fg)(tl:TA):TI:=λZ H R=>tl Z H λxs H1=>∃a b,xs=[.ref a,.ref b]/\(∃ys,SqL K H1 a ys)/\(∃ys,SqT K H1 b ys)/\R (D0 K a b) H1
theorem De{X:Cx}{e1 e2:Expr}{tl:TA}{tp p:Pos}(hg:Gl X "zip")(hm:X.mg "zip" = none)(ha:PA X [e1,e2] tl)
  (hs:starEach [e1,e2] X.env=[(false,eval e1 X.env),(false,eval e2 X.env)]) (hs2:starEach [e2] X.env=[(false,eval e2 X.env)]) :
  PI X (.Tuple elts x1 tp) (.Call (.Name "zip" p) [e1,e2] [] pos) (Hr X.K tl):=by
 intro pins s Z H R I h
 refine Call_ (kD I hg hm (show bootBuiltins "zip" = some (.type "zip") by decide +kernel) (sd (thn (ha pos pins s Z H _ I h) λus s1 ⟨vs,H1,I1,r1,q1⟩=>?_) (by rw[hs,hs2]) (by rw[hs2];rfl)) (by decide) (by decide))
 obtain⟨a,b,rfl,⟨ys,hq⟩,⟨zs,hq2⟩,q⟩:=q1
 cases r1 with
 | cons r rr =>
  cases rr with
  | cons r' rr =>
   cases rr
   cases r
   cases r'
   obtain⟨its,rv,pt,hz⟩:=I1.list hq
   obtain⟨jts,rv2,pt2,hz2⟩:=I1.tuple hq2
   have la:a<s1.heap.objs.size:=by obtain⟨o,e1,_⟩:=pt.isList;exact ba e1
   have lb:b<s1.heap.objs.size:=by obtain⟨o,e1,_⟩:=pt2;exact ba e1
   refine zt (show s1.heap.IsList a its.toArray from pt.isList) (show s1.heap.IsTuple b jts.toArray from pt2) λh' T hk=>?_
   refine Jz (s:={ s1 with heap:=h' }) T.z0 ?_
   refine⟨s1.heap.objs.size+4,[s1.heap.objs.size+4,s1.heap.objs.size+2,s1.heap.objs.size+3,s1.heap.objs.size,s1.heap.objs.size+1],_,_,H1,rfl,I1.kept (t':=s1.toks) hk,zx a b _ _ _ _ _ (zipApart_new la lb),⟨_,_,T⟩,λc hc=>?_,q⟩
   have:s1.heap.objs.size<=c:=by
    simp only[ak,ai,el]at hc
    rcases hc with rfl|rfl|rfl|rfl|rfl<;>simp
   exact I1.fpOk this (I1.hok.fresh this)
def tE:List D->Option (List D)
 | [.list as,.tuple bs]=>if as.length=bs.length then some (iG as bs)else none
 | _=>none
section
variable {X:Cx} {tg e1 e2:Expr} {ps:(List D->M (List D))->Pu (List D)} {p tp:Pos}
theorem CQ{F H:Hp}{vs:List V}{ds out:List D}{R:It->Hp->Prop}(s:Same F H)(r:RepL X.K F vs ds)(h:tE ds=some out)(k:∀J,Walk X.K J out F->R J H) :
  ∃a b,vs=[.ref a,.ref b]/\(∃ys,SqL X.K H a ys)/\(∃ys,SqT X.K H b ys)/\R (D0 X.K a b) H:=by
 unfold tE at h
 split at h
 ·split at h
  ·rename_i hl
   cases h
   obtain⟨v,u,rfl,r1,r2⟩:=r.two_inv
   obtain⟨a,as,rfl,a1,a2⟩:=r1.lst_inv
   obtain⟨b,bs,rfl,b1,b2⟩:=r2.tup_inv
   exact⟨_,_,rfl,⟨_,s.seq a1⟩,⟨_,SqT.of (s _ _ b1)⟩,k _ (zu a1 a2 (SqT.of b1) b2 hl)⟩
  ·cases h
 ·cases h
theorem DW{ps:Pa (List D)}(hg:Gl X "zip")(hm:X.mg "zip" = none)(ha:AA X [e1,e2] ps)(hs:starEach [e1,e2] X.env=[(false,eval e1 X.env),(false,eval e2 X.env)])(hs2:starEach [e2] X.env=[(false,eval e2 X.env)]):AI X (.Tuple elts x1 tp) (.Call (.Name "zip" p) [e1,e2] [] pos) (nq tE ps) :=
 λG F Z H ρ R S w=>wZ (De hg hm dQ hs hs2) (ha G F Z H ρ _ _ _ S w λds vs F1 H1 s1 S1 _ r1 w1=>by
  obtain⟨out,hd,k⟩:=w1.opt
  exact CQ S1.fh r1 hd (k F1 H1 (Same.refl _) S1))
end
section
variable {x:Str}
def Kc(K:Fg)(x:Str)(v:V):Prop:=∃u,PySem.W.nsIn K mainGlobals x=some (some u)/\RelV v u
theorem vY{u:Value}{v:V}(a:PySem.W.nsIn K mainGlobals x=some (some u))(r:RelV v u):Kc K x v:=⟨u,a,r⟩
theorem vZ{h:Heap}{mg:zzl}{v:V}(X:K.In h)(G:h.Ns mainGlobals mg)(c:Kc K x v):∃u,mg x=some u/\RelV v u:=let ⟨u,a,r⟩:=c;⟨u,am X G a,r⟩
end
end L4
set_option maxHeartbeats 8000000
namespace K62
open PySem PySem.Spec PyProof.Rows L2 L3 L4
variable {fd:FuncData}{mg:zzl}
noncomputable section
def top(i:Nat):Stmt:=PySem.Challenge.pw_passersby_k62_refutations_judged.main.body.getD i (.Pass ⟨0,0,0,0⟩)
abbrev BL:List Str:=["range", "len", "tuple", "list", "max", "repr", "enumerate", "isinstance", "all", "int", "str", "bool", "zip"]
def BN(mg:zzl):Prop:=∀x∈BL,mg x=none
theorem BN.range(B:BN mg):mg "range" = none:=B _ (by decide)
theorem BN.len(B:BN mg):mg "len" = none:=B _ (by decide)
theorem BN.tuple(B:BN mg):mg "tuple" = none:=B _ (by decide)
theorem BN.list(B:BN mg):mg "list" = none:=B _ (by decide)
theorem BN.max(B:BN mg):mg "max" = none:=B _ (by decide)
theorem BN.repr(B:BN mg):mg "repr" = none:=B _ (by decide)
theorem BN.enumerate(B:BN mg):mg "enumerate" = none:=B _ (by decide)
theorem BN.isinstance(B:BN mg):mg "isinstance" = none:=B _ (by decide)
theorem BN.all(B:BN mg):mg "all" = none:=B _ (by decide)
theorem BN.int(B:BN mg):mg "int" = none:=B _ (by decide)
theorem BN.str(B:BN mg):mg "str" = none:=B _ (by decide)
theorem BN.bool(B:BN mg):mg "bool" = none:=B _ (by decide)
theorem BN.zip(B:BN mg):mg "zip" = none:=B _ (by decide)
structure KN(mg:zzl):Prop where
 GREATEST:∃u,mg "GREATEST" = some u/\RelV (.int 1000000000000000) u
 MOST_DIVIDES:∃u,mg "MOST_DIVIDES" = some u/\RelV (.int 99) u
 MOST_WITHIN:∃u,mg "MOST_WITHIN" = some u/\RelV (.int 30) u
 MOST_RESTS:∃u,mg "MOST_RESTS" = some u/\RelV (.int 99) u
 MOST_CASES:∃u,mg "MOST_CASES" = some u/\RelV (.int 9) u
section
variable {P:Program} {w:World} {K:Fg} {base:Heap}
abbrev lC:Stmt:=top 1
abbrev yi:List Str:=["thing"]
theorem vG:FnScope yi ["thing"] (aL lC):=⟨rfl,rfl,rfl,by decide +kernel,rfl,by decide +kernel,by decide +kernel⟩
def lV(gag:D):M D :=
 bd (bd (bd (oM (gl "int" gag)) λb2=>if b2 then bd (oM (gl "bool" gag)) λb1=>.ret (!b1)else .ret false) λb3=>.ret (.bool b3)) λx4=>.ret x4
def oA:List D->M D:=λl=>match l with
 | [gag]=>lV gag
 | _=>.bad
theorem vO{f:Addr}(Fn:Fun K "is_whole" "is_whole" lC f fd)(hmg:mg "is_whole" = some (.ref f))(B:BN mg)(Kn:KN mg):CF P w K mg base "is_whole" 1 (spD K 1 oA) :=
 ⟨f,fd,["thing"],bF (k:=0) Fn vG (λcdv A outer s H E hr =>
  (aB (aK (aA (eK (cD (d9 (T := "int") (by decide) rfl B.isinstance rfl B.int (by decide +kernel) (ao (af (i:=0) rfl (vi rfl))) rfl rfl rfl) (dg (CL (d9 (T := "bool") (by decide) rfl B.isinstance rfl B.bool (by decide +kernel) (ao (af (i:=0) rfl (vi rfl))) rfl rfl rfl)))))))))
 (λds hl=>(by obtain⟨gag,rfl⟩:=ln1 hl;kernel_rfl)),hmg,Fn.kp,(Au Fn λ_ _ _ _ _ _ _=>rfl)⟩
abbrev j6:Stmt:=top 2
abbrev wC:List Str:=["thing", "least", "most"]
theorem t9:FnScope wC ["thing", "least", "most"] (aL j6):=⟨rfl,rfl,rfl,by decide +kernel,rfl,by decide +kernel,by decide +kernel⟩
def dD(gag:D)(gbP:D)(gbR:D):M D :=
 bd (bd (bd (bd (lV gag) λx1=>asB x1) λb3=>if b3 then bd (oM (nA gbP gag)) λb2=>if b2 then oM (nA gag gbR)else .ret false else .ret false) λb4=>.ret (.bool b4)) λx5=>.ret x5
def ey:List D->M D:=λl=>match l with
 | [gag,gbP,gbR]=>dD gag gbP gbR
 | _=>.bad
theorem uv{f:Addr}(Fn:Fun K "is_within" "is_within" j6 f fd)(hmg:mg "is_within" = some (.ref f))(B:BN mg)(Kn:KN mg)(gbG:CF P w K mg base "is_whole" 1 (spD K 1 oA)):CF P w K mg base "is_within" 2 (spD K 3 ey) :=
 ⟨f,fd,["thing", "least", "most"],bF (k:=1) Fn t9 (λcdv A outer s H E hr =>
  (aB (aK (aA (eK (cD (gY (aZ gbG hr.m (aa (af (i:=0) rfl (vi rfl)) aq))) (dg (wA mC mC mG mG (ao (af (i:=1) rfl (vi rfl))) (ao (af (i:=0) rfl (vi rfl))) (ao (af (i:=2) rfl (vi rfl))) (by with_unfolding_all rfl)))))))))
 (λds hl=>(by obtain⟨gag,gbP,gbR,rfl⟩:=ln3 hl;kernel_rfl)),hmg,Fn.kp,(n5 Fn λ_ _ _ _ _ _ _ _ _=>rfl)⟩
abbrev iX:Stmt:=top 3
abbrev rZ:List Str:=["thing", "many"]
theorem pO:FnScope rZ ["thing", "many"] (aL iX):=⟨rfl,rfl,rfl,by decide +kernel,rfl,by decide +kernel,by decide +kernel⟩
def bV(gag:D)(gbE:D):M D :=
 bd (bd (bd (oM (gl "tuple" gag)) λb2=>if b2 then bd (oM (cA [gag])) λx1=>oM (bD x1 gbE)else .ret false) λb3=>.ret (.bool b3)) λx4=>.ret x4
def cR:List D->M D:=λl=>match l with
 | [gag,gbE]=>bV gag gbE
 | _=>.bad
theorem qw{f:Addr}(Fn:Fun K "is_tuple_of" "is_tuple_of" iX f fd)(hmg:mg "is_tuple_of" = some (.ref f))(B:BN mg)(Kn:KN mg):CF P w K mg base "is_tuple_of" 1 (spD K 2 cR) :=
 ⟨f,fd,["thing", "many"],bF (k:=0) Fn pO (λcdv A outer s H E hr =>
  (aB (aK (aA (eK (cD (d9 (T := "tuple") (by decide) rfl B.isinstance rfl B.tuple (by decide +kernel) (ao (af (i:=0) rfl (vi rfl))) rfl rfl rfl) (dg (bQ (bm (aR hr)) bf (ao (aT aU bx B.len ay (aI (ao (af (i:=0) rfl (vi rfl))) aN))) (ao (af (i:=1) rfl (vi rfl)))))))))))
 (λds hl=>(by obtain⟨gag,gbE,rfl⟩:=ln2 hl;kernel_rfl)),hmg,Fn.kp,(jr Fn λ_ _ _ _ _ _ _ _=>rfl)⟩
abbrev jz:Stmt:=top 7
abbrev vh:List Str:=["thing"]
theorem rL:FnScope vh ["thing"] (aL jz):=⟨rfl,rfl,rfl,by decide +kernel,rfl,by decide +kernel,by decide +kernel⟩
def dH(gag:D):M D :=
 bd (bd (oM (bN (.int 1000000000000000))) λx1=>dD gag x1 (.int 1000000000000000)) λx2=>.ret x2
def gs:List D->M D:=λl=>match l with
 | [gag]=>dH gag
 | _=>.bad
theorem rM{f:Addr}(Fn:Fun K "is_bounded" "is_bounded" jz f fd)(hmg:mg "is_bounded" = some (.ref f))(B:BN mg)(Kn:KN mg)(gau:CF P w K mg base "is_within" 2 (spD K 3 ey)):CF P w K mg base "is_bounded" 3 (spD K 1 gs) :=
 ⟨f,fd,["thing"],bF (k:=2) Fn rL (λcdv A outer s H E hr =>
  (aB (aK (aA (aZ gau hr.m (aa (af (i:=0) rfl (vi rfl)) (aa (cL bK bT (ao (lf rfl Kn.GREATEST.choose_spec.1 Kn.GREATEST.choose_spec.2 (λ_=>.int _) (by decide)))) (aa (lf rfl Kn.GREATEST.choose_spec.1 Kn.GREATEST.choose_spec.2 (λ_=>.int _) (by decide)) aq))))))))
 (λds hl=>(by obtain⟨gag,rfl⟩:=ln1 hl;kernel_rfl)),hmg,Fn.kp,(Au Fn λ_ _ _ _ _ _ _=>rfl)⟩
abbrev iY:Stmt:=top 8
abbrev sj:List Str:=["many", "thing"]
theorem pQ:FnScope sj ["many", "thing"] (aL iY):=⟨rfl,rfl,rfl,by decide +kernel,rfl,by decide +kernel,by decide +kernel⟩
abbrev N_are_bounded_0:List Str:=["many", "thing", "number"]
theorem lL:N_are_bounded_0.Nodup:=by decide +kernel
def eQ(gbE:D)(gag:D):M D :=
 bd (bd (bd (bd (bV gag gbE) λx1=>asB x1) λb7=>if b7 then bd (bd (bd (oM (fj gag)) λl4=>bd (bH (λd2=>bd (dH d2) λx3=>.ret (some x3)) l4) dw) λl5=>.ret (PyData.list l5)) λx6=>oM (v8 [x6])else .ret false) λb8=>.ret (.bool b8)) λx9=>.ret x9
def ky:List D->M D:=λl=>match l with
 | [gbE,gag]=>eQ gbE gag
 | _=>.bad
theorem qz{f:Addr}(Fn:Fun K "are_bounded" "are_bounded" iY f fd)(hmg:mg "are_bounded" = some (.ref f))(B:BN mg)(Kn:KN mg)(gap:CF P w K mg base "is_tuple_of" 1 (spD K 2 cR))(gaG:CF P w K mg base "is_bounded" 3 (spD K 1 gs)):CF P w K mg base "are_bounded" 4 (spD K 2 ky) :=
 ⟨f,fd,["many", "thing"],bF (k:=3) Fn pQ (λcdv A outer s H E hr =>
  (aB (aK (aA (eK (cD (gY (aZ gap hr.m (aa (af (i:=1) rfl (vi rfl)) (aa (af (i:=0) rfl (vi rfl)) aq)))) (dg (rk (qV rfl) xA rfl B.all (by decide +kernel) (aI (ao (cm (cG (N':=N_are_bounded_0) (k:=1) rfl (bq (by kernel_rfl) rfl rfl) (df (af (i:=1) rfl (vi rfl))) (λ_ _ _ _ _=>(aY (i:=2) (show 2<=2 by decide) lL)) (λ_ _ _ _ _=>cb) (λ_ _ _ _ _=>(aZ gaG hr.m (aa (af (i:=2) rfl (vi rfl)) aq)))))) aN) (by decide) (by decide) rfl rfl))))))))
 (λds hl=>(by obtain⟨gbE,gag,rfl⟩:=ln2 hl;kernel_rfl)),hmg,Fn.kp,(jr Fn λ_ _ _ _ _ _ _ _=>rfl)⟩
abbrev nh:Stmt:=top 6
abbrev Ax:List Str:=["rooms", "sorts", "thing"]
theorem xa:FnScope Ax ["rooms", "sorts", "thing"] (aL nh):=⟨rfl,rfl,rfl,by decide +kernel,rfl,by decide +kernel,by decide +kernel⟩
def ie(gal:D)(gam:D)(gag:D):M D :=
 bd (bd (bd (bd (bV gag (.int 3)) λx1=>oM (dP x1)) λb2=>.ret (!b2)) λb6=>if b6 then .ret true else bd (bd (bd (oM (aD gag (.int 0))) λx3=>dH x3) λx4=>oM (dP x4)) λb5=>.ret (!b5)) λb7=>if b7 then
  .ret (.bool false)
  else
  bd (bd (bd (bd (bd (oM (aD gag (.int 1))) λx8=>eQ gal x8) λx9=>asB x9) λb12=>if b12 then bd (bd (oM (aD gag (.int 2))) λx10=>eQ gam x10) λx11=>asB x11 else .ret false) λb13=>.ret (.bool b13)) λx14=>.ret x14
def jK:List D->M D:=λl=>match l with
 | [gal,gam,gag]=>ie gal gam gag
 | _=>.bad
theorem xx{f:Addr}(Fn:Fun K "is_form" "is_form" nh f fd)(hmg:mg "is_form" = some (.ref f))(B:BN mg)(Kn:KN mg)(gbc:CF P w K mg base "are_bounded" 4 (spD K 2 ky))(gap:CF P w K mg base "is_tuple_of" 1 (spD K 2 cR))(gaG:CF P w K mg base "is_bounded" 3 (spD K 1 gs)):CF P w K mg base "is_form" 5 (spD K 3 jK) :=
 ⟨f,fd,["rooms", "sorts", "thing"],bF (k:=4) Fn xa (λcdv A outer s H E hr =>
  (au (bn (aW (dC (cK (bA (cp (ao (aZ gap hr.m (aa (af (i:=2) rfl (vi rfl)) (aa aj aq)))) (λ_=>rfl))) (cO (bA (cp (ao (aZ gaG hr.m (aa (aE az aC (ao (af (i:=2) rfl (vi rfl))) (ao aj)) aq))) (λ_=>rfl)))))))
  (aB (aK (aA cy)))
  aP)
  (aB (aK (aA (eK (cD (gY (aZ gbc hr.m (aa (af (i:=0) rfl (vi rfl)) (aa (aE az aC (ao (af (i:=2) rfl (vi rfl))) (ao aj)) aq)))) (dg (gY (aZ gbc hr.m (aa (af (i:=1) rfl (vi rfl)) (aa (aE az aC (ao (af (i:=2) rfl (vi rfl))) (ao aj)) aq))))))))))))
 (λds hl=>(by obtain⟨gal,gam,gag,rfl⟩:=ln3 hl;kernel_rfl)),hmg,Fn.kp,(n5 Fn λ_ _ _ _ _ _ _ _ _=>rfl)⟩
abbrev xg:Stmt:=top 9
abbrev Gq:List Str:=["form", "number"]
theorem C2:FnScope Gq ["form", "number"] (aL xg):=⟨rfl,rfl,rfl,by decide +kernel,rfl,by decide +kernel,by decide +kernel⟩
def jT(gbk:D)(gbK:D):M D :=
 bd (bd (bd (oM (aD gbk (.int 0))) λx1=>oM (aX x1 gbK)) λx2=>bd (oM (aD gbk (.int 1))) λx3=>bd (oM (aD gbk (.int 2))) λx4=>.ret (.tuple [x2,x3,x4])) λx5=>.ret x5
def pv:List D->M D:=λl=>match l with
 | [gbk,gbK]=>jT gbk gbK
 | _=>.bad
theorem Ds{f:Addr}(Fn:Fun K "plus" "plus" xg f fd)(hmg:mg "plus" = some (.ref f))(B:BN mg)(Kn:KN mg):CF P w K mg base "plus" 1 (spD K 2 pv) :=
 ⟨f,fd,["form", "number"],bF (k:=0) Fn C2 (λcdv A outer s H E hr =>
  (aB (aK (aA (aF (aa (aJ aV bh (ao (aE az aC (ao (af (i:=0) rfl (vi rfl))) (ao aj))) (ao (af (i:=1) rfl (vi rfl)))) (aa (aE az aC (ao (af (i:=0) rfl (vi rfl))) (ao aj)) (aa (aE az aC (ao (af (i:=0) rfl (vi rfl))) (ao aj)) aq))))))))
 (λds hl=>(by obtain⟨gbk,gbK,rfl⟩:=ln2 hl;kernel_rfl)),hmg,Fn.kp,(jr Fn λ_ _ _ _ _ _ _ _=>rfl)⟩
abbrev pR:Stmt:=top 10
abbrev CN:List Str:=["one", "other", "times", "ins", "ofs"]
theorem sc_summed:FnScope CN ["one", "other", "times"] (aL pR):=⟨rfl,rfl,rfl,by decide +kernel,rfl,by decide +kernel,by decide +kernel⟩
abbrev N_summed_0:List Str:=["one", "other", "times", "ins", "ofs", "here", "there"]
theorem lw:N_summed_0.Nodup:=by decide +kernel
abbrev N_summed_1:List Str:=["one", "other", "times", "ins", "ofs", "here", "there"]
theorem lv:N_summed_1.Nodup:=by decide +kernel
def kI(gbS:D)(gbH:D)(gaB:D):M D :=
 bd (bd (bd (bd (oM (aD gbS (.int 1))) λx1=>bd (oM (aD gbH (.int 1))) λx2=>oM (xO [x1,x2])) λl8=>bd (bH (λd3=>un2 d3 λy4 y5=>bd (bd (oM (bw gaB y5)) λx6=>oM (aX y4 x6)) λx7=>.ret (some x7)) l8) dw) λl9=>.ret (PyData.list l9)) λx10=>bd (bd (bd (bd (oM (aD gbS (.int 2))) λx11=>bd (oM (aD gbH (.int 2))) λx12=>oM (xO [x11,x12])) λl18=>bd (bH (λd13=>un2 d13 λy14 y15=>bd (bd (oM (bw gaB y15)) λx16=>oM (aX y14 x16)) λx17=>.ret (some x17)) l18) dw) λl19=>.ret (PyData.list l19)) λx20=>bd (bd (bd (oM (aD gbS (.int 0))) λx22=>bd (bd (oM (aD gbH (.int 0))) λx21=>oM (bw gaB x21)) λx23=>oM (aX x22 x23)) λx24=>bd (oM (cw [x10])) λx25=>bd (oM (cw [x20])) λx26=>.ret (.tuple [x24,x25,x26])) λx27=>.ret x27
def nN:List D->M D:=λl=>match l with
 | [gbS,gbH,gaB]=>kI gbS gbH gaB
 | _=>.bad
theorem zN{f:Addr}(Fn:Fun K "summed" "summed" pR f fd)(hmg:mg "summed" = some (.ref f))(B:BN mg)(Kn:KN mg):CF P w K mg base "summed" 1 (spD K 3 nN) :=
 ⟨f,fd,["one", "other", "times"],bF (k:=0) Fn sc_summed (λcdv A outer s H E hr =>
  (au (aS (sh:=[.f,.f,.f,.f,.dead]) (jU (i:=3) sc_summed.nd rfl (lo rfl) (.inl rfl) (N':=N_summed_0) (k:=2) rfl (bq (by kernel_rfl) rfl rfl) (CI rfl B.zip (aa (aE az aC (ao (af (i:=0) rfl (vi rfl))) (ao aj)) (aa (aE az aC (ao (af (i:=1) rfl (vi rfl))) (ao aj)) aq)) rfl rfl) (λ_ _ _ _ _=>(eY rfl (bJ (aY (i:=5) (show 5<=5 by decide) lw) (bJ (aY (i:=6) (show 5<=6 by decide) lw) eX rfl) rfl) rfl rfl)) (λ_ _ _ _ _=>cb) (λ_ _ _ _ _=>(aJ aV bh (ao (af (i:=5) rfl (vi rfl))) (ao (aJ cB cC (ao (af (i:=2) rfl (vi rfl))) (ao (af (i:=6) rfl (vi rfl))))))) rfl (λ_=>rfl)))
  (au (aS (sh:=[.f,.f,.f,.f,.f]) (jU (i:=4) sc_summed.nd rfl (lo rfl) (.inl rfl) (N':=N_summed_1) (k:=2) rfl (bq (by kernel_rfl) rfl rfl) (CI rfl B.zip (aa (aE az aC (ao (af (i:=0) rfl (vi rfl))) (ao aj)) (aa (aE az aC (ao (af (i:=1) rfl (vi rfl))) (ao aj)) aq)) rfl rfl) (λ_ _ _ _ _=>(eY rfl (bJ (aY (i:=5) (show 5<=5 by decide) lv) (bJ (aY (i:=6) (show 5<=6 by decide) lv) eX rfl) rfl) rfl rfl)) (λ_ _ _ _ _=>cb) (λ_ _ _ _ _=>(aJ aV bh (ao (af (i:=5) rfl (vi rfl))) (ao (aJ cB cC (ao (af (i:=2) rfl (vi rfl))) (ao (af (i:=6) rfl (vi rfl))))))) rfl (λ_=>rfl)))
  (aB (aK (aA (aF (aa (aJ aV bh (ao (aE az aC (ao (af (i:=0) rfl (vi rfl))) (ao aj))) (ao (aJ cB cC (ao (af (i:=2) rfl (vi rfl))) (ao (aE az aC (ao (af (i:=1) rfl (vi rfl))) (ao aj)))))) (aa (bt bg bR B.tuple (by decide +kernel) (aI (ao (af (i:=3) rfl (vi rfl))) aN)) (aa (bt bg bR B.tuple (by decide +kernel) (aI (ao (af (i:=4) rfl (vi rfl))) aN)) aq))))))))))
 (λds hl=>(by obtain⟨gbS,gbH,gaB,rfl⟩:=ln3 hl;kernel_rfl)),hmg,Fn.kp,(n5 Fn λ_ _ _ _ _ _ _ _ _=>rfl)⟩
abbrev pS:Stmt:=top 11
abbrev CO:List Str:=["rooms", "sorts"]
theorem zE:FnScope CO ["rooms", "sorts"] (aL pS):=⟨rfl,rfl,rfl,by decide +kernel,rfl,by decide +kernel,by decide +kernel⟩
def kJ(gal:D)(gam:D):M D :=
 bd (bd (oM (dF (.tuple [(.int 0)]) gal)) λx1=>bd (oM (dF (.tuple [(.int 0)]) gam)) λx2=>.ret (.tuple [(.int 0),x1,x2])) λx3=>.ret x3
def nO:List D->M D:=λl=>match l with
 | [gal,gam]=>kJ gal gam
 | _=>.bad
theorem zO{f:Addr}(Fn:Fun K "nought" "nought" pS f fd)(hmg:mg "nought" = some (.ref f))(B:BN mg)(Kn:KN mg):CF P w K mg base "nought" 1 (spD K 2 nO) :=
 ⟨f,fd,["rooms", "sorts"],bF (k:=0) Fn zE (λcdv A outer s H E hr =>
  (aB (aK (aA (aF (aa aj (aa (aJ fA fD (ao (aF (aa aj aq))) (ao (af (i:=0) rfl (vi rfl)))) (aa (aJ fA fD (ao (aF (aa aj aq))) (ao (af (i:=1) rfl (vi rfl)))) aq))))))))
 (λds hl=>(by obtain⟨gal,gam,rfl⟩:=ln2 hl;kernel_rfl)),hmg,Fn.kp,(jr Fn λ_ _ _ _ _ _ _ _=>rfl)⟩
abbrev nk:Stmt:=top 12
abbrev Az:List Str:=["form"]
theorem xf:FnScope Az ["form"] (aL nk):=⟨rfl,rfl,rfl,by decide +kernel,rfl,by decide +kernel,by decide +kernel⟩
def kZ(gbk:D):M D :=
 bd (bd (bd (bd (oM (aD gbk (.int 1))) λx1=>oM (cA [x1])) λx2=>bd (bd (oM (aD gbk (.int 2))) λx3=>oM (cA [x3])) λx4=>kJ x2 x4) λx5=>bd (oM (bN (.int 1))) λx6=>kI x5 gbk x6) λx7=>.ret x7
def qE:List D->M D:=λl=>match l with
 | [gbk]=>kZ gbk
 | _=>.bad
theorem xB{f:Addr}(Fn:Fun K "against" "against" nk f fd)(hmg:mg "against" = some (.ref f))(B:BN mg)(Kn:KN mg)(gbw:CF P w K mg base "summed" 1 (spD K 3 nN))(gbx:CF P w K mg base "nought" 1 (spD K 2 nO)):CF P w K mg base "against" 2 (spD K 1 qE) :=
 ⟨f,fd,["form"],bF (k:=1) Fn xf (λcdv A outer s H E hr =>
  (aB (aK (aA (aZ gbw hr.m (aa (aZ gbx hr.m (aa (aT aU bx B.len ay (aI (ao (aE az aC (ao (af (i:=0) rfl (vi rfl))) (ao aj))) aN)) (aa (aT aU bx B.len ay (aI (ao (aE az aC (ao (af (i:=0) rfl (vi rfl))) (ao aj))) aN)) aq))) (aa (af (i:=0) rfl (vi rfl)) (aa (cL bK bT (ao aj)) aq))))))))
 (λds hl=>(by obtain⟨gbk,rfl⟩:=ln1 hl;kernel_rfl)),hmg,Fn.kp,(Au Fn λ_ _ _ _ _ _ _=>rfl)⟩
abbrev nj:Stmt:=top 15
abbrev Ay:List Str:=["rooms", "sorts", "thing"]
theorem xb:FnScope Ay ["rooms", "sorts", "thing"] (aL nj):=⟨rfl,rfl,rfl,by decide +kernel,rfl,by decide +kernel,by decide +kernel⟩
def kY(gal:D)(gam:D)(gag:D):M D :=
 bd (bd (bd (oM (gl "tuple" gag)) λb1=>.ret (!b1)) λb7=>if b7 then .ret true else bd (bd (oM (cA [gag])) λx2=>oM (uo x2 (.int 2))) λb6=>if b6 then .ret true else bd (bd (bd (oM (aD gag (.int 1))) λx3=>ie gal gam x3) λx4=>oM (dP x4)) λb5=>.ret (!b5)) λb8=>if b8 then
  .ret (.bool false)
  else
  bd (bd (oM (aD gag (.int 0))) λx9=>oM (lh x9 (.tuple [(.str "least"),(.str "same")]))) λb10=>if b10 then
  bd (bd (bd (oM (cA [gag])) λx11=>oM (bD x11 (.int 2))) λb12=>.ret (.bool b12)) λx13=>.ret x13
  else
  bd (bd (bd (bd (oM (aD gag (.int 0))) λx14=>oM (bD x14 (.str "rest"))) λb19=>if b19 then bd (bd (oM (cA [gag])) λx15=>oM (bD x15 (.int 3))) λb18=>if b18 then bd (bd (oM (aD gag (.int 2))) λx16=>dD x16 (.int 2) (.int 99)) λx17=>asB x17 else .ret false else .ret false) λb20=>.ret (.bool b20)) λx21=>.ret x21
def lP:List D->M D:=λl=>match l with
 | [gal,gam,gag]=>kY gal gam gag
 | _=>.bad
theorem xy{f:Addr}(Fn:Fun K "is_fact" "is_fact" nj f fd)(hmg:mg "is_fact" = some (.ref f))(B:BN mg)(Kn:KN mg)(gau:CF P w K mg base "is_within" 2 (spD K 3 ey))(ga7:CF P w K mg base "is_form" 5 (spD K 3 jK)):CF P w K mg base "is_fact" 6 (spD K 3 lP) :=
 ⟨f,fd,["rooms", "sorts", "thing"],bF (k:=5) Fn xb (λcdv A outer s H E hr =>
  (au (bn (aW (dC (cK (bA (gU (d9 (T := "tuple") (by decide) rfl B.isinstance rfl B.tuple (by decide +kernel) (ao (af (i:=2) rfl (vi rfl))) rfl rfl rfl) (λ_=>rfl))) (cK (bc sV sX (ao (aT aU bx B.len ay (aI (ao (af (i:=2) rfl (vi rfl))) aN))) (ao aj)) (cO (bA (cp (ao (aZ ga7 hr.m (aa (af (i:=0) rfl (vi rfl)) (aa (af (i:=1) rfl (vi rfl)) (aa (aE az aC (ao (af (i:=2) rfl (vi rfl))) (ao aj)) aq))))) (λ_=>rfl))))))))
  (aB (aK (aA cy)))
  aP)
  (au (bn (aW (bc (qr (aR hr)) bf (ao (aE az aC (ao (af (i:=2) rfl (vi rfl))) (ao aj))) (ao (aF (aa aM (aa aM aq))))))
  (aB (aK (aA (eK (bQ (bm (aR hr)) bf (ao (aT aU bx B.len ay (aI (ao (af (i:=2) rfl (vi rfl))) aN))) (ao aj))))))
  aP)
  (aB (aK (aA (eK (cD (bQ (bm (aR hr)) bf (ao (aE az aC (ao (af (i:=2) rfl (vi rfl))) (ao aj))) (ao aM)) (cD (bQ (bm (aR hr)) bf (ao (aT aU bx B.len ay (aI (ao (af (i:=2) rfl (vi rfl))) aN))) (ao aj)) (dg (gY (aZ gau hr.m (aa (aE az aC (ao (af (i:=2) rfl (vi rfl))) (ao aj)) (aa aj (aa (lf rfl Kn.MOST_DIVIDES.choose_spec.1 Kn.MOST_DIVIDES.choose_spec.2 (λ_=>.int _) (by decide)) aq)))))))))))))))
 (λds hl=>(by obtain⟨gal,gam,gag,rfl⟩:=ln3 hl;kernel_rfl)),hmg,Fn.kp,(n5 Fn λ_ _ _ _ _ _ _ _ _=>rfl)⟩
abbrev pU:Stmt:=top 16
abbrev CP:List Str:=["fact"]
theorem zF:FnScope CP ["fact"] (aL pU):=⟨rfl,rfl,rfl,by decide +kernel,rfl,by decide +kernel,by decide +kernel⟩
def jl(ga5:D):M D :=
 bd (bd (bd (bd (oM (aD ga5 (.int 1))) λx1=>kZ x1) λx2=>bd (oM (bN (.int 1))) λx3=>jT x2 x3) λx4=>.ret (.tuple [(.str "least"),x4])) λx5=>.ret x5
def nP:List D->M D:=λl=>match l with
 | [ga5]=>jl ga5
 | _=>.bad
theorem zP{f:Addr}(Fn:Fun K "not_of" "not_of" pU f fd)(hmg:mg "not_of" = some (.ref f))(B:BN mg)(Kn:KN mg)(gbz:CF P w K mg base "plus" 1 (spD K 2 pv))(gbM:CF P w K mg base "against" 2 (spD K 1 qE)):CF P w K mg base "not_of" 3 (spD K 1 nP) :=
 ⟨f,fd,["fact"],bF (k:=2) Fn zF (λcdv A outer s H E hr =>
  (aB (aK (aA (aF (aa aM (aa (aZ gbz hr.m (aa (aZ gbM hr.m (aa (aE az aC (ao (af (i:=0) rfl (vi rfl))) (ao aj)) aq)) (aa (cL bK bT (ao aj)) aq))) aq)))))))
 (λds hl=>(by obtain⟨ga5,rfl⟩:=ln1 hl;kernel_rfl)),hmg,Fn.kp,(Au Fn λ_ _ _ _ _ _ _=>rfl)⟩
abbrev jA:Stmt:=top 17
abbrev vj:List Str:=["fact", "form"]
theorem sc_denials_of:FnScope vj ["fact"] (aL jA):=⟨rfl,rfl,rfl,by decide +kernel,rfl,by decide +kernel,by decide +kernel⟩
abbrev N_denials_of_0:List Str:=["fact", "form", "k"]
theorem mJ:N_denials_of_0.Nodup:=by decide +kernel
def hW(ga5:D):M D :=
 bd (oM (aD ga5 (.int 1))) λx1=>bd (bd (oM (aD ga5 (.int 0))) λx2=>oM (bD x2 (.str "least"))) λb3=>if b3 then
  bd (bd (bd (jl ga5) λx4=>.ret [x4]) λl5=>.ret (PyData.list l5)) λx6=>.ret x6
  else
  bd (bd (oM (aD ga5 (.int 0))) λx7=>oM (bD x7 (.str "same"))) λb8=>if b8 then
  bd (bd (bd (bd (bd (oM (bN (.int 1))) λx9=>jT x1 x9) λx10=>.ret (.tuple [(.str "least"),x10])) λx11=>bd (jl ga5) λx12=>.ret [x11,x12]) λl13=>.ret (PyData.list l13)) λx14=>.ret x14
  else
  bd (bd (bd (bd (oM (aD ga5 (.int 2))) λx15=>oM (eC [(.int 1),x15])) λl21=>bd (bH (λd16=>bd (bd (bd (oM (bN d16)) λx17=>jT x1 x17) λx18=>bd (oM (aD ga5 (.int 2))) λx19=>.ret (.tuple [(.str "rest"),x18,x19])) λx20=>.ret (some x20)) l21) dw) λl22=>.ret (PyData.list l22)) λx23=>.ret x23
def i8:List D->M D:=λl=>match l with
 | [ga5]=>hW ga5
 | _=>.bad
theorem rN{f:Addr}(Fn:Fun K "denials_of" "denials_of" jA f fd)(hmg:mg "denials_of" = some (.ref f))(B:BN mg)(Kn:KN mg)(gbn:CF P w K mg base "not_of" 3 (spD K 1 nP))(gbz:CF P w K mg base "plus" 1 (spD K 2 pv)):CF P w K mg base "denials_of" 4 (spD K 1 i8) :=
 ⟨f,fd,["fact"],bF (k:=3) Fn sc_denials_of (λcdv A outer s H E hr =>
  (au (aS (sh:=[.f,.f]) (aO (i:=1) sc_denials_of.nd (aA (aE az aC (ao (af (i:=0) rfl (vi rfl))) (ao aj)))))
  (au (bn (aW (bc (bm (aR hr)) bf (ao (aE az aC (ao (af (i:=0) rfl (vi rfl))) (ao aj))) (ao aM)))
  (aB (aK (aA (cm (bB (aa (aZ gbn hr.m (aa (af (i:=0) rfl (vi rfl)) aq)) aq))))))
  aP)
  (au (bn (aW (bc (bm (aR hr)) bf (ao (aE az aC (ao (af (i:=0) rfl (vi rfl))) (ao aj))) (ao aM)))
  (aB (aK (aA (cm (bB (aa (aF (aa aM (aa (aZ gbz hr.m (aa (af (i:=1) rfl (vi rfl)) (aa (cL bK bT (ao aj)) aq))) aq))) (aa (aZ gbn hr.m (aa (af (i:=0) rfl (vi rfl)) aq)) aq)))))))
  aP)
  (aB (aK (aA (cm (cG (N':=N_denials_of_0) (k:=1) rfl (bq (by kernel_rfl) rfl rfl) (lg rfl B.range (aa aj (aa (aE az aC (ao (af (i:=0) rfl (vi rfl))) (ao aj)) aq)) rfl rfl) (λ_ _ _ _ _=>(aY (i:=2) (show 2<=2 by decide) mJ)) (λ_ _ _ _ _=>cb) (λ_ _ _ _ _=>(aF (aa aM (aa (aZ gbz hr.m (aa (af (i:=1) rfl (vi rfl)) (aa (cL bK bT (ao (af (i:=2) rfl (vi rfl)))) aq))) (aa (aE az aC (ao (af (i:=0) rfl (vi rfl))) (ao aj)) aq))))))))))))))
 (λds hl=>(by obtain⟨ga5,rfl⟩:=ln1 hl;kernel_rfl)),hmg,Fn.kp,(Au Fn λ_ _ _ _ _ _ _=>rfl)⟩
abbrev fV:Stmt:=top 30
abbrev n6:List Str:=["rooms", "sorts", "thing", "least"]
theorem sc_split_branches:FnScope n6 ["rooms", "sorts", "thing"] (aL fV):=⟨rfl,rfl,rfl,by decide +kernel,rfl,by decide +kernel,by decide +kernel⟩
def eD(gal:D)(gam:D)(gag:D):M D :=
 bd (bd (bd (bd (oM (aD gag (.int 1))) λx1=>ie gal gam x1) λx2=>oM (dP x2)) λb3=>.ret (!b3)) λb4=>if b4 then
  .ret .none
  else
  bd (bd (oM (aD gag (.int 1))) λx5=>.ret (.tuple [(.str "least"),x5])) λx6=>bd (bd (bd (bd (oM (aD gag (.int 2))) λx7=>.ret (.tuple [x6,x7])) λx8=>bd (bd (jl x6) λx9=>bd (oM (aD gag (.int 3))) λx10=>.ret (.tuple [x9,x10])) λx11=>.ret [x8,x11]) λl12=>.ret (PyData.list l12)) λx13=>.ret x13
def fE:List D->M D:=λl=>match l with
 | [gal,gam,gag]=>eD gal gam gag
 | _=>.bad
theorem mE{f:Addr}(Fn:Fun K "split_branches" "split_branches" fV f fd)(hmg:mg "split_branches" = some (.ref f))(B:BN mg)(Kn:KN mg)(ga7:CF P w K mg base "is_form" 5 (spD K 3 jK))(gbn:CF P w K mg base "not_of" 3 (spD K 1 nP)):CF P w K mg base "split_branches" 6 (spD K 3 fE) :=
 ⟨f,fd,["rooms", "sorts", "thing"],bF (k:=5) Fn sc_split_branches (λcdv A outer s H E hr =>
  (au (bn (aW (bA (cp (ao (aZ ga7 hr.m (aa (af (i:=0) rfl (vi rfl)) (aa (af (i:=1) rfl (vi rfl)) (aa (aE az aC (ao (af (i:=2) rfl (vi rfl))) (ao aj)) aq))))) (λ_=>rfl))))
  (aB (aK (aA eN)))
  aP)
  (au (aS (sh:=[.dead,.dead,.f,.f]) (aO (i:=3) sc_split_branches.nd (aA (aF (aa aM (aa (aE az aC (ao (af (i:=2) rfl (vi rfl))) (ao aj)) aq))))))
  (aB (aK (aA (cm (bB (aa (aF (aa (af (i:=3) rfl (vi rfl)) (aa (aE az aC (ao (af (i:=2) rfl (vi rfl))) (ao aj)) aq))) (aa (aF (aa (aZ gbn hr.m (aa (af (i:=3) rfl (vi rfl)) aq)) (aa (aE az aC (ao (af (i:=2) rfl (vi rfl))) (ao aj)) aq))) aq))))))))))
 (λds hl=>(by obtain⟨gal,gam,gag,rfl⟩:=ln3 hl;kernel_rfl)),hmg,Fn.kp,(n5 Fn λ_ _ _ _ _ _ _ _ _=>rfl)⟩
abbrev fX:Stmt:=top 31
abbrev n9:List Str:=["rooms", "sorts", "thing", "form", "m"]
theorem sc_cases_branches:FnScope n9 ["rooms", "sorts", "thing"] (aL fX):=⟨rfl,rfl,rfl,by decide +kernel,rfl,by decide +kernel,by decide +kernel⟩
abbrev N_cases_branches_0:List Str:=["rooms", "sorts", "thing", "form", "m", "k", "part"]
theorem fR:N_cases_branches_0.Nodup:=by decide +kernel
def eG(gal:D)(gam:D)(gag:D):M D :=
 bd (oM (aD gag (.int 1))) λx1=>bd (oM (aD gag (.int 2))) λx2=>bd (bd (bd (bd (ie gal gam x1) λx3=>oM (dP x3)) λb4=>.ret (!b4)) λb11=>if b11 then .ret true else bd (bd (bd (dD x2 (.int 2) (.int 9)) λx5=>oM (dP x5)) λb6=>.ret (!b6)) λb10=>if b10 then .ret true else bd (bd (bd (oM (aD gag (.int 3))) λx7=>bV x7 x2) λx8=>oM (dP x8)) λb9=>.ret (!b9)) λb12=>if b12 then
  .ret .none
  else
  bd (bd (bd (bd (oM (aD gag (.int 3))) λx13=>oM (v7 [x13])) λl21=>bd (bH (λd14=>un2 d14 λy15 y16=>bd (bd (bd (bd (oM (bN y15)) λx17=>jT x1 x17) λx18=>.ret (.tuple [(.str "rest"),x18,x2])) λx19=>.ret (.tuple [x19,y16])) λx20=>.ret (some x20)) l21) dw) λl22=>.ret (PyData.list l22)) λx23=>.ret x23
def fG:List D->M D:=λl=>match l with
 | [gal,gam,gag]=>eG gal gam gag
 | _=>.bad
theorem mH{f:Addr}(Fn:Fun K "cases_branches" "cases_branches" fX f fd)(hmg:mg "cases_branches" = some (.ref f))(B:BN mg)(Kn:KN mg)(ga7:CF P w K mg base "is_form" 5 (spD K 3 jK))(gau:CF P w K mg base "is_within" 2 (spD K 3 ey))(gap:CF P w K mg base "is_tuple_of" 1 (spD K 2 cR))(gbz:CF P w K mg base "plus" 1 (spD K 2 pv)):CF P w K mg base "cases_branches" 6 (spD K 3 fG) :=
 ⟨f,fd,["rooms", "sorts", "thing"],bF (k:=5) Fn sc_cases_branches (λcdv A outer s H E hr =>
  (au (aS (sh:=[.f,.f,.f,.f,.dead]) (aO (i:=3) sc_cases_branches.nd (aA (aE az aC (ao (af (i:=2) rfl (vi rfl))) (ao aj)))))
  (au (aS (sh:=[.f,.f,.f,.f,.f]) (aO (i:=4) sc_cases_branches.nd (aA (aE az aC (ao (af (i:=2) rfl (vi rfl))) (ao aj)))))
  (au (bn (aW (dC (cK (bA (cp (ao (aZ ga7 hr.m (aa (af (i:=0) rfl (vi rfl)) (aa (af (i:=1) rfl (vi rfl)) (aa (af (i:=3) rfl (vi rfl)) aq))))) (λ_=>rfl))) (cK (bA (cp (ao (aZ gau hr.m (aa (af (i:=4) rfl (vi rfl)) (aa aj (aa (lf rfl Kn.MOST_CASES.choose_spec.1 Kn.MOST_CASES.choose_spec.2 (λ_=>.int _) (by decide)) aq))))) (λ_=>rfl))) (cO (bA (cp (ao (aZ gap hr.m (aa (aE az aC (ao (af (i:=2) rfl (vi rfl))) (ao aj)) (aa (af (i:=4) rfl (vi rfl)) aq)))) (λ_=>rfl))))))))
  (aB (aK (aA eN)))
  aP)
  (aB (aK (aA (cm (cG (N':=N_cases_branches_0) (k:=2) rfl (bq (by kernel_rfl) rfl rfl) (DX rfl B.enumerate (aa (aE az aC (ao (af (i:=2) rfl (vi rfl))) (ao aj)) aq) rfl) (λ_ _ _ _ _=>(eY rfl (bJ (aY (i:=5) (show 5<=5 by decide) fR) (bJ (aY (i:=6) (show 5<=6 by decide) fR) eX rfl) rfl) rfl rfl)) (λ_ _ _ _ _=>cb) (λ_ _ _ _ _=>(aF (aa (aF (aa aM (aa (aZ gbz hr.m (aa (af (i:=3) rfl (vi rfl)) (aa (cL bK bT (ao (af (i:=5) rfl (vi rfl)))) aq))) (aa (af (i:=4) rfl (vi rfl)) aq)))) (aa (af (i:=6) rfl (vi rfl)) aq)))))))))))))
 (λds hl=>(by obtain⟨gal,gam,gag,rfl⟩:=ln3 hl;kernel_rfl)),hmg,Fn.kp,(n5 Fn λ_ _ _ _ _ _ _ _ _=>rfl)⟩
abbrev jy:Stmt:=top 23
abbrev yh:List Str:=["depth", "rooms", "sorts", "facts", "fact", "thing", "denials", "denial", "part"]
theorem sc_shows_at:FnScope yh ["depth", "rooms", "sorts", "facts", "fact", "thing"] (aL jy):=⟨rfl,rfl,rfl,by decide +kernel,rfl,by decide +kernel,by decide +kernel⟩
def lA(s_refutes_at_:D->D->D->D->D->M D)(gbA:D)(gaY:D)(gaZ:D)(gaA:D):M D :=
 .ret (.bool true)
def gv(s_refutes_at_:D->D->D->D->D->M D)(gbA:D)(gaY:D)(gaZ:D)(gaA:D)(d_:D)(kn7:D×D×D×D×Unit->M D):M D :=
 un2 d_ λy8 y9=>bd (bd (bd (bd (oM (aX gaA (.tuple [y8]))) λx10=>s_refutes_at_ gbA gaY gaZ x10 y9) λx11=>oM (dP x11)) λb12=>.ret (!b12)) λb13=>if b13 then
  .ret (.bool false)
  else
  kn7 (gbA,gaY,gaZ,gaA,())
def jR(s_refutes_at_:D->D->D->D->D->M D)(gaI:D)(gal:D)(gam:D)(gao:D)(ga5:D)(gag:D):M D :=
 bd (hW ga5) λx1=>bd (bd (bd (bd (oM (cA [x1])) λx2=>bV gag x2) λx3=>oM (dP x3)) λb4=>.ret (!b4)) λb5=>if b5 then
  .ret (.bool false)
  else
  bd (oM (tE [x1,gag])) λl6=>gT (λs14 d15 kn=>gv s_refutes_at_ s14.1 s14.2.1 s14.2.2.1 s14.2.2.2.1 d15 kn) l6 (gaI,gal,gam,gao,()) (λs14=>lA s_refutes_at_ s14.1 s14.2.1 s14.2.2.1 s14.2.2.2.1)
abbrev eS:Stmt:=top 32
abbrev oX:List Str:=["depth", "rooms", "sorts", "facts", "thing", "fact"]
theorem sc_know_branches:FnScope oX ["depth", "rooms", "sorts", "facts", "thing"] (aL eS):=⟨rfl,rfl,rfl,by decide +kernel,rfl,by decide +kernel,by decide +kernel⟩
def fL(s_shows_at_:D->D->D->D->D->D->M D)(gaI:D)(gal:D)(gam:D)(gao:D)(gag:D):M D :=
 bd (oM (aD gag (.int 1))) λx1=>bd (bd (bd (bd (kY gal gam x1) λx2=>oM (dP x2)) λb3=>.ret (!b3)) λb8=>if b8 then .ret true else bd (bd (bd (oM (aX gaI (.int 1))) λx4=>bd (oM (aD gag (.int 2))) λx5=>s_shows_at_ x4 gal gam gao x1 x5) λx6=>oM (dP x6)) λb7=>.ret (!b7)) λb9=>if b9 then
  .ret .none
  else
  bd (bd (bd (bd (oM (aD gag (.int 3))) λx10=>.ret (.tuple [x1,x10])) λx11=>.ret [x11]) λl12=>.ret (PyData.list l12)) λx13=>.ret x13
abbrev gq:Stmt:=top 29
abbrev sg:List Str:=["depth", "rooms", "sorts", "facts", "thing"]
theorem pP:FnScope sg ["depth", "rooms", "sorts", "facts", "thing"] (aL gq):=⟨rfl,rfl,rfl,by decide +kernel,rfl,by decide +kernel,by decide +kernel⟩
def eW(s_know_branches_:D->D->D->D->D->M D)(gaI:D)(gal:D)(gam:D)(gao:D)(gag:D):M D :=
 bd (bd (oM (cA [gag])) λx1=>oM (fi x1 (.int 4))) λb2=>if b2 then
  .ret .none
  else
  bd (bd (oM (aD gag (.int 0))) λx3=>oM (bD x3 (.str "split"))) λb4=>if b4 then
  bd (eD gal gam gag) λx5=>.ret x5
  else
  bd (bd (oM (aD gag (.int 0))) λx6=>oM (bD x6 (.str "cases"))) λb7=>if b7 then
  bd (eG gal gam gag) λx8=>.ret x8
  else
  bd (bd (oM (aD gag (.int 0))) λx9=>oM (bD x9 (.str "know"))) λb10=>if b10 then
  bd (s_know_branches_ gaI gal gam gao gag) λx11=>.ret x11
  else
  .ret .none
abbrev gK:Stmt:=top 28
abbrev oY:List Str:=["rooms", "sorts", "facts", "times", "form", "i", "t"]
theorem sc_come_together:FnScope oY ["rooms", "sorts", "facts", "times"] (aL gK):=⟨rfl,rfl,rfl,by decide +kernel,rfl,by decide +kernel,by decide +kernel⟩
def lW(gaA:D)(gbT:D):M D :=
 .ret gbT
def iE(gaA:D)(gbT:D)(d_:D)(kn3:D×D×Unit->M D):M D :=
 un2 d_ λy4 y5=>bd (bd (bd (oM (aD gaA y4)) λx6=>oM (aD x6 (.int 1))) λx7=>kI gbT x7 y5) λx8=>kn3 (gaA,x8,())
def dL(gal:D)(gam:D)(gao:D)(gaB:D):M D :=
 bd (kJ gal gam) λx1=>bd (oM (fj gaB)) λl2=>gT (λs9 d10 kn=>iE s9.1 s9.2.1 d10 kn) l2 (gao,x1,()) (λs9=>lW s9.1 s9.2.1)
def gc:List D->M D:=λl=>match l with
 | [gal,gam,gao,gaB]=>dL gal gam gao gaB
 | _=>.bad
theorem nF{f:Addr}(Fn:Fun K "come_together" "come_together" gK f fd)(hmg:mg "come_together" = some (.ref f))(B:BN mg)(Kn:KN mg)(gbx:CF P w K mg base "nought" 1 (spD K 2 nO))(gbw:CF P w K mg base "summed" 1 (spD K 3 nN)):CF P w K mg base "come_together" 2 (spD K 4 gc) :=
 ⟨f,fd,["rooms", "sorts", "facts", "times"],bF (k:=1) Fn sc_come_together (λcdv A outer s H E hr =>
  (au (aS (sh:=[.dead,.dead,.f,.f,.f,.dead,.dead]) (aO (i:=4) sc_come_together.nd (aA (aZ gbx hr.m (aa (af (i:=0) rfl (vi rfl)) (aa (af (i:=1) rfl (vi rfl)) aq))))))
  (au (dm (sh:=[.dead,.dead,.f,.dead,.f,.dead,.dead]) PassesOwn.leaving rfl (e8 (df (af (i:=3) rfl (vi rfl)))) (eY rfl (bJ (aY (i:=5) (gh _) sc_come_together.nd) (bJ (aY (i:=6) (gh _) sc_come_together.nd) eX rfl) rfl) rfl rfl)
  (aB (aO (i:=4) sc_come_together.nd (aA (aZ gbw hr.m (aa (af (i:=4) rfl (vi rfl)) (aa (aE az aC (ao (aE az aC (ao (af (i:=2) rfl (vi rfl))) (ao (af (i:=5) rfl (vi rfl))))) (ao aj)) (aa (af (i:=6) rfl (vi rfl)) aq))))))))
  (aB (aK (aA (af (i:=4) rfl (vi rfl))))))))
 (λds hl=>(by obtain⟨gal,gam,gao,gaB,rfl⟩:=ln4 hl;kernel_rfl)),hmg,Fn.kp,(xX Fn λ_ _ _ _ _ _ _ _ _ _=>rfl)⟩
abbrev j7:Stmt:=top 27
abbrev wD:List Str:=["facts", "thing", "ahead", "part"]
theorem sc_are_times:FnScope wD ["facts", "thing"] (aL j7):=⟨rfl,rfl,rfl,by decide +kernel,rfl,by decide +kernel,by decide +kernel⟩
def kK(gaA:D)(gbU:D):M D :=
 .ret (.bool true)
def d0(gaA:D)(gbU:D)(d_:D)(kn5:D×D×Unit->M D):M D :=
 bd (bd (bd (bd (bV d_ (.int 2)) λx6=>oM (dP x6)) λb7=>.ret (!b7)) λb14=>if b14 then .ret true else bd (bd (bd (oM (aD d_ (.int 0))) λx8=>bd (oM (aX gbU (.int 1))) λx9=>bd (bd (oM (cA [gaA])) λx10=>oM (fP x10 (.int 1))) λx11=>dD x8 x9 x11) λx12=>oM (dP x12)) λb13=>.ret (!b13)) λb15=>if b15 then
  .ret (.bool false)
  else
  bd (bd (bd (bd (bd (oM (aD d_ (.int 1))) λx16=>dH x16) λx17=>oM (dP x17)) λb18=>.ret (!b18)) λb20=>if b20 then .ret true else bd (oM (aD d_ (.int 1))) λx19=>oM (bD x19 (.int 0))) λb21=>if b21 then
  .ret (.bool false)
  else
  bd (oM (aD d_ (.int 0))) λx22=>kn5 (gaA,x22,())
def gC(gao:D)(gag:D):M D :=
 bd (bd (oM (gl "tuple" gag)) λb1=>.ret (!b1)) λb2=>if b2 then
  .ret (.bool false)
  else
  bd (oM (bN (.int 1))) λx3=>bd (oM (fj gag)) λl4=>gT (λs23 d24 kn=>d0 s23.1 s23.2.1 d24 kn) l4 (gao,x3,()) (λs23=>kK s23.1 s23.2.1)
def jL:List D->M D:=λl=>match l with
 | [gao,gag]=>gC gao gag
 | _=>.bad
theorem uz{f:Addr}(Fn:Fun K "are_times" "are_times" j7 f fd)(hmg:mg "are_times" = some (.ref f))(B:BN mg)(Kn:KN mg)(gap:CF P w K mg base "is_tuple_of" 1 (spD K 2 cR))(gau:CF P w K mg base "is_within" 2 (spD K 3 ey))(gaG:CF P w K mg base "is_bounded" 3 (spD K 1 gs)):CF P w K mg base "are_times" 4 (spD K 2 jL) :=
 ⟨f,fd,["facts", "thing"],bF (k:=3) Fn sc_are_times (λcdv A outer s H E hr =>
  (au (bn (aW (bA (gU (d9 (T := "tuple") (by decide) rfl B.isinstance rfl B.tuple (by decide +kernel) (ao (af (i:=1) rfl (vi rfl))) rfl rfl rfl) (λ_=>rfl))))
  (aB (aK (aA cy)))
  aP)
  (au (aS (sh:=[.f,.f,.f,.dead]) (aO (i:=2) sc_are_times.nd (aA (cL bK bT (ao aj)))))
  (au (dm (sh:=[.f,.dead,.f,.dead]) PassesOwn.leaving rfl (e8 (df (af (i:=1) rfl (vi rfl)))) (aY (i:=3) (gh _) sc_are_times.nd)
  (au (bn (aW (dC (cK (bA (cp (ao (aZ gap hr.m (aa (af (i:=3) rfl (vi rfl)) (aa aj aq)))) (λ_=>rfl))) (cO (bA (cp (ao (aZ gau hr.m (aa (aE az aC (ao (af (i:=3) rfl (vi rfl))) (ao aj)) (aa (aJ aV bh (ao (af (i:=2) rfl (vi rfl))) (ao aj)) (aa (aJ fy fB (ao (aT aU bx B.len ay (aI (ao (af (i:=0) rfl (vi rfl))) aN))) (ao aj)) aq))))) (λ_=>rfl)))))))
  (aB (aK (aA cy)))
  aP)
  (au (bn (aW (dC (cK (bA (cp (ao (aZ gaG hr.m (aa (aE az aC (ao (af (i:=3) rfl (vi rfl))) (ao aj)) aq))) (λ_=>rfl))) (cO (bc (bm (aR hr)) bf (ao (aE az aC (ao (af (i:=3) rfl (vi rfl))) (ao aj))) (ao aj))))))
  (aB (aK (aA cy)))
  aP)
  (aB (aO (i:=2) sc_are_times.nd (aA (aE az aC (ao (af (i:=3) rfl (vi rfl))) (ao aj))))))))
  (aB (aK (aA cy)))))))
 (λds hl=>(by obtain⟨gao,gag,rfl⟩:=ln2 hl;kernel_rfl)),hmg,Fn.kp,(jr Fn λ_ _ _ _ _ _ _ _=>rfl)⟩
abbrev fW:Stmt:=top 25
abbrev n8:List Str:=["rooms", "sorts", "facts", "times", "i", "t", "form"]
theorem sc_refutes_by_sum:FnScope n8 ["rooms", "sorts", "facts", "times"] (aL fW):=⟨rfl,rfl,rfl,by decide +kernel,rfl,by decide +kernel,by decide +kernel⟩
abbrev N_refutes_by_sum_0:List Str:=["rooms", "sorts", "facts", "times", "i", "t", "form", "number"]
theorem jZ:N_refutes_by_sum_0.Nodup:=by decide +kernel
def eM(gaY:D)(gaZ:D)(gaA:D)(gbB:D):M D :=
 bd (dL gaY gaZ gaA gbB) λx5=>bd (bd (bd (bd (oM (aD x5 (.int 0))) λx6=>oM (uo x6 (.int 0))) λb16=>if b16 then bd (bd (bd (bd (bd (oM (aD x5 (.int 1))) λx7=>bd (oM (aD x5 (.int 2))) λx8=>oM (aX x7 x8)) λx9=>oM (fj x9)) λl13=>bd (bH (λd10=>bd (bd (oM (nA d10 (.int 0))) λb11=>.ret (.bool b11)) λx12=>.ret (some x12)) l13) dw) λl14=>.ret (PyData.list l14)) λx15=>oM (v8 [x15])else .ret false) λb17=>.ret (.bool b17)) λx18=>.ret x18
def dk(gaY:D)(gaZ:D)(gaA:D)(gbB:D)(d_:D)(kn19:D×D×D×D×Unit->M D):M D :=
 un2 d_ λy20 y21=>bd (bd (bd (bd (oM (aD gaA y20)) λx22=>oM (aD x22 (.int 0))) λx23=>oM (bD x23 (.str "rest"))) λb27=>if b27 then .ret true else bd (bd (bd (oM (aD gaA y20)) λx24=>oM (aD x24 (.int 0))) λx25=>oM (bD x25 (.str "least"))) λb26=>if b26 then oM (uo y21 (.int 1))else .ret false) λb28=>if b28 then
  .ret (.bool false)
  else
  kn19 (gaY,gaZ,gaA,gbB,())
def eF(gal:D)(gam:D)(gao:D)(gaB:D):M D :=
 bd (bd (bd (gC gao gaB) λx1=>oM (dP x1)) λb2=>.ret (!b2)) λb3=>if b3 then
  .ret (.bool false)
  else
  bd (oM (fj gaB)) λl4=>gT (λs29 d30 kn=>dk s29.1 s29.2.1 s29.2.2.1 s29.2.2.2.1 d30 kn) l4 (gal,gam,gao,gaB,()) (λs29=>eM s29.1 s29.2.1 s29.2.2.1 s29.2.2.2.1)
def fF:List D->M D:=λl=>match l with
 | [gal,gam,gao,gaB]=>eF gal gam gao gaB
 | _=>.bad
theorem mF{f:Addr}(Fn:Fun K "refutes_by_sum" "refutes_by_sum" fW f fd)(hmg:mg "refutes_by_sum" = some (.ref f))(B:BN mg)(Kn:KN mg)(gaL:CF P w K mg base "come_together" 2 (spD K 4 gc))(ga9:CF P w K mg base "are_times" 4 (spD K 2 jL)):CF P w K mg base "refutes_by_sum" 5 (spD K 4 fF) :=
 ⟨f,fd,["rooms", "sorts", "facts", "times"],bF (k:=4) Fn sc_refutes_by_sum (λcdv A outer s H E hr =>
  (au (bn (aW (bA (cp (ao (aZ ga9 hr.m (aa (af (i:=2) rfl (vi rfl)) (aa (af (i:=3) rfl (vi rfl)) aq)))) (λ_=>rfl))))
  (aB (aK (aA cy)))
  aP)
  (au (dm (sh:=[.f,.f,.f,.f,.dead,.dead,.dead]) PassesOwn.leaving rfl (e8 (df (af (i:=3) rfl (vi rfl)))) (eY rfl (bJ (aY (i:=4) (gh _) sc_refutes_by_sum.nd) (bJ (aY (i:=5) (gh _) sc_refutes_by_sum.nd) eX rfl) rfl) rfl rfl)
  (aB (bn (aW (dC (cK (bc (bm (aR hr)) bf (ao (aE az aC (ao (aE az aC (ao (af (i:=2) rfl (vi rfl))) (ao (af (i:=4) rfl (vi rfl))))) (ao aj))) (ao aM)) (cO (dC (xZ (bc (bm (aR hr)) bf (ao (aE az aC (ao (aE az aC (ao (af (i:=2) rfl (vi rfl))) (ao (af (i:=4) rfl (vi rfl))))) (ao aj))) (ao aM)) (uZ (bc sV sX (ao (af (i:=5) rfl (vi rfl))) (ao aj)))))))))
  (aB (aK (aA cy)))
  aP)))
  (au (aS (sh:=[.dead,.dead,.dead,.dead,.dead,.dead,.f]) (aO (i:=6) sc_refutes_by_sum.nd (aA (aZ gaL hr.m (aa (af (i:=0) rfl (vi rfl)) (aa (af (i:=1) rfl (vi rfl)) (aa (af (i:=2) rfl (vi rfl)) (aa (af (i:=3) rfl (vi rfl)) aq))))))))
  (aB (aK (aA (eK (cD (bQ sV sX (ao (aE az aC (ao (af (i:=6) rfl (vi rfl))) (ao aj))) (ao aj)) (dg (rk (qV rfl) xA rfl B.all (by decide +kernel) (aI (ao (cm (cG (N':=N_refutes_by_sum_0) (k:=1) rfl (bq (by kernel_rfl) rfl rfl) (df (aJ aV bh (ao (aE az aC (ao (af (i:=6) rfl (vi rfl))) (ao aj))) (ao (aE az aC (ao (af (i:=6) rfl (vi rfl))) (ao aj))))) (λ_ _ _ _ _=>(aY (i:=7) (show 7<=7 by decide) jZ)) (λ_ _ _ _ _=>cb) (λ_ _ _ _ _=>(eK (bQ mC mG (ao (af (i:=7) rfl (vi rfl))) (ao aj))))))) aN) (by decide) (by decide) rfl rfl)))))))))))
 (λds hl=>(by obtain⟨gal,gam,gao,gaB,rfl⟩:=ln4 hl;kernel_rfl)),hmg,Fn.kp,(xX Fn λ_ _ _ _ _ _ _ _ _ _=>rfl)⟩
abbrev fk:Stmt:=top 26
abbrev mV:List Str:=["rooms", "sorts", "facts", "m", "times", "i", "t", "fact", "form"]
theorem sc_refutes_by_rest:FnScope mV ["rooms", "sorts", "facts", "m", "times"] (aL fk):=⟨rfl,rfl,rfl,by decide +kernel,rfl,by decide +kernel,by decide +kernel⟩
abbrev N_refutes_by_rest_0:List Str:=["rooms", "sorts", "facts", "m", "times", "i", "t", "fact", "form", "number"]
theorem jI:N_refutes_by_rest_0.Nodup:=by decide +kernel
def dZ(gaY:D)(gaZ:D)(gaA:D)(v_m:D)(gbB:D):M D :=
 bd (dL gaY gaZ gaA gbB) λx8=>bd (bd (bd (bd (bd (oM (aD x8 (.int 0))) λx9=>oM (fQ x9 v_m)) λx10=>oM (fi x10 (.int 0))) λb21=>if b21 then bd (bd (bd (bd (bd (oM (aD x8 (.int 1))) λx11=>bd (oM (aD x8 (.int 2))) λx12=>oM (aX x11 x12)) λx13=>oM (fj x13)) λl18=>bd (bH (λd14=>bd (bd (bd (oM (fQ d14 v_m)) λx15=>oM (bD x15 (.int 0))) λb16=>.ret (.bool b16)) λx17=>.ret (some x17)) l18) dw) λl19=>.ret (PyData.list l19)) λx20=>oM (v8 [x20])else .ret false) λb22=>.ret (.bool b22)) λx23=>.ret x23
def cY(gaY:D)(gaZ:D)(gaA:D)(v_m:D)(gbB:D)(d_:D)(kn24:D×D×D×D×D×Unit->M D):M D :=
 un2 d_ λy25 y26=>bd (oM (aD gaA y25)) λx27=>bd (bd (bd (oM (aD x27 (.int 0))) λx28=>oM (bD x28 (.str "least"))) λb33=>if b33 then .ret true else bd (bd (oM (aD x27 (.int 0))) λx29=>oM (bD x29 (.str "rest"))) λb32=>if b32 then bd (bd (oM (aD x27 (.int 2))) λx30=>oM (fQ x30 v_m)) λx31=>oM (fi x31 (.int 0))else .ret false) λb34=>if b34 then
  .ret (.bool false)
  else
  kn24 (gaY,gaZ,gaA,v_m,gbB,())
def dU(gal:D)(gam:D)(gao:D)(p_m:D)(gaB:D):M D :=
 bd (bd (bd (bd (dD p_m (.int 2) (.int 99)) λx1=>oM (dP x1)) λb2=>.ret (!b2)) λb5=>if b5 then .ret true else bd (bd (gC gao gaB) λx3=>oM (dP x3)) λb4=>.ret (!b4)) λb6=>if b6 then
  .ret (.bool false)
  else
  bd (oM (fj gaB)) λl7=>gT (λs35 d36 kn=>cY s35.1 s35.2.1 s35.2.2.1 s35.2.2.2.1 s35.2.2.2.2.1 d36 kn) l7 (gal,gam,gao,p_m,gaB,()) (λs35=>dZ s35.1 s35.2.1 s35.2.2.1 s35.2.2.2.1 s35.2.2.2.2.1)
def e7:List D->M D:=λl=>match l with
 | [gal,gam,gao,p_m,gaB]=>dU gal gam gao p_m gaB
 | _=>.bad
theorem lJ{f:Addr}(Fn:Fun K "refutes_by_rest" "refutes_by_rest" fk f fd)(hmg:mg "refutes_by_rest" = some (.ref f))(B:BN mg)(Kn:KN mg)(gaL:CF P w K mg base "come_together" 2 (spD K 4 gc))(gau:CF P w K mg base "is_within" 2 (spD K 3 ey))(ga9:CF P w K mg base "are_times" 4 (spD K 2 jL)):CF P w K mg base "refutes_by_rest" 5 (spD K 5 e7) :=
 ⟨f,fd,["rooms", "sorts", "facts", "m", "times"],bF (k:=4) Fn sc_refutes_by_rest (λcdv A outer s H E hr =>
  (au (bn (aW (dC (cK (bA (cp (ao (aZ gau hr.m (aa (af (i:=3) rfl (vi rfl)) (aa aj (aa (lf rfl Kn.MOST_RESTS.choose_spec.1 Kn.MOST_RESTS.choose_spec.2 (λ_=>.int _) (by decide)) aq))))) (λ_=>rfl))) (cO (bA (cp (ao (aZ ga9 hr.m (aa (af (i:=2) rfl (vi rfl)) (aa (af (i:=4) rfl (vi rfl)) aq)))) (λ_=>rfl)))))))
  (aB (aK (aA cy)))
  aP)
  (au (dm (sh:=[.f,.f,.f,.f,.f,.dead,.dead,.dead,.dead]) PassesOwn.leaving rfl (e8 (df (af (i:=4) rfl (vi rfl)))) (eY rfl (bJ (aY (i:=5) (gh _) sc_refutes_by_rest.nd) (bJ (aY (i:=6) (gh _) sc_refutes_by_rest.nd) eX rfl) rfl) rfl rfl)
  (au (aS (sh:=[.f,.f,.f,.f,.f,.dead,.dead,.f,.dead]) (aO (i:=7) sc_refutes_by_rest.nd (aA (aE az aC (ao (af (i:=2) rfl (vi rfl))) (ao (af (i:=5) rfl (vi rfl)))))))
  (aB (bn (aW (dC (cK (bc (bm (aR hr)) bf (ao (aE az aC (ao (af (i:=7) rfl (vi rfl))) (ao aj))) (ao aM)) (cO (dC (xZ (bc (bm (aR hr)) bf (ao (aE az aC (ao (af (i:=7) rfl (vi rfl))) (ao aj))) (ao aM)) (uZ (bc (dR (aR hr)) bf (ao (aJ gN gO (ao (aE az aC (ao (af (i:=7) rfl (vi rfl))) (ao aj))) (ao (af (i:=3) rfl (vi rfl))))) (ao aj)))))))))
  (aB (aK (aA cy)))
  aP))))
  (au (aS (sh:=[.dead,.dead,.dead,.f,.dead,.dead,.dead,.dead,.f]) (aO (i:=8) sc_refutes_by_rest.nd (aA (aZ gaL hr.m (aa (af (i:=0) rfl (vi rfl)) (aa (af (i:=1) rfl (vi rfl)) (aa (af (i:=2) rfl (vi rfl)) (aa (af (i:=4) rfl (vi rfl)) aq))))))))
  (aB (aK (aA (eK (cD (bQ (dR (aR hr)) bf (ao (aJ gN gO (ao (aE az aC (ao (af (i:=8) rfl (vi rfl))) (ao aj))) (ao (af (i:=3) rfl (vi rfl))))) (ao aj)) (dg (rk (qV rfl) xA rfl B.all (by decide +kernel) (aI (ao (cm (cG (N':=N_refutes_by_rest_0) (k:=1) rfl (bq (by kernel_rfl) rfl rfl) (df (aJ aV bh (ao (aE az aC (ao (af (i:=8) rfl (vi rfl))) (ao aj))) (ao (aE az aC (ao (af (i:=8) rfl (vi rfl))) (ao aj))))) (λ_ _ _ _ _=>(aY (i:=9) (show 9<=9 by decide) jI)) (λ_ _ _ _ _=>cb) (λ_ _ _ _ _=>(eK (bQ (bm (aR hr)) bf (ao (aJ gN gO (ao (af (i:=9) rfl (vi rfl))) (ao (af (i:=3) rfl (vi rfl))))) (ao aj))))))) aN) (by decide) (by decide) rfl rfl)))))))))))
 (λds hl=>(by obtain⟨gal,gam,gao,p_m,gaB,rfl⟩:=ln5 hl;kernel_rfl)),hmg,Fn.kp,(uW Fn λ_ _ _ _ _ _ _ _ _ _ _=>rfl)⟩
abbrev g6:Stmt:=top 24
abbrev vg:List Str:=["depth", "rooms", "sorts", "facts", "thing", "branches", "fact", "part"]
theorem sc_refutes_at:FnScope vg ["depth", "rooms", "sorts", "facts", "thing"] (aL g6):=⟨rfl,rfl,rfl,by decide +kernel,rfl,by decide +kernel,by decide +kernel⟩
def oW(s_refutes_at_:D->D->D->D->D->M D)(s_branches_at_:D->D->D->D->D->M D)(gbA:D)(gaY:D)(gaZ:D)(gaA:D):M D :=
 .ret (.bool true)
def eU(s_refutes_at_:D->D->D->D->D->M D)(s_branches_at_:D->D->D->D->D->M D)(gbA:D)(gaY:D)(gaZ:D)(gaA:D)(d_:D)(kn26:D×D×D×D×Unit->M D):M D :=
 un2 d_ λy27 y28=>bd (bd (bd (bd (oM (aX gbA (.int 1))) λx29=>bd (oM (aX gaA (.tuple [y27]))) λx30=>s_refutes_at_ x29 gaY gaZ x30 y28) λx31=>oM (dP x31)) λb32=>.ret (!b32)) λb33=>if b33 then
  .ret (.bool false)
  else
  kn26 (gbA,gaY,gaZ,gaA,())
def fK(s_refutes_at_:D->D->D->D->D->M D)(s_branches_at_:D->D->D->D->D->M D)(gaI:D)(gal:D)(gam:D)(gao:D)(gag:D):M D :=
 bd (bd (oM (lI gaI (.int 30))) λb4=>if b4 then .ret true else bd (bd (oM (gl "tuple" gag)) λb1=>.ret (!b1)) λb3=>if b3 then .ret true else bd (oM (cA [gag])) λx2=>oM (bD x2 (.int 0))) λb5=>if b5 then
  .ret (.bool false)
  else
  bd (bd (oM (aD gag (.int 0))) λx6=>oM (bD x6 (.str "sum"))) λb7=>if b7 then
  bd (bd (bd (bd (oM (cA [gag])) λx8=>oM (bD x8 (.int 2))) λb11=>if b11 then bd (bd (oM (aD gag (.int 1))) λx9=>eF gal gam gao x9) λx10=>asB x10 else .ret false) λb12=>.ret (.bool b12)) λx13=>.ret x13
  else
  bd (bd (oM (aD gag (.int 0))) λx14=>oM (bD x14 (.str "rest"))) λb15=>if b15 then
  bd (bd (bd (bd (oM (cA [gag])) λx16=>oM (bD x16 (.int 3))) λb20=>if b20 then bd (bd (oM (aD gag (.int 1))) λx17=>bd (oM (aD gag (.int 2))) λx18=>dU gal gam gao x17 x18) λx19=>asB x19 else .ret false) λb21=>.ret (.bool b21)) λx22=>.ret x22
  else
  bd (s_branches_at_ gaI gal gam gao gag) λx23=>bd (oM (kq x23 .none)) λb24=>if b24 then
  .ret (.bool false)
  else
  bd (oM (fj x23)) λl25=>gT (λs34 d35 kn=>eU s_refutes_at_ s_branches_at_ s34.1 s34.2.1 s34.2.2.1 s34.2.2.2.1 d35 kn) l25 (gaI,gal,gam,gao,()) (λs34=>oW s_refutes_at_ s_branches_at_ s34.1 s34.2.1 s34.2.2.1 s34.2.2.2.1)
def cz:Nat->(D->D->D->D->D->D->M D)×(D->D->D->D->D->M D)×(D->D->D->D->D->M D)×(D->D->D->D->D->M D)
 | 0=>(λ_ _ _ _ _ _=>.bad,λ_ _ _ _ _=>.bad,λ_ _ _ _ _=>.bad,λ_ _ _ _ _=>.bad)
 | i+1=>(jR (cz i).2.1,fK (cz i).2.1 (cz i).2.2.1,eW (cz i).2.2.2,fL (cz i).1)
def jS(i:Nat):D->D->D->D->D->D->M D:=(cz i).1
def cj(i:Nat):D->D->D->D->D->M D:=(cz i).2.1
def eP(i:Nat):D->D->D->D->D->M D:=(cz i).2.2.1
def eV(i:Nat):D->D->D->D->D->M D:=(cz i).2.2.2
def gB(i:Nat):List D->M D:=λl=>match l with
 | [gaI,gal,gam,gao,ga5,gag]=>jS i gaI gal gam gao ga5 gag
 | _=>.bad
def dc(i:Nat):List D->M D:=λl=>match l with
 | [gaI,gal,gam,gao,gag]=>cj i gaI gal gam gao gag
 | _=>.bad
def dW(i:Nat):List D->M D:=λl=>match l with
 | [gaI,gal,gam,gao,gag]=>eP i gaI gal gam gao gag
 | _=>.bad
def dv(i:Nat):List D->M D:=λl=>match l with
 | [gaI,gal,gam,gao,gag]=>eV i gaI gal gam gao gag
 | _=>.bad
theorem v6{f:Addr}(Fn:Fun K "shows_at" "shows_at" jy f fd)(B:BN mg)(Kn:KN mg)(gbb:CF P w K mg base "denials_of" 4 (spD K 1 i8))(gap:CF P w K mg base "is_tuple_of" 1 (spD K 2 cR))(i:Nat)(Cs_refutes_at:CF P w K mg base "refutes_at" (7+i) (spD K 5 (dc i))):FnOk P w K mg base (CX1 P w) (7+i+1) f fd ["depth", "rooms", "sorts", "facts", "fact", "thing"] (spD K 6 (gB (i+1))) :=
 bF (k:=7+i) Fn sc_shows_at (λcdv A outer s H E hr =>
  (au (aS (sh:=[.f,.f,.f,.f,.dead,.f,.f,.dead,.dead]) (aO (i:=6) sc_shows_at.nd (aA (aZ gbb (hr.mono (by omega)) (aa (af (i:=4) rfl (vi rfl)) aq)))))
  (au (bn (aW (bA (cp (ao (aZ gap (hr.mono (by omega)) (aa (af (i:=5) rfl (vi rfl)) (aa (aT aU bx B.len ay (aI (ao (af (i:=6) rfl (vi rfl))) aN)) aq)))) (λ_=>rfl))))
  (aB (aK (aA cy)))
  aP)
  (au (dm (sh:=[.f,.f,.f,.f,.dead,.dead,.dead,.dead,.dead]) PassesOwn.leaving rfl (e8 (DW rfl B.zip (aa (af (i:=6) rfl (vi rfl)) (aa (af (i:=5) rfl (vi rfl)) aq)) rfl rfl)) (eY rfl (bJ (aY (i:=7) (gh _) sc_shows_at.nd) (bJ (aY (i:=8) (gh _) sc_shows_at.nd) eX rfl) rfl) rfl rfl)
  (aB (bn (aW (bA (cp (ao (aZ Cs_refutes_at (hr.mono (by omega)) (aa (af (i:=0) rfl (vi rfl)) (aa (af (i:=1) rfl (vi rfl)) (aa (af (i:=2) rfl (vi rfl)) (aa (aJ aV bh (ao (af (i:=3) rfl (vi rfl))) (ao (aF (aa (af (i:=7) rfl (vi rfl)) aq)))) (aa (af (i:=8) rfl (vi rfl)) aq))))))) (λ_=>rfl))))
  (aB (aK (aA cy)))
  aP)))
  (aB (aK (aA cy)))))))
 (λds hl=>(by obtain⟨gaI,gal,gam,gao,ga5,gag,rfl⟩:=ln6 hl;kernel_rfl))
theorem rV{f:Addr}(Fn:Fun K "refutes_at" "refutes_at" g6 f fd)(B:BN mg)(Kn:KN mg)(gaP:CF P w K mg base "refutes_by_sum" 5 (spD K 4 fF))(gaM:CF P w K mg base "refutes_by_rest" 5 (spD K 5 e7))(i:Nat)(Cs_refutes_at:CF P w K mg base "refutes_at" (7+i) (spD K 5 (dc i)))(Cs_branches_at:CF P w K mg base "branches_at" (7+i) (spD K 5 (dW i))):FnOk P w K mg base (CX1 P w) (7+i+1) f fd ["depth", "rooms", "sorts", "facts", "thing"] (spD K 5 (dc (i+1))) :=
 bF (k:=7+i) Fn sc_refutes_at (λcdv A outer s H E hr =>
  (au (bn (aW (dC (cK (bc vN vP (ao (af (i:=0) rfl (vi rfl))) (ao (lf rfl Kn.MOST_WITHIN.choose_spec.1 Kn.MOST_WITHIN.choose_spec.2 (λ_=>.int _) (by decide)))) (cK (bA (gU (d9 (T := "tuple") (by decide) rfl B.isinstance rfl B.tuple (by decide +kernel) (ao (af (i:=4) rfl (vi rfl))) rfl rfl rfl) (λ_=>rfl))) (cO (bc (bm (aR hr)) bf (ao (aT aU bx B.len ay (aI (ao (af (i:=4) rfl (vi rfl))) aN))) (ao aj)))))))
  (aB (aK (aA cy)))
  aP)
  (au (bn (aW (bc (bm (aR hr)) bf (ao (aE az aC (ao (af (i:=4) rfl (vi rfl))) (ao aj))) (ao aM)))
  (aB (aK (aA (eK (cD (bQ (bm (aR hr)) bf (ao (aT aU bx B.len ay (aI (ao (af (i:=4) rfl (vi rfl))) aN))) (ao aj)) (dg (gY (aZ gaP (hr.mono (by omega)) (aa (af (i:=1) rfl (vi rfl)) (aa (af (i:=2) rfl (vi rfl)) (aa (af (i:=3) rfl (vi rfl)) (aa (aE az aC (ao (af (i:=4) rfl (vi rfl))) (ao aj)) aq))))))))))))
  aP)
  (au (bn (aW (bc (bm (aR hr)) bf (ao (aE az aC (ao (af (i:=4) rfl (vi rfl))) (ao aj))) (ao aM)))
  (aB (aK (aA (eK (cD (bQ (bm (aR hr)) bf (ao (aT aU bx B.len ay (aI (ao (af (i:=4) rfl (vi rfl))) aN))) (ao aj)) (dg (gY (aZ gaM (hr.mono (by omega)) (aa (af (i:=1) rfl (vi rfl)) (aa (af (i:=2) rfl (vi rfl)) (aa (af (i:=3) rfl (vi rfl)) (aa (aE az aC (ao (af (i:=4) rfl (vi rfl))) (ao aj)) (aa (aE az aC (ao (af (i:=4) rfl (vi rfl))) (ao aj)) aq)))))))))))))
  aP)
  (au (aS (sh:=[.f,.f,.f,.f,.dead,.f,.dead,.dead]) (aO (i:=5) sc_refutes_at.nd (aA (aZ Cs_branches_at (hr.mono (by omega)) (aa (af (i:=0) rfl (vi rfl)) (aa (af (i:=1) rfl (vi rfl)) (aa (af (i:=2) rfl (vi rfl)) (aa (af (i:=3) rfl (vi rfl)) (aa (af (i:=4) rfl (vi rfl)) aq)))))))))
  (au (bn (aW (bc uj bf (ao (af (i:=5) rfl (vi rfl))) (ao eN)))
  (aB (aK (aA cy)))
  aP)
  (au (dm (sh:=[.f,.f,.f,.f,.dead,.dead,.dead,.dead]) PassesOwn.leaving rfl (e8 (df (af (i:=5) rfl (vi rfl)))) (eY rfl (bJ (aY (i:=6) (gh _) sc_refutes_at.nd) (bJ (aY (i:=7) (gh _) sc_refutes_at.nd) eX rfl) rfl) rfl rfl)
  (aB (bn (aW (bA (cp (ao (aZ Cs_refutes_at (hr.mono (by omega)) (aa (aJ aV bh (ao (af (i:=0) rfl (vi rfl))) (ao aj)) (aa (af (i:=1) rfl (vi rfl)) (aa (af (i:=2) rfl (vi rfl)) (aa (aJ aV bh (ao (af (i:=3) rfl (vi rfl))) (ao (aF (aa (af (i:=6) rfl (vi rfl)) aq)))) (aa (af (i:=7) rfl (vi rfl)) aq))))))) (λ_=>rfl))))
  (aB (aK (aA cy)))
  aP)))
  (aB (aK (aA cy))))))))))
 (λds hl=>(by obtain⟨gaI,gal,gam,gao,gag,rfl⟩:=ln5 hl;kernel_rfl))
theorem qK{f:Addr}(Fn:Fun K "branches_at" "branches_at" gq f fd)(B:BN mg)(Kn:KN mg)(gaQ:CF P w K mg base "split_branches" 6 (spD K 3 fE))(gaR:CF P w K mg base "cases_branches" 6 (spD K 3 fG))(i:Nat)(Cs_know_branches:CF P w K mg base "know_branches" (7+i) (spD K 5 (dv i))):FnOk P w K mg base (CX1 P w) (7+i+1) f fd ["depth", "rooms", "sorts", "facts", "thing"] (spD K 5 (dW (i+1))) :=
 bF (k:=7+i) Fn pP (λcdv A outer s H E hr =>
  (au (bn (aW (bc (dR (aR hr)) bf (ao (aT aU bx B.len ay (aI (ao (af (i:=4) rfl (vi rfl))) aN))) (ao aj)))
  (aB (aK (aA eN)))
  aP)
  (au (bn (aW (bc (bm (aR hr)) bf (ao (aE az aC (ao (af (i:=4) rfl (vi rfl))) (ao aj))) (ao aM)))
  (aB (aK (aA (aZ gaQ (hr.mono (by omega)) (aa (af (i:=1) rfl (vi rfl)) (aa (af (i:=2) rfl (vi rfl)) (aa (af (i:=4) rfl (vi rfl)) aq)))))))
  aP)
  (au (bn (aW (bc (bm (aR hr)) bf (ao (aE az aC (ao (af (i:=4) rfl (vi rfl))) (ao aj))) (ao aM)))
  (aB (aK (aA (aZ gaR (hr.mono (by omega)) (aa (af (i:=1) rfl (vi rfl)) (aa (af (i:=2) rfl (vi rfl)) (aa (af (i:=4) rfl (vi rfl)) aq)))))))
  aP)
  (au (bn (aW (bc (bm (aR hr)) bf (ao (aE az aC (ao (af (i:=4) rfl (vi rfl))) (ao aj))) (ao aM)))
  (aB (aK (aA (aZ Cs_know_branches (hr.mono (by omega)) (aa (af (i:=0) rfl (vi rfl)) (aa (af (i:=1) rfl (vi rfl)) (aa (af (i:=2) rfl (vi rfl)) (aa (af (i:=3) rfl (vi rfl)) (aa (af (i:=4) rfl (vi rfl)) aq)))))))))
  aP)
  (aB (aK (aA eN))))))))
 (λds hl=>(by obtain⟨gaI,gal,gam,gao,gag,rfl⟩:=ln5 hl;kernel_rfl))
theorem nS{f:Addr}(Fn:Fun K "know_branches" "know_branches" eS f fd)(B:BN mg)(Kn:KN mg)(gbu:CF P w K mg base "is_fact" 6 (spD K 3 lP))(i:Nat)(Cs_shows_at:CF P w K mg base "shows_at" (7+i) (spD K 6 (gB i))):FnOk P w K mg base (CX1 P w) (7+i+1) f fd ["depth", "rooms", "sorts", "facts", "thing"] (spD K 5 (dv (i+1))) :=
 bF (k:=7+i) Fn sc_know_branches (λcdv A outer s H E hr =>
  (au (aS (sh:=[.f,.f,.f,.f,.f,.f]) (aO (i:=5) sc_know_branches.nd (aA (aE az aC (ao (af (i:=4) rfl (vi rfl))) (ao aj)))))
  (au (bn (aW (dC (cK (bA (cp (ao (aZ gbu (hr.mono (by omega)) (aa (af (i:=1) rfl (vi rfl)) (aa (af (i:=2) rfl (vi rfl)) (aa (af (i:=5) rfl (vi rfl)) aq))))) (λ_=>rfl))) (cO (bA (cp (ao (aZ Cs_shows_at (hr.mono (by omega)) (aa (aJ aV bh (ao (af (i:=0) rfl (vi rfl))) (ao aj)) (aa (af (i:=1) rfl (vi rfl)) (aa (af (i:=2) rfl (vi rfl)) (aa (af (i:=3) rfl (vi rfl)) (aa (af (i:=5) rfl (vi rfl)) (aa (aE az aC (ao (af (i:=4) rfl (vi rfl))) (ao aj)) aq)))))))) (λ_=>rfl)))))))
  (aB (aK (aA eN)))
  aP)
  (aB (aK (aA (cm (bB (aa (aF (aa (af (i:=5) rfl (vi rfl)) (aa (aE az aC (ao (af (i:=4) rfl (vi rfl))) (ao aj)) aq))) aq)))))))))
 (λds hl=>(by obtain⟨gaI,gal,gam,gao,gag,rfl⟩:=ln5 hl;kernel_rfl))
theorem uu{f_shows_at:Addr}{fd_shows_at:FuncData}(F_shows_at:Fun K "shows_at" "shows_at" jy f_shows_at fd_shows_at)(hg_shows_at:mg "shows_at" = some (.ref f_shows_at)){f_refutes_at:Addr}{fd_refutes_at:FuncData}(F_refutes_at:Fun K "refutes_at" "refutes_at" g6 f_refutes_at fd_refutes_at)(hg_refutes_at:mg "refutes_at" = some (.ref f_refutes_at)){f_branches_at:Addr}{fd_branches_at:FuncData}(F_branches_at:Fun K "branches_at" "branches_at" gq f_branches_at fd_branches_at)(hg_branches_at:mg "branches_at" = some (.ref f_branches_at)){f_know_branches:Addr}{fd_know_branches:FuncData}(F_know_branches:Fun K "know_branches" "know_branches" eS f_know_branches fd_know_branches)(hg_know_branches:mg "know_branches" = some (.ref f_know_branches))(B:BN mg)(Kn:KN mg)(gbb:CF P w K mg base "denials_of" 4 (spD K 1 i8))(gap:CF P w K mg base "is_tuple_of" 1 (spD K 2 cR))(gaP:CF P w K mg base "refutes_by_sum" 5 (spD K 4 fF))(gaM:CF P w K mg base "refutes_by_rest" 5 (spD K 5 e7))(gaQ:CF P w K mg base "split_branches" 6 (spD K 3 fE))(gaR:CF P w K mg base "cases_branches" 6 (spD K 3 fG))(gbu:CF P w K mg base "is_fact" 6 (spD K 3 lP))(i:Nat):CF P w K mg base "shows_at" (7+i) (spD K 6 (gB i))/\CF P w K mg base "refutes_at" (7+i) (spD K 5 (dc i))/\CF P w K mg base "branches_at" (7+i) (spD K 5 (dW i))/\CF P w K mg base "know_branches" (7+i) (spD K 5 (dv i)):=by
 induction i with
 | zero =>
  exact⟨(by
   have e:gB 0=λ_=>.bad:=by
    funext l;unfold gB;split<;>rfl
   rw[e]
   exact CF.zero (ps:=["depth", "rooms", "sorts", "facts", "fact", "thing"]) _ _ hg_shows_at F_shows_at.kp (HL F_shows_at λ_ _ _ _ _ _ _ _ _ _ _ _=>rfl)),(by
   have e:dc 0=λ_=>.bad:=by
    funext l;unfold dc;split<;>rfl
   rw[e]
   exact CF.zero (ps:=["depth", "rooms", "sorts", "facts", "thing"]) _ _ hg_refutes_at F_refutes_at.kp (uW F_refutes_at λ_ _ _ _ _ _ _ _ _ _ _=>rfl)),(by
   have e:dW 0=λ_=>.bad:=by
    funext l;unfold dW;split<;>rfl
   rw[e]
   exact CF.zero (ps:=["depth", "rooms", "sorts", "facts", "thing"]) _ _ hg_branches_at F_branches_at.kp (uW F_branches_at λ_ _ _ _ _ _ _ _ _ _ _=>rfl)),(by
   have e:dv 0=λ_=>.bad:=by
    funext l;unfold dv;split<;>rfl
   rw[e]
   exact CF.zero (ps:=["depth", "rooms", "sorts", "facts", "thing"]) _ _ hg_know_branches F_know_branches.kp (uW F_know_branches λ_ _ _ _ _ _ _ _ _ _ _=>rfl))⟩
 | succ i ih=>exact⟨⟨f_shows_at,fd_shows_at,["depth", "rooms", "sorts", "facts", "fact", "thing"],v6 F_shows_at B Kn gbb gap i ih.2.1,hg_shows_at,F_shows_at.kp,(HL F_shows_at λ_ _ _ _ _ _ _ _ _ _ _ _=>rfl)⟩,
  ⟨f_refutes_at,fd_refutes_at,["depth", "rooms", "sorts", "facts", "thing"],rV F_refutes_at B Kn gaP gaM i ih.2.1 ih.2.2.1,hg_refutes_at,F_refutes_at.kp,(uW F_refutes_at λ_ _ _ _ _ _ _ _ _ _ _=>rfl)⟩,
  ⟨f_branches_at,fd_branches_at,["depth", "rooms", "sorts", "facts", "thing"],qK F_branches_at B Kn gaQ gaR i ih.2.2.2,hg_branches_at,F_branches_at.kp,(uW F_branches_at λ_ _ _ _ _ _ _ _ _ _ _=>rfl)⟩,
  ⟨f_know_branches,fd_know_branches,["depth", "rooms", "sorts", "facts", "thing"],nS F_know_branches B Kn gbu i ih.1,hg_know_branches,F_know_branches.kp,(uW F_know_branches λ_ _ _ _ _ _ _ _ _ _ _=>rfl)⟩⟩
abbrev m6:Stmt:=top 22
abbrev Aw:List Str:=["rooms", "sorts", "facts", "thing"]
theorem w9:FnScope Aw ["rooms", "sorts", "facts", "thing"] (aL m6):=⟨rfl,rfl,rfl,by decide +kernel,rfl,by decide +kernel,by decide +kernel⟩
def fc(gal:D)(gam:D)(gao:D)(gag:D):M D :=
 bd (cj 130 (.int 1) gal gam gao gag) λx1=>.ret x1
def jJ:List D->M D:=λl=>match l with
 | [gal,gam,gao,gag]=>fc gal gam gao gag
 | _=>.bad
theorem xu{f:Addr}(Fn:Fun K "refutes" "refutes" m6 f fd)(hmg:mg "refutes" = some (.ref f))(B:BN mg)(Kn:KN mg)(gbv:CF P w K mg base "refutes_at" 137 (spD K 5 (dc 130))):CF P w K mg base "refutes" 138 (spD K 4 jJ) :=
 ⟨f,fd,["rooms", "sorts", "facts", "thing"],bF (k:=137) Fn w9 (λcdv A outer s H E hr =>
  (aB (aK (aA (aZ gbv hr.m (aa aj (aa (af (i:=0) rfl (vi rfl)) (aa (af (i:=1) rfl (vi rfl)) (aa (af (i:=2) rfl (vi rfl)) (aa (af (i:=3) rfl (vi rfl)) aq))))))))))
 (λds hl=>(by obtain⟨gal,gam,gao,gag,rfl⟩:=ln4 hl;kernel_rfl)),hmg,Fn.kp,(xX Fn λ_ _ _ _ _ _ _ _ _ _=>rfl)⟩
abbrev kh:Stmt:=top 34
abbrev wL:List Str:=["_law_script", "_law_k", "_law_cell"]
theorem sc__law_feed:FnScope wL ["_law_script", "_law_k"] (aL kh):=⟨rfl,rfl,rfl,by decide +kernel,rfl,by decide +kernel,by decide +kernel⟩
def fN(gbI:D):M (List D) :=
 bd (bd (bd (bd (bd (bd (oM (jX (.int 10) (.int 18))) λx10=>oM (uq gbI x10)) λb11=>.ret (.bool b11)) λx12=>oM (nU [x12])) λx13=>oM (bw gbI x13)) λx14=>.ret [x14,gbI,(.int 0)]) λl15=>.ret l15
def iU(gax:D)(gbN:D):M (List D) :=
 bd (bd (oM (cA [gax])) λx1=>oM (lI x1 (.int 0))) λb2=>if b2 then
  bd (bd (bd (bd (oM (cA [gax])) λx3=>oM (fQ gbN x3)) λx4=>oM (aD gax x4)) λx7=>bd (bd (bd (oM (cA [gax])) λx5=>oM (qv gbN x5)) λx6=>oM (bw (.int 1009) x6)) λx8=>oM (aX x7 x8)) λx9=>fN x9
  else
  fN (.int 0)
def mO:List D->M (List D):=λl=>match l with
 | [gax,gbN]=>iU gax gbN
 | _=>.bad
theorem uG{f:Addr}(Fn:Fun K "_law_feed" "_law_feed" kh f fd)(hmg:mg "_law_feed" = some (.ref f))(B:BN mg)(Kn:KN mg):CF P w K mg base "_law_feed" 1 (spL K 2 mO) :=
 ⟨f,fd,["_law_script", "_law_k"],FT (k:=0) Fn sc__law_feed (λcdv A outer s H E hr =>
  (au (aS (sh:=[.f,.f,.f]) (aO (i:=2) sc__law_feed.nd (aA aj)))
  (au (aS (sh:=[.dead,.dead,.f]) (bn (aW (bc vN vP (ao (aT aU bx B.len ay (aI (ao (af (i:=0) rfl (vi rfl))) aN))) (ao aj)))
  (aB (aO (i:=2) sc__law_feed.nd (aA (aJ aV bh (ao (aE az aC (ao (af (i:=0) rfl (vi rfl))) (ao (aJ gN gO (ao (af (i:=1) rfl (vi rfl))) (ao (aT aU bx B.len ay (aI (ao (af (i:=0) rfl (vi rfl))) aN))))))) (ao (aJ cB cC (ao aj) (ao (aJ pk ux (ao (af (i:=1) rfl (vi rfl))) (ao (aT aU bx B.len ay (aI (ao (af (i:=0) rfl (vi rfl))) aN)))))))))))
  aP))
  (aB (DV (lY (bB (aa (aJ cB cC (ao (af (i:=2) rfl (vi rfl))) (ao (bt kX uw B.int (by decide +kernel) (aI (ao (eK (bQ Eo Es (ao (af (i:=2) rfl (vi rfl))) (ao (aJ nz nE (ao aj) (ao aj)))))) aN)))) (aa (af (i:=2) rfl (vi rfl)) (aa aj aq))))))))))
 (λds hl=>(by obtain⟨gax,gbN,rfl⟩:=ln2 hl;kernel_rfl)),hmg,Fn.kp,(jr Fn λ_ _ _ _ _ _ _ _=>rfl)⟩
abbrev j9:Stmt:=top 35
abbrev wG:List Str:=["_law_feed_here", "_law_many", "_law_found", "_law_mixed"]
theorem sc__law_take:FnScope wG ["_law_feed_here", "_law_many"] (aL j9):=⟨rfl,rfl,rfl,by decide +kernel,rfl,by decide +kernel,by decide +kernel⟩
def aH(gad:List D)(gaq:D):M (D×List D) :=
 bd (bd (oM (aD (PyData.list gad) (.int 0))) λx1=>oM (lI x1 (.int 0))) λb2=>if b2 then
  bd (bd (oM (aD (PyData.list gad) (.int 0))) λx3=>oM (fQ x3 gaq)) λx4=>bd (bd (oM (aD (PyData.list gad) (.int 0))) λx5=>oM (qv x5 gaq)) λx6=>bd (oM (putD gad (.int 0) x6)) λl7=>.ret (x4,l7)
  else
  bd (bd (oM (aD (PyData.list gad) (.int 2))) λx8=>oM (aX x8 (.int 1))) λx9=>bd (oM (putD gad (.int 2) x9)) λl10=>bd (bd (bd (bd (bd (oM (aD (PyData.list l10) (.int 1))) λx11=>oM (fQ x11 (.int 2147483579))) λx15=>bd (bd (bd (oM (aD (PyData.list l10) (.int 2))) λx12=>oM (bw (.int 7717) x12)) λx13=>bd (oM (aD (PyData.list l10) (.int 2))) λx14=>oM (bw x13 x14)) λx16=>oM (aX x15 x16)) λx17=>oM (bw x17 (.int 48271))) λx18=>oM (fQ x18 (.int 2147483647))) λx19=>bd (bd (bd (bd (oM (qv x19 (.int 13))) λx21=>bd (bd (oM (aD (PyData.list l10) (.int 2))) λx20=>oM (bw (.int 19) x20)) λx22=>oM (aX x21 x22)) λx23=>oM (bw x23 (.int 69621))) λx24=>oM (fQ x24 (.int 2147483549))) λx25=>bd (bd (oM (qv x25 (.int 11))) λx26=>oM (fQ x26 gaq)) λx27=>.ret (x27,l10)
def bZ:List D->List D->M (D×List D):=λgad l=>match l with
 | [gaq]=>aH gad gaq
 | _=>.bad
theorem uB{f:Addr}(Fn:Fun K "_law_take" "_law_take" j9 f fd)(hmg:mg "_law_take" = some (.ref f))(B:BN mg)(Kn:KN mg):CF P w K mg base "_law_take" 1 (sp1 K 2 bZ) :=
 ⟨f,fd,["_law_feed_here", "_law_many"],i9 (k:=0) Fn sc__law_take (λcdv A outer s H E hr =>
  (au (bn (aW (bc vN vP (ao (aE az aC (dJ (i:=0)) (ao aj))) (ao aj)))
  (au (aS (sh:=[.p,.f,.f,.dead]) (aO (i:=2) sc__law_take.nd (aA (aJ gN gO (ao (aE az aC (dJ (i:=0)) (ao aj))) (ao (af (i:=1) rfl (vi rfl)))))))
  (au (aS (sh:=[.p,.dead,.f,.dead]) (CB (i:=0) rfl (vi rfl) (aA aj) (aA (aJ pk ux (ao (aE az aC (dJ (i:=0)) (ao aj))) (ao (af (i:=1) rfl (vi rfl))))) (λ_=>rfl) rfl rfl rfl))
  (aB (aK (aA (af (i:=2) rfl (vi rfl)))))))
  aP)
  (au (aS (sh:=[.p,.f,.dead,.dead]) (CB (i:=0) rfl (vi rfl) (aA aj) (aA (aJ aV bh (ao (aE az aC (dJ (i:=0)) (ao aj))) (ao aj))) (λ_=>rfl) rfl rfl rfl))
  (au (aS (sh:=[.p,.f,.dead,.f]) (aO (i:=3) sc__law_take.nd (aA (aJ gN gO (ao (aJ cB cC (ao (aJ aV bh (ao (aJ gN gO (ao (aE az aC (dJ (i:=0)) (ao aj))) (ao aj))) (ao (aJ cB cC (ao (aJ cB cC (ao aj) (ao (aE az aC (dJ (i:=0)) (ao aj))))) (ao (aE az aC (dJ (i:=0)) (ao aj))))))) (ao aj))) (ao aj)))))
  (au (aS (sh:=[.p,.f,.dead,.f]) (aO (i:=3) sc__law_take.nd (aA (aJ gN gO (ao (aJ cB cC (ao (aJ aV bh (ao (aJ pk ux (ao (af (i:=3) rfl (vi rfl))) (ao aj))) (ao (aJ cB cC (ao aj) (ao (aE az aC (dJ (i:=0)) (ao aj))))))) (ao aj))) (ao aj)))))
  (aB (aK (aA (aJ gN gO (ao (aJ pk ux (ao (af (i:=3) rfl (vi rfl))) (ao aj))) (ao (af (i:=1) rfl (vi rfl))))))))))))
 (λg ds hl=>(by obtain⟨gaq,rfl⟩:=ln1 (Nat.succ.inj hl);kernel_rfl)),hmg,Fn.kp,(jr Fn λ_ _ _ _ _ _ _ _=>rfl)⟩
abbrev gL:Stmt:=top 36
abbrev oZ:List Str:=["_law_thing", "_law_low", "_law_high"]
theorem mZ:FnScope oZ ["_law_thing", "_law_low", "_law_high"] (aL gL):=⟨rfl,rfl,rfl,by decide +kernel,rfl,by decide +kernel,by decide +kernel⟩
def bM(gaa:D)(gbF:D)(gby:D):M D :=
 bd (bd (bd (oM (gl "int" gaa)) λb4=>if b4 then bd (bd (oM (gl "bool" gaa)) λb1=>.ret (!b1)) λb3=>if b3 then bd (oM (nA gbF gaa)) λb2=>if b2 then oM (nA gaa gby)else .ret false else .ret false else .ret false) λb5=>.ret (.bool b5)) λx6=>.ret x6
def cu:List D->M D:=λl=>match l with
 | [gaa,gbF,gby]=>bM gaa gbF gby
 | _=>.bad
theorem nG{f:Addr}(Fn:Fun K "_law_is_whole" "_law_is_whole" gL f fd)(hmg:mg "_law_is_whole" = some (.ref f))(B:BN mg)(Kn:KN mg):CF P w K mg base "_law_is_whole" 1 (spD K 3 cu) :=
 ⟨f,fd,["_law_thing", "_law_low", "_law_high"],bF (k:=0) Fn mZ (λcdv A outer s H E hr =>
  (aB (aK (aA (eK (cD (d9 (T := "int") (by decide) rfl B.isinstance rfl B.int (by decide +kernel) (ao (af (i:=0) rfl (vi rfl))) rfl rfl rfl) (cD (CL (d9 (T := "bool") (by decide) rfl B.isinstance rfl B.bool (by decide +kernel) (ao (af (i:=0) rfl (vi rfl))) rfl rfl rfl)) (dg (wA mC mC mG mG (ao (af (i:=1) rfl (vi rfl))) (ao (af (i:=0) rfl (vi rfl))) (ao (af (i:=2) rfl (vi rfl))) (by with_unfolding_all rfl))))))))))
 (λds hl=>(by obtain⟨gaa,gbF,gby,rfl⟩:=ln3 hl;kernel_rfl)),hmg,Fn.kp,(n5 Fn λ_ _ _ _ _ _ _ _ _=>rfl)⟩
abbrev fY:Stmt:=top 37
abbrev oi:List Str:=["_law_thing", "_law_many"]
theorem mv:FnScope oi ["_law_thing", "_law_many"] (aL fY):=⟨rfl,rfl,rfl,by decide +kernel,rfl,by decide +kernel,by decide +kernel⟩
abbrev N__law_are_whole_0:List Str:=["_law_thing", "_law_many", "_law_one"]
theorem j0:N__law_are_whole_0.Nodup:=by decide +kernel
def cx(gaa:D)(gaq:D):M D :=
 bd (bd (bd (oM (gl "tuple" gaa)) λb1=>.ret (!b1)) λb3=>if b3 then .ret true else bd (oM (cA [gaa])) λx2=>oM (fi x2 gaq)) λb4=>if b4 then
  .ret (.bool false)
  else
  bd (bd (bd (bd (bd (oM (fj gaa)) λl10=>bd (bH (λd5=>bd (bd (bd (oM (jX (.int 10) (.int 15))) λx6=>oM (bN x6)) λx7=>bd (oM (jX (.int 10) (.int 15))) λx8=>bM d5 x7 x8) λx9=>.ret (some x9)) l10) dw) λl11=>.ret (PyData.list l11)) λx12=>oM (jF (.bool false) x12)) λb13=>.ret (.bool b13)) λx14=>.ret x14
def iO:List D->M D:=λl=>match l with
 | [gaa,gaq]=>cx gaa gaq
 | _=>.bad
theorem mI{f:Addr}(Fn:Fun K "_law_are_whole" "_law_are_whole" fY f fd)(hmg:mg "_law_are_whole" = some (.ref f))(B:BN mg)(Kn:KN mg)(gan:CF P w K mg base "_law_is_whole" 1 (spD K 3 cu)):CF P w K mg base "_law_are_whole" 2 (spD K 2 iO) :=
 ⟨f,fd,["_law_thing", "_law_many"],bF (k:=1) Fn mv (λcdv A outer s H E hr =>
  (au (bn (aW (dC (cK (bA (gU (d9 (T := "tuple") (by decide) rfl B.isinstance rfl B.tuple (by decide +kernel) (ao (af (i:=0) rfl (vi rfl))) rfl rfl rfl) (λ_=>rfl))) (cO (bc (dR (aR hr)) bf (ao (aT aU bx B.len ay (aI (ao (af (i:=0) rfl (vi rfl))) aN))) (ao (af (i:=1) rfl (vi rfl))))))))
  (aB (aK (aA cy)))
  aP)
  (aB (aK (aA (eK (bQ (nv (aR hr)) bf (ao cy) (ao (cm (cG (N':=N__law_are_whole_0) (k:=1) rfl (bq (by kernel_rfl) rfl rfl) (df (af (i:=0) rfl (vi rfl))) (λ_ _ _ _ _=>(aY (i:=2) (show 2<=2 by decide) j0)) (λ_ _ _ _ _=>cb) (λ_ _ _ _ _=>(aZ gan hr.m (aa (af (i:=2) rfl (vi rfl)) (aa (cL bK bT (ao (aJ nz nE (ao aj) (ao aj)))) (aa (aJ nz nE (ao aj) (ao aj)) aq)))))))))))))))
 (λds hl=>(by obtain⟨gaa,gaq,rfl⟩:=ln2 hl;kernel_rfl)),hmg,Fn.kp,(jr Fn λ_ _ _ _ _ _ _ _=>rfl)⟩
abbrev il:Stmt:=top 38
abbrev rC:List Str:=["_law_sizes", "_law_thing", "_law_good"]
theorem sc__law_is_form:FnScope rC ["_law_sizes", "_law_thing"] (aL il):=⟨rfl,rfl,rfl,by decide +kernel,rfl,by decide +kernel,by decide +kernel⟩
def dB(gab:D)(gaa:D):M D :=
 bd (bd (bd (oM (gl "tuple" gaa)) λb1=>.ret (!b1)) λb3=>if b3 then .ret true else bd (oM (cA [gaa])) λx2=>oM (fi x2 (.int 3))) λb4=>if b4 then
  .ret (.bool false)
  else
  bd (bd (bd (bd (bd (bd (oM (aD gaa (.int 0))) λx5=>.ret (.tuple [x5])) λx6=>cx x6 (.int 1)) λx7=>asB x7) λb11=>if b11 then bd (bd (oM (aD gaa (.int 1))) λx8=>bd (oM (aD gab (.int 0))) λx9=>cx x8 x9) λx10=>asB x10 else .ret false) λb12=>.ret (.bool b12)) λx13=>bd (bd (bd (asB x13) λb17=>if b17 then bd (bd (oM (aD gaa (.int 2))) λx14=>bd (oM (aD gab (.int 1))) λx15=>cx x14 x15) λx16=>asB x16 else .ret false) λb18=>.ret (.bool b18)) λx19=>.ret x19
def gP:List D->M D:=λl=>match l with
 | [gab,gaa]=>dB gab gaa
 | _=>.bad
theorem oH{f:Addr}(Fn:Fun K "_law_is_form" "_law_is_form" il f fd)(hmg:mg "_law_is_form" = some (.ref f))(B:BN mg)(Kn:KN mg)(gaS:CF P w K mg base "_law_are_whole" 2 (spD K 2 iO)):CF P w K mg base "_law_is_form" 3 (spD K 2 gP) :=
 ⟨f,fd,["_law_sizes", "_law_thing"],bF (k:=2) Fn sc__law_is_form (λcdv A outer s H E hr =>
  (au (bn (aW (dC (cK (bA (gU (d9 (T := "tuple") (by decide) rfl B.isinstance rfl B.tuple (by decide +kernel) (ao (af (i:=1) rfl (vi rfl))) rfl rfl rfl) (λ_=>rfl))) (cO (bc (dR (aR hr)) bf (ao (aT aU bx B.len ay (aI (ao (af (i:=1) rfl (vi rfl))) aN))) (ao aj))))))
  (aB (aK (aA cy)))
  aP)
  (au (aS (sh:=[.f,.f,.f]) (aO (i:=2) sc__law_is_form.nd (aA (eK (cD (gY (aZ gaS hr.m (aa (aF (aa (aE az aC (ao (af (i:=1) rfl (vi rfl))) (ao aj)) aq)) (aa aj aq)))) (dg (gY (aZ gaS hr.m (aa (aE az aC (ao (af (i:=1) rfl (vi rfl))) (ao aj)) (aa (aE az aC (ao (af (i:=0) rfl (vi rfl))) (ao aj)) aq))))))))))
  (aB (aK (aA (eK (cD (gY (af (i:=2) rfl (vi rfl))) (dg (gY (aZ gaS hr.m (aa (aE az aC (ao (af (i:=1) rfl (vi rfl))) (ao aj)) (aa (aE az aC (ao (af (i:=0) rfl (vi rfl))) (ao aj)) aq)))))))))))))
 (λds hl=>(by obtain⟨gab,gaa,rfl⟩:=ln2 hl;kernel_rfl)),hmg,Fn.kp,(jr Fn λ_ _ _ _ _ _ _ _=>rfl)⟩
abbrev iq:Stmt:=top 39
abbrev rD:List Str:=["_law_sizes", "_law_thing"]
theorem oE:FnScope rD ["_law_sizes", "_law_thing"] (aL iq):=⟨rfl,rfl,rfl,by decide +kernel,rfl,by decide +kernel,by decide +kernel⟩
def fM(gab:D)(gaa:D):M D :=
 bd (bd (bd (oM (gl "tuple" gaa)) λb1=>.ret (!b1)) λb8=>if b8 then .ret true else bd (bd (bd (oM (cA [gaa])) λx2=>bd (oM (nA (.int 2) x2)) λb3=>if b3 then oM (nA x2 (.int 3))else .ret false) λb4=>.ret (!b4)) λb7=>if b7 then .ret true else bd (bd (oM (aD gaa (.int 0))) λx5=>oM (gl "str" x5)) λb6=>.ret (!b6)) λb9=>if b9 then
  .ret (.bool false)
  else
  bd (bd (oM (cA [gaa])) λx10=>oM (bD x10 (.int 3))) λb11=>if b11 then
  bd (bd (bd (bd (oM (aD gaa (.int 0))) λx12=>oM (bD x12 (.str "rest"))) λb18=>if b18 then bd (bd (bd (oM (aD gaa (.int 1))) λx13=>dB gab x13) λx14=>asB x14) λb17=>if b17 then bd (bd (oM (aD gaa (.int 2))) λx15=>bM x15 (.int 2) (.int 99)) λx16=>asB x16 else .ret false else .ret false) λb19=>.ret (.bool b19)) λx20=>.ret x20
  else
  bd (bd (bd (bd (oM (aD gaa (.int 0))) λx21=>oM (lh x21 (PyData.list [(.str "least"),(.str "same")]))) λb24=>if b24 then bd (bd (oM (aD gaa (.int 1))) λx22=>dB gab x22) λx23=>asB x23 else .ret false) λb25=>.ret (.bool b25)) λx26=>.ret x26
def gQ:List D->M D:=λl=>match l with
 | [gab,gaa]=>fM gab gaa
 | _=>.bad
theorem oI{f:Addr}(Fn:Fun K "_law_is_fact" "_law_is_fact" iq f fd)(hmg:mg "_law_is_fact" = some (.ref f))(B:BN mg)(Kn:KN mg)(gaJ:CF P w K mg base "_law_is_form" 3 (spD K 2 gP))(gan:CF P w K mg base "_law_is_whole" 1 (spD K 3 cu)):CF P w K mg base "_law_is_fact" 4 (spD K 2 gQ) :=
 ⟨f,fd,["_law_sizes", "_law_thing"],bF (k:=3) Fn oE (λcdv A outer s H E hr =>
  (au (bn (aW (dC (cK (bA (gU (d9 (T := "tuple") (by decide) rfl B.isinstance rfl B.tuple (by decide +kernel) (ao (af (i:=1) rfl (vi rfl))) rfl rfl rfl) (λ_=>rfl))) (cK (bA (Cw mC mC mG mG (ao aj) (ao (aT aU bx B.len ay (aI (ao (af (i:=1) rfl (vi rfl))) aN))) (ao aj) (by with_unfolding_all rfl))) (cO (bA (gU (d9 (T := "str") (by decide) rfl B.isinstance rfl B.str (by decide +kernel) (ao (aE az aC (ao (af (i:=1) rfl (vi rfl))) (ao aj))) rfl rfl rfl) (λ_=>rfl))))))))
  (aB (aK (aA cy)))
  aP)
  (au (bn (aW (bc (bm (aR hr)) bf (ao (aT aU bx B.len ay (aI (ao (af (i:=1) rfl (vi rfl))) aN))) (ao aj)))
  (aB (aK (aA (eK (cD (bQ (bm (aR hr)) bf (ao (aE az aC (ao (af (i:=1) rfl (vi rfl))) (ao aj))) (ao aM)) (cD (gY (aZ gaJ hr.m (aa (af (i:=0) rfl (vi rfl)) (aa (aE az aC (ao (af (i:=1) rfl (vi rfl))) (ao aj)) aq)))) (dg (gY (aZ gan hr.m (aa (aE az aC (ao (af (i:=1) rfl (vi rfl))) (ao aj)) (aa aj (aa aj aq))))))))))))
  aP)
  (aB (aK (aA (eK (cD (bQ (qr (aR hr)) bf (ao (aE az aC (ao (af (i:=1) rfl (vi rfl))) (ao aj))) (ao (cm (bB (aa aM (aa aM aq)))))) (dg (gY (aZ gaJ hr.m (aa (af (i:=0) rfl (vi rfl)) (aa (aE az aC (ao (af (i:=1) rfl (vi rfl))) (ao aj)) aq)))))))))))))
 (λds hl=>(by obtain⟨gab,gaa,rfl⟩:=ln2 hl;kernel_rfl)),hmg,Fn.kp,(jr Fn λ_ _ _ _ _ _ _ _=>rfl)⟩
abbrev kb:Stmt:=top 40
abbrev wI:List Str:=["_law_form", "_law_sign", "_law_number"]
theorem ub:FnScope wI ["_law_form", "_law_sign", "_law_number"] (aL kb):=⟨rfl,rfl,rfl,by decide +kernel,rfl,by decide +kernel,by decide +kernel⟩
abbrev N__law_less_0:List Str:=["_law_form", "_law_sign", "_law_number", "_law_one"]
theorem nL:N__law_less_0.Nodup:=by decide +kernel
abbrev N__law_less_1:List Str:=["_law_form", "_law_sign", "_law_number", "_law_one"]
theorem nK:N__law_less_1.Nodup:=by decide +kernel
def cf(gaz:D)(gbd:D)(gaH:D):M D :=
 bd (bd (bd (bd (oM (aD gaz (.int 0))) λx1=>oM (bw gbd x1)) λx2=>oM (fP x2 gaH)) λx3=>bd (bd (bd (bd (bd (oM (aD gaz (.int 1))) λx4=>oM (fj x4)) λl7=>bd (bH (λd5=>bd (oM (bw gbd d5)) λx6=>.ret (some x6)) l7) dw) λl8=>.ret (PyData.list l8)) λx9=>oM (cw [x9])) λx10=>bd (bd (bd (bd (bd (oM (aD gaz (.int 2))) λx11=>oM (fj x11)) λl14=>bd (bH (λd12=>bd (oM (bw gbd d12)) λx13=>.ret (some x13)) l14) dw) λl15=>.ret (PyData.list l15)) λx16=>oM (cw [x16])) λx17=>.ret (.tuple [x3,x10,x17])) λx18=>.ret x18
def jN:List D->M D:=λl=>match l with
 | [gaz,gbd,gaH]=>cf gaz gbd gaH
 | _=>.bad
theorem uD{f:Addr}(Fn:Fun K "_law_less" "_law_less" kb f fd)(hmg:mg "_law_less" = some (.ref f))(B:BN mg)(Kn:KN mg):CF P w K mg base "_law_less" 1 (spD K 3 jN) :=
 ⟨f,fd,["_law_form", "_law_sign", "_law_number"],bF (k:=0) Fn ub (λcdv A outer s H E hr =>
  (aB (aK (aA (aF (aa (aJ fy fB (ao (aJ cB cC (ao (af (i:=1) rfl (vi rfl))) (ao (aE az aC (ao (af (i:=0) rfl (vi rfl))) (ao aj))))) (ao (af (i:=2) rfl (vi rfl)))) (aa (bt bg bR B.tuple (by decide +kernel) (aI (ao (cm (cG (N':=N__law_less_0) (k:=1) rfl (bq (by kernel_rfl) rfl rfl) (df (aE az aC (ao (af (i:=0) rfl (vi rfl))) (ao aj))) (λ_ _ _ _ _=>(aY (i:=3) (show 3<=3 by decide) nL)) (λ_ _ _ _ _=>cb) (λ_ _ _ _ _=>(aJ cB cC (ao (af (i:=1) rfl (vi rfl))) (ao (af (i:=3) rfl (vi rfl)))))))) aN)) (aa (bt bg bR B.tuple (by decide +kernel) (aI (ao (cm (cG (N':=N__law_less_1) (k:=1) rfl (bq (by kernel_rfl) rfl rfl) (df (aE az aC (ao (af (i:=0) rfl (vi rfl))) (ao aj))) (λ_ _ _ _ _=>(aY (i:=3) (show 3<=3 by decide) nK)) (λ_ _ _ _ _=>cb) (λ_ _ _ _ _=>(aJ cB cC (ao (af (i:=1) rfl (vi rfl))) (ao (af (i:=3) rfl (vi rfl)))))))) aN)) aq))))))))
 (λds hl=>(by obtain⟨gaz,gbd,gaH,rfl⟩:=ln3 hl;kernel_rfl)),hmg,Fn.kp,(n5 Fn λ_ _ _ _ _ _ _ _ _=>rfl)⟩
abbrev iw:Stmt:=top 41
abbrev rF:List Str:=["_law_fact", "_law_form"]
theorem sc__law_against:FnScope rF ["_law_fact"] (aL iw):=⟨rfl,rfl,rfl,by decide +kernel,rfl,by decide +kernel,by decide +kernel⟩
abbrev N__law_against_0:List Str:=["_law_fact", "_law_form", "_law_k"]
theorem lr:N__law_against_0.Nodup:=by decide +kernel
def fO(gaD:D):M D :=
 bd (oM (aD gaD (.int 1))) λx1=>bd (bd (oM (aD gaD (.int 0))) λx2=>oM (bD x2 (.str "least"))) λb3=>if b3 then
  bd (bd (bd (bd (bd (oM (bN (.int 1))) λx4=>cf x1 x4 (.int 1)) λx5=>.ret (.tuple [(.str "least"),x5])) λx6=>.ret [x6]) λl7=>.ret (PyData.list l7)) λx8=>.ret x8
  else
  bd (bd (oM (aD gaD (.int 0))) λx9=>oM (bD x9 (.str "same"))) λb10=>if b10 then
  bd (bd (bd (bd (cf x1 (.int 1) (.int 1)) λx11=>.ret (.tuple [(.str "least"),x11])) λx12=>bd (bd (bd (oM (bN (.int 1))) λx13=>cf x1 x13 (.int 1)) λx14=>.ret (.tuple [(.str "least"),x14])) λx15=>.ret [x12,x15]) λl16=>.ret (PyData.list l16)) λx17=>.ret x17
  else
  bd (bd (bd (bd (oM (aD gaD (.int 2))) λx18=>oM (eC [(.int 1),x18])) λl23=>bd (bH (λd19=>bd (bd (cf x1 (.int 1) d19) λx20=>bd (oM (aD gaD (.int 2))) λx21=>.ret (.tuple [(.str "rest"),x20,x21])) λx22=>.ret (some x22)) l23) dw) λl24=>.ret (PyData.list l24)) λx25=>.ret x25
def gS:List D->M D:=λl=>match l with
 | [gaD]=>fO gaD
 | _=>.bad
theorem oK{f:Addr}(Fn:Fun K "_law_against" "_law_against" iw f fd)(hmg:mg "_law_against" = some (.ref f))(B:BN mg)(Kn:KN mg)(gaK:CF P w K mg base "_law_less" 1 (spD K 3 jN)):CF P w K mg base "_law_against" 2 (spD K 1 gS) :=
 ⟨f,fd,["_law_fact"],bF (k:=1) Fn sc__law_against (λcdv A outer s H E hr =>
  (au (aS (sh:=[.f,.f]) (aO (i:=1) sc__law_against.nd (aA (aE az aC (ao (af (i:=0) rfl (vi rfl))) (ao aj)))))
  (au (bn (aW (bc (bm (aR hr)) bf (ao (aE az aC (ao (af (i:=0) rfl (vi rfl))) (ao aj))) (ao aM)))
  (aB (aK (aA (cm (bB (aa (aF (aa aM (aa (aZ gaK hr.m (aa (af (i:=1) rfl (vi rfl)) (aa (cL bK bT (ao aj)) (aa aj aq)))) aq))) aq))))))
  aP)
  (au (bn (aW (bc (bm (aR hr)) bf (ao (aE az aC (ao (af (i:=0) rfl (vi rfl))) (ao aj))) (ao aM)))
  (aB (aK (aA (cm (bB (aa (aF (aa aM (aa (aZ gaK hr.m (aa (af (i:=1) rfl (vi rfl)) (aa aj (aa aj aq)))) aq))) (aa (aF (aa aM (aa (aZ gaK hr.m (aa (af (i:=1) rfl (vi rfl)) (aa (cL bK bT (ao aj)) (aa aj aq)))) aq))) aq)))))))
  aP)
  (aB (aK (aA (cm (cG (N':=N__law_against_0) (k:=1) rfl (bq (by kernel_rfl) rfl rfl) (lg rfl B.range (aa aj (aa (aE az aC (ao (af (i:=0) rfl (vi rfl))) (ao aj)) aq)) rfl rfl) (λ_ _ _ _ _=>(aY (i:=2) (show 2<=2 by decide) lr)) (λ_ _ _ _ _=>cb) (λ_ _ _ _ _=>(aF (aa aM (aa (aZ gaK hr.m (aa (af (i:=1) rfl (vi rfl)) (aa aj (aa (af (i:=2) rfl (vi rfl)) aq)))) (aa (aE az aC (ao (af (i:=0) rfl (vi rfl))) (ao aj)) aq))))))))))))))
 (λds hl=>(by obtain⟨gaD,rfl⟩:=ln1 hl;kernel_rfl)),hmg,Fn.kp,(Au Fn λ_ _ _ _ _ _ _=>rfl)⟩
abbrev iu:Stmt:=top 42
abbrev rE:List Str:=["_law_sizes", "_law_facts", "_law_times", "_law_by", "_law_found", "_law_last", "_law_one", "_law_fact", "_law_may", "_law_weights"]
theorem sc__law_come_to:FnScope rE ["_law_sizes", "_law_facts", "_law_times", "_law_by"] (aL iu):=⟨rfl,rfl,rfl,by decide +kernel,rfl,by decide +kernel,by decide +kernel⟩
abbrev N__law_come_to_0:List Str:=["_law_sizes", "_law_facts", "_law_times", "_law_by", "_law_found", "_law_last", "_law_one", "_law_fact", "_law_may", "_law_weights", "_law_k"]
theorem lq:N__law_come_to_0.Nodup:=by decide +kernel
def iV(gaf:D)(gay:D)(gbo:D)(gbO:D):M D :=
 .ret gbo
def db(gaf:D)(gay:D)(gbo:D)(gbO:D)(d_:D)(kn11:D×D×D×D×Unit->M D):M D :=
 bd (bd (bd (oM (gl "tuple" d_)) λb12=>.ret (!b12)) λb21=>if b21 then .ret true else bd (bd (oM (cA [d_])) λx13=>oM (fi x13 (.int 2))) λb20=>if b20 then .ret true else bd (bd (bd (oM (aD d_ (.int 0))) λx14=>bd (oM (aX gbO (.int 1))) λx15=>bd (bd (oM (cA [gaf])) λx16=>oM (fP x16 (.int 1))) λx17=>bM x14 x15 x17) λx18=>oM (dP x18)) λb19=>.ret (!b19)) λb22=>if b22 then
  .ret .none
  else
  bd (bd (bd (bd (bd (oM (aD d_ (.int 1))) λx23=>bd (bd (oM (jX (.int 10) (.int 15))) λx24=>oM (bN x24)) λx25=>bd (oM (jX (.int 10) (.int 15))) λx26=>bM x23 x25 x26) λx27=>oM (dP x27)) λb28=>.ret (!b28)) λb30=>if b30 then .ret true else bd (oM (aD d_ (.int 1))) λx29=>oM (bD x29 (.int 0))) λb31=>if b31 then
  .ret .none
  else
  bd (bd (oM (aD d_ (.int 0))) λx32=>oM (aD gaf x32)) λx33=>bd (bd (bd (bd (oM (aD x33 (.int 0))) λx34=>oM (bD x34 (.str "same"))) λb39=>if b39 then .ret true else bd (oM (bD gay (.int 0))) λb38=>if b38 then bd (bd (oM (aD x33 (.int 0))) λx35=>oM (bD x35 (.str "least"))) λb37=>if b37 then bd (oM (aD d_ (.int 1))) λx36=>oM (lI x36 (.int 0))else .ret false else .ret false) λb40=>.ret (.bool b40)) λx41=>bd (bd (bd (oM (dP x41)) λb42=>.ret (!b42)) λb48=>if b48 then bd (oM (bD gay (.int 0))) λb47=>if b47 then .ret true else bd (bd (oM (aD x33 (.int 0))) λx43=>oM (fi x43 (.str "rest"))) λb46=>if b46 then .ret true else bd (bd (oM (aD x33 (.int 2))) λx44=>oM (fQ x44 gay)) λx45=>oM (fi x45 (.int 0))else .ret false) λb49=>if b49 then
  .ret .none
  else
  bd (bd (bd (oM (aD x33 (.int 1))) λx50=>oM (aD x50 (.int 1))) λx52=>bd (bd (oM (aD x33 (.int 1))) λx51=>oM (aD x51 (.int 2))) λx53=>oM (aX x52 x53)) λx54=>bd (bd (bd (oM (aD gbo (.int 0))) λx58=>bd (bd (oM (aD d_ (.int 1))) λx56=>bd (bd (oM (aD x33 (.int 1))) λx55=>oM (aD x55 (.int 0))) λx57=>oM (bw x56 x57)) λx59=>oM (aX x58 x59)) λx60=>bd (bd (bd (bd (oM (cA [x54])) λx61=>oM (ci [x61])) λl69=>bd (bH (λd62=>bd (bd (bd (oM (aD gbo (.int 1))) λx63=>oM (aD x63 d62)) λx66=>bd (bd (oM (aD d_ (.int 1))) λx64=>bd (oM (aD x54 d62)) λx65=>oM (bw x64 x65)) λx67=>oM (aX x66 x67)) λx68=>.ret (some x68)) l69) dw) λl70=>.ret (PyData.list l70)) λx71=>.ret (.tuple [x60,x71])) λx72=>bd (oM (aD d_ (.int 0))) λx73=>kn11 (gaf,gay,x72,x73,())
def d7(gab:D)(gaj:D)(gaC:D)(gbL:D):M D :=
 bd (bd (oM (gl "tuple" gaC)) λb1=>.ret (!b1)) λb2=>if b2 then
  .ret .none
  else
  bd (bd (bd (bd (bd (oM (aD gab (.int 0))) λx3=>bd (oM (aD gab (.int 1))) λx4=>oM (aX x3 x4)) λx5=>oM (qu (PyData.list [(.int 0)]) x5)) λl6=>.ret (PyData.list l6)) λx7=>.ret (.tuple [(.int 0),x7])) λx8=>bd (oM (bN (.int 1))) λx9=>bd (oM (fj gaC)) λl10=>gT (λs74 d75 kn=>db s74.1 s74.2.1 s74.2.2.1 s74.2.2.2.1 d75 kn) l10 (gaj,gbL,x8,x9,()) (λs74=>iV s74.1 s74.2.1 s74.2.2.1 s74.2.2.2.1)
def gR:List D->M D:=λl=>match l with
 | [gab,gaj,gaC,gbL]=>d7 gab gaj gaC gbL
 | _=>.bad
theorem oJ{f:Addr}(Fn:Fun K "_law_come_to" "_law_come_to" iu f fd)(hmg:mg "_law_come_to" = some (.ref f))(B:BN mg)(Kn:KN mg)(gan:CF P w K mg base "_law_is_whole" 1 (spD K 3 cu)):CF P w K mg base "_law_come_to" 2 (spD K 4 gR) :=
 ⟨f,fd,["_law_sizes", "_law_facts", "_law_times", "_law_by"],bF (k:=1) Fn sc__law_come_to (λcdv A outer s H E hr =>
  (au (bn (aW (bA (gU (d9 (T := "tuple") (by decide) rfl B.isinstance rfl B.tuple (by decide +kernel) (ao (af (i:=2) rfl (vi rfl))) rfl rfl rfl) (λ_=>rfl))))
  (aB (aK (aA eN)))
  aP)
  (au (aS (sh:=[.dead,.f,.f,.f,.f,.dead,.dead,.dead,.dead,.dead]) (aO (i:=4) sc__law_come_to.nd (aA (aF (aa aj (aa (cm (Gj (bB (aa aj aq)) (ao (aJ aV bh (ao (aE az aC (ao (af (i:=0) rfl (vi rfl))) (ao aj))) (ao (aE az aC (ao (af (i:=0) rfl (vi rfl))) (ao aj))))))) aq))))))
  (au (aS (sh:=[.dead,.f,.f,.f,.f,.f,.dead,.dead,.dead,.dead]) (aO (i:=5) sc__law_come_to.nd (aA (cL bK bT (ao aj)))))
  (au (dm (sh:=[.dead,.f,.dead,.f,.f,.f,.dead,.dead,.dead,.dead]) PassesOwn.leaving rfl (e8 (df (af (i:=2) rfl (vi rfl)))) (aY (i:=6) (gh _) sc__law_come_to.nd)
  (au (bn (aW (dC (cK (bA (gU (d9 (T := "tuple") (by decide) rfl B.isinstance rfl B.tuple (by decide +kernel) (ao (af (i:=6) rfl (vi rfl))) rfl rfl rfl) (λ_=>rfl))) (cK (bc (dR (aR hr)) bf (ao (aT aU bx B.len ay (aI (ao (af (i:=6) rfl (vi rfl))) aN))) (ao aj)) (cO (bA (cp (ao (aZ gan hr.m (aa (aE az aC (ao (af (i:=6) rfl (vi rfl))) (ao aj)) (aa (aJ aV bh (ao (af (i:=5) rfl (vi rfl))) (ao aj)) (aa (aJ fy fB (ao (aT aU bx B.len ay (aI (ao (af (i:=1) rfl (vi rfl))) aN))) (ao aj)) aq))))) (λ_=>rfl))))))))
  (aB (aK (aA eN)))
  aP)
  (au (bn (aW (dC (cK (bA (cp (ao (aZ gan hr.m (aa (aE az aC (ao (af (i:=6) rfl (vi rfl))) (ao aj)) (aa (cL bK bT (ao (aJ nz nE (ao aj) (ao aj)))) (aa (aJ nz nE (ao aj) (ao aj)) aq))))) (λ_=>rfl))) (cO (bc (bm (aR hr)) bf (ao (aE az aC (ao (af (i:=6) rfl (vi rfl))) (ao aj))) (ao aj))))))
  (aB (aK (aA eN)))
  aP)
  (au (aS (sh:=[.dead,.f,.dead,.f,.f,.dead,.f,.f,.dead,.dead]) (aO (i:=7) sc__law_come_to.nd (aA (aE az aC (ao (af (i:=1) rfl (vi rfl))) (ao (aE az aC (ao (af (i:=6) rfl (vi rfl))) (ao aj)))))))
  (au (aS (sh:=[.dead,.f,.dead,.f,.f,.dead,.f,.f,.f,.dead]) (aO (i:=8) sc__law_come_to.nd (aA (eK (HS (bQ (bm (aR hr)) bf (ao (aE az aC (ao (af (i:=7) rfl (vi rfl))) (ao aj))) (ao aM)) (dg (cD (bQ (bm (aR hr)) bf (ao (af (i:=3) rfl (vi rfl))) (ao aj)) (cD (bQ (bm (aR hr)) bf (ao (aE az aC (ao (af (i:=7) rfl (vi rfl))) (ao aj))) (ao aM)) (dg (bQ vN vP (ao (aE az aC (ao (af (i:=6) rfl (vi rfl))) (ao aj))) (ao aj)))))))))))
  (au (bn (aW (dC (xZ (bA (cp (ao (af (i:=8) rfl (vi rfl))) (λ_=>rfl))) (uZ (dC (cK (bc (bm (aR hr)) bf (ao (af (i:=3) rfl (vi rfl))) (ao aj)) (cK (bc (dR (aR hr)) bf (ao (aE az aC (ao (af (i:=7) rfl (vi rfl))) (ao aj))) (ao aM)) (cO (bc (dR (aR hr)) bf (ao (aJ gN gO (ao (aE az aC (ao (af (i:=7) rfl (vi rfl))) (ao aj))) (ao (af (i:=3) rfl (vi rfl))))) (ao aj))))))))))
  (aB (aK (aA eN)))
  aP)
  (au (aS (sh:=[.dead,.f,.dead,.f,.f,.dead,.f,.f,.dead,.f]) (aO (i:=9) sc__law_come_to.nd (aA (aJ aV bh (ao (aE az aC (ao (aE az aC (ao (af (i:=7) rfl (vi rfl))) (ao aj))) (ao aj))) (ao (aE az aC (ao (aE az aC (ao (af (i:=7) rfl (vi rfl))) (ao aj))) (ao aj)))))))
  (au (aS (sh:=[.dead,.f,.dead,.f,.f,.dead,.f,.dead,.dead,.dead]) (aO (i:=4) sc__law_come_to.nd (aA (aF (aa (aJ aV bh (ao (aE az aC (ao (af (i:=4) rfl (vi rfl))) (ao aj))) (ao (aJ cB cC (ao (aE az aC (ao (af (i:=6) rfl (vi rfl))) (ao aj))) (ao (aE az aC (ao (aE az aC (ao (af (i:=7) rfl (vi rfl))) (ao aj))) (ao aj)))))) (aa (cm (cG (N':=N__law_come_to_0) (k:=1) rfl (bq (by kernel_rfl) rfl rfl) (dN rfl B.range (aa (aT aU bx B.len ay (aI (ao (af (i:=9) rfl (vi rfl))) aN)) aq) rfl) (λ_ _ _ _ _=>(aY (i:=10) (show 10<=10 by decide) lq)) (λ_ _ _ _ _=>cb) (λ_ _ _ _ _=>(aJ aV bh (ao (aE az aC (ao (aE az aC (ao (af (i:=4) rfl (vi rfl))) (ao aj))) (ao (af (i:=10) rfl (vi rfl))))) (ao (aJ cB cC (ao (aE az aC (ao (af (i:=6) rfl (vi rfl))) (ao aj))) (ao (aE az aC (ao (af (i:=9) rfl (vi rfl))) (ao (af (i:=10) rfl (vi rfl))))))))))) aq))))))
  (aB (aO (i:=5) sc__law_come_to.nd (aA (aE az aC (ao (af (i:=6) rfl (vi rfl))) (ao aj)))))))))))))
  (aB (aK (aA (af (i:=4) rfl (vi rfl))))))))))
 (λds hl=>(by obtain⟨gab,gaj,gaC,gbL,rfl⟩:=ln4 hl;kernel_rfl)),hmg,Fn.kp,(xX Fn λ_ _ _ _ _ _ _ _ _ _=>rfl)⟩
abbrev j8:Stmt:=top 43
abbrev wF:List Str:=["_law_sizes", "_law_thing"]
theorem ua:FnScope wF ["_law_sizes", "_law_thing"] (aL j8):=⟨rfl,rfl,rfl,by decide +kernel,rfl,by decide +kernel,by decide +kernel⟩
abbrev N__law_ways_0:List Str:=["_law_sizes", "_law_thing", "_law_k"]
theorem nH:N__law_ways_0.Nodup:=by decide +kernel
def fg(gab:D)(gaa:D):M D :=
 bd (bd (bd (oM (cA [gaa])) λx1=>oM (fi x1 (.int 4))) λb5=>if b5 then .ret true else bd (bd (bd (oM (aD gaa (.int 1))) λx2=>dB gab x2) λx3=>oM (dP x3)) λb4=>.ret (!b4)) λb6=>if b6 then
  .ret (PyData.list [])
  else
  bd (bd (oM (aD gaa (.int 0))) λx7=>oM (bD x7 (.str "split"))) λb8=>if b8 then
  bd (bd (bd (bd (bd (oM (aD gaa (.int 1))) λx9=>.ret (.tuple [(.str "least"),x9])) λx10=>bd (oM (aD gaa (.int 2))) λx11=>.ret (.tuple [x10,x11])) λx12=>bd (bd (bd (bd (oM (aD gaa (.int 1))) λx13=>bd (oM (bN (.int 1))) λx14=>cf x13 x14 (.int 1)) λx15=>.ret (.tuple [(.str "least"),x15])) λx16=>bd (oM (aD gaa (.int 3))) λx17=>.ret (.tuple [x16,x17])) λx18=>.ret [x12,x18]) λl19=>.ret (PyData.list l19)) λx20=>.ret x20
  else
  bd (bd (bd (bd (bd (oM (aD gaa (.int 2))) λx21=>bM x21 (.int 2) (.int 9)) λx22=>oM (dP x22)) λb23=>.ret (!b23)) λb30=>if b30 then .ret true else bd (bd (bd (oM (aD gaa (.int 3))) λx24=>oM (gl "tuple" x24)) λb25=>.ret (!b25)) λb29=>if b29 then .ret true else bd (bd (oM (aD gaa (.int 3))) λx26=>oM (cA [x26])) λx27=>bd (oM (aD gaa (.int 2))) λx28=>oM (fi x27 x28)) λb31=>if b31 then
  .ret (PyData.list [])
  else
  bd (bd (bd (bd (oM (aD gaa (.int 2))) λx32=>oM (ci [x32])) λl41=>bd (bH (λd33=>bd (bd (bd (bd (oM (aD gaa (.int 1))) λx34=>cf x34 (.int 1) d33) λx35=>bd (oM (aD gaa (.int 2))) λx36=>.ret (.tuple [(.str "rest"),x35,x36])) λx37=>bd (bd (oM (aD gaa (.int 3))) λx38=>oM (aD x38 d33)) λx39=>.ret (.tuple [x37,x39])) λx40=>.ret (some x40)) l41) dw) λl42=>.ret (PyData.list l42)) λx43=>.ret x43
def jM:List D->M D:=λl=>match l with
 | [gab,gaa]=>fg gab gaa
 | _=>.bad
theorem uA{f:Addr}(Fn:Fun K "_law_ways" "_law_ways" j8 f fd)(hmg:mg "_law_ways" = some (.ref f))(B:BN mg)(Kn:KN mg)(gaJ:CF P w K mg base "_law_is_form" 3 (spD K 2 gP))(gan:CF P w K mg base "_law_is_whole" 1 (spD K 3 cu))(gaK:CF P w K mg base "_law_less" 1 (spD K 3 jN)):CF P w K mg base "_law_ways" 4 (spD K 2 jM) :=
 ⟨f,fd,["_law_sizes", "_law_thing"],bF (k:=3) Fn ua (λcdv A outer s H E hr =>
  (au (bn (aW (dC (cK (bc (dR (aR hr)) bf (ao (aT aU bx B.len ay (aI (ao (af (i:=1) rfl (vi rfl))) aN))) (ao aj)) (cO (bA (cp (ao (aZ gaJ hr.m (aa (af (i:=0) rfl (vi rfl)) (aa (aE az aC (ao (af (i:=1) rfl (vi rfl))) (ao aj)) aq)))) (λ_=>rfl)))))))
  (aB (aK (aA (cm (bB aq)))))
  aP)
  (au (bn (aW (bc (bm (aR hr)) bf (ao (aE az aC (ao (af (i:=1) rfl (vi rfl))) (ao aj))) (ao aM)))
  (aB (aK (aA (cm (bB (aa (aF (aa (aF (aa aM (aa (aE az aC (ao (af (i:=1) rfl (vi rfl))) (ao aj)) aq))) (aa (aE az aC (ao (af (i:=1) rfl (vi rfl))) (ao aj)) aq))) (aa (aF (aa (aF (aa aM (aa (aZ gaK hr.m (aa (aE az aC (ao (af (i:=1) rfl (vi rfl))) (ao aj)) (aa (cL bK bT (ao aj)) (aa aj aq)))) aq))) (aa (aE az aC (ao (af (i:=1) rfl (vi rfl))) (ao aj)) aq))) aq)))))))
  aP)
  (au (bn (aW (dC (cK (bA (cp (ao (aZ gan hr.m (aa (aE az aC (ao (af (i:=1) rfl (vi rfl))) (ao aj)) (aa aj (aa aj aq))))) (λ_=>rfl))) (cK (bA (gU (d9 (T := "tuple") (by decide) rfl B.isinstance rfl B.tuple (by decide +kernel) (ao (aE az aC (ao (af (i:=1) rfl (vi rfl))) (ao aj))) rfl rfl rfl) (λ_=>rfl))) (cO (bc (dR (aR hr)) bf (ao (aT aU bx B.len ay (aI (ao (aE az aC (ao (af (i:=1) rfl (vi rfl))) (ao aj))) aN))) (ao (aE az aC (ao (af (i:=1) rfl (vi rfl))) (ao aj)))))))))
  (aB (aK (aA (cm (bB aq)))))
  aP)
  (aB (aK (aA (cm (cG (N':=N__law_ways_0) (k:=1) rfl (bq (by kernel_rfl) rfl rfl) (dN rfl B.range (aa (aE az aC (ao (af (i:=1) rfl (vi rfl))) (ao aj)) aq) rfl) (λ_ _ _ _ _=>(aY (i:=2) (show 2<=2 by decide) nH)) (λ_ _ _ _ _=>cb) (λ_ _ _ _ _=>(aF (aa (aF (aa aM (aa (aZ gaK hr.m (aa (aE az aC (ao (af (i:=1) rfl (vi rfl))) (ao aj)) (aa aj (aa (af (i:=2) rfl (vi rfl)) aq)))) (aa (aE az aC (ao (af (i:=1) rfl (vi rfl))) (ao aj)) aq)))) (aa (aE az aC (ao (aE az aC (ao (af (i:=1) rfl (vi rfl))) (ao aj))) (ao (af (i:=2) rfl (vi rfl)))) aq)))))))))))))
 (λds hl=>(by obtain⟨gab,gaa,rfl⟩:=ln2 hl;kernel_rfl)),hmg,Fn.kp,(jr Fn λ_ _ _ _ _ _ _ _=>rfl)⟩
abbrev g9:Stmt:=top 45
abbrev vm:List Str:=["_law_sizes", "_law_facts", "_law_fact", "_law_thing", "_law_deep", "_law_some"]
theorem sc__law_shown:FnScope vm ["_law_sizes", "_law_facts", "_law_fact", "_law_thing", "_law_deep"] (aL g9):=⟨rfl,rfl,rfl,by decide +kernel,rfl,by decide +kernel,by decide +kernel⟩
abbrev N__law_shown_0:List Str:=["_law_sizes", "_law_facts", "_law_fact", "_law_thing", "_law_deep", "_law_some", "_law_k"]
theorem mL:N__law_shown_0.Nodup:=by decide +kernel
def iF(s__law_refuted_:D->D->D->D->M D)(gab:D)(gaj:D)(gaD:D)(gaa:D)(gat:D):M D :=
 bd (fO gaD) λx1=>bd (bd (bd (oM (gl "tuple" gaa)) λb2=>.ret (!b2)) λb5=>if b5 then .ret true else bd (oM (cA [gaa])) λx3=>bd (oM (cA [x1])) λx4=>oM (fi x3 x4)) λb6=>if b6 then
  .ret (.bool false)
  else
  bd (bd (bd (bd (bd (bd (oM (cA [x1])) λx7=>oM (ci [x7])) λl14=>bd (bH (λd8=>bd (bd (bd (bd (oM (aD x1 d8)) λx9=>.ret (.tuple [x9])) λx10=>oM (aX gaj x10)) λx11=>bd (oM (aD gaa d8)) λx12=>s__law_refuted_ gab x11 x12 gat) λx13=>.ret (some x13)) l14) dw) λl15=>.ret (PyData.list l15)) λx16=>oM (jF (.bool false) x16)) λb17=>.ret (.bool b17)) λx18=>.ret x18
abbrev fq:Stmt:=top 44
abbrev rA:List Str:=["_law_sizes", "_law_facts", "_law_thing", "_law_deep", "_law_found", "_law_shown_here", "_law_ways_here", "_law_good"]
theorem sc__law_refuted:FnScope rA ["_law_sizes", "_law_facts", "_law_thing", "_law_deep"] (aL fq):=⟨rfl,rfl,rfl,by decide +kernel,rfl,by decide +kernel,by decide +kernel⟩
abbrev N__law_refuted_0:List Str:=["_law_sizes", "_law_facts", "_law_thing", "_law_deep", "_law_found", "_law_shown_here", "_law_ways_here", "_law_good", "_law_one"]
theorem lp:N__law_refuted_0.Nodup:=by decide +kernel
abbrev N__law_refuted_1:List Str:=["_law_sizes", "_law_facts", "_law_thing", "_law_deep", "_law_found", "_law_shown_here", "_law_ways_here", "_law_good", "_law_fact", "_law_one"]
theorem gW:N__law_refuted_1.Nodup:=by decide +kernel
def eI(s__law_refuted_:D->D->D->D->M D)(s__law_shown_:D->D->D->D->D->M D)(gab:D)(gaj:D)(gaa:D)(gat:D):M D :=
 bd (bd (oM (lI gat (.int 30))) λb7=>if b7 then .ret true else bd (bd (oM (gl "tuple" gaa)) λb1=>.ret (!b1)) λb6=>if b6 then .ret true else bd (bd (oM (cA [gaa])) λx2=>oM (uo x2 (.int 2))) λb5=>if b5 then .ret true else bd (bd (oM (aD gaa (.int 0))) λx3=>oM (gl "str" x3)) λb4=>.ret (!b4)) λb8=>if b8 then
  .ret (.bool false)
  else
  bd (bd (oM (aD gaa (.int 0))) λx9=>oM (bD x9 (.str "sum"))) λb10=>if b10 then
  bd (bd (oM (aD gaa (.int 1))) λx11=>d7 gab gaj x11 (.int 0)) λx12=>bd (bd (bd (bd (oM (cA [gaa])) λx13=>oM (bD x13 (.int 2))) λb19=>if b19 then bd (oM (lH x12 .none)) λb18=>if b18 then bd (bd (oM (aD x12 (.int 0))) λx14=>oM (uo x14 (.int 0))) λb17=>if b17 then bd (bd (oM (aD x12 (.int 1))) λx15=>oM (Ad [x15])) λx16=>oM (nA x16 (.int 0))else .ret false else .ret false else .ret false) λb20=>.ret (.bool b20)) λx21=>.ret x21
  else
  bd (bd (oM (aD gaa (.int 0))) λx22=>oM (bD x22 (.str "rest"))) λb23=>if b23 then
  bd (bd (bd (oM (cA [gaa])) λx24=>oM (fi x24 (.int 3))) λb28=>if b28 then .ret true else bd (bd (bd (oM (aD gaa (.int 1))) λx25=>bM x25 (.int 2) (.int 99)) λx26=>oM (dP x26)) λb27=>.ret (!b27)) λb29=>if b29 then
  .ret (.bool false)
  else
  bd (bd (oM (aD gaa (.int 2))) λx30=>bd (oM (aD gaa (.int 1))) λx31=>d7 gab gaj x30 x31) λx32=>bd (bd (oM (kq x32 .none)) λb41=>if b41 then .ret true else bd (bd (bd (bd (oM (aD x32 (.int 1))) λx33=>oM (fj x33)) λl38=>bd (bH (λd34=>bd (bd (bd (oM (aD gaa (.int 1))) λx35=>oM (fQ d34 x35)) λx36=>oM (fi x36 (.int 0))) λb37=>if b37 then .ret (some d34)else .ret none) l38) dw) λl39=>.ret (PyData.list l39)) λx40=>oM (fi x40 (PyData.list []))) λb42=>if b42 then
  .ret (.bool false)
  else
  bd (bd (bd (bd (oM (aD x32 (.int 0))) λx43=>bd (oM (aD gaa (.int 1))) λx44=>oM (fQ x43 x44)) λx45=>oM (fi x45 (.int 0))) λb46=>.ret (.bool b46)) λx47=>.ret x47
  else
  bd (bd (oM (aD gaa (.int 0))) λx48=>oM (bD x48 (.str "know"))) λb49=>if b49 then
  bd (bd (bd (oM (cA [gaa])) λx50=>oM (fi x50 (.int 4))) λb54=>if b54 then .ret true else bd (bd (bd (oM (aD gaa (.int 1))) λx51=>fM gab x51) λx52=>oM (dP x52)) λb53=>.ret (!b53)) λb55=>if b55 then
  .ret (.bool false)
  else
  bd (bd (oM (aD gaa (.int 1))) λx56=>bd (oM (aD gaa (.int 2))) λx57=>bd (oM (aX gat (.int 1))) λx58=>s__law_shown_ gab gaj x56 x57 x58) λx59=>bd (bd (bd (asB x59) λb66=>if b66 then bd (bd (bd (bd (oM (aD gaa (.int 1))) λx60=>.ret (.tuple [x60])) λx61=>oM (aX gaj x61)) λx62=>bd (oM (aD gaa (.int 3))) λx63=>bd (oM (aX gat (.int 1))) λx64=>s__law_refuted_ gab x62 x63 x64) λx65=>asB x65 else .ret false) λb67=>.ret (.bool b67)) λx68=>.ret x68
  else
  bd (bd (bd (oM (aD gaa (.int 0))) λx69=>oM (lh x69 (PyData.list [(.str "split"),(.str "cases")]))) λb70=>if b70 then fg gab gaa else .ret (PyData.list [])) λx71=>bd (bd (bd (oM (fj x71)) λl78=>bd (bH (λd72=>un2 d72 λy73 y74=>bd (bd (oM (aX gaj (.tuple [y73]))) λx75=>bd (oM (aX gat (.int 1))) λx76=>s__law_refuted_ gab x75 y74 x76) λx77=>.ret (some x77)) l78) dw) λl79=>.ret (PyData.list l79)) λx80=>bd (bd (bd (oM (fi x80 (PyData.list []))) λb81=>if b81 then oM (jF (.bool false) x80)else .ret false) λb82=>.ret (.bool b82)) λx83=>.ret x83
def cV:Nat->(D->D->D->D->M D)×(D->D->D->D->D->M D)
 | 0=>(λ_ _ _ _=>.bad,λ_ _ _ _ _=>.bad)
 | i+1=>(eI (cV i).1 (cV i).2,iF (cV i).1)
def bX(i:Nat):D->D->D->D->M D:=(cV i).1
def hZ(i:Nat):D->D->D->D->D->M D:=(cV i).2
def cH(i:Nat):List D->M D:=λl=>match l with
 | [gab,gaj,gaa,gat]=>bX i gab gaj gaa gat
 | _=>.bad
def eO(i:Nat):List D->M D:=λl=>match l with
 | [gab,gaj,gaD,gaa,gat]=>hZ i gab gaj gaD gaa gat
 | _=>.bad
theorem oR{f:Addr}(Fn:Fun K "_law_refuted" "_law_refuted" fq f fd)(B:BN mg)(Kn:KN mg)(gaT:CF P w K mg base "_law_come_to" 2 (spD K 4 gR))(gbe:CF P w K mg base "_law_ways" 4 (spD K 2 jM))(gan:CF P w K mg base "_law_is_whole" 1 (spD K 3 cu))(gaW:CF P w K mg base "_law_is_fact" 4 (spD K 2 gQ))(i:Nat)(Cs__law_refuted:CF P w K mg base "_law_refuted" (5+i) (spD K 4 (cH i)))(Cs__law_shown:CF P w K mg base "_law_shown" (5+i) (spD K 5 (eO i))):FnOk P w K mg base (CX1 P w) (5+i+1) f fd ["_law_sizes", "_law_facts", "_law_thing", "_law_deep"] (spD K 4 (cH (i+1))) :=
 bF (k:=5+i) Fn sc__law_refuted (λcdv A outer s H E hr =>
  (au (bn (aW (dC (cK (bc vN vP (ao (af (i:=3) rfl (vi rfl))) (ao aj)) (cK (bA (gU (d9 (T := "tuple") (by decide) rfl B.isinstance rfl B.tuple (by decide +kernel) (ao (af (i:=2) rfl (vi rfl))) rfl rfl rfl) (λ_=>rfl))) (cK (bc sV sX (ao (aT aU bx B.len ay (aI (ao (af (i:=2) rfl (vi rfl))) aN))) (ao aj)) (cO (bA (gU (d9 (T := "str") (by decide) rfl B.isinstance rfl B.str (by decide +kernel) (ao (aE az aC (ao (af (i:=2) rfl (vi rfl))) (ao aj))) rfl rfl rfl) (λ_=>rfl)))))))))
  (aB (aK (aA cy)))
  aP)
  (au (bn (aW (bc (bm (aR hr)) bf (ao (aE az aC (ao (af (i:=2) rfl (vi rfl))) (ao aj))) (ao aM)))
  (au (aS (sh:=[.dead,.dead,.f,.dead,.f,.dead,.dead,.dead]) (aO (i:=4) sc__law_refuted.nd (aA (aZ gaT (hr.mono (by omega)) (aa (af (i:=0) rfl (vi rfl)) (aa (af (i:=1) rfl (vi rfl)) (aa (aE az aC (ao (af (i:=2) rfl (vi rfl))) (ao aj)) (aa aj aq))))))))
  (aB (aK (aA (eK (cD (bQ (bm (aR hr)) bf (ao (aT aU bx B.len ay (aI (ao (af (i:=2) rfl (vi rfl))) aN))) (ao aj)) (cD (bQ vM bf (ao (af (i:=4) rfl (vi rfl))) (ao eN)) (cD (bQ sV sX (ao (aE az aC (ao (af (i:=4) rfl (vi rfl))) (ao aj))) (ao aj)) (dg (bQ mC mG (ao (aT ((tK rfl).or (tL rfl)) BC B.max (by decide +kernel) (aI (ao (aE az aC (ao (af (i:=4) rfl (vi rfl))) (ao aj))) aN))) (ao aj)))))))))))
  aP)
  (au (bn (aW (bc (bm (aR hr)) bf (ao (aE az aC (ao (af (i:=2) rfl (vi rfl))) (ao aj))) (ao aM)))
  (au (bn (aW (dC (cK (bc (dR (aR hr)) bf (ao (aT aU bx B.len ay (aI (ao (af (i:=2) rfl (vi rfl))) aN))) (ao aj)) (cO (bA (cp (ao (aZ gan (hr.mono (by omega)) (aa (aE az aC (ao (af (i:=2) rfl (vi rfl))) (ao aj)) (aa aj (aa aj aq))))) (λ_=>rfl)))))))
  (aB (aK (aA cy)))
  aP)
  (au (aS (sh:=[.dead,.dead,.f,.dead,.f,.dead,.dead,.dead]) (aO (i:=4) sc__law_refuted.nd (aA (aZ gaT (hr.mono (by omega)) (aa (af (i:=0) rfl (vi rfl)) (aa (af (i:=1) rfl (vi rfl)) (aa (aE az aC (ao (af (i:=2) rfl (vi rfl))) (ao aj)) (aa (aE az aC (ao (af (i:=2) rfl (vi rfl))) (ao aj)) aq))))))))
  (au (bn (aW (dC (cK (bc uj bf (ao (af (i:=4) rfl (vi rfl))) (ao eN)) (cO (bc (dR (aR hr)) bf (ao (cm (cG (N':=N__law_refuted_0) (k:=1) rfl (bq (by kernel_rfl) rfl rfl) (df (aE az aC (ao (af (i:=4) rfl (vi rfl))) (ao aj))) (λ_ _ _ _ _=>(aY (i:=8) (show 8<=8 by decide) lp)) (λ_ _ _ _ _=>(DU (bc (dR (aR hr)) bf (ao (aJ gN gO (ao (af (i:=8) rfl (vi rfl))) (ao (aE az aC (ao (af (i:=2) rfl (vi rfl))) (ao aj))))) (ao aj)))) (λ_ _ _ _ _=>(af (i:=8) rfl (vi rfl)))))) (ao (cm (bB aq))))))))
  (aB (aK (aA cy)))
  aP)
  (aB (aK (aA (eK (bQ (dR (aR hr)) bf (ao (aJ gN gO (ao (aE az aC (ao (af (i:=4) rfl (vi rfl))) (ao aj))) (ao (aE az aC (ao (af (i:=2) rfl (vi rfl))) (ao aj))))) (ao aj)))))))))
  aP)
  (au (bn (aW (bc (bm (aR hr)) bf (ao (aE az aC (ao (af (i:=2) rfl (vi rfl))) (ao aj))) (ao aM)))
  (au (bn (aW (dC (cK (bc (dR (aR hr)) bf (ao (aT aU bx B.len ay (aI (ao (af (i:=2) rfl (vi rfl))) aN))) (ao aj)) (cO (bA (cp (ao (aZ gaW (hr.mono (by omega)) (aa (af (i:=0) rfl (vi rfl)) (aa (aE az aC (ao (af (i:=2) rfl (vi rfl))) (ao aj)) aq)))) (λ_=>rfl)))))))
  (aB (aK (aA cy)))
  aP)
  (au (aS (sh:=[.f,.f,.f,.f,.dead,.f,.dead,.dead]) (aO (i:=5) sc__law_refuted.nd (aA (aZ Cs__law_shown (hr.mono (by omega)) (aa (af (i:=0) rfl (vi rfl)) (aa (af (i:=1) rfl (vi rfl)) (aa (aE az aC (ao (af (i:=2) rfl (vi rfl))) (ao aj)) (aa (aE az aC (ao (af (i:=2) rfl (vi rfl))) (ao aj)) (aa (aJ aV bh (ao (af (i:=3) rfl (vi rfl))) (ao aj)) aq)))))))))
  (aB (aK (aA (eK (cD (gY (af (i:=5) rfl (vi rfl))) (dg (gY (aZ Cs__law_refuted (hr.mono (by omega)) (aa (af (i:=0) rfl (vi rfl)) (aa (aJ aV bh (ao (af (i:=1) rfl (vi rfl))) (ao (aF (aa (aE az aC (ao (af (i:=2) rfl (vi rfl))) (ao aj)) aq)))) (aa (aE az aC (ao (af (i:=2) rfl (vi rfl))) (ao aj)) (aa (aJ aV bh (ao (af (i:=3) rfl (vi rfl))) (ao aj)) aq))))))))))))))
  aP)
  (au (aS (sh:=[.f,.f,.dead,.f,.dead,.dead,.f,.dead]) (aO (i:=6) sc__law_refuted.nd (aA (EL (bc (qr (aR hr)) bf (ao (aE az aC (ao (af (i:=2) rfl (vi rfl))) (ao aj))) (ao (cm (bB (aa aM (aa aM aq)))))) (aZ gbe (hr.mono (by omega)) (aa (af (i:=0) rfl (vi rfl)) (aa (af (i:=2) rfl (vi rfl)) aq))) (cm (bB aq))))))
  (au (aS (sh:=[.dead,.dead,.dead,.dead,.dead,.dead,.dead,.f]) (jU (i:=7) sc__law_refuted.nd rfl (lo rfl) (.inl rfl) (N':=N__law_refuted_1) (k:=2) rfl (bq (by kernel_rfl) rfl rfl) (df (af (i:=6) rfl (vi rfl))) (λ_ _ _ _ _=>(eY rfl (bJ (aY (i:=8) (show 8<=8 by decide) gW) (bJ (aY (i:=9) (show 8<=9 by decide) gW) eX rfl) rfl) rfl rfl)) (λ_ _ _ _ _=>cb) (λ_ _ _ _ _=>(aZ Cs__law_refuted (hr.mono (by omega)) (aa (af (i:=0) rfl (vi rfl)) (aa (aJ aV bh (ao (af (i:=1) rfl (vi rfl))) (ao (aF (aa (af (i:=8) rfl (vi rfl)) aq)))) (aa (af (i:=9) rfl (vi rfl)) (aa (aJ aV bh (ao (af (i:=3) rfl (vi rfl))) (ao aj)) aq)))))) rfl (λ_=>rfl)))
  (aB (aK (aA (eK (cD (bQ (dR (aR hr)) bf (ao (af (i:=7) rfl (vi rfl))) (ao (cm (bB aq)))) (dg (bQ (nv (aR hr)) bf (ao cy) (ao (af (i:=7) rfl (vi rfl)))))))))))))))))
 (λds hl=>(by obtain⟨gab,gaj,gaa,gat,rfl⟩:=ln4 hl;kernel_rfl))
theorem rW{f:Addr}(Fn:Fun K "_law_shown" "_law_shown" g9 f fd)(B:BN mg)(Kn:KN mg)(gaX:CF P w K mg base "_law_against" 2 (spD K 1 gS))(i:Nat)(Cs__law_refuted:CF P w K mg base "_law_refuted" (5+i) (spD K 4 (cH i))):FnOk P w K mg base (CX1 P w) (5+i+1) f fd ["_law_sizes", "_law_facts", "_law_fact", "_law_thing", "_law_deep"] (spD K 5 (eO (i+1))) :=
 bF (k:=5+i) Fn sc__law_shown (λcdv A outer s H E hr =>
  (au (aS (sh:=[.f,.f,.dead,.f,.f,.f]) (aO (i:=5) sc__law_shown.nd (aA (aZ gaX (hr.mono (by omega)) (aa (af (i:=2) rfl (vi rfl)) aq)))))
  (au (bn (aW (dC (cK (bA (gU (d9 (T := "tuple") (by decide) rfl B.isinstance rfl B.tuple (by decide +kernel) (ao (af (i:=3) rfl (vi rfl))) rfl rfl rfl) (λ_=>rfl))) (cO (bc (dR (aR hr)) bf (ao (aT aU bx B.len ay (aI (ao (af (i:=3) rfl (vi rfl))) aN))) (ao (aT aU bx B.len ay (aI (ao (af (i:=5) rfl (vi rfl))) aN))))))))
  (aB (aK (aA cy)))
  aP)
  (aB (aK (aA (eK (bQ (nv (aR hr)) bf (ao cy) (ao (cm (cG (N':=N__law_shown_0) (k:=1) rfl (bq (by kernel_rfl) rfl rfl) (dN rfl B.range (aa (aT aU bx B.len ay (aI (ao (af (i:=5) rfl (vi rfl))) aN)) aq) rfl) (λ_ _ _ _ _=>(aY (i:=6) (show 6<=6 by decide) mL)) (λ_ _ _ _ _=>cb) (λ_ _ _ _ _=>(aZ Cs__law_refuted (hr.mono (by omega)) (aa (af (i:=0) rfl (vi rfl)) (aa (aJ aV bh (ao (af (i:=1) rfl (vi rfl))) (ao (aF (aa (aE az aC (ao (af (i:=5) rfl (vi rfl))) (ao (af (i:=6) rfl (vi rfl)))) aq)))) (aa (aE az aC (ao (af (i:=3) rfl (vi rfl))) (ao (af (i:=6) rfl (vi rfl)))) (aa (af (i:=4) rfl (vi rfl)) aq)))))))))))))))))
 (λds hl=>(by obtain⟨gab,gaj,gaD,gaa,gat,rfl⟩:=ln5 hl;kernel_rfl))
theorem nC{f__law_refuted:Addr}{fd__law_refuted:FuncData}(F__law_refuted:Fun K "_law_refuted" "_law_refuted" fq f__law_refuted fd__law_refuted)(hg__law_refuted:mg "_law_refuted" = some (.ref f__law_refuted)){f__law_shown:Addr}{fd__law_shown:FuncData}(F__law_shown:Fun K "_law_shown" "_law_shown" g9 f__law_shown fd__law_shown)(hg__law_shown:mg "_law_shown" = some (.ref f__law_shown))(B:BN mg)(Kn:KN mg)(gaT:CF P w K mg base "_law_come_to" 2 (spD K 4 gR))(gbe:CF P w K mg base "_law_ways" 4 (spD K 2 jM))(gan:CF P w K mg base "_law_is_whole" 1 (spD K 3 cu))(gaW:CF P w K mg base "_law_is_fact" 4 (spD K 2 gQ))(gaX:CF P w K mg base "_law_against" 2 (spD K 1 gS))(i:Nat):CF P w K mg base "_law_refuted" (5+i) (spD K 4 (cH i))/\CF P w K mg base "_law_shown" (5+i) (spD K 5 (eO i)):=by
 induction i with
 | zero =>
  exact⟨(by
   have e:cH 0=λ_=>.bad:=by
    funext l;unfold cH;split<;>rfl
   rw[e]
   exact CF.zero (ps:=["_law_sizes", "_law_facts", "_law_thing", "_law_deep"]) _ _ hg__law_refuted F__law_refuted.kp (xX F__law_refuted λ_ _ _ _ _ _ _ _ _ _=>rfl)),(by
   have e:eO 0=λ_=>.bad:=by
    funext l;unfold eO;split<;>rfl
   rw[e]
   exact CF.zero (ps:=["_law_sizes", "_law_facts", "_law_fact", "_law_thing", "_law_deep"]) _ _ hg__law_shown F__law_shown.kp (uW F__law_shown λ_ _ _ _ _ _ _ _ _ _ _=>rfl))⟩
 | succ i ih=>exact⟨⟨f__law_refuted,fd__law_refuted,["_law_sizes", "_law_facts", "_law_thing", "_law_deep"],oR F__law_refuted B Kn gaT gbe gan gaW i ih.1 ih.2,hg__law_refuted,F__law_refuted.kp,(xX F__law_refuted λ_ _ _ _ _ _ _ _ _ _=>rfl)⟩,
  ⟨f__law_shown,fd__law_shown,["_law_sizes", "_law_facts", "_law_fact", "_law_thing", "_law_deep"],rW F__law_shown B Kn gaX i ih.1,hg__law_shown,F__law_shown.kp,(uW F__law_shown λ_ _ _ _ _ _ _ _ _ _ _=>rfl)⟩⟩
abbrev kf:Stmt:=top 46
abbrev wJ:List Str:=["_law_number", "_law_many"]
theorem uc:FnScope wJ ["_law_number", "_law_many"] (aL kf):=⟨rfl,rfl,rfl,by decide +kernel,rfl,by decide +kernel,by decide +kernel⟩
def iS(gaH:D)(gaq:D):M D :=
 .ret (.tuple [(.str "sum"),(.tuple [(.tuple [gaH,(.int 1)]),(.tuple [gaq,(.int 1)])])])
def mM:List D->M D:=λl=>match l with
 | [gaH,gaq]=>iS gaH gaq
 | _=>.bad
theorem uE{f:Addr}(Fn:Fun K "_law_kept" "_law_kept" kf f fd)(hmg:mg "_law_kept" = some (.ref f))(B:BN mg)(Kn:KN mg):CF P w K mg base "_law_kept" 1 (spD K 2 mM) :=
 ⟨f,fd,["_law_number", "_law_many"],bF (k:=0) Fn uc (λcdv A outer s H E hr =>
  (aB (aK (aA (aF (aa aM (aa (aF (aa (aF (aa (af (i:=0) rfl (vi rfl)) (aa aj aq))) (aa (aF (aa (af (i:=1) rfl (vi rfl)) (aa aj aq))) aq))) aq)))))))
 (λds hl=>(by obtain⟨gaH,gaq,rfl⟩:=ln2 hl;kernel_rfl)),hmg,Fn.kp,(jr Fn λ_ _ _ _ _ _ _ _=>rfl)⟩
abbrev kg:Stmt:=top 47
abbrev wK:List Str:=["_law_feed_here", "_law_sizes", "_law_some", "_law_numbers"]
theorem sc__law_goal:FnScope wK ["_law_feed_here", "_law_sizes"] (aL kg):=⟨rfl,rfl,rfl,by decide +kernel,rfl,by decide +kernel,by decide +kernel⟩
abbrev N__law_goal_0:List Str:=["_law_feed_here", "_law_sizes", "_law_some", "_law_numbers", "_law_k"]
theorem nM:N__law_goal_0.Nodup:=by decide +kernel
def iT(gad:List D)(gab:D):M (D×List D) :=
 bd (bd (bd (oM (bN (.int 1))) λx1=>bd (oM (bN (.int 3))) λx2=>bd (oM (bN (.int 2))) λx3=>.ret [(.int 0),x1,(.int 0),x2,(.int 0),x3]) λl4=>.ret (PyData.list l4)) λx5=>bd (bd (bd (oM (aD gab (.int 0))) λx6=>bd (oM (aD gab (.int 1))) λx7=>oM (aX x6 x7)) λx8=>oM (ci [x8])) λl9=>bd (iD (λs10 d11=>bd (aH s10.1 (.int 6)) λr12=>bd (oM (aD s10.2.2.1 r12.1)) λx13=>.ret (some x13,(r12.2,s10.2.1,s10.2.2.1,()))) l9 (gad,gab,x5,())) λr14=>bd (dw r14.1) λl15=>bd (oM (bN (.int 1))) λx16=>bd (aH r14.2.1 (.int 4)) λr17=>bd (oM (fP x16 r17.1)) λx18=>bd (bd (bd (bd (oM (aD r14.2.2.1 (.int 0))) λx19=>asI x19) λhi20=>oM (fH (PyData.list l15) none hi20)) λx21=>oM (cw [x21])) λx22=>bd (bd (bd (bd (oM (aD r14.2.2.1 (.int 0))) λx23=>asI x23) λlo24=>oM (fH (PyData.list l15) lo24 none)) λx25=>oM (cw [x25])) λx26=>.ret ((.tuple [x18,x22,x26]),r17.2)
def mN:List D->List D->M (D×List D):=λgad l=>match l with
 | [gab]=>iT gad gab
 | _=>.bad
theorem uF{f:Addr}(Fn:Fun K "_law_goal" "_law_goal" kg f fd)(hmg:mg "_law_goal" = some (.ref f))(B:BN mg)(Kn:KN mg)(gah:CF P w K mg base "_law_take" 1 (sp1 K 2 bZ)):CF P w K mg base "_law_goal" 2 (sp1 K 2 mN) :=
 ⟨f,fd,["_law_feed_here", "_law_sizes"],i9 (k:=1) Fn sc__law_goal (λcdv A outer s H E hr =>
  (au (aS (sh:=[.p,.f,.f,.dead]) (aO (i:=2) sc__law_goal.nd (aA (cm (bB (aa aj (aa (cL bK bT (ao aj)) (aa aj (aa (cL bK bT (ao aj)) (aa aj (aa (cL bK bT (ao aj)) aq)))))))))))
  (au (aS (sh:=[.p,.f,.dead,.f]) (oD (i:=3) sc__law_goal.nd rfl (lo rfl) (.inl rfl) (sh:=[.p,.f,.f,.dead]) (N':=N__law_goal_0) (k:=1) rfl (bq (by kernel_rfl) rfl rfl) (e8 (dN rfl B.range (aa (aJ aV bh (ao (aE az aC (ao (af (i:=1) rfl (vi rfl))) (ao aj))) (ao (aE az aC (ao (af (i:=1) rfl (vi rfl))) (ao aj)))) aq) rfl)) (λ_ _ _ _ _=>(aY (i:=4) (show 4<=4 by decide) nM)) (λ_ _ _ _ _=>(zl cb)) (λ_ _ _ _ _=>(gH az aC (aA (af (i:=2) rfl (vi rfl))) (bp (i:=0) gah hr.m (aG (aA aj) aQ)))) rfl (λ_=>rfl)))
  (aB (aK (mh (aG (jb fy fB (aA (cL bK bT (ao aj))) (bp (i:=0) gah hr.m (aG (aA aj) aQ))) (aG (aA (bt bg bR B.tuple (by decide +kernel) (aI (ao (bS (ao (af (i:=3) rfl (vi rfl))) bY (bL (aE az aC (ao (af (i:=1) rfl (vi rfl))) (ao aj))))) aN))) (aG (aA (bt bg bR B.tuple (by decide +kernel) (aI (ao (bS (ao (af (i:=3) rfl (vi rfl))) (bL (aE az aC (ao (af (i:=1) rfl (vi rfl))) (ao aj))) bY)) aN))) aQ)))))))))
 (λg ds hl=>(by obtain⟨gab,rfl⟩:=ln1 (Nat.succ.inj hl);kernel_rfl)),hmg,Fn.kp,(jr Fn λ_ _ _ _ _ _ _ _=>rfl)⟩
abbrev ka:Stmt:=top 48
abbrev wH:List Str:=["_law_form", "_law_other", "_law_times", "_law_ins", "_law_ofs"]
theorem sc__law_plus:FnScope wH ["_law_form", "_law_other", "_law_times"] (aL ka):=⟨rfl,rfl,rfl,by decide +kernel,rfl,by decide +kernel,by decide +kernel⟩
abbrev N__law_plus_0:List Str:=["_law_form", "_law_other", "_law_times", "_law_ins", "_law_ofs", "_law_k"]
theorem nJ:N__law_plus_0.Nodup:=by decide +kernel
abbrev N__law_plus_1:List Str:=["_law_form", "_law_other", "_law_times", "_law_ins", "_law_ofs", "_law_k"]
theorem nI:N__law_plus_1.Nodup:=by decide +kernel
def dE(gaz:D)(gba:D)(gaC:D):M D :=
 bd (bd (bd (bd (bd (bd (oM (aD gaz (.int 1))) λx1=>oM (cA [x1])) λx2=>oM (ci [x2])) λl10=>bd (bH (λd3=>bd (bd (bd (oM (aD gaz (.int 1))) λx4=>oM (aD x4 d3)) λx7=>bd (bd (bd (oM (aD gba (.int 1))) λx5=>oM (aD x5 d3)) λx6=>oM (bw gaC x6)) λx8=>oM (aX x7 x8)) λx9=>.ret (some x9)) l10) dw) λl11=>.ret (PyData.list l11)) λx12=>oM (cw [x12])) λx13=>bd (bd (bd (bd (bd (bd (oM (aD gaz (.int 2))) λx14=>oM (cA [x14])) λx15=>oM (ci [x15])) λl23=>bd (bH (λd16=>bd (bd (bd (oM (aD gaz (.int 2))) λx17=>oM (aD x17 d16)) λx20=>bd (bd (bd (oM (aD gba (.int 2))) λx18=>oM (aD x18 d16)) λx19=>oM (bw gaC x19)) λx21=>oM (aX x20 x21)) λx22=>.ret (some x22)) l23) dw) λl24=>.ret (PyData.list l24)) λx25=>oM (cw [x25])) λx26=>bd (bd (bd (oM (aD gaz (.int 0))) λx28=>bd (bd (oM (aD gba (.int 0))) λx27=>oM (bw gaC x27)) λx29=>oM (aX x28 x29)) λx30=>.ret (.tuple [x30,x13,x26])) λx31=>.ret x31
def hJ:List D->M D:=λl=>match l with
 | [gaz,gba,gaC]=>dE gaz gba gaC
 | _=>.bad
theorem uC{f:Addr}(Fn:Fun K "_law_plus" "_law_plus" ka f fd)(hmg:mg "_law_plus" = some (.ref f))(B:BN mg)(Kn:KN mg):CF P w K mg base "_law_plus" 1 (spD K 3 hJ) :=
 ⟨f,fd,["_law_form", "_law_other", "_law_times"],bF (k:=0) Fn sc__law_plus (λcdv A outer s H E hr =>
  (au (aS (sh:=[.f,.f,.f,.f,.dead]) (aO (i:=3) sc__law_plus.nd (aA (bt bg bR B.tuple (by decide +kernel) (aI (ao (cm (cG (N':=N__law_plus_0) (k:=1) rfl (bq (by kernel_rfl) rfl rfl) (dN rfl B.range (aa (aT aU bx B.len ay (aI (ao (aE az aC (ao (af (i:=0) rfl (vi rfl))) (ao aj))) aN)) aq) rfl) (λ_ _ _ _ _=>(aY (i:=5) (show 5<=5 by decide) nJ)) (λ_ _ _ _ _=>cb) (λ_ _ _ _ _=>(aJ aV bh (ao (aE az aC (ao (aE az aC (ao (af (i:=0) rfl (vi rfl))) (ao aj))) (ao (af (i:=5) rfl (vi rfl))))) (ao (aJ cB cC (ao (af (i:=2) rfl (vi rfl))) (ao (aE az aC (ao (aE az aC (ao (af (i:=1) rfl (vi rfl))) (ao aj))) (ao (af (i:=5) rfl (vi rfl)))))))))))) aN)))))
  (au (aS (sh:=[.f,.f,.f,.f,.f]) (aO (i:=4) sc__law_plus.nd (aA (bt bg bR B.tuple (by decide +kernel) (aI (ao (cm (cG (N':=N__law_plus_1) (k:=1) rfl (bq (by kernel_rfl) rfl rfl) (dN rfl B.range (aa (aT aU bx B.len ay (aI (ao (aE az aC (ao (af (i:=0) rfl (vi rfl))) (ao aj))) aN)) aq) rfl) (λ_ _ _ _ _=>(aY (i:=5) (show 5<=5 by decide) nI)) (λ_ _ _ _ _=>cb) (λ_ _ _ _ _=>(aJ aV bh (ao (aE az aC (ao (aE az aC (ao (af (i:=0) rfl (vi rfl))) (ao aj))) (ao (af (i:=5) rfl (vi rfl))))) (ao (aJ cB cC (ao (af (i:=2) rfl (vi rfl))) (ao (aE az aC (ao (aE az aC (ao (af (i:=1) rfl (vi rfl))) (ao aj))) (ao (af (i:=5) rfl (vi rfl)))))))))))) aN)))))
  (aB (aK (aA (aF (aa (aJ aV bh (ao (aE az aC (ao (af (i:=0) rfl (vi rfl))) (ao aj))) (ao (aJ cB cC (ao (af (i:=2) rfl (vi rfl))) (ao (aE az aC (ao (af (i:=1) rfl (vi rfl))) (ao aj)))))) (aa (af (i:=3) rfl (vi rfl)) (aa (af (i:=4) rfl (vi rfl)) aq))))))))))
 (λds hl=>(by obtain⟨gaz,gba,gaC,rfl⟩:=ln3 hl;kernel_rfl)),hmg,Fn.kp,(n5 Fn λ_ _ _ _ _ _ _ _ _=>rfl)⟩
abbrev jB:Stmt:=top 49
abbrev vk:List Str:=["_law_feed_here", "_law_sizes", "_law_some", "_law_numbers"]
theorem sc__law_small:FnScope vk ["_law_feed_here", "_law_sizes"] (aL jB):=⟨rfl,rfl,rfl,by decide +kernel,rfl,by decide +kernel,by decide +kernel⟩
abbrev N__law_small_0:List Str:=["_law_feed_here", "_law_sizes", "_law_some", "_law_numbers", "_law_k"]
theorem mK:N__law_small_0.Nodup:=by decide +kernel
def cN(gad:List D)(gab:D):M (D×List D) :=
 bd (bd (bd (oM (bN (.int 1))) λx1=>bd (oM (bN (.int 2))) λx2=>.ret [(.int 0),(.int 1),x1,(.int 2),(.int 0),x2,(.int 3)]) λl3=>.ret (PyData.list l3)) λx4=>bd (bd (bd (bd (oM (aD gab (.int 0))) λx5=>oM (aX (.int 1) x5)) λx6=>bd (oM (aD gab (.int 1))) λx7=>oM (aX x6 x7)) λx8=>oM (ci [x8])) λl9=>bd (iD (λs10 d11=>bd (aH s10.1 (.int 7)) λr12=>bd (oM (aD s10.2.2.1 r12.1)) λx13=>.ret (some x13,(r12.2,s10.2.1,s10.2.2.1,()))) l9 (gad,gab,x4,())) λr14=>bd (dw r14.1) λl15=>bd (bd (oM (aD (PyData.list l15) (.int 0))) λx16=>bd (bd (bd (asI (.int 1)) λlo19=>bd (bd (bd (oM (aD r14.2.2.1 (.int 0))) λx17=>oM (aX (.int 1) x17)) λx18=>asI x18) λhi20=>oM (fH (PyData.list l15) lo19 hi20)) λx21=>oM (cw [x21])) λx22=>bd (bd (bd (bd (bd (oM (aD r14.2.2.1 (.int 0))) λx23=>oM (aX (.int 1) x23)) λx24=>asI x24) λlo25=>oM (fH (PyData.list l15) lo25 none)) λx26=>oM (cw [x26])) λx27=>.ret (.tuple [x16,x22,x27])) λx28=>.ret (x28,r14.2.1)
def dM:List D->List D->M (D×List D):=λgad l=>match l with
 | [gab]=>cN gad gab
 | _=>.bad
theorem rO{f:Addr}(Fn:Fun K "_law_small" "_law_small" jB f fd)(hmg:mg "_law_small" = some (.ref f))(B:BN mg)(Kn:KN mg)(gah:CF P w K mg base "_law_take" 1 (sp1 K 2 bZ)):CF P w K mg base "_law_small" 2 (sp1 K 2 dM) :=
 ⟨f,fd,["_law_feed_here", "_law_sizes"],i9 (k:=1) Fn sc__law_small (λcdv A outer s H E hr =>
  (au (aS (sh:=[.p,.f,.f,.dead]) (aO (i:=2) sc__law_small.nd (aA (cm (bB (aa aj (aa aj (aa (cL bK bT (ao aj)) (aa aj (aa aj (aa (cL bK bT (ao aj)) (aa aj aq))))))))))))
  (au (aS (sh:=[.p,.f,.dead,.f]) (oD (i:=3) sc__law_small.nd rfl (lo rfl) (.inl rfl) (sh:=[.p,.f,.f,.dead]) (N':=N__law_small_0) (k:=1) rfl (bq (by kernel_rfl) rfl rfl) (e8 (dN rfl B.range (aa (aJ aV bh (ao (aJ aV bh (ao aj) (ao (aE az aC (ao (af (i:=1) rfl (vi rfl))) (ao aj))))) (ao (aE az aC (ao (af (i:=1) rfl (vi rfl))) (ao aj)))) aq) rfl)) (λ_ _ _ _ _=>(aY (i:=4) (show 4<=4 by decide) mK)) (λ_ _ _ _ _=>(zl cb)) (λ_ _ _ _ _=>(gH az aC (aA (af (i:=2) rfl (vi rfl))) (bp (i:=0) gah hr.m (aG (aA aj) aQ)))) rfl (λ_=>rfl)))
  (aB (aK (aA (aF (aa (aE az aC (ao (af (i:=3) rfl (vi rfl))) (ao aj)) (aa (bt bg bR B.tuple (by decide +kernel) (aI (ao (bS (ao (af (i:=3) rfl (vi rfl))) (bL aj) (bL (aJ aV bh (ao aj) (ao (aE az aC (ao (af (i:=1) rfl (vi rfl))) (ao aj))))))) aN)) (aa (bt bg bR B.tuple (by decide +kernel) (aI (ao (bS (ao (af (i:=3) rfl (vi rfl))) (bL (aJ aV bh (ao aj) (ao (aE az aC (ao (af (i:=1) rfl (vi rfl))) (ao aj))))) bY)) aN)) aq))))))))))
 (λg ds hl=>(by obtain⟨gab,rfl⟩:=ln1 (Nat.succ.inj hl);kernel_rfl)),hmg,Fn.kp,(jr Fn λ_ _ _ _ _ _ _ _=>rfl)⟩
abbrev iZ:Stmt:=top 50
abbrev sq:List Str:=["_law_feed_here", "_law_sizes", "_law_facts", "_law_times", "_law_heap", "_law_k", "_law_form", "_law_word", "_law_many", "_law_last"]
theorem sc__law_summed:FnScope sq ["_law_feed_here", "_law_sizes"] (aL iZ):=⟨rfl,rfl,rfl,by decide +kernel,rfl,by decide +kernel,by decide +kernel⟩
def jo(gac:List D)(gae:D)(gaf:List D)(gaE:List D)(gaN:D):M (D×List D) :=
 bd (iT gac gae) λr8=>bd (oM (bN (.int 1))) λx9=>bd (dE r8.1 gaN x9) λr10=>bd (aH r8.2 (.int 2)) λr11=>bd (oM (aD (PyData.list [(.str "least"),(.str "same")]) r11.1)) λx12=>bd (oM (jj gaf [(.tuple [x12,r10])])) λl13=>bd (bd (bd (oM (cA [(PyData.list l13)])) λx14=>oM (fP x14 (.int 1))) λx15=>.ret (.tuple [x15,(.int 1)])) λx16=>bd (oM (jj gaE [x16])) λl17=>bd (bd (oM (cw [(PyData.list l13)])) λx18=>bd (bd (oM (cw [(PyData.list l17)])) λx19=>.ret (.tuple [(.str "sum"),x19])) λx20=>.ret (.tuple [x18,x20])) λx21=>.ret (x21,r11.2)
def jn(gac:List D)(gae:D)(gaf:List D)(gaE:List D)(gaN:D)(d_:D)(kn22:List D×D×List D×List D×D×Unit->M (D×List D)):M (D×List D) :=
 bd (cN gac gae) λr23=>bd (aH r23.2 (.int 3)) λr24=>bd (oM (aD (PyData.list [(.str "least"),(.str "same"),(.str "rest")]) r24.1)) λx25=>bd (bd (oM (bD x25 (.str "rest"))) λb26=>if b26 then .ret (.tuple [x25,r23.1,(.int 5)])else .ret (.tuple [x25,r23.1])) λx27=>bd (oM (jj gaf [x27])) λl28=>bd (oM (fi x25 (.str "rest"))) λb29=>if b29 then
  bd (aH r24.2 (.int 3)) λr30=>bd (oM (aD (PyData.list [(.int 1),(.int 2),(.int 7)]) r30.1)) λx31=>bd (bd (bd (oM (bN (.int 1))) λx32=>.ret [(.int 1),x32]) λl33=>.ret (PyData.list l33)) λx34=>bd (bd (bd (oM (bD x25 (.str "same"))) λb35=>.ret (.bool b35)) λx36=>oM (nU [x36])) λx37=>bd (aH r30.2 (.int 2)) λr38=>bd (oM (bw x37 r38.1)) λx39=>bd (oM (aD x34 x39)) λx40=>bd (oM (bw x31 x40)) λx41=>bd (oM (jj gaE [(.tuple [d_,x41])])) λl42=>bd (dE gaN r23.1 x41) λx43=>kn22 (r38.2,gae,l28,l42,x43,())
  else
  kn22 (r24.2,gae,l28,gaE,gaN,())
def gw(gad:List D)(gab:D):M (D×List D) :=
 bd (bd (bd (oM (aD gab (.int 0))) λx1=>oM (dF (.tuple [(.int 0)]) x1)) λx2=>bd (bd (oM (aD gab (.int 1))) λx3=>oM (dF (.tuple [(.int 0)]) x3)) λx4=>.ret (.tuple [(.int 0),x2,x4])) λx5=>bd (aH gad (.int 3)) λr6=>bd (oM (ci [r6.1])) λl7=>gT (λs44 d45 kn=>jn s44.1 s44.2.1 s44.2.2.1 s44.2.2.2.1 s44.2.2.2.2.1 d45 kn) l7 (r6.2,gab,[],[],x5,()) (λs44=>jo s44.1 s44.2.1 s44.2.2.1 s44.2.2.2.1 s44.2.2.2.2.1)
def kz:List D->List D->M (D×List D):=λgad l=>match l with
 | [gab]=>gw gad gab
 | _=>.bad
theorem qA{f:Addr}(Fn:Fun K "_law_summed" "_law_summed" iZ f fd)(hmg:mg "_law_summed" = some (.ref f))(B:BN mg)(Kn:KN mg)(gaF:CF P w K mg base "_law_plus" 1 (spD K 3 hJ))(gah:CF P w K mg base "_law_take" 1 (sp1 K 2 bZ))(gar:CF P w K mg base "_law_small" 2 (sp1 K 2 dM))(gbC:CF P w K mg base "_law_goal" 2 (sp1 K 2 mN)):CF P w K mg base "_law_summed" 3 (sp1 K 2 kz) :=
 ⟨f,fd,["_law_feed_here", "_law_sizes"],i9 (k:=2) Fn sc__law_summed (λcdv A outer s H E hr =>
  (au (aS (sh:=[.p,.f,.o,.dead,.dead,.dead,.dead,.dead,.dead,.dead]) (lc (i:=2) sc__law_summed.nd (lY (bB aq))))
  (au (aS (sh:=[.p,.f,.o,.o,.dead,.dead,.dead,.dead,.dead,.dead]) (lc (i:=3) sc__law_summed.nd (lY (bB aq))))
  (au (aS (sh:=[.p,.f,.o,.o,.f,.dead,.dead,.dead,.dead,.dead]) (aO (i:=4) sc__law_summed.nd (aA (aF (aa aj (aa (aJ fA fD (ao (aF (aa aj aq))) (ao (aE az aC (ao (af (i:=1) rfl (vi rfl))) (ao aj)))) (aa (aJ fA fD (ao (aF (aa aj aq))) (ao (aE az aC (ao (af (i:=1) rfl (vi rfl))) (ao aj)))) aq)))))))
  (au (dm (sh:=[.p,.f,.o,.o,.f,.dead,.dead,.dead,.dead,.dead]) PassesOwn.leaving rfl (lZ rfl B.range (aG (bp (i:=0) gah hr.m (aG (aA aj) aQ)) aQ) rfl) (aY (i:=5) (gh _) sc__law_summed.nd)
  (au (aS (sh:=[.p,.f,.o,.o,.f,.f,.f,.dead,.dead,.dead]) (aO (i:=6) sc__law_summed.nd (bp (i:=0) gar hr.m (aG (aA (af (i:=1) rfl (vi rfl))) aQ))))
  (au (aS (sh:=[.p,.f,.o,.o,.f,.f,.f,.f,.dead,.dead]) (aO (i:=7) sc__law_summed.nd (gH az aC (aA (cm (bB (aa aM (aa aM (aa aM aq)))))) (bp (i:=0) gah hr.m (aG (aA aj) aQ)))))
  (au (aS (sh:=[.p,.f,.o,.o,.f,.f,.f,.f,.dead,.dead]) (jV (i:=2) rfl (vi rfl) (aG (aA (EL (bc (bm (aR hr)) bf (ao (af (i:=7) rfl (vi rfl))) (ao aM)) (aF (aa (af (i:=7) rfl (vi rfl)) (aa (af (i:=6) rfl (vi rfl)) (aa aj aq)))) (aF (aa (af (i:=7) rfl (vi rfl)) (aa (af (i:=6) rfl (vi rfl)) aq))))) aQ) rfl rfl rfl rfl rfl rfl))
  (aB (bn (aW (bc (dR (aR hr)) bf (ao (af (i:=7) rfl (vi rfl))) (ao aM)))
  (au (aS (sh:=[.p,.f,.o,.o,.f,.f,.f,.dead,.f,.dead]) (aO (i:=8) sc__law_summed.nd (jb cB cC (gH az aC (aA (cm (bB (aa aj (aa aj (aa aj aq)))))) (bp (i:=0) gah hr.m (aG (aA aj) aQ))) (gH az aC (aA (cm (bB (aa aj (aa (cL bK bT (ao aj)) aq))))) (jb cB cC (aA (bt kX uw B.int (by decide +kernel) (aI (ao (eK (bQ (bm (aR hr)) bf (ao (af (i:=7) rfl (vi rfl))) (ao aM)))) aN))) (bp (i:=0) gah hr.m (aG (aA aj) aQ)))))))
  (au (aS (sh:=[.p,.f,.o,.o,.f,.dead,.f,.dead,.f,.dead]) (jV (i:=3) rfl (vi rfl) (aG (aA (aF (aa (af (i:=5) rfl (vi rfl)) (aa (af (i:=8) rfl (vi rfl)) aq)))) aQ) rfl rfl rfl rfl rfl rfl))
  (aB (aO (i:=4) sc__law_summed.nd (aA (aZ gaF hr.m (aa (af (i:=4) rfl (vi rfl)) (aa (af (i:=6) rfl (vi rfl)) (aa (af (i:=8) rfl (vi rfl)) aq)))))))))
  aP))))))
  (au (aS (sh:=[.p,.dead,.o,.o,.dead,.dead,.dead,.dead,.dead,.f]) (aO (i:=9) sc__law_summed.nd (EM gaF hr.m (aG (bp (i:=0) gbC hr.m (aG (aA (af (i:=1) rfl (vi rfl))) aQ)) (aG (aA (af (i:=4) rfl (vi rfl))) (aG (aA (cL bK bT (ao aj))) aQ))))))
  (au (aS (sh:=[.p,.dead,.o,.o,.dead,.dead,.dead,.dead,.dead,.dead]) (jV (i:=2) rfl (vi rfl) (aG (mh (aG (gH az aC (aA (cm (bB (aa aM (aa aM aq))))) (bp (i:=0) gah hr.m (aG (aA aj) aQ))) (aG (aA (af (i:=9) rfl (vi rfl))) aQ))) aQ) rfl rfl rfl rfl rfl rfl))
  (au (aS (sh:=[.p,.dead,.o,.o,.dead,.dead,.dead,.dead,.dead,.dead]) (jV (i:=3) rfl (vi rfl) (aG (aA (aF (aa (aJ fy fB (ao (aT aU bx B.len ay (aI (dJ (i:=2)) aN))) (ao aj)) (aa aj aq)))) aQ) rfl rfl rfl rfl rfl rfl))
  (aB (aK (aA (aF (aa (bt bg bR B.tuple (by decide +kernel) (aI (dJ (i:=2)) aN)) (aa (aF (aa aM (aa (bt bg bR B.tuple (by decide +kernel) (aI (dJ (i:=3)) aN)) aq))) aq))))))))))))))
 (λg ds hl=>(by obtain⟨gab,rfl⟩:=ln1 (Nat.succ.inj hl);kernel_rfl)),hmg,Fn.kp,(jr Fn λ_ _ _ _ _ _ _ _=>rfl)⟩
abbrev i5:Stmt:=top 51
abbrev sr:List Str:=["_law_feed_here", "_law_sizes", "_law_by", "_law_facts", "_law_times", "_law_heap", "_law_k", "_law_form", "_law_word", "_law_fact", "_law_many", "_law_more", "_law_ins", "_law_goal_here"]
theorem sc__law_rested:FnScope sr ["_law_feed_here", "_law_sizes"] (aL i5):=⟨rfl,rfl,rfl,by decide +kernel,rfl,by decide +kernel,by decide +kernel⟩
abbrev N__law_rested_0:List Str:=["_law_feed_here", "_law_sizes", "_law_by", "_law_facts", "_law_times", "_law_heap", "_law_k", "_law_form", "_law_word", "_law_fact", "_law_many", "_law_more", "_law_ins", "_law_goal_here", "_law_one"]
theorem lN:N__law_rested_0.Nodup:=by decide +kernel
abbrev N__law_rested_1:List Str:=["_law_feed_here", "_law_sizes", "_law_by", "_law_facts", "_law_times", "_law_heap", "_law_k", "_law_form", "_law_word", "_law_fact", "_law_many", "_law_more", "_law_ins", "_law_goal_here", "_law_one"]
theorem lM:N__law_rested_1.Nodup:=by decide +kernel
def jq(gac:List D)(gae:D)(gay:D)(gaf:List D)(gaE:List D)(gaN:D):M (D×List D) :=
 bd (cN gac gae) λr10=>bd (bd (bd (bd (bd (oM (aD r10.1 (.int 1))) λx11=>oM (fj x11)) λl14=>bd (bH (λd12=>bd (oM (bw gay d12)) λx13=>.ret (some x13)) l14) dw) λl15=>.ret (PyData.list l15)) λx16=>oM (cw [x16])) λx17=>bd (oM (fP gay (.int 1))) λx18=>bd (aH r10.2 x18) λr19=>bd (oM (aX (.int 1) r19.1)) λx20=>bd (bd (bd (bd (bd (oM (aD r10.1 (.int 2))) λx21=>oM (fj x21)) λl24=>bd (bH (λd22=>bd (oM (bw gay d22)) λx23=>.ret (some x23)) l24) dw) λl25=>.ret (PyData.list l25)) λx26=>oM (cw [x26])) λx27=>bd (bd (oM (bN (.int 1))) λx28=>dE (.tuple [x20,x17,x27]) gaN x28) λx29=>bd (aH r19.2 (.int 2)) λr30=>bd (oM (aD (PyData.list [(.int 1),(.int 3)]) r30.1)) λx31=>bd (oM (bw gay x31)) λx32=>bd (oM (jj gaf [(.tuple [(.str "rest"),x29,x32])])) λl33=>bd (bd (bd (oM (cA [(PyData.list l33)])) λx34=>oM (fP x34 (.int 1))) λx35=>.ret (.tuple [x35,(.int 1)])) λx36=>bd (oM (jj gaE [x36])) λl37=>bd (bd (oM (cw [(PyData.list l33)])) λx38=>bd (bd (oM (cw [(PyData.list l37)])) λx39=>.ret (.tuple [(.str "rest"),gay,x39])) λx40=>.ret (.tuple [x38,x40])) λx41=>.ret (x41,r30.2)
def eH(kn42:List D×D×D×List D×List D×D×Unit->M (D×List D))(gac:List D)(gae:D)(gay:D)(gaf:List D)(gaE:List D)(gaN:D)(gbY:D)(gav:D)(gaw:D):M (D×List D) :=
 bd (oM (jj gaf [gaw])) λl50=>bd (bd (bd (oM (bN (.int 1))) λx51=>.ret [(.int 1),x51,(.int 2),(.int 5)]) λl52=>.ret (PyData.list l52)) λx53=>bd (aH gac (.int 4)) λr54=>bd (oM (aD x53 r54.1)) λx55=>bd (oM (jj gaE [(.tuple [gbY,x55])])) λl56=>bd (dE gaN gav x55) λx57=>kn42 (r54.2,gae,gay,l50,l56,x57,())
def jp(gac:List D)(gae:D)(gay:D)(gaf:List D)(gaE:List D)(gaN:D)(d_:D)(kn42:List D×D×D×List D×List D×D×Unit->M (D×List D)):M (D×List D) :=
 bd (cN gac gae) λr43=>bd (aH r43.2 (.int 2)) λr44=>bd (oM (aD (PyData.list [(.str "same"),(.str "rest")]) r44.1)) λx45=>bd (oM (bD x45 (.str "rest"))) λb46=>if b46 then
  bd (aH r44.2 (.int 3)) λr47=>bd (oM (aD (PyData.list [(.int 1),(.int 2),(.int 5)]) r47.1)) λx48=>bd (oM (bw gay x48)) λx49=>eH kn42 r47.2 gae gay gaf gaE gaN d_ r43.1 (.tuple [x45,r43.1,x49])
  else
  eH kn42 r44.2 gae gay gaf gaE gaN d_ r43.1 (.tuple [x45,r43.1])
def gx(gad:List D)(gab:D):M (D×List D) :=
 bd (aH gad (.int 4)) λr1=>bd (oM (aD (PyData.list [(.int 2),(.int 3),(.int 7),(.int 9)]) r1.1)) λx2=>bd (bd (bd (oM (aD gab (.int 0))) λx3=>oM (dF (.tuple [(.int 0)]) x3)) λx4=>bd (bd (oM (aD gab (.int 1))) λx5=>oM (dF (.tuple [(.int 0)]) x5)) λx6=>.ret (.tuple [(.int 0),x4,x6])) λx7=>bd (aH r1.2 (.int 3)) λr8=>bd (oM (ci [r8.1])) λl9=>gT (λs58 d59 kn=>jp s58.1 s58.2.1 s58.2.2.1 s58.2.2.2.1 s58.2.2.2.2.1 s58.2.2.2.2.2.1 d59 kn) l9 (r8.2,gab,x2,[],[],x7,()) (λs58=>jq s58.1 s58.2.1 s58.2.2.1 s58.2.2.2.1 s58.2.2.2.2.1 s58.2.2.2.2.2.1)
def kA:List D->List D->M (D×List D):=λgad l=>match l with
 | [gab]=>gx gad gab
 | _=>.bad
theorem qB{f:Addr}(Fn:Fun K "_law_rested" "_law_rested" i5 f fd)(hmg:mg "_law_rested" = some (.ref f))(B:BN mg)(Kn:KN mg)(gar:CF P w K mg base "_law_small" 2 (sp1 K 2 dM))(gah:CF P w K mg base "_law_take" 1 (sp1 K 2 bZ))(gaF:CF P w K mg base "_law_plus" 1 (spD K 3 hJ)):CF P w K mg base "_law_rested" 3 (sp1 K 2 kA) :=
 ⟨f,fd,["_law_feed_here", "_law_sizes"],i9 (k:=2) Fn sc__law_rested (λcdv A outer s H E hr =>
  (au (aS (sh:=[.p,.f,.f,.dead,.dead,.dead,.dead,.dead,.dead,.dead,.dead,.dead,.dead,.dead]) (aO (i:=2) sc__law_rested.nd (gH az aC (aA (cm (bB (aa aj (aa aj (aa aj (aa aj aq))))))) (bp (i:=0) gah hr.m (aG (aA aj) aQ)))))
  (au (aS (sh:=[.p,.f,.f,.o,.dead,.dead,.dead,.dead,.dead,.dead,.dead,.dead,.dead,.dead]) (lc (i:=3) sc__law_rested.nd (lY (bB aq))))
  (au (aS (sh:=[.p,.f,.f,.o,.o,.dead,.dead,.dead,.dead,.dead,.dead,.dead,.dead,.dead]) (lc (i:=4) sc__law_rested.nd (lY (bB aq))))
  (au (aS (sh:=[.p,.f,.f,.o,.o,.f,.dead,.dead,.dead,.dead,.dead,.dead,.dead,.dead]) (aO (i:=5) sc__law_rested.nd (aA (aF (aa aj (aa (aJ fA fD (ao (aF (aa aj aq))) (ao (aE az aC (ao (af (i:=1) rfl (vi rfl))) (ao aj)))) (aa (aJ fA fD (ao (aF (aa aj aq))) (ao (aE az aC (ao (af (i:=1) rfl (vi rfl))) (ao aj)))) aq)))))))
  (au (dm (sh:=[.p,.f,.f,.o,.o,.f,.dead,.dead,.dead,.dead,.dead,.dead,.dead,.dead]) PassesOwn.leaving rfl (lZ rfl B.range (aG (bp (i:=0) gah hr.m (aG (aA aj) aQ)) aQ) rfl) (aY (i:=6) (gh _) sc__law_rested.nd)
  (au (aS (sh:=[.p,.f,.f,.o,.o,.f,.f,.f,.dead,.dead,.dead,.dead,.dead,.dead]) (aO (i:=7) sc__law_rested.nd (bp (i:=0) gar hr.m (aG (aA (af (i:=1) rfl (vi rfl))) aQ))))
  (au (aS (sh:=[.p,.f,.f,.o,.o,.f,.f,.f,.f,.dead,.dead,.dead,.dead,.dead]) (aO (i:=8) sc__law_rested.nd (gH az aC (aA (cm (bB (aa aM (aa aM aq))))) (bp (i:=0) gah hr.m (aG (aA aj) aQ)))))
  (au (aS (sh:=[.p,.f,.f,.o,.o,.f,.f,.f,.f,.f,.dead,.dead,.dead,.dead]) (aO (i:=9) sc__law_rested.nd (aA (aF (aa (af (i:=8) rfl (vi rfl)) (aa (af (i:=7) rfl (vi rfl)) aq))))))
  (au (aS (sh:=[.p,.f,.f,.o,.o,.f,.f,.f,.dead,.f,.dead,.dead,.dead,.dead]) (bn (aW (bc (bm (aR hr)) bf (ao (af (i:=8) rfl (vi rfl))) (ao aM)))
  (aB (aO (i:=9) sc__law_rested.nd (mh (aG (aA (af (i:=8) rfl (vi rfl))) (aG (aA (af (i:=7) rfl (vi rfl))) (aG (jb cB cC (aA (af (i:=2) rfl (vi rfl))) (gH az aC (aA (cm (bB (aa aj (aa aj (aa aj aq)))))) (bp (i:=0) gah hr.m (aG (aA aj) aQ)))) aQ))))))
  aP))
  (au (aS (sh:=[.p,.f,.f,.o,.o,.f,.f,.f,.dead,.dead,.dead,.dead,.dead,.dead]) (jV (i:=3) rfl (vi rfl) (aG (aA (af (i:=9) rfl (vi rfl))) aQ) rfl rfl rfl rfl rfl rfl))
  (au (aS (sh:=[.p,.f,.f,.o,.o,.f,.f,.f,.dead,.dead,.f,.dead,.dead,.dead]) (aO (i:=10) sc__law_rested.nd (gH az aC (aA (cm (bB (aa aj (aa (cL bK bT (ao aj)) (aa aj (aa aj aq))))))) (bp (i:=0) gah hr.m (aG (aA aj) aQ)))))
  (au (aS (sh:=[.p,.f,.f,.o,.o,.f,.dead,.f,.dead,.dead,.f,.dead,.dead,.dead]) (jV (i:=4) rfl (vi rfl) (aG (aA (aF (aa (af (i:=6) rfl (vi rfl)) (aa (af (i:=10) rfl (vi rfl)) aq)))) aQ) rfl rfl rfl rfl rfl rfl))
  (aB (aO (i:=5) sc__law_rested.nd (aA (aZ gaF hr.m (aa (af (i:=5) rfl (vi rfl)) (aa (af (i:=7) rfl (vi rfl)) (aa (af (i:=10) rfl (vi rfl)) aq)))))))))))))))
  (au (aS (sh:=[.p,.dead,.f,.o,.o,.f,.dead,.dead,.dead,.dead,.dead,.f,.dead,.dead]) (aO (i:=11) sc__law_rested.nd (bp (i:=0) gar hr.m (aG (aA (af (i:=1) rfl (vi rfl))) aQ))))
  (au (aS (sh:=[.p,.dead,.f,.o,.o,.f,.dead,.dead,.dead,.dead,.dead,.f,.f,.dead]) (aO (i:=12) sc__law_rested.nd (aA (bt bg bR B.tuple (by decide +kernel) (aI (ao (cm (cG (N':=N__law_rested_0) (k:=1) rfl (bq (by kernel_rfl) rfl rfl) (df (aE az aC (ao (af (i:=11) rfl (vi rfl))) (ao aj))) (λ_ _ _ _ _=>(aY (i:=14) (show 14<=14 by decide) lN)) (λ_ _ _ _ _=>cb) (λ_ _ _ _ _=>(aJ cB cC (ao (af (i:=2) rfl (vi rfl))) (ao (af (i:=14) rfl (vi rfl)))))))) aN)))))
  (au (aS (sh:=[.p,.dead,.f,.o,.o,.f,.dead,.dead,.dead,.dead,.dead,.dead,.dead,.f]) (aO (i:=13) sc__law_rested.nd (mh (aG (jb aV bh (aA aj) (bp (i:=0) gah hr.m (aG (aA (aJ fy fB (ao (af (i:=2) rfl (vi rfl))) (ao aj))) aQ))) (aG (aA (af (i:=12) rfl (vi rfl))) (aG (aA (bt bg bR B.tuple (by decide +kernel) (aI (ao (cm (cG (N':=N__law_rested_1) (k:=1) rfl (bq (by kernel_rfl) rfl rfl) (df (aE az aC (ao (af (i:=11) rfl (vi rfl))) (ao aj))) (λ_ _ _ _ _=>(aY (i:=14) (show 14<=14 by decide) lM)) (λ_ _ _ _ _=>cb) (λ_ _ _ _ _=>(aJ cB cC (ao (af (i:=2) rfl (vi rfl))) (ao (af (i:=14) rfl (vi rfl)))))))) aN))) aQ))))))
  (au (aS (sh:=[.p,.dead,.f,.o,.o,.dead,.dead,.dead,.dead,.dead,.dead,.dead,.dead,.dead]) (jV (i:=3) rfl (vi rfl) (aG (mh (aG (aA aM) (aG (aA (aZ gaF hr.m (aa (af (i:=13) rfl (vi rfl)) (aa (af (i:=5) rfl (vi rfl)) (aa (cL bK bT (ao aj)) aq))))) (aG (jb cB cC (aA (af (i:=2) rfl (vi rfl))) (gH az aC (aA (cm (bB (aa aj (aa aj aq))))) (bp (i:=0) gah hr.m (aG (aA aj) aQ)))) aQ)))) aQ) rfl rfl rfl rfl rfl rfl))
  (au (aS (sh:=[.p,.dead,.f,.o,.o,.dead,.dead,.dead,.dead,.dead,.dead,.dead,.dead,.dead]) (jV (i:=4) rfl (vi rfl) (aG (aA (aF (aa (aJ fy fB (ao (aT aU bx B.len ay (aI (dJ (i:=3)) aN))) (ao aj)) (aa aj aq)))) aQ) rfl rfl rfl rfl rfl rfl))
  (aB (aK (aA (aF (aa (bt bg bR B.tuple (by decide +kernel) (aI (dJ (i:=3)) aN)) (aa (aF (aa aM (aa (af (i:=2) rfl (vi rfl)) (aa (bt bg bR B.tuple (by decide +kernel) (aI (dJ (i:=4)) aN)) aq)))) aq)))))))))))))))))
 (λg ds hl=>(by obtain⟨gab,rfl⟩:=ln1 (Nat.succ.inj hl);kernel_rfl)),hmg,Fn.kp,(jr Fn λ_ _ _ _ _ _ _ _=>rfl)⟩
abbrev ik:Stmt:=top 52
abbrev rB:List Str:=["_law_feed_here", "_law_sizes", "_law_form", "_law_zero", "_law_odd_here", "_law_less_here", "_law_by", "_law_facts", "_law_ways_here", "_law_k"]
theorem sc__law_needing:FnScope rB ["_law_feed_here", "_law_sizes"] (aL ik):=⟨rfl,rfl,rfl,by decide +kernel,rfl,by decide +kernel,by decide +kernel⟩
def iR(gac:List D)(gav:D)(gay:D)(gaf:D)(gbf:List D):M (D×List D) :=
 bd (bd (bd (oM (cw [(PyData.list gbf)])) λx43=>.ret (.tuple [(.str "cases"),gav,gay,x43])) λx44=>.ret (.tuple [gaf,x44])) λx45=>.ret (x45,gac)
def iQ(gac:List D)(gav:D)(gay:D)(gaf:D)(gbf:List D)(d_:D)(kn46:List D×D×D×D×List D×Unit->M (D×List D)):M (D×List D) :=
 bd (bd (bd (bd (oM (bN (.int 1))) λx47=>.ret (.tuple [(.int 2),x47])) λx48=>.ret (.tuple [(.tuple [(.int 0),(.int 1)]),x48])) λx49=>.ret (.tuple [(.str "rest"),gay,x49])) λx50=>bd (oM (jj gbf [x50])) λl51=>kn46 (gac,gav,gay,gaf,l51,())
def dA(gad:List D)(gab:D):M (D×List D) :=
 bd (cN gad gab) λr1=>bd (bd (bd (oM (aD gab (.int 0))) λx2=>oM (dF (.tuple [(.int 0)]) x2)) λx3=>bd (bd (oM (aD gab (.int 1))) λx4=>oM (dF (.tuple [(.int 0)]) x4)) λx5=>.ret (.tuple [(.int 0),x3,x5])) λx6=>bd (aH r1.2 (.int 2)) λr7=>bd (oM (bD r7.1 (.int 0))) λb8=>if b8 then
  bd (bd (bd (bd (oM (bN (.int 1))) λx9=>.ret (.tuple [x9])) λx11=>bd (bd (asI (.int 1)) λlo10=>oM (fH x6 lo10 none)) λx12=>oM (aX x11 x12)) λx13=>dE x13 r1.1 (.int 2)) λx14=>bd (bd (bd (bd (oM (aD r1.1 (.int 0))) λx15=>oM (fP x15 (.int 1))) λx16=>.ret (.tuple [x16])) λx18=>bd (bd (asI (.int 1)) λlo17=>oM (fH r1.1 lo17 none)) λx19=>oM (aX x18 x19)) λx20=>bd (bd (bd (bd (bd (bd (oM (bN (.int 1))) λx21=>.ret (.tuple [(.int 0),x21])) λx22=>.ret (.tuple [x22,(.tuple [(.int 1),(.int 2)])])) λx23=>.ret (.tuple [(.str "sum"),x23])) λx24=>.ret (.tuple [(.str "split"),x20,x24,(.tuple [(.str "sum"),(.tuple [(.tuple [(.int 0),(.int 1)]),(.tuple [(.int 1),(.int 2)])])])])) λx25=>.ret (.tuple [(.tuple [(.tuple [(.str "same"),x14])]),x25])) λx26=>.ret (x26,r7.2)
  else
  bd (aH r7.2 (.int 3)) λr27=>bd (oM (aD (PyData.list [(.int 2),(.int 3),(.int 9)]) r27.1)) λx28=>bd (bd (bd (bd (bd (bd (oM (aD r1.1 (.int 0))) λx29=>oM (fP x29 (.int 1))) λx30=>.ret (.tuple [x30])) λx32=>bd (bd (asI (.int 1)) λlo31=>oM (fH r1.1 lo31 none)) λx33=>oM (aX x32 x33)) λx34=>.ret (.tuple [(.str "same"),x34])) λx35=>.ret (.tuple [(.tuple [(.str "rest"),r1.1,x28]),x35])) λx36=>bd (bd (bd (bd (bd (oM (bN (.int 1))) λx37=>.ret (.tuple [(.int 2),x37])) λx38=>.ret (.tuple [(.tuple [(.int 1),(.int 1)]),x38])) λx39=>.ret (.tuple [(.str "rest"),x28,x39])) λx40=>.ret [x40]) λl41=>bd (oM (eC [(.int 1),x28])) λl42=>gT (λs52 d53 kn=>iQ s52.1 s52.2.1 s52.2.2.1 s52.2.2.2.1 s52.2.2.2.2.1 d53 kn) l42 (r27.2,r1.1,x28,x36,l41,()) (λs52=>iR s52.1 s52.2.1 s52.2.2.1 s52.2.2.2.1 s52.2.2.2.2.1)
def jY:List D->List D->M (D×List D):=λgad l=>match l with
 | [gab]=>dA gad gab
 | _=>.bad
theorem oG{f:Addr}(Fn:Fun K "_law_needing" "_law_needing" ik f fd)(hmg:mg "_law_needing" = some (.ref f))(B:BN mg)(Kn:KN mg)(gar:CF P w K mg base "_law_small" 2 (sp1 K 2 dM))(gah:CF P w K mg base "_law_take" 1 (sp1 K 2 bZ))(gaF:CF P w K mg base "_law_plus" 1 (spD K 3 hJ)):CF P w K mg base "_law_needing" 3 (sp1 K 2 jY) :=
 ⟨f,fd,["_law_feed_here", "_law_sizes"],i9 (k:=2) Fn sc__law_needing (λcdv A outer s H E hr =>
  (au (aS (sh:=[.p,.f,.f,.dead,.dead,.dead,.dead,.dead,.dead,.dead]) (aO (i:=2) sc__law_needing.nd (bp (i:=0) gar hr.m (aG (aA (af (i:=1) rfl (vi rfl))) aQ))))
  (au (aS (sh:=[.p,.dead,.f,.f,.dead,.dead,.dead,.dead,.dead,.dead]) (aO (i:=3) sc__law_needing.nd (aA (aF (aa aj (aa (aJ fA fD (ao (aF (aa aj aq))) (ao (aE az aC (ao (af (i:=1) rfl (vi rfl))) (ao aj)))) (aa (aJ fA fD (ao (aF (aa aj aq))) (ao (aE az aC (ao (af (i:=1) rfl (vi rfl))) (ao aj)))) aq)))))))
  (au (bn (zm (bm (aR hr)) bf (bp (i:=0) gah hr.m (aG (aA aj) aQ)) (aA aj))
  (au (aS (sh:=[.p,.dead,.f,.dead,.f,.dead,.dead,.dead,.dead,.dead]) (aO (i:=4) sc__law_needing.nd (aA (aZ gaF hr.m (aa (aJ aV bh (ao (aF (aa (cL bK bT (ao aj)) aq))) (ao (bS (ao (af (i:=3) rfl (vi rfl))) (bL aj) bY))) (aa (af (i:=2) rfl (vi rfl)) (aa aj aq)))))))
  (au (aS (sh:=[.p,.dead,.dead,.dead,.f,.f,.dead,.dead,.dead,.dead]) (aO (i:=5) sc__law_needing.nd (aA (aJ aV bh (ao (aF (aa (aJ fy fB (ao (aE az aC (ao (af (i:=2) rfl (vi rfl))) (ao aj))) (ao aj)) aq))) (ao (bS (ao (af (i:=2) rfl (vi rfl))) (bL aj) bY))))))
  (aB (aK (aA (aF (aa (aF (aa (aF (aa aM (aa (af (i:=4) rfl (vi rfl)) aq))) aq)) (aa (aF (aa aM (aa (af (i:=5) rfl (vi rfl)) (aa (aF (aa aM (aa (aF (aa (aF (aa aj (aa (cL bK bT (ao aj)) aq))) (aa (aF (aa aj (aa aj aq))) aq))) aq))) (aa (aF (aa aM (aa (aF (aa (aF (aa aj (aa aj aq))) (aa (aF (aa aj (aa aj aq))) aq))) aq))) aq))))) aq))))))))
  aP)
  (au (aS (sh:=[.p,.dead,.f,.dead,.dead,.dead,.f,.dead,.dead,.dead]) (aO (i:=6) sc__law_needing.nd (gH az aC (aA (cm (bB (aa aj (aa aj (aa aj aq)))))) (bp (i:=0) gah hr.m (aG (aA aj) aQ)))))
  (au (aS (sh:=[.p,.dead,.f,.dead,.dead,.dead,.f,.f,.dead,.dead]) (aO (i:=7) sc__law_needing.nd (aA (aF (aa (aF (aa aM (aa (af (i:=2) rfl (vi rfl)) (aa (af (i:=6) rfl (vi rfl)) aq)))) (aa (aF (aa aM (aa (aJ aV bh (ao (aF (aa (aJ fy fB (ao (aE az aC (ao (af (i:=2) rfl (vi rfl))) (ao aj))) (ao aj)) aq))) (ao (bS (ao (af (i:=2) rfl (vi rfl))) (bL aj) bY))) aq))) aq))))))
  (au (aS (sh:=[.p,.dead,.f,.dead,.dead,.dead,.f,.f,.o,.dead]) (lc (i:=8) sc__law_needing.nd (lY (bB (aa (aF (aa aM (aa (af (i:=6) rfl (vi rfl)) (aa (aF (aa (aF (aa aj (aa aj aq))) (aa (aF (aa aj (aa (cL bK bT (ao aj)) aq))) aq))) aq)))) aq)))))
  (au (dm (sh:=[.p,.dead,.f,.dead,.dead,.dead,.f,.f,.o,.dead]) PassesOwn.leaving rfl (e8 (lg rfl B.range (aa aj (aa (af (i:=6) rfl (vi rfl)) aq)) rfl rfl)) (aY (i:=9) (gh _) sc__law_needing.nd)
  (aB (jV (i:=8) rfl (vi rfl) (aG (aA (aF (aa aM (aa (af (i:=6) rfl (vi rfl)) (aa (aF (aa (aF (aa aj (aa aj aq))) (aa (aF (aa aj (aa (cL bK bT (ao aj)) aq))) aq))) aq))))) aQ) rfl rfl rfl rfl rfl rfl)))
  (aB (aK (aA (aF (aa (af (i:=7) rfl (vi rfl)) (aa (aF (aa aM (aa (af (i:=2) rfl (vi rfl)) (aa (af (i:=6) rfl (vi rfl)) (aa (bt bg bR B.tuple (by decide +kernel) (aI (dJ (i:=8)) aN)) aq))))) aq))))))))))))))
 (λg ds hl=>(by obtain⟨gab,rfl⟩:=ln1 (Nat.succ.inj hl);kernel_rfl)),hmg,Fn.kp,(jr Fn λ_ _ _ _ _ _ _ _=>rfl)⟩
abbrev fm:Stmt:=top 53
abbrev rz:List Str:=["_law_way", "_law_begin", "_law_pairs", "_law_shown_here"]
theorem sc__law_shifted:FnScope rz ["_law_way", "_law_begin"] (aL fm):=⟨rfl,rfl,rfl,by decide +kernel,rfl,by decide +kernel,by decide +kernel⟩
abbrev N__law_shifted_0:List Str:=["_law_way", "_law_begin", "_law_pairs", "_law_shown_here", "_law_number", "_law_many"]
theorem gV:N__law_shifted_0.Nodup:=by decide +kernel
abbrev N__law_shifted_1:List Str:=["_law_way", "_law_begin", "_law_pairs", "_law_shown_here", "_law_one"]
theorem lm:N__law_shifted_1.Nodup:=by decide +kernel
abbrev N__law_shifted_2:List Str:=["_law_way", "_law_begin", "_law_pairs", "_law_shown_here", "_law_one"]
theorem lj:N__law_shifted_2.Nodup:=by decide +kernel
def gp(self:D->D->M D)(gas:D)(gaO:D):M D :=
 bd (bd (oM (aD gas (.int 0))) λx1=>oM (lh x1 (PyData.list [(.str "sum"),(.str "rest")]))) λb2=>if b2 then
  bd (bd (bd (bd (bd (oM (bN (.int 1))) λx3=>oM (aD gas x3)) λx4=>oM (fj x4)) λl13=>bd (bH (λd5=>un2 d5 λy6 y7=>bd (bd (bd (bd (bd (oM (uq y6 gaO)) λb8=>.ret (.bool b8)) λx9=>oM (nU [x9])) λx10=>oM (aX y6 x10)) λx11=>.ret (.tuple [x11,y7])) λx12=>.ret (some x12)) l13) dw) λl14=>.ret (PyData.list l14)) λx15=>bd (bd (bd (bd (oM (bN (.int 1))) λx16=>asI x16) λhi17=>oM (fH gas none hi17)) λx19=>bd (bd (oM (cw [x15])) λx18=>.ret (.tuple [x18])) λx20=>oM (aX x19 x20)) λx21=>.ret x21
  else
  bd (bd (oM (aD gas (.int 0))) λx22=>oM (bD x22 (.str "split"))) λb23=>if b23 then
  bd (bd (bd (asI (.int 2)) λhi24=>oM (fH gas none hi24)) λx29=>bd (bd (bd (oM (aD gas (.int 2))) λx25=>self x25 gaO) λx26=>bd (bd (oM (aD gas (.int 3))) λx27=>self x27 gaO) λx28=>.ret (.tuple [x26,x28])) λx30=>oM (aX x29 x30)) λx31=>.ret x31
  else
  bd (bd (oM (aD gas (.int 0))) λx32=>oM (bD x32 (.str "cases"))) λb33=>if b33 then
  bd (bd (bd (asI (.int 3)) λhi34=>oM (fH gas none hi34)) λx42=>bd (bd (bd (bd (bd (bd (oM (aD gas (.int 3))) λx35=>oM (fj x35)) λl38=>bd (bH (λd36=>bd (self d36 gaO) λx37=>.ret (some x37)) l38) dw) λl39=>.ret (PyData.list l39)) λx40=>oM (cw [x40])) λx41=>.ret (.tuple [x41])) λx43=>oM (aX x42 x43)) λx44=>.ret x44
  else
  bd (bd (bd (bd (bd (oM (aD gas (.int 2))) λx45=>oM (fj x45)) λl48=>bd (bH (λd46=>bd (self d46 gaO) λx47=>.ret (some x47)) l48) dw) λl49=>.ret (PyData.list l49)) λx50=>oM (cw [x50])) λx51=>bd (bd (bd (asI (.int 2)) λhi52=>oM (fH gas none hi52)) λx55=>bd (bd (bd (oM (aD gas (.int 3))) λx53=>self x53 gaO) λx54=>.ret (.tuple [x51,x54])) λx56=>oM (aX x55 x56)) λx57=>.ret x57
def bW:Nat->D->D->M D
 | 0=>λ_ _=>.bad
 | i+1=>gp (bW i)
def cU(i:Nat):List D->M D:=λl=>match l with
 | [gas,gaO]=>bW i gas gaO
 | _=>.bad
theorem oQ{f:Addr}(Fn:Fun K "_law_shifted" "_law_shifted" fm f fd)(B:BN mg)(Kn:KN mg)(i:Nat)(Cself:CF P w K mg base "_law_shifted" (1+i) (spD K 2 (cU i))):FnOk P w K mg base (CX1 P w) (1+i+1) f fd ["_law_way", "_law_begin"] (spD K 2 (cU (i+1))) :=
 bF (k:=1+i) Fn sc__law_shifted (λcdv A outer s H E hr =>
  (au (bn (aW (bc (qr (aR hr)) bf (ao (aE az aC (ao (af (i:=0) rfl (vi rfl))) (ao aj))) (ao (cm (bB (aa aM (aa aM aq)))))))
  (au (aS (sh:=[.f,.dead,.f,.dead]) (jU (i:=2) sc__law_shifted.nd rfl (lo rfl) (.inl rfl) (N':=N__law_shifted_0) (k:=2) rfl (bq (by kernel_rfl) rfl rfl) (df (aE az aC (ao (af (i:=0) rfl (vi rfl))) (ao (cL bK bT (ao aj))))) (λ_ _ _ _ _=>(eY rfl (bJ (aY (i:=4) (show 4<=4 by decide) gV) (bJ (aY (i:=5) (show 4<=5 by decide) gV) eX rfl) rfl) rfl rfl)) (λ_ _ _ _ _=>cb) (λ_ _ _ _ _=>(aF (aa (aJ aV bh (ao (af (i:=4) rfl (vi rfl))) (ao (bt kX uw B.int (by decide +kernel) (aI (ao (eK (bQ Eo Es (ao (af (i:=4) rfl (vi rfl))) (ao (af (i:=1) rfl (vi rfl)))))) aN)))) (aa (af (i:=5) rfl (vi rfl)) aq)))) rfl (λ_=>rfl)))
  (aB (aK (aA (aJ aV bh (ao (bS (ao (af (i:=0) rfl (vi rfl))) bY (bL (cL bK bT (ao aj))))) (ao (aF (aa (bt bg bR B.tuple (by decide +kernel) (aI (ao (af (i:=2) rfl (vi rfl))) aN)) aq))))))))
  aP)
  (au (bn (aW (bc (bm (aR hr)) bf (ao (aE az aC (ao (af (i:=0) rfl (vi rfl))) (ao aj))) (ao aM)))
  (aB (aK (aA (aJ aV bh (ao (bS (ao (af (i:=0) rfl (vi rfl))) bY (bL aj))) (ao (aF (aa (aZ Cself (hr.mono (by omega)) (aa (aE az aC (ao (af (i:=0) rfl (vi rfl))) (ao aj)) (aa (af (i:=1) rfl (vi rfl)) aq))) (aa (aZ Cself (hr.mono (by omega)) (aa (aE az aC (ao (af (i:=0) rfl (vi rfl))) (ao aj)) (aa (af (i:=1) rfl (vi rfl)) aq))) aq))))))))
  aP)
  (au (bn (aW (bc (bm (aR hr)) bf (ao (aE az aC (ao (af (i:=0) rfl (vi rfl))) (ao aj))) (ao aM)))
  (aB (aK (aA (aJ aV bh (ao (bS (ao (af (i:=0) rfl (vi rfl))) bY (bL aj))) (ao (aF (aa (bt bg bR B.tuple (by decide +kernel) (aI (ao (cm (cG (N':=N__law_shifted_1) (k:=1) rfl (bq (by kernel_rfl) rfl rfl) (df (aE az aC (ao (af (i:=0) rfl (vi rfl))) (ao aj))) (λ_ _ _ _ _=>(aY (i:=4) (show 4<=4 by decide) lm)) (λ_ _ _ _ _=>cb) (λ_ _ _ _ _=>(aZ Cself (hr.mono (by omega)) (aa (af (i:=4) rfl (vi rfl)) (aa (af (i:=1) rfl (vi rfl)) aq))))))) aN)) aq)))))))
  aP)
  (au (aS (sh:=[.f,.f,.dead,.f]) (aO (i:=3) sc__law_shifted.nd (aA (bt bg bR B.tuple (by decide +kernel) (aI (ao (cm (cG (N':=N__law_shifted_2) (k:=1) rfl (bq (by kernel_rfl) rfl rfl) (df (aE az aC (ao (af (i:=0) rfl (vi rfl))) (ao aj))) (λ_ _ _ _ _=>(aY (i:=4) (show 4<=4 by decide) lj)) (λ_ _ _ _ _=>cb) (λ_ _ _ _ _=>(aZ Cself (hr.mono (by omega)) (aa (af (i:=4) rfl (vi rfl)) (aa (af (i:=1) rfl (vi rfl)) aq))))))) aN)))))
  (aB (aK (aA (aJ aV bh (ao (bS (ao (af (i:=0) rfl (vi rfl))) bY (bL aj))) (ao (aF (aa (af (i:=3) rfl (vi rfl)) (aa (aZ Cself (hr.mono (by omega)) (aa (aE az aC (ao (af (i:=0) rfl (vi rfl))) (ao aj)) (aa (af (i:=1) rfl (vi rfl)) aq))) aq)))))))))))))
 (λds hl=>(by obtain⟨gas,gaO,rfl⟩:=ln2 hl;kernel_rfl))
theorem oF{f:Addr}(Fn:Fun K "_law_shifted" "_law_shifted" fm f fd)(hmg:mg "_law_shifted" = some (.ref f))(B:BN mg)(Kn:KN mg)(i:Nat):CF P w K mg base "_law_shifted" (1+i) (spD K 2 (cU i)):=by
 induction i with
 | zero =>
  have e:cU 0=λ_=>.bad:=by
   funext l;unfold cU;split<;>rfl
  rw[e]
  exact CF.zero (ps:=["_law_way", "_law_begin"]) _ _ hmg Fn.kp (jr Fn λ_ _ _ _ _ _ _ _=>rfl)
 | succ i ih=>exact⟨f,fd,["_law_way", "_law_begin"],oQ Fn B Kn  i ih,hmg,Fn.kp,(jr Fn λ_ _ _ _ _ _ _ _=>rfl)⟩
abbrev i6:Stmt:=top 54
abbrev sv:List Str:=["_law_feed_here", "_law_sizes", "_law_facts", "_law_way", "_law_later", "_law_form", "_law_kind", "_law_many", "_law_number", "_law_fact", "_law_shown_here"]
theorem sc__law_deeper:FnScope sv ["_law_feed_here", "_law_sizes", "_law_facts", "_law_way"] (aL i6):=⟨rfl,rfl,rfl,by decide +kernel,rfl,by decide +kernel,by decide +kernel⟩
abbrev N__law_deeper_0:List Str:=["_law_feed_here", "_law_sizes", "_law_facts", "_law_way", "_law_later", "_law_form", "_law_kind", "_law_many", "_law_number", "_law_fact", "_law_shown_here", "_law_k"]
theorem lO:N__law_deeper_0.Nodup:=by decide +kernel
def eJ(gac:List D)(gbQ:D)(gaw:D)(gbJ:D):M (D×List D) :=
 .ret ((.tuple [(.str "know"),gaw,gbJ,gbQ]),gac)
def eR(gad:List D)(gab:D)(gaj:D)(gas:D):M (D×List D) :=
 bd (bd (oM (cA [gaj])) λx1=>bW 8 gas x1) λx2=>bd (cN gad gab) λr3=>bd (aH r3.2 (.int 4)) λr4=>bd (oM (bD r4.1 (.int 0))) λb5=>if b5 then
  .ret ((.tuple [(.str "split"),r3.1,x2,x2]),r4.2)
  else
  bd (oM (bD r4.1 (.int 1))) λb6=>if b6 then
  bd (bd (bd (bd (bd (bd (bd (bd (oM (aD gas (.int 0))) λx7=>oM (lh x7 (PyData.list [(.str "sum"),(.str "rest")]))) λb8=>.ret (.bool b8)) λx9=>oM (nU [x9])) λx10=>oM (bw (.int 7) x10)) λx11=>oM (aX (.int 2) x11)) λx12=>.ret [(.int 2),(.int 3),x12]) λl13=>.ret (PyData.list l13)) λx14=>bd (aH r4.2 (.int 3)) λr15=>bd (oM (aD x14 r15.1)) λx16=>bd (bd (oM (dF (.tuple [x2]) x16)) λx17=>.ret (.tuple [(.str "cases"),r3.1,x16,x17])) λx18=>.ret (x18,r15.2)
  else
  bd (oM (cA [gaj])) λx19=>bd (aH r4.2 x19) λr20=>bd (oM (aD gaj r20.1)) λx21=>bd (bd (oM (aD x21 (.int 0))) λx22=>oM (bD x22 (.str "rest"))) λb23=>if b23 then
  bd (bd (bd (bd (bd (oM (aD x21 (.int 2))) λx24=>oM (eC [(.int 1),x24])) λl32=>bd (bH (λd25=>bd (bd (oM (aD x21 (.int 2))) λx26=>bd (bd (bd (oM (cA [gaj])) λx27=>bd (oM (bN (.int 1))) λx28=>.ret (.tuple [x27,x28])) λx29=>.ret (.tuple [(.tuple [r20.1,(.int 1)]),x29])) λx30=>.ret (.tuple [(.str "rest"),x26,x30])) λx31=>.ret (some x31)) l32) dw) λl33=>.ret (PyData.list l33)) λx34=>oM (cw [x34])) λx35=>eJ r20.2 x2 x21 x35
  else
  bd (bd (oM (aD x21 (.int 0))) λx36=>oM (bD x36 (.str "same"))) λb37=>if b37 then
  bd (bd (bd (bd (bd (oM (bN (.int 1))) λx38=>.ret (.tuple [r20.1,x38])) λx39=>bd (bd (oM (cA [gaj])) λx40=>.ret (.tuple [x40,(.int 1)])) λx41=>.ret (.tuple [x39,x41])) λx42=>.ret (.tuple [(.str "sum"),x42])) λx43=>bd (bd (oM (cA [gaj])) λx44=>iS r20.1 x44) λx45=>.ret (.tuple [x43,x45])) λx46=>eJ r20.2 x2 x21 x46
  else
  bd (bd (bd (oM (cA [gaj])) λx47=>iS r20.1 x47) λx48=>.ret (.tuple [x48])) λx49=>eJ r20.2 x2 x21 x49
def kC:List D->List D->M (D×List D):=λgad l=>match l with
 | [gab,gaj,gas]=>eR gad gab gaj gas
 | _=>.bad
theorem qC{f:Addr}(Fn:Fun K "_law_deeper" "_law_deeper" i6 f fd)(hmg:mg "_law_deeper" = some (.ref f))(B:BN mg)(Kn:KN mg)(gbh:CF P w K mg base "_law_shifted" 9 (spD K 2 (cU 8)))(gar:CF P w K mg base "_law_small" 2 (sp1 K 2 dM))(gah:CF P w K mg base "_law_take" 1 (sp1 K 2 bZ))(gbp:CF P w K mg base "_law_kept" 1 (spD K 2 mM)):CF P w K mg base "_law_deeper" 10 (sp1 K 4 kC) :=
 ⟨f,fd,["_law_feed_here", "_law_sizes", "_law_facts", "_law_way"],i9 (k:=9) Fn sc__law_deeper (λcdv A outer s H E hr =>
  (au (aS (sh:=[.p,.f,.f,.f,.f,.dead,.dead,.dead,.dead,.dead,.dead]) (aO (i:=4) sc__law_deeper.nd (aA (aZ gbh hr.m (aa (af (i:=3) rfl (vi rfl)) (aa (aT aU bx B.len ay (aI (ao (af (i:=2) rfl (vi rfl))) aN)) aq))))))
  (au (aS (sh:=[.p,.dead,.f,.f,.f,.f,.dead,.dead,.dead,.dead,.dead]) (aO (i:=5) sc__law_deeper.nd (bp (i:=0) gar hr.m (aG (aA (af (i:=1) rfl (vi rfl))) aQ))))
  (au (aS (sh:=[.p,.dead,.f,.f,.f,.f,.f,.dead,.dead,.dead,.dead]) (aO (i:=6) sc__law_deeper.nd (bp (i:=0) gah hr.m (aG (aA aj) aQ))))
  (au (bn (aW (bc (bm (aR hr)) bf (ao (af (i:=6) rfl (vi rfl))) (ao aj)))
  (aB (aK (aA (aF (aa aM (aa (af (i:=5) rfl (vi rfl)) (aa (af (i:=4) rfl (vi rfl)) (aa (af (i:=4) rfl (vi rfl)) aq))))))))
  aP)
  (au (bn (aW (bc (bm (aR hr)) bf (ao (af (i:=6) rfl (vi rfl))) (ao aj)))
  (au (aS (sh:=[.p,.dead,.dead,.dead,.f,.f,.dead,.f,.dead,.dead,.dead]) (aO (i:=7) sc__law_deeper.nd (gH az aC (aA (cm (bB (aa aj (aa aj (aa (aJ aV bh (ao aj) (ao (aJ cB cC (ao aj) (ao (bt kX uw B.int (by decide +kernel) (aI (ao (eK (bQ (qr (aR hr)) bf (ao (aE az aC (ao (af (i:=3) rfl (vi rfl))) (ao aj))) (ao (cm (bB (aa aM (aa aM aq)))))))) aN)))))) aq)))))) (bp (i:=0) gah hr.m (aG (aA aj) aQ)))))
  (aB (aK (aA (aF (aa aM (aa (af (i:=5) rfl (vi rfl)) (aa (af (i:=7) rfl (vi rfl)) (aa (aJ fA fD (ao (aF (aa (af (i:=4) rfl (vi rfl)) aq))) (ao (af (i:=7) rfl (vi rfl)))) aq)))))))))
  aP)
  (au (aS (sh:=[.p,.dead,.f,.dead,.f,.dead,.dead,.dead,.f,.dead,.dead]) (aO (i:=8) sc__law_deeper.nd (bp (i:=0) gah hr.m (aG (aA (aT aU bx B.len ay (aI (ao (af (i:=2) rfl (vi rfl))) aN))) aQ))))
  (au (aS (sh:=[.p,.dead,.f,.dead,.f,.dead,.dead,.dead,.f,.f,.dead]) (aO (i:=9) sc__law_deeper.nd (aA (aE az aC (ao (af (i:=2) rfl (vi rfl))) (ao (af (i:=8) rfl (vi rfl)))))))
  (au (aS (sh:=[.p,.dead,.dead,.dead,.f,.dead,.dead,.dead,.dead,.f,.f]) (bn (aW (bc (bm (aR hr)) bf (ao (aE az aC (ao (af (i:=9) rfl (vi rfl))) (ao aj))) (ao aM)))
  (aB (aO (i:=10) sc__law_deeper.nd (aA (bt bg bR B.tuple (by decide +kernel) (aI (ao (cm (cG (N':=N__law_deeper_0) (k:=1) rfl (bq (by kernel_rfl) rfl rfl) (lg rfl B.range (aa aj (aa (aE az aC (ao (af (i:=9) rfl (vi rfl))) (ao aj)) aq)) rfl rfl) (λ_ _ _ _ _=>(aY (i:=11) (show 11<=11 by decide) lO)) (λ_ _ _ _ _=>cb) (λ_ _ _ _ _=>(aF (aa aM (aa (aE az aC (ao (af (i:=9) rfl (vi rfl))) (ao aj)) (aa (aF (aa (aF (aa (af (i:=8) rfl (vi rfl)) (aa aj aq))) (aa (aF (aa (aT aU bx B.len ay (aI (ao (af (i:=2) rfl (vi rfl))) aN)) (aa (cL bK bT (ao aj)) aq))) aq))) aq)))))))) aN)))))
  (aB (bn (aW (bc (bm (aR hr)) bf (ao (aE az aC (ao (af (i:=9) rfl (vi rfl))) (ao aj))) (ao aM)))
  (aB (aO (i:=10) sc__law_deeper.nd (aA (aF (aa (aF (aa aM (aa (aF (aa (aF (aa (af (i:=8) rfl (vi rfl)) (aa (cL bK bT (ao aj)) aq))) (aa (aF (aa (aT aU bx B.len ay (aI (ao (af (i:=2) rfl (vi rfl))) aN)) (aa aj aq))) aq))) aq))) (aa (aZ gbp hr.m (aa (af (i:=8) rfl (vi rfl)) (aa (aT aU bx B.len ay (aI (ao (af (i:=2) rfl (vi rfl))) aN)) aq))) aq))))))
  (aB (aO (i:=10) sc__law_deeper.nd (aA (aF (aa (aZ gbp hr.m (aa (af (i:=8) rfl (vi rfl)) (aa (aT aU bx B.len ay (aI (ao (af (i:=2) rfl (vi rfl))) aN)) aq))) aq)))))))))
  (aB (aK (aA (aF (aa aM (aa (af (i:=9) rfl (vi rfl)) (aa (af (i:=10) rfl (vi rfl)) (aa (af (i:=4) rfl (vi rfl)) aq)))))))))))))))))
 (λg ds hl=>(by obtain⟨gab,gaj,gas,rfl⟩:=ln3 (Nat.succ.inj hl);kernel_rfl)),hmg,Fn.kp,(xX Fn λ_ _ _ _ _ _ _ _ _ _=>rfl)⟩
abbrev lD:Stmt:=top 55
abbrev yj:List Str:=["_law_feed_here", "_law_thing", "_law_some", "_law_words", "_law_at"]
theorem sc__law_odd:FnScope yj ["_law_feed_here", "_law_thing"] (aL lD):=⟨rfl,rfl,rfl,by decide +kernel,rfl,by decide +kernel,by decide +kernel⟩
def d6(gad:List D)(gaa:D):M (D×List D) :=
 bd (bd (oM (gl "bool" gaa)) λb1=>if b1 then .ret true else oM (kq gaa .none)) λb2=>if b2 then
  bd (bd (bd (bd (bd (oM (dP gaa)) λb3=>.ret (!b3)) λb4=>.ret (.bool b4)) λx5=>.ret [x5,(.int 0),(.int 1),.none,(.str ""),(.tuple [])]) λl6=>.ret (PyData.list l6)) λx7=>bd (aH gad (.int 6)) λr8=>bd (oM (aD x7 r8.1)) λx9=>.ret (x9,r8.2)
  else
  bd (oM (gl "int" gaa)) λb10=>if b10 then
  bd (bd (bd (oM (aX gaa (.int 1))) λx11=>bd (oM (fP gaa (.int 1))) λx12=>bd (oM (fP (.int 0) gaa)) λx13=>bd (oM (bw (.int 2) gaa)) λx14=>bd (bd (oM (bD gaa (.int 1))) λb15=>.ret (.bool b15)) λx16=>bd (bd (oM (jX (.int 10) (.int 15))) λx17=>oM (aX x17 (.int 1))) λx18=>.ret [x11,x12,x13,x14,x16,.none,(.str "1"),x18,(.tuple [gaa])]) λl19=>.ret (PyData.list l19)) λx20=>bd (aH gad (.int 9)) λr21=>bd (oM (aD x20 r21.1)) λx22=>.ret (x22,r21.2)
  else
  bd (oM (gl "str" gaa)) λb23=>if b23 then
  bd (oM (aX (PyData.list [(.str "sum"),(.str "rest"),(.str "split"),(.str "cases"),(.str "know"),(.str "never"),(.str "in")]) (PyData.list [(.str "stays"),(.str "meet"),(.str "on"),(.str "end"),(.str "least"),(.str "same"),(.str "")]))) λx24=>bd (aH gad (.int 14)) λr25=>bd (oM (aD x24 r25.1)) λx26=>.ret (x26,r25.2)
  else
  bd (oM (gl "list" gaa)) λb27=>if b27 then
  bd (oM (cw [gaa])) λx28=>.ret (x28,gad)
  else
  bd (bd (oM (cA [gaa])) λx29=>oM (aX x29 (.int 1))) λx30=>bd (aH gad x30) λr31=>bd (bd (bd (bd (bd (asI r31.1) λhi32=>oM (fH gaa none hi32)) λx35=>bd (bd (bd (oM (aX r31.1 (.int 1))) λx33=>asI x33) λlo34=>oM (fH gaa lo34 none)) λx36=>oM (aX x35 x36)) λx37=>bd (bd (bd (asI r31.1) λhi38=>oM (fH gaa none hi38)) λx42=>bd (bd (bd (bd (oM (fP r31.1 (.int 1))) λx39=>oM (Ad [(.int 0),x39])) λx40=>asI x40) λlo41=>oM (fH gaa lo41 none)) λx43=>oM (aX x42 x43)) λx44=>bd (oM (xP gaa)) λx45=>bd (bd (oM (qM [gaa])) λl46=>.ret (PyData.list l46)) λx47=>.ret [x37,x44,x45,x47,(.tuple [])]) λl48=>.ret (PyData.list l48)) λx49=>bd (bd (bd (bd (bd (bd (asI r31.1) λlo50=>oM (fH gaa lo50 none)) λx52=>bd (bd (asI r31.1) λhi51=>oM (fH gaa none hi51)) λx53=>oM (aX x52 x53)) λx54=>bd (oM (aX gaa (.tuple [(.int 0)]))) λx55=>.ret [x54,x55,(.tuple [gaa])]) λl56=>.ret (PyData.list l56)) λx57=>oM (aX x49 x57)) λx58=>bd (aH r31.2 (.int 8)) λr59=>bd (oM (aD x58 r59.1)) λx60=>.ret (x60,r59.2)
def kB:List D->List D->M (D×List D):=λgad l=>match l with
 | [gaa]=>d6 gad gaa
 | _=>.bad
theorem vQ{f:Addr}(Fn:Fun K "_law_odd" "_law_odd" lD f fd)(hmg:mg "_law_odd" = some (.ref f))(B:BN mg)(Kn:KN mg)(gah:CF P w K mg base "_law_take" 1 (sp1 K 2 bZ)):CF P w K mg base "_law_odd" 2 (sp1 K 2 kB) :=
 ⟨f,fd,["_law_feed_here", "_law_thing"],i9 (k:=1) Fn sc__law_odd (λcdv A outer s H E hr =>
  (au (bn (aW (dC (cK (gU (d9 (T := "bool") (by decide) rfl B.isinstance rfl B.bool (by decide +kernel) (ao (af (i:=1) rfl (vi rfl))) rfl rfl rfl) (λ_=>rfl)) (cO (bc uj bf (ao (af (i:=1) rfl (vi rfl))) (ao eN))))))
  (aB (aK (gH az aC (aA (cm (bB (aa (eK (DZ (ao (af (i:=1) rfl (vi rfl))))) (aa aj (aa aj (aa eN (aa aM (aa (aF aq) aq))))))))) (bp (i:=0) gah hr.m (aG (aA aj) aQ)))))
  aP)
  (au (bn (aW (gU (d9 (T := "int") (by decide) rfl B.isinstance rfl B.int (by decide +kernel) (ao (af (i:=1) rfl (vi rfl))) rfl rfl rfl) (λ_=>rfl)))
  (au (aS (sh:=[.p,.dead,.f,.dead,.dead]) (aO (i:=2) sc__law_odd.nd (aA (cm (bB (aa (aJ aV bh (ao (af (i:=1) rfl (vi rfl))) (ao aj)) (aa (aJ fy fB (ao (af (i:=1) rfl (vi rfl))) (ao aj)) (aa (aJ fy fB (ao aj) (ao (af (i:=1) rfl (vi rfl)))) (aa (aJ cB cC (ao aj) (ao (af (i:=1) rfl (vi rfl)))) (aa (eK (bQ (bm (aR hr)) bf (ao (af (i:=1) rfl (vi rfl))) (ao aj))) (aa eN (aa aM (aa (aJ aV bh (ao (aJ nz nE (ao aj) (ao aj))) (ao aj)) (aa (aF (aa (af (i:=1) rfl (vi rfl)) aq)) aq))))))))))))))
  (aB (aK (gH az aC (aA (af (i:=2) rfl (vi rfl))) (bp (i:=0) gah hr.m (aG (aA aj) aQ))))))
  aP)
  (au (bn (aW (gU (d9 (T := "str") (by decide) rfl B.isinstance rfl B.str (by decide +kernel) (ao (af (i:=1) rfl (vi rfl))) rfl rfl rfl) (λ_=>rfl)))
  (au (aS (sh:=[.p,.dead,.dead,.f,.dead]) (aO (i:=3) sc__law_odd.nd (aA (cm (bB (aa aM (aa aM (aa aM (aa aM (aa aM (aa aM (aa aM aq))))))))))))
  (aB (aK (gH az aC (aA (aJ aV bh (ao (af (i:=3) rfl (vi rfl))) (ao (cm (bB (aa aM (aa aM (aa aM (aa aM (aa aM (aa aM (aa aM aq)))))))))))) (bp (i:=0) gah hr.m (aG (aA aj) aQ))))))
  aP)
  (au (bn (aW (gU (d9 (T := "list") (by decide) rfl B.isinstance rfl B.list (by decide +kernel) (ao (af (i:=1) rfl (vi rfl))) rfl rfl rfl) (λ_=>rfl)))
  (aB (aK (aA (bt bg bR B.tuple (by decide +kernel) (aI (ao (af (i:=1) rfl (vi rfl))) aN)))))
  aP)
  (au (aS (sh:=[.p,.f,.dead,.dead,.f]) (aO (i:=4) sc__law_odd.nd (bp (i:=0) gah hr.m (aG (aA (aJ aV bh (ao (aT aU bx B.len ay (aI (ao (af (i:=1) rfl (vi rfl))) aN))) (ao aj))) aQ))))
  (au (aS (sh:=[.p,.f,.f,.dead,.f]) (aO (i:=2) sc__law_odd.nd (aA (cm (bB (aa (aJ aV bh (ao (bS (ao (af (i:=1) rfl (vi rfl))) bY (bL (af (i:=4) rfl (vi rfl))))) (ao (bS (ao (af (i:=1) rfl (vi rfl))) (bL (aJ aV bh (ao (af (i:=4) rfl (vi rfl))) (ao aj))) bY))) (aa (aJ aV bh (ao (bS (ao (af (i:=1) rfl (vi rfl))) bY (bL (af (i:=4) rfl (vi rfl))))) (ao (bS (ao (af (i:=1) rfl (vi rfl))) (bL (aT ((tK rfl).or (tL rfl)) BC B.max (by decide +kernel) (aI (ao aj) (aI (ao (aJ fy fB (ao (af (i:=4) rfl (vi rfl))) (ao aj))) aN)))) bY))) (aa (CH (ao (af (i:=1) rfl (vi rfl))) (Bv bK xn)) (aa (cm (tS mU yF B.list (by decide +kernel) (aI (ao (af (i:=1) rfl (vi rfl))) aN))) (aa (aF aq) aq))))))))))
  (aB (aK (gH az aC (aA (aJ aV bh (ao (af (i:=2) rfl (vi rfl))) (ao (cm (bB (aa (aJ aV bh (ao (bS (ao (af (i:=1) rfl (vi rfl))) (bL (af (i:=4) rfl (vi rfl))) bY)) (ao (bS (ao (af (i:=1) rfl (vi rfl))) bY (bL (af (i:=4) rfl (vi rfl)))))) (aa (aJ aV bh (ao (af (i:=1) rfl (vi rfl))) (ao (aF (aa aj aq)))) (aa (aF (aa (af (i:=1) rfl (vi rfl)) aq)) aq)))))))) (bp (i:=0) gah hr.m (aG (aA aj) aQ))))))))))))
 (λg ds hl=>(by obtain⟨gaa,rfl⟩:=ln1 (Nat.succ.inj hl);kernel_rfl)),hmg,Fn.kp,(jr Fn λ_ _ _ _ _ _ _ _=>rfl)⟩
abbrev iJ:Stmt:=top 56
abbrev wM:List Str:=["_law_feed_here", "_law_thing", "_law_deep", "_law_at"]
theorem sc__law_bent:FnScope wM ["_law_feed_here", "_law_thing", "_law_deep"] (aL iJ):=⟨rfl,rfl,rfl,by decide +kernel,rfl,by decide +kernel,by decide +kernel⟩
def ja(self:List D->D->D->M (D×List D))(gad:List D)(gaa:D)(gat:D):M (D×List D) :=
 bd (bd (oM (gl "tuple" gaa)) λb1=>.ret (!b1)) λb2=>if b2 then bd (d6 gad gaa) λr22=>.ret (r22.1,r22.2)else bd (oM (bD gaa (.tuple []))) λb3=>if b3 then bd (d6 gad gaa) λr21=>.ret (r21.1,r21.2)else bd (oM (bD gat (.int 0))) λb4=>if b4 then bd (d6 gad gaa) λr20=>.ret (r20.1,r20.2)else bd (aH gad (.int 7)) λr5=>bd (oM (bD r5.1 (.int 0))) λb6=>if b6 then
  bd (d6 r5.2 gaa) λr7=>.ret (r7.1,r7.2)
  else
  bd (oM (cA [gaa])) λx8=>bd (aH r5.2 x8) λr9=>bd (bd (asI r9.1) λhi10=>oM (fH gaa none hi10)) λx11=>bd (oM (aD gaa r9.1)) λx12=>bd (oM (fP gat (.int 1))) λx13=>bd (self r9.2 x12 x13) λr14=>bd (oM (aX x11 (.tuple [r14.1]))) λx15=>bd (bd (bd (oM (aX r9.1 (.int 1))) λx16=>asI x16) λlo17=>oM (fH gaa lo17 none)) λx18=>bd (oM (aX x15 x18)) λx19=>.ret (x19,r14.2)
def cP:Nat->List D->D->D->M (D×List D)
 | 0=>λ_ _ _=>.bad
 | i+1=>ja (cP i)
def ez(i:Nat):List D->List D->M (D×List D):=λgad l=>match l with
 | [gaa,gat]=>cP i gad gaa gat
 | _=>.bad
theorem uQ{f:Addr}(Fn:Fun K "_law_bent" "_law_bent" iJ f fd)(B:BN mg)(Kn:KN mg)(gah:CF P w K mg base "_law_take" 1 (sp1 K 2 bZ))(gbl:CF P w K mg base "_law_odd" 2 (sp1 K 2 kB))(i:Nat)(Cself:CF P w K mg base "_law_bent" (3+i) (sp1 K 3 (ez i))):FnOk P w K mg base (CX1 P w) (3+i+1) f fd ["_law_feed_here", "_law_thing", "_law_deep"] (sp1 K 3 (ez (i+1))) :=
 i9 (k:=3+i) Fn sc__law_bent (λcdv A outer s H E hr =>
  (au (bn (yb (rj (aW (bA (gU (d9 (T := "tuple") (by decide) rfl B.isinstance rfl B.tuple (by decide +kernel) (ao (af (i:=1) rfl (vi rfl))) rfl rfl rfl) (λ_=>rfl)))) (rj (aW (bc (bm (aR hr)) bf (ao (af (i:=1) rfl (vi rfl))) (ao (aF aq)))) (rj (aW (bc (bm (aR hr)) bf (ao (af (i:=2) rfl (vi rfl))) (ao aj))) (u7 (zm (bm (aR hr)) bf (bp (i:=0) gah (hr.mono (by omega)) (aG (aA aj) aQ)) (aA aj)))))))
  (aB (aK (bp (i:=0) gbl (hr.mono (by omega)) (aG (aA (af (i:=1) rfl (vi rfl))) aQ))))
  aP)
  (au (aS (sh:=[.p,.f,.f,.f]) (aO (i:=3) sc__law_bent.nd (bp (i:=0) gah (hr.mono (by omega)) (aG (aA (aT aU bx B.len ay (aI (ao (af (i:=1) rfl (vi rfl))) aN))) aQ))))
  (aB (aK (jb aV bh (jb aV bh (aA (bS (ao (af (i:=1) rfl (vi rfl))) bY (bL (af (i:=3) rfl (vi rfl))))) (mh (aG (bp (i:=0) Cself (hr.mono (by omega)) (aG (aA (aE az aC (ao (af (i:=1) rfl (vi rfl))) (ao (af (i:=3) rfl (vi rfl))))) (aG (aA (aJ fy fB (ao (af (i:=2) rfl (vi rfl))) (ao aj))) aQ))) aQ))) (aA (bS (ao (af (i:=1) rfl (vi rfl))) (bL (aJ aV bh (ao (af (i:=3) rfl (vi rfl))) (ao aj))) bY))))))))
 (λg ds hl=>(by obtain⟨gaa,gat,rfl⟩:=ln2 (Nat.succ.inj hl);kernel_rfl))
theorem uH{f:Addr}(Fn:Fun K "_law_bent" "_law_bent" iJ f fd)(hmg:mg "_law_bent" = some (.ref f))(B:BN mg)(Kn:KN mg)(gah:CF P w K mg base "_law_take" 1 (sp1 K 2 bZ))(gbl:CF P w K mg base "_law_odd" 2 (sp1 K 2 kB))(i:Nat):CF P w K mg base "_law_bent" (3+i) (sp1 K 3 (ez i)):=by
 induction i with
 | zero =>
  have e:ez 0=λ_ _=>.bad:=by
   funext g l;unfold ez;split<;>rfl
  rw[e]
  exact CF.zero1 (ps:=["_law_feed_here", "_law_thing", "_law_deep"]) _ _ hmg Fn.kp (n5 Fn λ_ _ _ _ _ _ _ _ _=>rfl)
 | succ i ih=>exact⟨f,fd,["_law_feed_here", "_law_thing", "_law_deep"],uQ Fn B Kn gah gbl i ih,hmg,Fn.kp,(n5 Fn λ_ _ _ _ _ _ _ _ _=>rfl)⟩
abbrev jC:Stmt:=top 57
abbrev vn:List Str:=["_law_sizes", "_law_facts", "_law_thing", "_law_stood", "_law_told"]
theorem sc__law_right:FnScope vn ["_law_sizes", "_law_facts", "_law_thing"] (aL jC):=⟨rfl,rfl,rfl,by decide +kernel,rfl,by decide +kernel,by decide +kernel⟩
def bP(gab:D)(gaj:D)(gaa:D):M D :=
 bd (oM (kF [(.tuple [gaj,gaa])])) λx1=>bd (bd (oM (aD gab (.int 0))) λx2=>bd (oM (aD gab (.int 1))) λx3=>fc x2 x3 gaj gaa) λx4=>bd (bd (bd (bd (oM (kF [x4])) λx6=>bd (bd (bX 65 gab gaj gaa (.int 1)) λx5=>oM (kF [x5])) λx7=>oM (bD x6 x7)) λb9=>if b9 then bd (oM (kF [(.tuple [gaj,gaa])])) λx8=>oM (bD x8 x1)else .ret false) λb10=>.ret (.bool b10)) λx11=>.ret x11
def ly:List D->M D:=λl=>match l with
 | [gab,gaj,gaa]=>bP gab gaj gaa
 | _=>.bad
theorem rP{f:Addr}(Fn:Fun K "_law_right" "_law_right" jC f fd)(hmg:mg "_law_right" = some (.ref f))(B:BN mg)(Kn:KN mg)(ga8:CF P w K mg base "refutes" 138 (spD K 4 jJ))(gbi:CF P w K mg base "_law_refuted" 70 (spD K 4 (cH 65))):CF P w K mg base "_law_right" 139 (spD K 3 ly) :=
 ⟨f,fd,["_law_sizes", "_law_facts", "_law_thing"],bF (k:=138) Fn sc__law_right (λcdv A outer s H E hr =>
  (au (aS (sh:=[.f,.f,.f,.f,.dead]) (aO (i:=3) sc__law_right.nd (aA (aT (h7 (aR hr) hr.gd) kS B.repr (by decide +kernel) (aI (ao (aF (aa (af (i:=1) rfl (vi rfl)) (aa (af (i:=2) rfl (vi rfl)) aq)))) aN)))))
  (au (aS (sh:=[.f,.f,.f,.f,.f]) (aO (i:=4) sc__law_right.nd (aA (aZ ga8 hr.m (aa (aE az aC (ao (af (i:=0) rfl (vi rfl))) (ao aj)) (aa (aE az aC (ao (af (i:=0) rfl (vi rfl))) (ao aj)) (aa (af (i:=1) rfl (vi rfl)) (aa (af (i:=2) rfl (vi rfl)) aq))))))))
  (aB (aK (aA (eK (cD (bQ (bm (aR hr)) bf (ao (aT (h7 (aR hr) hr.gd) kS B.repr (by decide +kernel) (aI (ao (af (i:=4) rfl (vi rfl))) aN))) (ao (aT (h7 (aR hr) hr.gd) kS B.repr (by decide +kernel) (aI (ao (aZ gbi hr.m (aa (af (i:=0) rfl (vi rfl)) (aa (af (i:=1) rfl (vi rfl)) (aa (af (i:=2) rfl (vi rfl)) (aa aj aq)))))) aN)))) (dg (bQ (bm (aR hr)) bf (ao (aT (h7 (aR hr) hr.gd) kS B.repr (by decide +kernel) (aI (ao (aF (aa (af (i:=1) rfl (vi rfl)) (aa (af (i:=2) rfl (vi rfl)) aq)))) aN))) (ao (af (i:=3) rfl (vi rfl)))))))))))))
 (λds hl=>(by obtain⟨gab,gaj,gaa,rfl⟩:=ln3 hl;kernel_rfl)),hmg,Fn.kp,(n5 Fn λ_ _ _ _ _ _ _ _ _=>rfl)⟩
abbrev fw:Stmt:=top 58
abbrev mW:List Str:=["_law_feed_here", "_law_sizes", "_law_many", "_law_form", "_law_fact", "_law_way", "_law_k", "_law_inner", "_law_kind", "_law_facts"]
theorem sc__law_long_right:FnScope mW ["_law_feed_here", "_law_sizes", "_law_many"] (aL fw):=⟨rfl,rfl,rfl,by decide +kernel,rfl,by decide +kernel,by decide +kernel⟩
def gG(gac:List D)(gae:D)(gaU:D)(gav:D)(gaw:D)(gak:D):M (D×List D) :=
 bd (bd (bd (bd (bd (oM (aD gae (.int 0))) λx11=>bd (oM (aD gae (.int 1))) λx12=>fc x11 x12 (.tuple [gaw]) gak) λx13=>oM (kF [x13])) λx16=>bd (bd (bd (oM (nA gaU (.int 30))) λb14=>.ret (.bool b14)) λx15=>oM (kF [x15])) λx17=>oM (bD x16 x17)) λb18=>.ret (.bool b18)) λx19=>.ret (x19,gac)
def cZ(kn20:List D×D×D×D×D×D×Unit->M (D×List D))(gac:List D)(gae:D)(gaU:D)(gav:D)(gaw:D)(gak:D)(gbg:D)(gbm:D):M (D×List D) :=
 bd (oM (bD gbm (.int 2))) λb24=>if b24 then
  kn20 (gac,gae,gaU,gav,gaw,(.tuple [(.str "know"),gaw,(.tuple [(.tuple [(.str "sum"),(.tuple [(.tuple [(.int 0),(.int 1)])])])]),gbg]),())
  else
  kn20 (gac,gae,gaU,gav,gaw,gak,())
def da(kn20:List D×D×D×D×D×D×Unit->M (D×List D))(gac:List D)(gae:D)(gaU:D)(gav:D)(gaw:D)(gak:D)(gbg:D)(gbm:D):M (D×List D) :=
 bd (oM (bD gbm (.int 1))) λb23=>if b23 then
  cZ kn20 gac gae gaU gav gaw (.tuple [(.str "know"),gaw,(.tuple [gbg]),(.tuple [(.str "sum"),(.tuple [(.tuple [(.int 0),(.int 1)])])])]) gbg gbm
  else
  cZ kn20 gac gae gaU gav gaw gak gbg gbm
def gE(gac:List D)(gae:D)(gaU:D)(gav:D)(gaw:D)(gak:D)(d_:D)(kn20:List D×D×D×D×D×D×Unit->M (D×List D)):M (D×List D) :=
 bd (aH gac (.int 5)) λr21=>bd (oM (bD r21.1 (.int 0))) λb22=>if b22 then
  da kn20 r21.2 gae gaU gav gaw (.tuple [(.str "cases"),gav,(.int 2),(.tuple [gak,(.tuple [(.str "sum"),(.tuple [(.tuple [(.int 0),(.int 1)])])])])]) gak r21.1
  else
  da kn20 r21.2 gae gaU gav gaw (.tuple [(.str "split"),gav,(.tuple [(.str "sum"),(.tuple [(.tuple [(.int 0),(.int 1)])])]),gak]) gak r21.1
def bI(gad:List D)(gab:D)(gaq:D):M (D×List D) :=
 bd (cN gad gab) λr1=>bd (bd (bd (oM (bN (.int 1))) λx2=>bd (bd (oM (aD gab (.int 0))) λx3=>oM (dF (.tuple [(.int 0)]) x3)) λx4=>bd (bd (oM (aD gab (.int 1))) λx5=>oM (dF (.tuple [(.int 0)]) x5)) λx6=>.ret (.tuple [x2,x4,x6])) λx7=>.ret (.tuple [(.str "least"),x7])) λx8=>bd (bd (oM (fP gaq (.int 1))) λx9=>oM (ci [x9])) λl10=>gT (λs25 d26 kn=>gE s25.1 s25.2.1 s25.2.2.1 s25.2.2.2.1 s25.2.2.2.2.1 s25.2.2.2.2.2.1 d26 kn) l10 (r1.2,gab,gaq,r1.1,x8,(.tuple [(.str "sum"),(.tuple [(.tuple [(.int 0),(.int 1)])])]),()) (λs25=>gG s25.1 s25.2.1 s25.2.2.1 s25.2.2.2.1 s25.2.2.2.2.1 s25.2.2.2.2.2.1)
def iy:List D->List D->M (D×List D):=λgad l=>match l with
 | [gab,gaq]=>bI gad gab gaq
 | _=>.bad
theorem lK{f:Addr}(Fn:Fun K "_law_long_right" "_law_long_right" fw f fd)(hmg:mg "_law_long_right" = some (.ref f))(B:BN mg)(Kn:KN mg)(gar:CF P w K mg base "_law_small" 2 (sp1 K 2 dM))(gah:CF P w K mg base "_law_take" 1 (sp1 K 2 bZ))(ga8:CF P w K mg base "refutes" 138 (spD K 4 jJ)):CF P w K mg base "_law_long_right" 139 (sp1 K 3 iy) :=
 ⟨f,fd,["_law_feed_here", "_law_sizes", "_law_many"],i9 (k:=138) Fn sc__law_long_right (λcdv A outer s H E hr =>
  (au (aS (sh:=[.p,.f,.f,.f,.dead,.dead,.dead,.dead,.dead,.dead]) (aO (i:=3) sc__law_long_right.nd (bp (i:=0) gar hr.m (aG (aA (af (i:=1) rfl (vi rfl))) aQ))))
  (au (aS (sh:=[.p,.f,.f,.f,.f,.dead,.dead,.dead,.dead,.dead]) (aO (i:=4) sc__law_long_right.nd (aA (aF (aa aM (aa (aF (aa (cL bK bT (ao aj)) (aa (aJ fA fD (ao (aF (aa aj aq))) (ao (aE az aC (ao (af (i:=1) rfl (vi rfl))) (ao aj)))) (aa (aJ fA fD (ao (aF (aa aj aq))) (ao (aE az aC (ao (af (i:=1) rfl (vi rfl))) (ao aj)))) aq)))) aq))))))
  (au (aS (sh:=[.p,.f,.f,.f,.f,.f,.dead,.dead,.dead,.dead]) (aO (i:=5) sc__law_long_right.nd (aA (aF (aa aM (aa (aF (aa (aF (aa aj (aa aj aq))) aq)) aq))))))
  (au (dm (sh:=[.p,.f,.f,.f,.f,.f,.dead,.dead,.dead,.dead]) PassesOwn.leaving rfl (e8 (dN rfl B.range (aa (aJ fy fB (ao (af (i:=2) rfl (vi rfl))) (ao aj)) aq) rfl)) (aY (i:=6) (gh _) sc__law_long_right.nd)
  (au (aS (sh:=[.p,.f,.f,.f,.f,.dead,.dead,.f,.dead,.dead]) (aO (i:=7) sc__law_long_right.nd (aA (af (i:=5) rfl (vi rfl)))))
  (au (aS (sh:=[.p,.f,.f,.f,.f,.dead,.dead,.f,.f,.dead]) (aO (i:=8) sc__law_long_right.nd (bp (i:=0) gah hr.m (aG (aA aj) aQ))))
  (au (aS (sh:=[.p,.f,.f,.f,.f,.f,.dead,.f,.f,.dead]) (aO (i:=5) sc__law_long_right.nd (aA (aF (aa aM (aa (af (i:=3) rfl (vi rfl)) (aa (aF (aa aM (aa (aF (aa (aF (aa aj (aa aj aq))) aq)) aq))) (aa (af (i:=7) rfl (vi rfl)) aq))))))))
  (au (aS (sh:=[.p,.f,.f,.f,.f,.f,.dead,.f,.f,.dead]) (bn (aW (bc (bm (aR hr)) bf (ao (af (i:=8) rfl (vi rfl))) (ao aj)))
  (aB (aO (i:=5) sc__law_long_right.nd (aA (aF (aa aM (aa (af (i:=3) rfl (vi rfl)) (aa aj (aa (aF (aa (af (i:=7) rfl (vi rfl)) (aa (aF (aa aM (aa (aF (aa (aF (aa aj (aa aj aq))) aq)) aq))) aq))) aq))))))))
  aP))
  (au (aS (sh:=[.p,.f,.f,.f,.f,.f,.dead,.f,.f,.dead]) (bn (aW (bc (bm (aR hr)) bf (ao (af (i:=8) rfl (vi rfl))) (ao aj)))
  (aB (aO (i:=5) sc__law_long_right.nd (aA (aF (aa aM (aa (af (i:=4) rfl (vi rfl)) (aa (aF (aa (af (i:=7) rfl (vi rfl)) aq)) (aa (aF (aa aM (aa (aF (aa (aF (aa aj (aa aj aq))) aq)) aq))) aq))))))))
  aP))
  (aB (bn (aW (bc (bm (aR hr)) bf (ao (af (i:=8) rfl (vi rfl))) (ao aj)))
  (aB (aO (i:=5) sc__law_long_right.nd (aA (aF (aa aM (aa (af (i:=4) rfl (vi rfl)) (aa (aF (aa (aF (aa aM (aa (aF (aa (aF (aa aj (aa aj aq))) aq)) aq))) aq)) (aa (af (i:=7) rfl (vi rfl)) aq))))))))
  aP))))))))
  (au (aS (sh:=[.p,.f,.f,.dead,.dead,.f,.dead,.dead,.dead,.f]) (aO (i:=9) sc__law_long_right.nd (aA (aF (aa (af (i:=4) rfl (vi rfl)) aq)))))
  (aB (aK (aA (eK (bQ (bm (aR hr)) bf (ao (aT (h7 (aR hr) hr.gd) kS B.repr (by decide +kernel) (aI (ao (aZ ga8 hr.m (aa (aE az aC (ao (af (i:=1) rfl (vi rfl))) (ao aj)) (aa (aE az aC (ao (af (i:=1) rfl (vi rfl))) (ao aj)) (aa (af (i:=9) rfl (vi rfl)) (aa (af (i:=5) rfl (vi rfl)) aq)))))) aN))) (ao (aT (h7 (aR hr) hr.gd) kS B.repr (by decide +kernel) (aI (ao (eK (bQ mC mG (ao (af (i:=2) rfl (vi rfl))) (ao aj)))) aN))))))))))))))
 (λg ds hl=>(by obtain⟨gab,gaq,rfl⟩:=ln2 (Nat.succ.inj hl);kernel_rfl)),hmg,Fn.kp,(n5 Fn λ_ _ _ _ _ _ _ _ _=>rfl)⟩
abbrev A6:Stmt:=top 59
abbrev HV:List Str:=["_law_script", "_law_k", "_law_feed_here", "_law_sizes", "_law_sort", "_law_facts", "_law_way", "_law_turn", "_law_bent_here", "_law_other", "_law_thing"]
theorem sc_law:FnScope HV ["_law_script"] (aL A6):=⟨rfl,rfl,rfl,by decide +kernel,rfl,by decide +kernel,by decide +kernel⟩
def Cp(gai:D):M D :=
 .ret (.bool true)
def nY(kn2:D×Unit->M D)(gai:D)(gac:List D)(gae:D)(gaf:D):M D :=
 bd (bI gac gae (.int 30)) λr39=>bd (asB r39.1) λb40=>if(!b40)then .ret (.bool false)else bd (bI r39.2 gae (.int 31)) λr41=>bd (asB r41.1) λb42=>if(!b42)then
  .ret (.bool false)
  else
  kn2 (gai,())
def nX(kn2:D×Unit->M D)(gai:D)(gac:List D)(gae:D)(gaf:D)(d_:D)(kn43:D×List D×D×D×Unit->M D):M D :=
 bd (bd (bd (bP gae gaf d_) λx44=>oM (dP x44)) λb45=>.ret (!b45)) λb46=>if b46 then
  .ret (.bool false)
  else
  kn43 (gai,gac,gae,gaf,())
def qZ(kn2:D×Unit->M D)(gai:D)(gac:List D)(gae:D)(gaf:D)(gak:D):M D :=
 bd (bd (bd (bd (oM (qM [gak])) λl35=>.ret (PyData.list l35)) λx36=>.ret (.tuple [.none,(.bool true),(.tuple []),(.tuple [(.str "sum")]),(.tuple [(.str "sum"),(.tuple [])]),(.tuple [(.str "know")]),(PyData.list [gak]),x36,(.tuple [gak]),(.str "sum"),(.int 0)])) λx37=>oM (fj x37)) λl38=>gT (λs47 d48 kn=>nX kn2 s47.1 s47.2.1 s47.2.2.1 s47.2.2.2.1 d48 kn) l38 (gai,gac,gae,gaf,()) (λs47=>nY kn2 s47.1 s47.2.1 s47.2.2.1 s47.2.2.2.1)
def qW(kn2:D×Unit->M D)(gai:D)(gac:List D)(gae:D)(gaf:D)(gak:D)(d_:D)(kn49:D×List D×D×D×D×Unit->M D):M D :=
 bd (bd (bd (bP gae d_ gak) λx50=>oM (dP x50)) λb51=>.ret (!b51)) λb52=>if b52 then
  .ret (.bool false)
  else
  kn49 (gai,gac,gae,gaf,gak,())
def q8(kn2:D×Unit->M D)(gai:D)(gac:List D)(gae:D)(gaf:D)(gak:D):M D :=
 bd (bd (bd (bd (asI (.int 1)) λlo24=>oM (fH gaf lo24 none)) λx25=>bd (oM (xP gaf)) λx26=>bd (bd (bd (oM (bN (.int 1))) λx27=>asI x27) λhi28=>oM (fH gaf none hi28)) λx29=>bd (bd (bd (asI (.int 1)) λhi30=>oM (fH gaf none hi30)) λx31=>oM (aX gaf x31)) λx32=>.ret (.tuple [x25,x26,x29,x32,(.tuple [])])) λx33=>oM (fj x33)) λl34=>gT (λs53 d54 kn=>qW kn2 s53.1 s53.2.1 s53.2.2.1 s53.2.2.2.1 s53.2.2.2.2.1 d54 kn) l34 (gai,gac,gae,gaf,gak,()) (λs53=>qZ kn2 s53.1 s53.2.1 s53.2.2.1 s53.2.2.2.1 s53.2.2.2.2.1)
def qX(kn2:D×Unit->M D)(gai:D)(gac:List D)(gae:D)(gaf:D)(gak:D)(d_:D)(kn55:D×List D×D×D×D×Unit->M D):M D :=
 bd (cP 9 gac gak (.int 8)) λr56=>bd (bd (bd (bP gae gaf r56.1) λx57=>oM (dP x57)) λb58=>.ret (!b58)) λb59=>if b59 then .ret (.bool false)else bd (cP 9 r56.2 r56.1 (.int 8)) λr60=>bd (bP gae gaf r60.1) λr61=>bd (asB r61) λb62=>if(!b62)then
  .ret (.bool false)
  else
  kn55 (gai,r60.2,gae,gaf,gak,())
def q9(kn2:D×Unit->M D)(gai:D)(gac:List D)(gae:D)(gaf:D)(gak:D):M D :=
 bd (bd (bd (oM (aD gae (.int 0))) λx19=>bd (oM (aD gae (.int 1))) λx20=>fc x19 x20 gaf gak) λx21=>oM (lH x21 (.bool true))) λb22=>if b22 then
  .ret (.bool false)
  else
  bd (oM (ci [(.int 6)])) λl23=>gT (λs63 d64 kn=>qX kn2 s63.1 s63.2.1 s63.2.2.1 s63.2.2.2.1 s63.2.2.2.2.1 d64 kn) l23 (gai,gac,gae,gaf,gak,()) (λs63=>q8 kn2 s63.1 s63.2.1 s63.2.2.1 s63.2.2.2.1 s63.2.2.2.2.1)
def wx(kn2:D×Unit->M D)(gai:D)(gac:List D)(gae:D)(gaf:D)(gak:D)(d_:D)(kn65:D×List D×D×D×D×Unit->M D):M D :=
 bd (eR gac gae gaf gak) λr66=>kn65 (gai,r66.2,gae,gaf,r66.1,())
def jm(kn2:D×Unit->M D)(gai:D)(gac:List D)(gae:D)(gaf:D)(gak:D):M D :=
 bd (aH gac (.int 4)) λr17=>bd (oM (ci [r17.1])) λl18=>gT (λs67 d68 kn=>wx kn2 s67.1 s67.2.1 s67.2.2.1 s67.2.2.2.1 s67.2.2.2.2.1 d68 kn) l18 (gai,r17.2,gae,gaf,gak,()) (λs67=>q9 kn2 s67.1 s67.2.1 s67.2.2.1 s67.2.2.2.1 s67.2.2.2.2.1)
def Al(kn2:D×Unit->M D)(gai:D)(gac:List D)(gae:D)(gaf:D):M D :=
 bd (bI gac gae (.int 30)) λr98=>bd (asB r98.1) λb99=>if(!b99)then .ret (.bool false)else bd (bI r98.2 gae (.int 31)) λr100=>bd (asB r100.1) λb101=>if(!b101)then
  .ret (.bool false)
  else
  kn2 (gai,())
def Ah(kn2:D×Unit->M D)(gai:D)(gac:List D)(gae:D)(gaf:D)(d_:D)(kn102:D×List D×D×D×Unit->M D):M D :=
 bd (bd (bd (bP gae gaf d_) λx103=>oM (dP x103)) λb104=>.ret (!b104)) λb105=>if b105 then
  .ret (.bool false)
  else
  kn102 (gai,gac,gae,gaf,())
def Am(kn2:D×Unit->M D)(gai:D)(gac:List D)(gae:D)(gaf:D)(gak:D):M D :=
 bd (bd (bd (bd (oM (qM [gak])) λl94=>.ret (PyData.list l94)) λx95=>.ret (.tuple [.none,(.bool true),(.tuple []),(.tuple [(.str "sum")]),(.tuple [(.str "sum"),(.tuple [])]),(.tuple [(.str "know")]),(PyData.list [gak]),x95,(.tuple [gak]),(.str "sum"),(.int 0)])) λx96=>oM (fj x96)) λl97=>gT (λs106 d107 kn=>Ah kn2 s106.1 s106.2.1 s106.2.2.1 s106.2.2.2.1 d107 kn) l97 (gai,gac,gae,gaf,()) (λs106=>Al kn2 s106.1 s106.2.1 s106.2.2.1 s106.2.2.2.1)
def Ai(kn2:D×Unit->M D)(gai:D)(gac:List D)(gae:D)(gaf:D)(gak:D)(d_:D)(kn108:D×List D×D×D×D×Unit->M D):M D :=
 bd (bd (bd (bP gae d_ gak) λx109=>oM (dP x109)) λb110=>.ret (!b110)) λb111=>if b111 then
  .ret (.bool false)
  else
  kn108 (gai,gac,gae,gaf,gak,())
def An(kn2:D×Unit->M D)(gai:D)(gac:List D)(gae:D)(gaf:D)(gak:D):M D :=
 bd (bd (bd (bd (asI (.int 1)) λlo83=>oM (fH gaf lo83 none)) λx84=>bd (oM (xP gaf)) λx85=>bd (bd (bd (oM (bN (.int 1))) λx86=>asI x86) λhi87=>oM (fH gaf none hi87)) λx88=>bd (bd (bd (asI (.int 1)) λhi89=>oM (fH gaf none hi89)) λx90=>oM (aX gaf x90)) λx91=>.ret (.tuple [x84,x85,x88,x91,(.tuple [])])) λx92=>oM (fj x92)) λl93=>gT (λs112 d113 kn=>Ai kn2 s112.1 s112.2.1 s112.2.2.1 s112.2.2.2.1 s112.2.2.2.2.1 d113 kn) l93 (gai,gac,gae,gaf,gak,()) (λs112=>Am kn2 s112.1 s112.2.1 s112.2.2.1 s112.2.2.2.1 s112.2.2.2.2.1)
def Aj(kn2:D×Unit->M D)(gai:D)(gac:List D)(gae:D)(gaf:D)(gak:D)(d_:D)(kn114:D×List D×D×D×D×Unit->M D):M D :=
 bd (cP 9 gac gak (.int 8)) λr115=>bd (bd (bd (bP gae gaf r115.1) λx116=>oM (dP x116)) λb117=>.ret (!b117)) λb118=>if b118 then .ret (.bool false)else bd (cP 9 r115.2 r115.1 (.int 8)) λr119=>bd (bP gae gaf r119.1) λr120=>bd (asB r120) λb121=>if(!b121)then
  .ret (.bool false)
  else
  kn114 (gai,r119.2,gae,gaf,gak,())
def Ao(kn2:D×Unit->M D)(gai:D)(gac:List D)(gae:D)(gaf:D)(gak:D):M D :=
 bd (bd (bd (oM (aD gae (.int 0))) λx78=>bd (oM (aD gae (.int 1))) λx79=>fc x78 x79 gaf gak) λx80=>oM (lH x80 (.bool true))) λb81=>if b81 then
  .ret (.bool false)
  else
  bd (oM (ci [(.int 6)])) λl82=>gT (λs122 d123 kn=>Aj kn2 s122.1 s122.2.1 s122.2.2.1 s122.2.2.2.1 s122.2.2.2.2.1 d123 kn) l82 (gai,gac,gae,gaf,gak,()) (λs122=>An kn2 s122.1 s122.2.1 s122.2.2.1 s122.2.2.2.1 s122.2.2.2.2.1)
def Ak(kn2:D×Unit->M D)(gai:D)(gac:List D)(gae:D)(gaf:D)(gak:D)(d_:D)(kn124:D×List D×D×D×D×Unit->M D):M D :=
 bd (eR gac gae gaf gak) λr125=>kn124 (gai,r125.2,gae,gaf,r125.1,())
def nZ(kn2:D×Unit->M D)(gai:D)(gac:List D)(gae:D)(gaf:D)(gak:D):M D :=
 bd (aH gac (.int 4)) λr76=>bd (oM (ci [r76.1])) λl77=>gT (λs126 d127 kn=>Ak kn2 s126.1 s126.2.1 s126.2.2.1 s126.2.2.2.1 s126.2.2.2.2.1 d127 kn) l77 (gai,r76.2,gae,gaf,gak,()) (λs126=>Ao kn2 s126.1 s126.2.1 s126.2.2.1 s126.2.2.2.1 s126.2.2.2.2.1)
def qY(gai:D)(d_:D)(kn2:D×Unit->M D):M D :=
 bd (iU gai d_) λl3=>bd (aH l3 (.int 5)) λr4=>bd (oM (aX (.int 1) r4.1)) λx5=>bd (aH r4.2 (.int 3)) λr6=>bd (oM (aX (.int 1) r6.1)) λx7=>bd (aH r6.2 (.int 5)) λr8=>bd (oM (uo r8.1 (.int 2))) λb9=>if b9 then bd (gw r8.2 (.tuple [x5,x7])) λr10=>un2 r10.1 λy11 y12=>bd (oM (bD r8.1 (.int 4))) λb13=>if b13 then
  bd (dA r10.2 (.tuple [x5,x7])) λr14=>un2 r14.1 λy15 y16=>jm kn2 gai r14.2 (.tuple [x5,x7]) y15 y16
  else
  jm kn2 gai r10.2 (.tuple [x5,x7]) y11 y12 else bd (gx r8.2 (.tuple [x5,x7])) λr69=>un2 r69.1 λy70 y71=>bd (oM (bD r8.1 (.int 4))) λb72=>if b72 then
  bd (dA r69.2 (.tuple [x5,x7])) λr73=>un2 r73.1 λy74 y75=>nZ kn2 gai r73.2 (.tuple [x5,x7]) y74 y75
  else
  nZ kn2 gai r69.2 (.tuple [x5,x7]) y70 y71
def zh(gax:D):M D :=
 bd (oM (ci [(.int 8)])) λl1=>gT (λs128 d129 kn=>qY s128.1 d129 kn) l1 (gax,()) (λs128=>Cp s128.1)
def uI:List D->M D:=λl=>match l with
 | [gax]=>zh gax
 | _=>.bad
theorem FU{f:Addr}(Fn:Fun K "law" "law" A6 f fd)(B:BN mg)(Kn:KN mg)(gbD:CF P w K mg base "_law_feed" 1 (spL K 2 mO))(gah:CF P w K mg base "_law_take" 1 (sp1 K 2 bZ))(gbq:CF P w K mg base "_law_summed" 3 (sp1 K 2 kz))(gbr:CF P w K mg base "_law_rested" 3 (sp1 K 2 kA))(gbj:CF P w K mg base "_law_needing" 3 (sp1 K 2 jY))(gbs:CF P w K mg base "_law_deeper" 10 (sp1 K 4 kC))(ga8:CF P w K mg base "refutes" 138 (spD K 4 jJ))(gbt:CF P w K mg base "_law_bent" 12 (sp1 K 3 (ez 9)))(ga6:CF P w K mg base "_law_right" 139 (spD K 3 ly))(gaV:CF P w K mg base "_law_long_right" 139 (sp1 K 3 iy)):FnOk P w K mg base (CX1 P w) 140 f fd ["_law_script"] (spD K 1 uI) :=
 bF (k:=139) Fn sc_law (λcdv A outer s H E hr =>
  (au (dm (sh:=[.f,.dead,.dead,.dead,.dead,.dead,.dead,.dead,.dead,.dead,.dead]) PassesOwn.leaving rfl (e8 (dN rfl B.range (aa aj aq) rfl)) (aY (i:=1) (gh _) sc_law.nd)
  (au (aS (sh:=[.f,.dead,.o,.dead,.dead,.dead,.dead,.dead,.dead,.dead,.dead]) (lc (i:=2) sc_law.nd (lY (HN gbD hr.m (aa (af (i:=0) rfl (vi rfl)) (aa (af (i:=1) rfl (vi rfl)) aq))))))
  (au (aS (sh:=[.f,.dead,.o,.f,.dead,.dead,.dead,.dead,.dead,.dead,.dead]) (aO (i:=3) sc_law.nd (mh (aG (jb aV bh (aA aj) (bp (i:=2) gah hr.m (aG (aA aj) aQ))) (aG (jb aV bh (aA aj) (bp (i:=2) gah hr.m (aG (aA aj) aQ))) aQ)))))
  (au (aS (sh:=[.f,.dead,.o,.f,.f,.dead,.dead,.dead,.dead,.dead,.dead]) (aO (i:=4) sc_law.nd (bp (i:=2) gah hr.m (aG (aA aj) aQ))))
  (au (aS (sh:=[.f,.dead,.o,.f,.f,.f,.f,.dead,.dead,.dead,.dead]) (CC (HP (aW (bc sV sX (ao (af (i:=4) rfl (vi rfl))) (ao aj))) (bp (i:=2) gbq hr.m (aG (aA (af (i:=3) rfl (vi rfl))) aQ)) (bp (i:=2) gbr hr.m (aG (aA (af (i:=3) rfl (vi rfl))) aQ))) (eY rfl (bJ (aY (i:=5) (gh _) sc_law.nd) (bJ (aY (i:=6) (gh _) sc_law.nd) eX rfl) rfl) rfl rfl) rfl rfl rfl))
  (au (aS (sh:=[.f,.dead,.o,.f,.dead,.f,.f,.dead,.dead,.dead,.dead]) (bn (aW (bc (bm (aR hr)) bf (ao (af (i:=4) rfl (vi rfl))) (ao aj)))
  (aB (CC (bp (i:=2) gbj hr.m (aG (aA (af (i:=3) rfl (vi rfl))) aQ)) (eY rfl (bJ (aY (i:=5) (gh _) sc_law.nd) (bJ (aY (i:=6) (gh _) sc_law.nd) eX rfl) rfl) rfl rfl) rfl rfl rfl))
  aP))
  (au (dm (sh:=[.f,.dead,.o,.f,.dead,.f,.f,.dead,.dead,.dead,.dead]) PassesOwn.leaving rfl (lZ rfl B.range (aG (bp (i:=2) gah hr.m (aG (aA aj) aQ)) aQ) rfl) (aY (i:=7) (gh _) sc_law.nd)
  (aB (aO (i:=6) sc_law.nd (bp (i:=2) gbs hr.m (aG (aA (af (i:=3) rfl (vi rfl))) (aG (aA (af (i:=5) rfl (vi rfl))) (aG (aA (af (i:=6) rfl (vi rfl))) aQ)))))))
  (au (bn (aW (bc vM bf (ao (aZ ga8 hr.m (aa (aE az aC (ao (af (i:=3) rfl (vi rfl))) (ao aj)) (aa (aE az aC (ao (af (i:=3) rfl (vi rfl))) (ao aj)) (aa (af (i:=5) rfl (vi rfl)) (aa (af (i:=6) rfl (vi rfl)) aq)))))) (ao cy)))
  (aB (aK (aA cy)))
  aP)
  (au (dm (sh:=[.f,.dead,.o,.f,.dead,.f,.f,.dead,.dead,.dead,.dead]) PassesOwn.leaving rfl (e8 (dN rfl B.range (aa aj aq) rfl)) (aY (i:=7) (gh _) sc_law.nd)
  (au (aS (sh:=[.f,.dead,.o,.f,.dead,.f,.f,.dead,.f,.dead,.dead]) (aO (i:=8) sc_law.nd (bp (i:=2) gbt hr.m (aG (aA (af (i:=6) rfl (vi rfl))) (aG (aA aj) aQ)))))
  (aB (bn (yb (rj (aW (bA (cp (ao (aZ ga6 hr.m (aa (af (i:=3) rfl (vi rfl)) (aa (af (i:=5) rfl (vi rfl)) (aa (af (i:=8) rfl (vi rfl)) aq))))) (λ_=>rfl)))) (u7 (u9 (CJ (yc (EM ga6 hr.m (aG (aA (af (i:=3) rfl (vi rfl))) (aG (aA (af (i:=5) rfl (vi rfl))) (aG (bp (i:=2) gbt hr.m (aG (aA (af (i:=8) rfl (vi rfl))) (aG (aA aj) aQ))) aQ))))) (λ_=>rfl))))))
  (aB (aK (aA cy)))
  aP))))
  (au (dm (sh:=[.f,.dead,.o,.f,.dead,.f,.f,.dead,.dead,.dead,.dead]) PassesOwn.leaving rfl (e8 (df (aF (aa (bS (ao (af (i:=5) rfl (vi rfl))) (bL aj) bY) (aa (CH (ao (af (i:=5) rfl (vi rfl))) (Bv bK xn)) (aa (bS (ao (af (i:=5) rfl (vi rfl))) bY (bL (cL bK bT (ao aj)))) (aa (aJ aV bh (ao (af (i:=5) rfl (vi rfl))) (ao (bS (ao (af (i:=5) rfl (vi rfl))) bY (bL aj)))) (aa (aF aq) aq)))))))) (aY (i:=9) (gh _) sc_law.nd)
  (aB (bn (aW (bA (cp (ao (aZ ga6 hr.m (aa (af (i:=3) rfl (vi rfl)) (aa (af (i:=9) rfl (vi rfl)) (aa (af (i:=6) rfl (vi rfl)) aq))))) (λ_=>rfl))))
  (aB (aK (aA cy)))
  aP)))
  (au (dm (sh:=[.f,.dead,.o,.f,.dead,.f,.dead,.dead,.dead,.dead,.dead]) PassesOwn.leaving rfl (e8 (df (aF (aa eN (aa cy (aa (aF aq) (aa (aF (aa aM aq)) (aa (aF (aa aM (aa (aF aq) aq))) (aa (aF (aa aM aq)) (aa (cm (bB (aa (af (i:=6) rfl (vi rfl)) aq))) (aa (cm (tS mU yF B.list (by decide +kernel) (aI (ao (af (i:=6) rfl (vi rfl))) aN))) (aa (aF (aa (af (i:=6) rfl (vi rfl)) aq)) (aa aM (aa aj aq)))))))))))))) (aY (i:=10) (gh _) sc_law.nd)
  (aB (bn (aW (bA (cp (ao (aZ ga6 hr.m (aa (af (i:=3) rfl (vi rfl)) (aa (af (i:=5) rfl (vi rfl)) (aa (af (i:=10) rfl (vi rfl)) aq))))) (λ_=>rfl))))
  (aB (aK (aA cy)))
  aP)))
  (aB (bn (yb (rj (u9 (CJ (yc (bp (i:=2) gaV hr.m (aG (aA (af (i:=3) rfl (vi rfl))) (aG (aA aj) aQ)))) (λ_=>rfl))) (u7 (u9 (CJ (yc (bp (i:=2) gaV hr.m (aG (aA (af (i:=3) rfl (vi rfl))) (aG (aA aj) aQ)))) (λ_=>rfl))))))
  (aB (aK (aA cy)))
  aP)))))))))))))
  (aB (aK (aA cy)))))
 (λds hl=>(by obtain⟨gax,rfl⟩:=ln1 hl;kernel_rfl))
end
end
end K62
namespace L4
open PySem PySem.Spec PyProof.Rows L2 L3
variable {S T ι:Type}
theorem bdR(s:S)(k:S->M T):bd (.ret s) k=k s:=id rfl
theorem oMS(s:S):oM (some s)=.ret s:=id rfl
theorem yV{S T:Type}{step:T->D->(T->M S)->M S}{R:M S}{P:Nat->T->Prop}:∀(ds:List D) (i:Nat) (s:T) (k:T->M S),
  (∀(j:Nat) (s:T) (d:D),d∈ds->i<=j->j<i+ds.length->P j s->∀kn:T->M S,(∀s',P (j+1) s'->kn s'=R)->step s d kn=R) ->
  P i s->(∀s',P (i+ds.length) s'->k s'=R)->eB step ds s k=R
 | [],i,s,k,_,hp,hk=>hk s hp
 | d::r,i,s,k,h,hp,hk=>by
  show step s d _=R
  refine h i s d fu (bo _) (by simp) hp _ λs' hp'=>?_
  refine yV r (i+1) s' k (λj s d hd hj hl=>h j s d (zzg _ hd) (by lia) (by simp;lia)) hp' λs' hs=>hk s' ?_
  have:i+(d::r).length=i+1+r.length:=by simp;lia
  rw[this];exact hs
theorem mR{step:T->D->(T->M S)->M S}{R:M S}{P:Nat->T->Prop}(ds:List D)(i:Nat)(s:T)(k:T->M S)
  (h:∀(j:Nat) (s:T) (d:D),d∈ds->i<=j->j<i+ds.length->P j s->∀kn:T->M S,(∀s',P (j+1) s'->kn s'=R)->step s d kn=R)
  (hp:P i s) (hk:∀s',P (i+ds.length) s'->k s'=R):gT step ds s k=R:=by
 rw[gu]
 exact yV ds i s k h hp hk
theorem kG{step:D->M (Option D)}{g:D->D}:∀(ds:List D),(∀d∈ds,step d=.ret (some (g d)))->bH step ds=.ret (ds.map g)
 | [],_=>rfl
 | d::r,h=>by
  rw[bH,h d fu,kG r λd hd=>h d (zzg _ hd)]
  rfl
theorem cM{ds:List S}(h:ds.length<=1000):dw ds=.ret ds:=be (nQ h)
theorem pA{α:Type}(xs:List α)(i:Nat)(h:i<xs.length):atI xs (i:Int)=some (xs[i]'h):=by
 unfold atI ixN
 rw[be (Int.natCast_nonneg _),be (by lia)]
 simp[h]
theorem Cy{α:Type}(xs:List α)(i:Int)(h0:0<=i)(h:i<xs.length):∃x∈xs,atI xs i=some x:=by
 obtain⟨n,rfl⟩:=ge h0
 exact⟨_,pI _,pA xs n (by lia)⟩
def dn(s:Str):Bool:=PyData.strOk s&&decide ((reprText s).length<=24)&&PyData.strOk (reprText s)
def Ok(k:Nat):Nat->D->Prop
 | 0,_=>False
 | _+1,.none=>True
 | _+1,.bool _=>True
 | _+1,.int i=>i.natAbs<10^(16+k)
 | _+1,.str s=>dn s=true
 | n+1,.list ds=>ds.length<=6+k/\∀d∈ds,Ok k n d
 | n+1,.tuple ds=>ds.length<=6+k/\∀d∈ds,Ok k n d
 | _+1,.dict _=>False
theorem mQ:∀{ds:List D},(∀d∈ds,d.canLay0=true)->PyData.canLayAll0 ds=true
 | [],_=>by simp[PyData.canLayAll0]
 | d::r,h=>by
  simp only[PyData.canLayAll0,ag]
  exact⟨h d fu,mQ λe he=>h e (zzg _ he)⟩
theorem mT{n:Nat}:∀{ds:List D},(∀d∈ds,d.depth<=n)->PyData.depthAll ds<=n
 | [],_=>by simp[PyData.depthAll]
 | d::r,h=>by
  simp only[PyData.depthAll]
  exact Nat.max_le.mpr ⟨h d fu,mT λe he=>h e (zzg _ he)⟩
theorem FG{m:Nat}(h:m<10^36):m.log2<1920:=by
 by_cases h0:m=0
 ·subst h0;decide
 ·exact(Nat.log2_lt h0).mpr (cr h (by decide +kernel))
theorem strOk_iff{s:Str}:PyData.strOk s=true↔∀c∈s.cps.toList,c<1114112:=by
 unfold PyData.strOk
 rw[<-Array.all_toList,List.all_eq_true]
 simp
theorem cQ(s:String):PyData.strOk (Str.ofString s)=true:=by
 rw[strOk_iff,signs_ofString]
 intro c hc
 obtain⟨ch,_,rfl⟩:=List.mem_map.mp hc
 have:=ch.valid
 have e:ch.toNat=ch.val.toNat:=rfl
 rw[e]
 rcases this with h|⟨_,h⟩
 ·have h':ch.val.toNat<0xd800:=h
  lia
 ·have h':ch.val.toNat<0x110000:=h
  lia
theorem kO{a b:Str}(ha:PyData.strOk a=true)(hb:PyData.strOk b=true):PyData.strOk (a++b)=true:=by
 rw[strOk_iff]at *
 intro c hc
 rcases mem_cps_append.mp hc with h|h
 ·exact ha c h
 ·exact hb c h
theorem pL{sep:Str}{ts:List Str}(hs:PyData.strOk sep=true)(h:∀t∈ts,PyData.strOk t=true):PyData.strOk (Str.join sep ts)=true:=by
 rw[strOk_iff]at *
 intro c hc
 rcases(mem_join sep c ts).mp hc with ⟨t,ht,hc⟩|⟨_,hc⟩
 ·exact strOk_iff.mp (h t ht) c hc
 ·exact hs c hc
theorem yR{ts:List Str}:(Str.join ", " ts).length<=piled ts:=by
 by_cases h:ts=[]
 ·subst h;exact gh _
 ·have:=join_length_add ts h;lia
def lim:Nat->Nat
 | 0=>24
 | n+1=>4+9*(lim n+2)
theorem leI(a b:Int):nA (.int a) (.int b)=some (decide (a<=b)):=id rfl
theorem ltI(a b:Int):uo (.int a) (.int b)=some (decide (a<b)):=id rfl
theorem gtI(a b:Int):lI (.int a) (.int b)=some (decide (b<a)):=id rfl
theorem geI(a b:Int):uq (.int a) (.int b)=some (decide (b<=a)):=id rfl
theorem gI(a b:Int):aX (.int a) (.int b)=some (.int (a+b)):=id rfl
theorem mq(a b:Int):fP (.int a) (.int b)=some (.int (a - b)):=id rfl
theorem BP(i j:Int)(h:0<j):fQ (.int i) (.int j)=some (.int (i % j)):=be h
theorem BO(i j:Int)(h : -(2^64)<i)(h2:i<2^64):bw (.int i) (.int j)=some (.int (i*j)):=be (by simp only[vT,ue,ag,zzi];exact .inl ⟨h,h2⟩)
theorem fS(b:Bool):asB (.bool b)=.ret b:=id rfl
theorem jt(i:Int):asI (.int i)=.ret (some i):=id rfl
theorem cE(b:Bool):dP (.bool b)=some b:=id rfl
theorem hU(ds:List D):cA [.tuple ds]=some (.int ds.length):=id rfl
theorem BX(ds:List D):cA [.list ds]=some (.int ds.length):=id rfl
theorem lB(ds:List D):fj (.tuple ds)=some ds:=id rfl
theorem E1(ds:List D):fj (.list ds)=some ds:=id rfl
theorem iW(ds:List D):cw [.list ds]=some (.tuple ds):=id rfl
theorem Jh(ds:List D):cw [.tuple ds]=some (.tuple ds):=id rfl
theorem oU(ds:List D)(lo hi:Option Int):fH (.tuple ds) lo hi=some (.tuple (L4.cutD ds lo hi)):=id rfl
theorem Jg(ds:List D)(lo hi:Option Int):fH (.list ds) lo hi=some (.list (L4.cutD ds lo hi)):=id rfl
theorem B2(a b c:D):aD (.list [a,b,c]) (.int 0)=some a:=id rfl
theorem EC(a b c:D):aD (.list [a,b,c]) (.int 1)=some b:=id rfl
theorem EB(a b c:D):aD (.list [a,b,c]) (.int 2)=some c:=id rfl
theorem Bi(a b c d:D):putD [a,b,c] (.int 0) d=some [d,b,c]:=id rfl
theorem Bh(a b c d:D):putD [a,b,c] (.int 2) d=some [a,b,d]:=id rfl
theorem va(a b:List D)(h:a.length+b.length<=1000):aX (.tuple a) (.tuple b)=some (.tuple (a++b)):=be (nQ h)
theorem HR(a b:List D)(h:a.length+b.length<=1000):aX (.list a) (.list b)=some (.list (a++b)):=be (nQ h)
def sW(lo hi:Int):D->Bool
 | .int i=>decide (lo<=i)&&decide (i<=hi)
 | _=>false
def sS(w:Str):D->Bool
 | .str s=>s==w
 | _=>false
def Ey(d:D):Prop:=d.canLay0=true/\d.depth<=1000
theorem v4{S T ι:Type}{step:T->D->(T->M S)->M S}{e:ι->D}{F:List ι->T}{k:T->M S}:∀(is pre:List ι),
  (∀p i q,is=p++i::q->∀kn:T->M S,step (F (pre++p)) (e i) kn=kn (F (pre++p++[i])))->eB step (is.map e) (F pre) k=k (F (pre++is))
 | [],pre,_=>by simp[eB]
 | i::r,pre,h=>by
  show step (F pre) (e i) _=_
  have h0:=h [] i r rfl (λs'=>eB step (r.map e) s' k)
  rw[wn]at h0
  rw[h0]
  have:=v4 (step:=step) (e:=e) (F:=F) (k:=k) r (pre++[i]) λp j q hq kn=>by
   have:=h (i::p) j q (by rw[hq];rfl) kn
   simpa using this
  rw[this]
  simp
theorem B8{step:T->D->(T->M S)->M S}{e:ι->D}{F:List ι->T}{k:T->M S}(is:List ι)
  (h:∀p i q,is=p++i::q->∀kn:T->M S,step (F p) (e i) kn=kn (F (p++[i]))):gT step (is.map e) (F []) k=k (F is):=by
 rw[gu]
 have:=v4 (step:=step) (e:=e) (F:=F) (k:=k) is [] (by simpa using h)
 simpa using this
theorem yW{S T:Type}{step:T->D->(T->M S)->M S}{R:M S->Prop}{P:Nat->T->Prop}{k:T->M S}:∀(ds:List D) (i:Nat) (s:T),
  (∀(j:Nat) (s:T) (d:D),ds[j]? = some d->P (i+j) s->∀kn:T->M S,(∀s',P (i+j+1) s'->R (kn s'))->R (step s d kn)) ->
  P i s->(∀s',P (i+ds.length) s'->R (k s'))->R (eB step ds s k)
 | [],i,s,_,hp,hk=>hk s hp
 | d::r,i,s,h,hp,hk=>by
  show R (step s d _)
  refine h 0 s d rfl hp _ λs' hp'=>?_
  refine yW r (i+1) s' (λj s d hd hp kn hkn=>h (j+1) s d (by simpa using hd) (by rw[show i+(j+1)=i+1+j by lia];exact hp) kn λs' q=>hkn s' (by rw[show i+1+j+1=i+(j+1)+1 by lia];exact q)) hp' λs' hs=>hk s' ?_
  rw[show i+(d::r).length=i+1+r.length by simp;lia];exact hs
theorem pw{step:T->D->(T->M S)->M S}{R:M S->Prop}{P:Nat->T->Prop}{k:T->M S}(ds:List D)(s:T)
  (h:∀(j:Nat) (s:T) (d:D),ds[j]? = some d->P j s->∀kn:T->M S,(∀s',P (j+1) s'->R (kn s'))->R (step s d kn))
  (hp:P 0 s) (hk:∀s',P ds.length s'->R (k s')):R (gT step ds s k):=by
 rw[gu]
 exact yW ds 0 s (by simpa using h) hp (by simpa using hk)
theorem cn{ι:Type}{step:D->M (Option D)}{e g:ι->D}:∀(is:List ι),(∀i∈is,step (e i)=.ret (some (g i)))->bH step (is.map e)=.ret (is.map g)
 | [],_=>rfl
 | i::r,h=>by
  rw[je,bH,h i fu,cn r λd hd=>h d (zzg _ hd)]
  rfl
theorem wv{ι:Type}{step:D->M (Option D)}{e:ι->D}{g:ι->Option D}:∀(is:List ι),(∀i∈is,step (e i)=.ret (g i))->bH step (is.map e)=.ret (is.filterMap g)
 | [],_=>rfl
 | i::r,h=>by
  rw[je,bH,h i fu,wv r λd hd=>h d (zzg _ hd)]
  cases q:g i<;>simp[kT,bdR,ot,q]
theorem nV{T ι:Type}{step:T->D->M (Option D×T)}{P:Nat->T->Prop}{e:ι->D}{R:ι->Prop}:∀(ds:List D) (i:Nat) (s:T),
  (∀(j:Nat) (s:T) (d:D),ds[j]? = some d->P (i+j) s->∃x s',step s d=.ret (some (e x),s')/\P (i+j+1) s'/\R x)->P i s ->
  ∃xs s',iD step ds s=.ret (List.map e xs,s')/\P (i+ds.length) s'/\xs.length=ds.length/\∀x∈xs,R x
 | [],i,s,_,hp=>⟨[],s,rfl,hp,rfl,λ_ h=>by cases h⟩
 | d::r,i,s,h,hp=>by
  obtain⟨x,s1,e1,p1,r1⟩:=h 0 s d rfl hp
  obtain⟨xs,s2,e2,p2,l2,r2⟩:=nV r (i+1) s1 (λj s d hd hp=>by
   have:=h (j+1) s d (by simpa using hd) (by rw[show i+(j+1)=i+1+j by lia];exact hp)
   rw[show i+(j+1)+1=i+1+j+1 by lia]at this
   exact this) p1
  refine⟨x::xs,s2,?_,?_,by simp[l2],?_⟩
  ·rw[iD,e1];simp only[kT,cJ];rw[e2];rfl
  ·rw[show i+(d::r).length=i+1+r.length by simp;lia];exact p2
  ·intro y hy
   cases hy with
   | head=>exact r1
   | tail _ h=>exact r2 y h
abbrev iN(n:Nat):D:=.int (n:Int)
def rng(lo hi:Nat):List Nat:=(List.range (hi - lo)).map (lo + ·)
theorem fZ(lo hi:Nat):(rng lo hi).length=hi - lo:=by simp[rng]
theorem pY(lo n:Nat):jD (lo:Int) n=((List.range n).map (lo + ·)).map iN:=by
 unfold jD
 rw[pr]
 apply su
 intro a _
 show PyData.int _=PyData.int _
 congr 1
theorem mY{n:Nat}(h:n<=100000):jx (n:Int)=true:=by
 unfold jx
 simp only[ag,zzi]
 lia
theorem eh(n:Nat)(h:n<=100000):ci [.int (n:Int)]=some ((List.range n).map iN):=by
 unfold ci
 simp only[mY h,aw]
 have:=pY 0 n
 simp only[lu]
 rw[show(0:Int)=((0:Nat):Int)from rfl,this]
 simp
theorem pf(lo hi:Nat)(h:lo<=100000)(h2:hi<=100000):eC [.int (lo:Int),.int (hi:Int)]=some ((rng lo hi).map iN):=by
 unfold eC
 simp only[mY h,mY h2,Bool.and_self,aw]
 rw[show((hi:Int) - (lo:Int)).toNat=hi - lo by lia,pY]
 rfl
mutual
def sz:D->Nat
 | .list ds=>1+szs ds
 | .tuple ds=>1+szs ds
 | .none=>1
 | .bool _=>1
 | .int _=>1
 | .str _=>1
 | .dict _=>1
def szs:List D->Nat
 | []=>0
 | d::r=>sz d+szs r
end
mutual
def Sm:D->Prop
 | .list ds=>Sms ds
 | .tuple ds=>Sms ds
 | .none=>True
 | .bool _=>True
 | .int i=>i.natAbs<10^19
 | .str s=>dn s=true
 | .dict _=>False
def Sms:List D->Prop
 | []=>True
 | d::r=>Sm d/\Sms r
end
theorem zn:∀{ds:List D},Sms ds->∀d∈ds,Sm d
 | [],_,d,h=>by cases h
 | e::r,hs,d,h=>by
  have hs':Sm e/\Sms r:=by simpa[Sms]using hs
  rcases List.mem_cons.mp h with rfl|h
  ·exact hs'.1
  ·exact zn hs'.2 d h
theorem wX{B:Nat}:∀{ds:List D},(∀d∈ds,sz d<=B)->szs ds<=ds.length*B
 | [],_=>by simp[szs]
 | e::r,h=>by
  simp only[szs,bu,Nat.succ_mul]
  have h1:=h e fu
  have h2:=wX (ds:=r) λd hd=>h d (zzg _ hd)
  lia
mutual
theorem Sm.lay:∀{d:D},Sm d->d.canLay0=true
 | .none,h=>by simp[PyData.canLay0]
 | .bool _,h=>by simp[PyData.canLay0]
 | .int _,h=>by simp[PyData.canLay0]
 | .str s,h=>by
  have h':dn s=true:=by simpa[Sm]using h
  unfold dn at h'
  simp only[ag]at h'
  simp[PyData.canLay0,h'.1.1]
 | .list ds,h=>by simp only[PyData.canLay0];exact Sms.lay (by simpa[Sm]using h)
 | .tuple ds,h=>by simp only[PyData.canLay0];exact Sms.lay (by simpa[Sm]using h)
 | .dict _,h=>by simp[Sm]at h
theorem Sms.lay:∀{ds:List D},Sms ds->PyData.canLayAll0 ds=true
 | [],_=>by simp[PyData.canLayAll0]
 | d::r,h=>by
  simp only[Sms]at h
  simp only[PyData.canLayAll0,ag]
  exact⟨Sm.lay h.1,Sms.lay h.2⟩
end
mutual
theorem Sm.show:∀{d:D},Sm d->d.showable=true
 | .none,h=>by simp[PyData.showable]
 | .bool _,h=>by simp[PyData.showable]
 | .int i,h=>by
  have h':i.natAbs<10^19:=by simpa[Sm]using h
  simp only[PyData.showable,zzi]
  exact FG (cr h' (Nat.pow_le_pow_right (by decide) (by decide)))
 | .str s,h=>by simp[PyData.showable]
 | .list ds,h=>by simp only[PyData.showable];exact Sms.show (by simpa[Sm]using h)
 | .tuple ds,h=>by simp only[PyData.showable];exact Sms.show (by simpa[Sm]using h)
 | .dict _,h=>by simp[Sm]at h
theorem Sms.show:∀{ds:List D},Sms ds->PyData.showableAll ds=true
 | [],_=>by simp[PyData.showableAll]
 | d::r,h=>by
  simp only[Sms]at h
  simp only[PyData.showableAll,ag]
  exact⟨Sm.show h.1,Sms.show h.2⟩
end
mutual
theorem Sm.text:∀{d:D},Sm d->d.shown.length+2<=30*sz d/\PyData.strOk d.shown=true
 | .none,h=>by refine⟨?_,by simp only[PyData.shown];exact cQ _⟩;simp only[PyData.shown,sz];decide
 | .bool b,h=>by
  refine⟨?_,by cases b<;>simp only[PyData.shown]<;>exact cQ _⟩
  cases b<;>simp only[PyData.shown,sz]<;>decide
 | .int i,h=>by
  have h':i.natAbs<10^19:=by simpa[Sm]using h
  refine⟨?_,by simp only[PyData.shown];exact cQ _⟩
  simp only[PyData.shown,sz]
  have h1:=int_text_length_le10 (a:=i) (k:=19) (by decide) h'
  have h2:(Str.ofString (toString i)).length=(toString i).length:=by
   show(Str.ofString (toString i)).cps.size=_
   rw[<-IN,signs_ofString,zzd,String.length_toList]
  lia
 | .str s,h=>by
  have h':dn s=true:=by simpa[Sm]using h
  unfold dn at h'
  simp only[ag,zzi]at h'
  simp only[PyData.shown,sz]
  exact⟨by lia,h'.2⟩
 | .list ds,h=>by
  obtain⟨h1,h2⟩:=Sms.text (ds:=ds) (by simpa[Sm]using h)
  have h5:(Str.join ", " (PyData.shownAll ds)).length<=piled (PyData.shownAll ds):=yR
  have h6:PyData.strOk (Str.join ", " (PyData.shownAll ds))=true:=pL (cQ _) h2
  simp only[PyData.shown,listText_eq_join,sz]
  refine⟨?_,kO (kO (cQ _) h6) (cQ _)⟩
  rw[strLen_append,strLen_append]
  have e1:((("[" : String):Str)).length=1:=rfl
  have e2:((("]" : String):Str)).length=1:=rfl
  rw[e1,e2];lia
 | .tuple ds,h=>by
  obtain⟨h1,h2⟩:=Sms.text (ds:=ds) (by simpa[Sm]using h)
  have h5:(Str.join ", " (PyData.shownAll ds)).length<=piled (PyData.shownAll ds):=yR
  have h6:PyData.strOk (Str.join ", " (PyData.shownAll ds))=true:=pL (cQ _) h2
  simp only[PyData.shown,tupleText,sz]
  refine⟨?_,kO (kO (cQ _) h6) (cQ _)⟩
  rw[strLen_append,strLen_append]
  have e1:((("(" : String):Str)).length=1:=rfl
  have e3:(((if(PyData.shownAll ds).length==1 then ",)" else ")" : String):Str)).length<=2:=by split<;>decide
  rw[e1];lia
 | .dict _,h=>by simp[Sm]at h
theorem Sms.text:∀{ds:List D},Sms ds->piled (PyData.shownAll ds)<=30*szs ds/\∀t∈PyData.shownAll ds,PyData.strOk t=true
 | [],_=>by simp[PyData.shownAll,piled,szs]
 | d::r,h=>by
  simp only[Sms]at h
  obtain⟨h1,h2⟩:=Sm.text h.1
  obtain⟨h3,h4⟩:=Sms.text h.2
  simp only[PyData.shownAll,szs]
  refine⟨?_,λt ht=>?_⟩
  ·rw[piled_cons];lia
  ·rcases List.mem_cons.mp ht with rfl|ht
   ·exact h2
   ·exact h4 t ht
end
theorem EW(d:D):1<=sz d:=by cases d<;>simp[sz]
theorem Bc{d:D}(h:Sm d)(hs:sz d<=30000)(hd:d.depth<=60):kF [d]=some (.str d.shown):=by
 obtain⟨t1,t2⟩:=h.text
 show(if pV d then some (PyData.str d.shown)else none)=_
 unfold pV
 rw[be]
 simp only[ag,zzi]
 exact⟨⟨⟨h.show,h.lay⟩,by lia⟩,eg (show d.shown.length<=1000000 by lia) (by decide)⟩
theorem Ez(e:ι->D)(is:List ι)(n:Nat)(h:n<is.length):aD (.list (is.map e)) (.int (n:Int))=some (e is[n]):=by
 have:=pA (is.map e) n (by simpa using h)
 rw[og]at this
 exact this
theorem tj(e:ι->D)(is:List ι)(n:Nat)(h:n<is.length):aD (.tuple (is.map e)) (.int (n:Int))=some (e is[n]):=by
 have:=pA (is.map e) n (by simpa using h)
 rw[og]at this
 exact this
theorem iC{ds:List S}(h:ds.length<=100000):dw ds=.ret ds:=be (eg h (by decide))
abbrev pD(p:Nat×Nat):D:=.tuple [iN p.1,iN p.2]
abbrev Mt:=Nat×Nat×Nat×Nat
abbrev mD(m:Mt):D:=.tuple [iN m.1,iN m.2.1,iN m.2.2.1,iN m.2.2.2]
structure Rl where
 n:Nat
 st:List Nat
 ms:List Mt
 sy:List Bool
abbrev Rl.d(r:Rl):D:=.tuple [iN r.n,.tuple (r.st.map iN),.tuple (r.ms.map mD),.tuple (r.sy.map PyData.bool)]
def plt(p q:Nat×Nat):Prop:=p.1<q.1\/p.1=q.1/\p.2<q.2
structure MtOk(n:Nat)(m:Mt):Prop where
 ab:m.1<=m.2.1
 b:m.2.1<n
 c:m.2.2.1<n
 d:m.2.2.2<n
 ne:m.2.2≠(m.1,m.2.1)
 ne':m.2.2≠(m.2.1,m.1)
structure Wf(r:Rl):Prop where
 n1:1<=r.n
 st:∀s∈r.st,s<r.n
 sy:r.sy.length=r.n
 ms:∀m∈r.ms,MtOk r.n m
 so:r.ms.Pairwise λm m'=>plt (m.1,m.2.1) (m'.1,m'.2.1)
def look(ms:List Mt)(p:Nat×Nat):Option (Nat×Nat):=(ms.find? λm=>decide (m.1=p.1)&&decide (m.2.1=p.2)).map (·.2.2)
def turn(ms:List Mt)(i j:Nat):Nat×Nat:=if i<=j then(look ms (i,j)).getD (i,j)else let t:=(look ms (j,i)).getD (j,i);(t.2,t.1)
theorem yt{ι:Type}{e:ι->D}{B:Nat}(h:∀i,sz (e i)=B):∀l:List ι,szs (l.map e)=l.length*B
 | []=>by simp[szs]
 | i::r=>by rw[je,szs,yt h r,h i,bu,Nat.succ_mul];lia
end L4
namespace K62
open PySem PySem.Spec PyProof.Rows L2 L3 L4
variable {R S n B i T:Nat}
def Fd(T:Nat)(f:List D):Prop:=∃a b t:Int,f=[.int a,.int b,.int t]/\0<=t/\t<=T
theorem Fd.le{T':Nat}{f:List D}(h:Fd T f)(hl:T<=T'):Fd T' f:=by
 obtain⟨a,b,t,e,h0,h1⟩:=h
 exact⟨a,b,t,e,h0,by omega⟩
theorem kx(i j:Int)(h:0<j):fQ (.int i) (.int j)=some (.int (i % j)):=be h
theorem uT(i j:Int)(h:0<j)(h2:j<1073741824):qv (.int i) (.int j)=some (.int (i / j)):=be (by simp[h,h2])
theorem iM(i j:Int)(h : -(2^64)<i)(h2:i<2^64):bw (.int i) (.int j)=some (.int (i*j)):=be (by simp only[vT,ue,ag,zzi];exact .inl ⟨h,h2⟩)
theorem po(i j:Int)(h : -(2^64)<j)(h2:j<2^64):bw (.int i) (.int j)=some (.int (i*j)):=be (by simp only[vT,ue,ag,zzi];exact .inr ⟨h,h2⟩)
theorem B2(a b c:D):aD (.list [a,b,c]) (.int 0)=some a:=rfl
theorem EC(a b c:D):aD (.list [a,b,c]) (.int 1)=some b:=rfl
theorem EB(a b c:D):aD (.list [a,b,c]) (.int 2)=some c:=rfl
theorem Bi(a b c d:D):putD [a,b,c] (.int 0) d=some [d,b,c]:=rfl
theorem Bh(a b c d:D):putD [a,b,c] (.int 2) d=some [a,b,d]:=rfl
theorem jW(i j:Int):aX (.int i) (.int j)=some (.int (i+j)):=rfl
theorem EG(i j:Int):lI (.int i) (.int j)=some (decide (j<i)):=rfl
theorem cF{f:List D}{m:Int}(h:Fd T f)(hT:T<=1000000)(hm:0<m)(hm2:m<1073741824) :
  ∃(r:Int) (f':List D),aH f (.int m)=.ret (.int r,f')/\0<=r/\r<m/\Fd (T+1) f':=by
 obtain⟨a,b,t,rfl,h0,h1⟩:=h
 unfold aH
 rw[B2,cT,cJ,EG,cT,cJ]
 by_cases ha:0<a
 ·simp only[ha,Js,aw]
  simp only[cT,cJ,kx _ _ hm,uT _ _ hm hm2,Bi]
  exact⟨_,_,rfl,Int.emod_nonneg _ (by omega),Int.emod_lt_of_pos _ hm,_,_,_,rfl,h0,by omega⟩
 ·simp only[ha,decide_false]
  rw[ef (by decide)]
  simp only[cT,cJ,EB,EC,B2,Bh,jW]
  rw[kx _ _ (by decide),iM _ _ (by decide) (by decide)]
  simp only[cT,cJ]
  rw[po _ _ (by omega) (by omega)]
  simp only[cT,cJ,jW]
  rw[po _ _ (by decide) (by decide)]
  simp only[cT,cJ,jW]
  rw[kx _ _ (by decide)]
  simp only[cT,cJ,jW]
  rw[uT _ _ (by decide) (by decide),iM _ _ (by decide) (by decide)]
  simp only[cT,cJ,jW]
  rw[po _ _ (by decide) (by decide)]
  simp only[cT,cJ,jW]
  rw[kx _ _ (by decide)]
  simp only[cT,cJ,jW]
  rw[uT _ _ (by decide) (by decide)]
  simp only[cT,cJ,jW]
  rw[kx _ _ hm]
  exact⟨_,_,rfl,Int.emod_nonneg _ (by omega),Int.emod_lt_of_pos _ hm,_,_,_,rfl,by omega,by omega⟩
theorem DM(ns:List Int)(k:Int)(hn:ns.length<=63):∃f,iU (.list (ns.map PyData.int)) (.int k)=.ret f/\Fd 0 f:=by
 have j1:∀c:Int,∃f,fN (.int c)=.ret f/\Fd 0 f:=λc=>by
  unfold fN
  have e:jX (.int 10) (.int 18)=some (.int (10^18)):=rfl
  rw[e]
  simp only[cT,cJ]
  have e2:uq (.int c) (.int (10^18))=some (decide ((10:Int)^18<=c)):=rfl
  rw[e2]
  simp only[cT,cJ]
  have e3:∀b:Bool,nU [.bool b]=some (.int (if b then 1 else 0)):=λb=>rfl
  rw[e3]
  simp only[cT,cJ]
  rw[po _ _ (by split<;>decide) (by split<;>decide)]
  exact⟨_,rfl,_,_,_,rfl,Int.le_refl _,Int.le_refl _⟩
 unfold iU
 have e1:cA [.list (ns.map PyData.int)]=some (.int ns.length):=by show some (PyData.int (ns.map PyData.int).length)=_;rw[zzd]
 simp only[e1,cT,cJ,EG]
 by_cases h:0<(ns.length:Int)
 ·simp only[h,Js,aw]
  rw[kx _ _ h,uT _ _ h (by omega)]
  simp only[cT,cJ]
  rw[iM _ _ (by decide) (by decide)]
  have m1:=Int.emod_nonneg k (b:=(ns.length:Int)) (by omega)
  have m2:=Int.emod_lt_of_pos k h
  obtain⟨x,hx,e⟩:=Cy (ns.map PyData.int) (k % ns.length) m1 (by rw[zzd];exact m2)
  obtain⟨i,hi,rfl⟩:=List.mem_map.mp hx
  have e2:aD (.list (ns.map PyData.int)) (.int (k % ns.length))=some (.int i):=e
  rw[e2]
  simp only[cT,cJ,jW]
  exact j1 _
 ·simp only[h,decide_false]
  rw[ef (by decide)]
  exact j1 0
theorem qP(ds:List D)(n:Nat):L4.cutD ds (some n) none=ds.drop n:=by
 unfold L4.cutD
 rw[HT.sIx_nat,HT.sIx_none]
 by_cases h:n<=ds.length
 ·rw[JJ h,List.take_of_length_le (by rw[um];omega)]
 ·rw[Nat.min_eq_right (by omega),List.drop_of_length_le (bo _),List.drop_of_length_le (by omega)]
  simp
theorem qQ(ds:List D)(n:Nat):L4.cutD ds none (some n)=ds.take n:=by
 unfold L4.cutD
 rw[HT.sIx_nat,HT.sIx_none]
 by_cases h:n<=ds.length
 ·rw[JJ h];simp
 ·rw[Nat.min_eq_right (by omega)]
  simp
  rw[List.take_of_length_le (by omega)]
theorem Ck(ds:List D)(m n:Nat)(h:m<=n)(h2:n<=ds.length):L4.cutD ds (some m) (some n)=(ds.drop m).take (n - m):=by
 unfold L4.cutD
 rw[HT.sIx_nat,HT.sIx_nat,JJ h2,JJ (eg h h2)]
def BI(d:D):Prop:=∃i:Int,d=.int i /\ -1000000000000000<=i/\i<=1000000000000000
def nB:Int:=-1000000000000000
theorem Jk:bN (.int 1000000000000000)=some (.int nB):=rfl
def Jj:List D:=[(.int 0),(.int 1),(.int (-1)),(.int 0),(.int 2),(.int (-3)),(.int 1),(.int 1000000000000000),(.int nB)]
abbrev sz(R S:Nat):D:=.tuple [.int R,.int S]
structure Sh(d:D):Prop where
 sm:Sm d
 sz:L4.sz d<=30000
 dp:d.depth<=100
theorem yr{d:D}:∀{ds:List D},d∈ds->L4.sz d<=L4.szs ds
 | e::r,h=>by
  rw[L4.szs]
  rcases List.mem_cons.mp h with rfl|h
  ·omega
  ·have:=yr h;omega
theorem pd:∀(ds:List D),ds.length<=L4.szs ds
 | []=>gh _
 | d::r=>by
  rw[L4.szs,bu]
  have:=pd r
  have:=EW d
  omega
theorem xR{d:D}{n:Nat}:∀{ds:List D},PyData.depthAll ds<=n->d∈ds->d.depth<=n
 | e::r,h,hm=>by
  simp only[PyData.depthAll]at h
  rcases List.mem_cons.mp hm with rfl|hm
  ·omega
  ·exact xR (by omega) hm
theorem Sh.t{ds:List D}(h:Sh (.tuple ds)):ds.length<=29999/\∀d∈ds,Sh d:=by
 obtain⟨h1,h2,h3⟩:=h
 rw[L4.sz]at h2
 have h1':Sms ds:=by simpa[Sm]using h1
 have hl:=pd ds
 refine⟨by omega,λd hd=>⟨zn h1' d hd,?_,?_⟩⟩
 ·have:=yr hd;omega
 ·simp only[PyData.depth]at h3
  exact xR (by omega) hd
theorem Sh.lay{d:D}(h:Sh d):d.canLay0=true:=h.sm.lay
theorem Sh.deep{d:D}(h:Sh d):d.depth<=1000:=by have:=h.dp;omega
def nD:D->Bool
 | .dict _=>false
 | _=>true
theorem lx{d:D}(h:nD d=true):isFn d=false:=by
 cases d with
 | dict i=>cases h
 | _=>rfl
theorem Sh.nd{d:D}(h:Sh d):nD d=true:=by
 cases d with
 | dict i=>exact absurd h.sm (by simp[Sm])
 | _=>rfl
theorem Sh.fn{d:D}(h:Sh d):isFn d=false:=lx h.nd
theorem eqI(a b:Int):bD (.int a) (.int b)=some (a==b):=by
 unfold bD qN
 simp[PyData.canLay0,PyData.depth,PyData.eqv]
theorem neI(a b:Int):fi (.int a) (.int b)=some (!(a==b)):=by
 unfold fi qN
 simp[PyData.canLay0,PyData.depth,PyData.eqv]
theorem leI(a b:Int):nA (.int a) (.int b)=some (decide (a<=b)):=rfl
theorem ltI(a b:Int):uo (.int a) (.int b)=some (decide (a<b)):=rfl
theorem fS(b:Bool):asB (.bool b)=.ret b:=id rfl
theorem cE(b:Bool):dP (.bool b)=some b:=id rfl
theorem hU(ds:List D):cA [.tuple ds]=some (.int ds.length):=id rfl
theorem ixT(ds:List D)(n:Nat)(h:n<ds.length):aD (.tuple ds) (.int n)=some ds[n]:=pA ds n h
def lo:Int:=-1000000000000000
theorem BJ:bN (.int 1000000000000000)=some (.int lo):=rfl
theorem Bq:jX (.int 10) (.int 15)=some (.int 1000000000000000):=id rfl
def sW(lo hi:Int):D->Bool
 | .int i=>decide (lo<=i)&&decide (i<=hi)
 | _=>false
def sB:D->Bool:=sW lo 1000000000000000
def sA(n:Nat):D->Bool
 | .tuple ds=>decide (ds.length=n)&&ds.all sB
 | _=>false
def sF(R S:Nat):D->Bool
 | .tuple [a,b,c]=>sB a&&sA R b&&sA S c
 | _=>false
def sS(w:Str):D->Bool
 | .str s=>s==w
 | _=>false
def sC(R S:Nat):D->Bool
 | .tuple [a,f]=>(sS "least" a||sS "same" a)&&sF R S f
 | .tuple [a,f,k]=>sS "rest" a&&sF R S f&&sW 2 99 k
 | _=>false
theorem uK(a b:Bool):(if a=true then(M.ret b)else .ret false)=.ret (a&&b):=by cases a<;>rfl
theorem jc{d:D}(hd:nD d=true)(l h:Int):dD d (.int l) (.int h)=.ret (.bool (sW l h d)):=by
 unfold dD lV
 simp only[cg (lx hd)]
 cases d with
 | int i =>
  have t1:isT "int" (.int i)=true:=id rfl
  have t2:isT "bool" (.int i)=false:=id rfl
  simp only[t1,t2,aw,bdR,oMS,fS,leI,di,uK,sW,ce]
 | bool i =>
  have t1:isT "int" (.bool i)=true:=id rfl
  have t2:isT "bool" (.bool i)=true:=id rfl
  simp only[t1,t2,aw,bdR,oMS,fS,ar,sW]
  rfl
 | none=>rfl
 | str i=>rfl
 | list i=>rfl
 | tuple i=>rfl
 | dict i=>cases hd
theorem jd{d:D}(hd:nD d=true)(l h:Int):bM d (.int l) (.int h)=.ret (.bool (sW l h d)):=by
 unfold bM
 simp only[cg (lx hd)]
 cases d with
 | int i =>
  have t1:isT "int" (.int i)=true:=id rfl
  have t2:isT "bool" (.int i)=false:=id rfl
  simp only[t1,t2,aw,bdR,oMS,fS,leI,di,uK,sW,ce]
 | bool i =>
  have t1:isT "int" (.bool i)=true:=id rfl
  have t2:isT "bool" (.bool i)=true:=id rfl
  simp only[t1,t2,aw,bdR,oMS,fS,ar,sW]
  rfl
 | none=>rfl
 | str i=>rfl
 | list i=>rfl
 | tuple i=>rfl
 | dict i=>cases hd
theorem lX{d:D}(hd:nD d=true):dH d=.ret (.bool (sB d)):=by
 unfold dH
 rw[BJ,oMS,bdR,jc hd,bdR]
 rfl
def tOf(n:Nat):D->Bool
 | .tuple ds=>decide (ds.length=n)
 | _=>false
theorem ii{d:D}(hd:nD d=true)(n:Nat):bV d (.int n)=.ret (.bool (tOf n d)):=by
 unfold bV tOf
 simp only[cg (lx hd)]
 cases d with
 | tuple ds =>
  have t1:isT "tuple" (.tuple ds)=true:=id rfl
  simp only[t1,aw,bdR,oMS,hU,eqI]
  congr 2
  have:((ds.length:Int)==(n:Int))=decide (ds.length=n):=by
   by_cases h:ds.length=n
   ·simp[h]
   ·simp only[h,decide_false];rw[br];omega
  rw[this]
 | none=>rfl
 | str i=>rfl
 | list i=>rfl
 | bool i=>rfl
 | int i=>rfl
 | dict i=>cases hd
theorem As(ds:List D)(p:D->Bool):boolsOf (ds.map λd=>PyData.bool (p d))=some (ds.map p):=by
 have:(ds.map λd=>PyData.bool (p d))=(ds.map p).map PyData.bool:=by simp
 rw[this,kL]
theorem CD{d:D}(h:Sh d)(n:Nat):eQ (.int n) d=.ret (.bool (sA n d)):=by
 unfold eQ
 rw[ii h.nd]
 unfold tOf
 cases d with
 | tuple ds =>
  simp only[bdR,fS]
  have hs:fj (.tuple ds)=some ds:=id rfl
  have hc:=kG (step:=λd2=>bd (dH d2) λx3=>.ret (some x3)) (g:=λd=>.bool (sB d)) ds λd hd=>by rw[lX (h.t.2 d hd).nd,bdR]
  simp only[hs,oMS,bdR,hc]
  rw[iC (by rw[zzd];have:=h.t.1;omega)]
  have ha:v8 [.list (ds.map λd=>PyData.bool (sB d))]=some (ds.all sB):=by
   show(boolsOf _).map _=_
   rw[As]
   simp
  simp only[bdR,ha,oMS,uK]
  rfl
 | none=>rfl
 | str i=>rfl
 | list i=>rfl
 | bool i=>rfl
 | int i=>rfl
 | dict i=>exact absurd h.nd (by simp[nD])
theorem oz(ds:List D)(p:D->Bool):jF (.bool false) (.list (ds.map λd=>PyData.bool (p d)))=some (ds.all p):=by
 have h1:PyData.canLayAll0 (ds.map λd=>PyData.bool (p d))=true:=mQ λd hd=>by
  obtain⟨x,_,rfl⟩:=List.mem_map.mp hd
  simp[PyData.canLay0]
 show(if iH _ _ then _ else none)=_
 have h2:iH (.bool false) (ds.map λd=>PyData.bool (p d))=true:=by
  unfold iH
  simp[h1,PyData.canLay0,PyData.depth]
 rw[be h2]
 congr 1
 induction ds with
 | nil=>rfl
 | cons d r ih =>
  have h1':PyData.canLayAll0 (r.map λd=>PyData.bool (p d))=true:=mQ λd hd=>by
   obtain⟨x,_,rfl⟩:=List.mem_map.mp hd
   simp[PyData.canLay0]
  have:=ih h1' (by unfold iH;simp[h1',PyData.canLay0,PyData.depth])
  rw[je,List.any_cons,Bool.not_or,this,ir]
  simp only[PyData.eqv]
  cases p d<;>rfl
theorem nR{d:D}(h:Sh d)(n:Nat):cx d (.int n)=.ret (.bool (sA n d)):=by
 unfold cx
 simp only[cg h.fn]
 cases d with
 | tuple ds =>
  have t1:isT "tuple" (.tuple ds)=true:=id rfl
  simp only[t1,ar,hU,oMS,bdR,neI]
  rw[ef (by decide),bdR]
  by_cases hn:ds.length=n
  ·have e:(!((ds.length:Int)==(n:Int)))=false:=by simp[hn]
   rw[e,ef (by decide)]
   have hs:fj (.tuple ds)=some ds:=id rfl
   have hc:=kG (step:=λd3=>bd (bd (bd (oM (jX (.int 10) (.int 15))) λx4=>oM (bN x4)) λx5=>bd (oM (jX (.int 10) (.int 15))) λx6=>bM d3 x5 x6) λx7=>.ret (some x7)) (g:=λd=>.bool (sB d)) ds λd hd=>by
    simp only[Bq,oMS,bdR,BJ,jd (h.t.2 d hd).nd]
    rfl
   simp only[hs,oMS,bdR,hc]
   rw[iC (by rw[zzd];have:=h.t.1;omega)]
   simp only[bdR,oz,oMS]
   simp[sA,hn]
  ·have e:(!((ds.length:Int)==(n:Int)))=true:=by
    rw[wP,br];omega
   rw[e,be rfl]
   simp[sA,hn]
 | none=>rfl
 | str i=>rfl
 | list i=>rfl
 | bool i=>rfl
 | int i=>rfl
 | dict i=>exact absurd h.nd (by simp[nD])
theorem eqS{d:D}(h:Sh d)(w:String):bD d (.str w)=some (sS w d):=by
 unfold bD qN
 have hw:PyData.canLay0 (.str w)=true:=by simp[PyData.canLay0,cQ]
 rw[be (by simp[h.lay,h.deep,hw])]
 cases d<;>simp[PyData.eqv,sS]
theorem inS{d:D}(h:Sh d):lh d (.tuple [(.str "least"),(.str "same")])=some (sS "least" d||sS "same" d)/\lh d (.list [(.str "least"),(.str "same")])=some (sS "least" d||sS "same" d):=by
 have hw:PyData.canLayAll0 [(.str "least"),(.str "same")]=true:=by simp[PyData.canLayAll0,PyData.canLay0,cQ]
 have hi:iH d [(.str "least"),(.str "same")]=true:=by unfold iH;simp[h.lay,h.deep,hw]
 have he:([(.str "least"),(.str "same")]:List D).any (λy=>PyData.eqv y d)=(sS "least" d||sS "same" d):=by
  cases d<;>simp[PyData.eqv,sS]
  rename_i s
  have e:∀a b:Str,(a==b)=(b==a):=λa b=>by
   rw[ID];simp;exact eq_comm
  rw[e,e (Str.ofString "same")]
 constructor
 ·show(if iH _ _ then _ else none)=_
  rw[be hi,he]
 ·show(if iH _ _ then _ else none)=_
  rw[be hi,he]
theorem dh(a:D)(r:List D):aD (.tuple (a::r)) (.int 0)=some a:=ixT (a::r) 0 (by simp)
theorem eA(a b:D)(r:List D):aD (.tuple (a::b::r)) (.int 1)=some b:=ixT (a::b::r) 1 (by simp)
theorem gj(a b c:D)(r:List D):aD (.tuple (a::b::c::r)) (.int 2)=some c:=ixT (a::b::c::r) 2 (by simp)
theorem uP{d:D}(h:Sh d):ie (.int R) (.int S) d=.ret (.bool (sF R S d)):=by
 unfold ie
 have e3:bV d (.int 3)=_:=ii h.nd 3
 rw[e3]
 unfold tOf
 cases d with
 | tuple ds =>
  match ds,h with
  | [],_=>rfl
  | [a],_=>rfl
  | [a,b],_=>rfl
  | [a,b,c],h =>
   have hs:=h.t.2
   have ha:=hs a (by simp)
   have hb:=hs b (by simp)
   have hc:=hs c (by simp)
   have e:decide (([a,b,c]:List D).length=3)=true:=rfl
   simp only[e,bdR,oMS,cE,ar,dh,eA,gj,lX ha.nd,CD hb,CD hc,fS,uK]
   rw[ef (by decide),bdR]
   cases q:sB a with
   | true=>simp[sF,q]
   | false=>simp[sF,q]
  | a::b::c::e::r,_ =>
   have q:decide ((a::b::c::e::r).length=3)=false:=by simp
   simp only[q,bdR,oMS,cE,di,aw]
   rfl
 | none=>rfl
 | str i=>rfl
 | list i=>rfl
 | bool i=>rfl
 | int i=>rfl
 | dict i=>exact absurd h.nd (by simp[nD])
theorem lR{d:D}(h:Sh d):dB (sz R S) d=.ret (.bool (sF R S d)):=by
 unfold dB
 simp only[cg h.fn]
 cases d with
 | tuple ds =>
  have t1:isT "tuple" (.tuple ds)=true:=id rfl
  simp only[t1,ar,hU,oMS,bdR,neI]
  rw[ef (by decide),bdR]
  match ds,h with
  | [],_=>rfl
  | [a],_=>rfl
  | [a,b],_=>rfl
  | [a,b,c],h =>
   have hs:=h.t.2
   have ha:=hs a (by simp)
   have hb:=hs b (by simp)
   have hc:=hs c (by simp)
   have e:(!((([a,b,c]:List D).length:Int)==(3:Int)))=false:=rfl
   have h1a:Sh (.tuple [a]):=by
    have q1:=h.sz
    have q2:=h.dp
    refine⟨by simpa[Sm,Sms]using ha.sm,?_,?_⟩
    ·simp only[L4.sz,L4.szs]at q1 ⊢;omega
    ·simp only[PyData.depth,PyData.depthAll]at q2 ⊢;omega
   have e5:aD (sz R S) (.int 0)=some (.int R):=rfl
   have e6:aD (sz R S) (.int 1)=some (.int S):=rfl
   have a1:cx (.tuple [a]) (.int 1)=_:=nR h1a 1
   rw[e,ef (by decide)]
   simp only[bdR,oMS,dh,eA,gj,e5,e6,a1,nR hb,nR hc,fS,uK]
   simp[sF,sA,Bool.and_assoc]
  | a::b::c::e::r,_ =>
   have q:(!(((a::b::c::e::r).length:Int)==(3:Int)))=true:=by
    rw[wP,br];simp only[bu];omega
   rw[q,be rfl]
   rfl
 | none=>rfl
 | str i=>rfl
 | list i=>rfl
 | bool i=>rfl
 | int i=>rfl
 | dict i=>exact absurd h.nd (by simp[nD])
theorem DN{d:D}(h:Sh d):kY (.int R) (.int S) d=.ret (.bool (sC R S d)):=by
 unfold kY
 simp only[cg h.fn]
 cases d with
 | tuple ds =>
  have t1:isT "tuple" (.tuple ds)=true:=id rfl
  simp only[t1,ar,hU,oMS,bdR,ltI]
  rw[ef (by decide)]
  match ds,h with
  | [],_=>rfl
  | [a],_=>rfl
  | a::b::r,h =>
   have hs:=h.t.2
   have ha:=hs a (by simp)
   have hb:=hs b (by simp)
   have e:decide (((a::b::r).length:Int)<2)=false:=by simp;omega
   rw[e,ef (by decide)]
   simp only[dh,eA,oMS,bdR,uP hb,cE,(inS ha).1,eqS ha,eqI]
   cases qf:sF R S b with
   | false =>
    simp only[di,aw]
    match r with
    | []=>simp[sC,qf]
    | [c]=>simp[sC,qf]
    | c::e::r=>simp[sC]
   | true =>
    simp only[ar]
    rw[ef (by decide)]
    match r,h with
    | [],_ =>
     have e2:((([a,b]:List D).length:Int)==(2:Int))=true:=rfl
     have e3:((([a,b]:List D).length:Int)==(3:Int))=false:=rfl
     rw[e2,e3]
     show _=M.ret (PyData.bool ((sS "least" a||sS "same" a)&&sF R S b))
     rw[qf]
     cases (sS "least" a||sS "same" a)<;>cases sS "rest" a<;>rfl
    | [c],h =>
     have e2:((([a,b,c]:List D).length:Int)==(2:Int))=false:=rfl
     have e3:((([a,b,c]:List D).length:Int)==(3:Int))=true:=rfl
     rw[e2,e3]
     simp only[gj,oMS,bdR,jc (hs c (by simp)).nd,fS,aw,uK]
     have hx:(sS "least" a||sS "same" a)=true->sS "rest" a=false:=by
      cases a<;>simp[sS]
      rename_i s
      rintro(rfl|rfl)<;>decide +kernel
     cases q:(sS "least" a||sS "same" a)with
     | true=>simp[sC,hx q]
     | false=>simp[sC,qf]
    | c::e::r,_ =>
     have e2:(((a::b::c::e::r).length:Int)==(2:Int))=false:=by
      rw[br];simp only[bu];omega
     have e3:(((a::b::c::e::r).length:Int)==(3:Int))=false:=by
      rw[br];simp only[bu];omega
     rw[e2,e3]
     cases (sS "least" a||sS "same" a)<;>cases sS "rest" a<;>simp[sC]
 | none=>rfl
 | str i=>rfl
 | list i=>rfl
 | bool i=>rfl
 | int i=>rfl
 | dict i=>exact absurd h.nd (by simp[nD])
theorem xH{d:D}(h:Sh d):fM (sz R S) d=.ret (.bool (sC R S d)):=by
 unfold fM
 simp only[cg h.fn]
 cases d with
 | tuple ds =>
  have t1:isT "tuple" (.tuple ds)=true:=id rfl
  simp only[t1,ar,hU,oMS,bdR,leI]
  rw[ef (by decide)]
  match ds,h with
  | [],_=>rfl
  | [a],_=>rfl
  | [a,b],h =>
   have hs:=h.t.2
   have ha:=hs a (by simp)
   have hb:=hs b (by simp)
   have e1:decide ((2:Int)<=(([a,b]:List D).length:Int))=true:=rfl
   have e2:decide ((([a,b]:List D).length:Int)<=3)=true:=rfl
   have e3:((([a,b]:List D).length:Int)==(3:Int))=false:=rfl
   simp only[e1,e2,aw,bdR,ar,dh,eA,oMS,eqI,e3,(inS ha).2,lR hb,fS,uK]
   rw[ef (by decide),cg ha.fn,oMS,bdR,bdR]
   cases a with
   | dict i=>exact absurd ha.nd (by simp[nD])
   | _=>rfl
  | [a,b,c],h =>
   have hs:=h.t.2
   have ha:=hs a (by simp)
   have hb:=hs b (by simp)
   have e1:decide ((2:Int)<=(([a,b,c]:List D).length:Int))=true:=rfl
   have e2:decide ((([a,b,c]:List D).length:Int)<=3)=true:=rfl
   have e3:((([a,b,c]:List D).length:Int)==(3:Int))=true:=rfl
   simp only[e1,e2,aw,bdR,ar,dh,eA,gj,oMS,eqI,e3,eqS ha,lR hb,jd (hs c (by simp)).nd,fS,uK]
   rw[ef (by decide),cg ha.fn,oMS,bdR,bdR]
   cases a with
   | dict i=>exact absurd ha.nd (by simp[nD])
   | str s =>
    have t2:isT "str" (.str s)=true:=id rfl
    rw[t2]
    simp[sC,Bool.and_assoc]
   | _=>rfl
  | a::b::c::e::r,_ =>
   have e1:decide ((2:Int)<=((a::b::c::e::r).length:Int))=true:=by simp;omega
   have e2:decide (((a::b::c::e::r).length:Int)<=3)=false:=by simp;omega
   simp only[e1,e2,aw,bdR,di]
   rfl
 | none=>rfl
 | str i=>rfl
 | list i=>rfl
 | bool i=>rfl
 | int i=>rfl
 | dict i=>exact absurd h.nd (by simp[nD])
abbrev iL(l:List Int):List D:=l.map PyData.int
abbrev dO(l:List Int):D:=.tuple (iL l)
structure Fm where
 c:Int
 i:List Int
 o:List Int
deriving DecidableEq
abbrev Fm.d(f:Fm):D:=.tuple [.int f.c,dO f.i,dO f.o]
inductive Fc where
 | le (f:Fm)
 | sa (f:Fm)
 | re (f:Fm) (m:Int)
deriving DecidableEq
def Fc.f:Fc->Fm
 | .le f=>f
 | .sa f=>f
 | .re f _=>f
def Fc.d:Fc->D
 | .le f=>.tuple [.str "least",f.d]
 | .sa f=>.tuple [.str "same",f.d]
 | .re f m=>.tuple [.str "rest",f.d,.int m]
def Fm.neg(f:Fm):Fm:=⟨-f.c,f.i.map λx=>-x,f.o.map λx=>-x⟩
def Fm.plus(f:Fm)(k:Int):Fm:=⟨f.c+k,f.i,f.o⟩
def jh(f:Fm):Fc:=.le (f.neg.plus (-1))
def Fm.add(f g:Fm)(t:Int):Fm:=⟨f.c+t*g.c,List.zipWith (λa b=>a+t*b) f.i g.i,List.zipWith (λa b=>a+t*b) f.o g.o⟩
def Fm.zero(R S:Nat):Fm:=⟨0,List.replicate R 0,List.replicate S 0⟩
def cI:Fc->List Fc
 | .le f=>[jh f]
 | .sa f=>[.le (f.plus (-1)),jh f]
 | .re f m=>(List.range (m.toNat - 1)).map λk=>.re (f.plus (-((k+1:Nat):Int))) m
def jk:List D->List Int
 | .int i::r=>i::jk r
 | _=>[]
def gA(R S:Nat)(d:D):Option Fm:=match d with
 | .tuple [.int c,.tuple a,.tuple b]=>if sF R S d then some ⟨c,jk a,jk b⟩else none
 | _=>none
def jw(R S:Nat)(d:D):Option Fc:=match d with
 | .tuple [.str w,f]=>if w == "least" then(gA R S f).map .le else if w == "same" then(gA R S f).map .sa else none
 | .tuple [.str w,f,.int m]=>if w == "rest" && sW 2 99 (.int m)then(gA R S f).map (.re · m)else none
 | _=>none
def gy(n:Nat):Int->List D->Option (List (Nat×Int))
 | _,[]=>some []
 | a,.tuple [.int i,.int t]::r=>if sW (a+1) ((n:Int) - 1) (.int i)&&sB (.int t) && !(t==0)then(gy n i r).map ((i.toNat,t) :: ·)else none
 | _,_=>none
def sumF(R S:Nat)(fs:List Fc)(ts:List (Nat×Int)):Fm:=ts.foldl (λf t=>f.add ((fs.getD t.1 (.le (Fm.zero R S))).f) t.2) (Fm.zero R S)
def cS(fs:List Fc)(t:Nat×Int):Bool:=match fs[t.1]? with
 | some (.le _)=>decide (1<=t.2)
 | some (.sa _)=>true
 | _=>false
def cq(m:Int)(fs:List Fc)(t:Nat×Int):Bool:=match fs[t.1]? with
 | some (.sa _)=>true
 | some (.re _ k)=>k % m==0
 | _=>false
def gX(R S:Nat)(fs:List Fc)(d:D):Bool:=match d with
 | .tuple ps=>match gy fs.length (-1) ps with
  | some ts=>ts.all (cS fs)&&(decide ((sumF R S fs ts).c<0)&&((sumF R S fs ts).i++(sumF R S fs ts).o).all λx=>decide (x<=0))
  | none=>false
 | _=>false
def dI(R S:Nat)(fs:List Fc)(m d:D):Bool:=match m,d with
 | .int m,.tuple ps=>sW 2 99 (.int m)&&(match gy fs.length (-1) ps with
  | some ts=>ts.all (cq m fs)&&(!((sumF R S fs ts).c % m==0)&&((sumF R S fs ts).i++(sumF R S fs ts).o).all λx=>x % m==0)
  | none=>false)
 | _,_=>false
def rf4(R S:Nat)(self:List Fc->D->Bool)(fs:List Fc)(w:Str)(a b c:D):Bool :=
 if w == "split" then(match gA R S a with
  | some f=>self (fs++[.le f]) b&&self (fs++[jh f]) c
  | none=>false)
 else if w == "cases" then(match gA R S a,b,c with
  | some f,.int m,.tuple ps=>sW 2 9 (.int m)&&decide ((ps.length:Int)=m)&&(ps.zipIdx.all λp=>self (fs++[.re (f.plus (-(p.2:Int))) m]) p.1)
  | _,_,_=>false)
 else if w == "know" then(match jw R S a,b with
  | some k,.tuple ps=>decide (ps.length=(cI k).length)&&(((cI k).zip ps).all λp=>self (fs++[p.1]) p.2)&&self (fs++[k]) c
  | _,_=>false)
 else false
def rf(R S:Nat):Nat->List Fc->D->Bool
 | 0=>λ_ _=>false
 | n+1=>λfs d=>match d with
  | .tuple [.str w,a]=>w == "sum" && gX R S fs a
  | .tuple [.str w,a,b]=>w == "rest" && dI R S fs a b
  | .tuple [.str w,a,b,c]=>rf4 R S (rf R S n) fs w a b c
  | _=>false
theorem uL:∀l:List Int,jk (iL l)=l
 | []=>rfl
 | i::l=>by show i::jk (iL l)=_;rw[uL l]
theorem all_ints:∀{ds:List D},ds.all sB=true->ds=iL (jk ds)
 | [],_=>rfl
 | d::r,h=>by
  rw[ir,ag]at h
  cases d with
  | int i=>show _=PyData.int i::iL (jk r);rw[<-all_ints h.2]
  | none=>exact absurd h.1 (by simp[sB,sW])
  | str i=>exact absurd h.1 (by simp[sB,sW])
  | list i=>exact absurd h.1 (by simp[sB,sW])
  | bool i=>exact absurd h.1 (by simp[sB,sW])
  | tuple i=>exact absurd h.1 (by simp[sB,sW])
  | dict i=>exact absurd h.1 (by simp[sB,sW])
structure FmOk(R S:Nat)(f:Fm):Prop where
 i:f.i.length=R
 o:f.o.length=S
theorem e9{d:D}{f:Fm}(h:gA R S d=some f):d=f.d/\FmOk R S f/\sF R S d=true:=by
 unfold gA at h
 split at h
 ·rename_i c a b
  split at h
  ·rename_i hs
   cases h
   have hs':=hs
   simp only[sF,sA,ag,zzi]at hs'
   obtain⟨⟨_,l1,h1⟩,l2,h2⟩:=hs'
   have e1:=all_ints h1
   have e2:=all_ints h2
   refine⟨?_,⟨?_,?_⟩,hs⟩
   ·show PyData.tuple [.int c,.tuple a,.tuple b]=.tuple [.int c,.tuple (iL (jk a)),.tuple (iL (jk b))]
    rw[<-e1,<-e2]
   ·show(jk a).length=R
    rw[<-l1]
    conv=>rhs;rw[e1]
    simp
   ·show(jk b).length=S
    rw[<-l2]
    conv=>rhs;rw[e2]
    simp
  ·cases h
 ·cases h
theorem kN{d:D}(h:gA R S d=none):sF R S d=false:=by
 cases q:sF R S d with
 | false=>rfl
 | true =>
  exfalso
  unfold sF at q
  split at q
  ·rename_i a b c
   simp only[ag]at q
   obtain⟨⟨q1,q2⟩,q3⟩:=q
   cases a with
   | int i =>
    cases b with
    | tuple x =>
     cases c with
     | tuple y =>
      unfold gA at h
      have:sF R S (.tuple [.int i,.tuple x,.tuple y])=true:=by simp[sF,q1,q2,q3]
      simp[this]at h
     | _=>simp[sA]at q3
    | _=>simp[sA]at q2
   | _=>simp[sB,sW]at q1
  ·cases q
theorem yn{d:D}(h:sF R S d=true):∃f,gA R S d=some f:=by
 cases e:gA R S d with
 | some f=>exact⟨f,rfl⟩
 | none=>rw[kN e]at h;cases h
theorem HZ(as bs:List D):xO [.tuple as,.tuple bs]=some (iG as bs):=id rfl
theorem gJ{S:Type}(a b:D)(k:D->D->M S):un2 (.tuple [a,b]) k=k a b:=id rfl
theorem gI(a b:Int):aX (.int a) (.int b)=some (.int (a+b)):=id rfl
theorem hC(a:Int):bN (.int a)=some (.int (-a)):=id rfl
theorem qR(step:D->M (Option D))(g:Int->Int->Int)(h:∀a b:Int,step (.tuple [.int a,.int b])=.ret (some (.int (g a b)))):∀as bs:List Int,bH step (iG (iL as) (iL bs))=.ret (iL (List.zipWith g as bs))
 | [],_=>by simp[iG,bH]
 | _::_,[]=>by simp[iG,bH]
 | a::as,b::bs=>by
  rw[show iG (iL (a::as)) (iL (b::bs))=.tuple [.int a,.int b]::iG (iL as) (iL bs)from id rfl,bH,h,qR step g h as bs]
  rfl
theorem pg(f:Fm)(m:Int):jT f.d (.int m)=.ret (f.plus m).d:=by
 unfold jT
 simp only[dh,eA,gj,oMS,bdR,gI]
 rfl
theorem sI{f g:Fm}{t:Int}(h1 : -(2^63)<t)(h2:t<2^63)(l1:f.i.length<=1000)(l2:f.o.length<=1000):kI f.d g.d (.int t)=.ret (f.add g t).d:=by
 unfold kI
 have st:∀a b:Int,(λd3=>un2 d3 λy4 y5=>bd (bd (oM (bw (.int t) y5)) λx6=>oM (aX y4 x6)) λx7=>.ret (some x7)) (.tuple [.int a,.int b])=.ret (some (.int (a+t*b))):=λa b=>by
  dsimp only
  rw[gJ,BO _ _ (by omega) (by omega)]
  simp only[oMS,bdR,gI]
 simp only[dh,eA,gj,oMS,bdR,HZ]
 rw[qR _ _ st f.i g.i]
 simp only[bdR]
 rw[cM (by simp;omega),qR _ _ st f.o g.o]
 simp only[bdR]
 rw[cM (by simp;omega),BO _ _ (by omega) (by omega)]
 simp only[oMS,bdR,gI,iW]
 rfl
theorem yH(a:D)(r:List D)(k:Int)(h1 : -(2^63)<=k)(h2:k<2^63)(h3:(a::r).length*k.toNat<=sizeLine):dF (.tuple (a::r)) (.int k)=some (.tuple (List.replicate k.toNat (a::r)).flatten):=by
 have hb:(decide (-(2^63)<=k)&&decide (k<2^63)&&decide ((a::r).length*k.toNat<=sizeLine))=true:=by
  rw[de h1,de h2,de h3];rfl
 unfold dF
 simp only[hb,aw]
theorem zR(k:Nat)(h:k<=1000):dF (.tuple [.int 0]) (.int k)=some (dO (List.replicate k 0)):=by
 rw[yH _ _ _ (by omega) (by omega) (by simp;exact eg h (by decide))]
 have:∀k:Nat,(List.replicate k [PyData.int 0]).flatten=iL (List.replicate k 0):=λk=>by
  induction k with
  | zero=>rfl
  | succ k ih=>rw[gt,pi,ih];rfl
 rw[lu,this]
theorem sY(R S:Nat)(hR:R<=1000)(hS:S<=1000):kJ (.int R) (.int S)=.ret (Fm.zero R S).d:=by
 unfold kJ
 rw[zR R hR,oMS,bdR,zR S hS,oMS,bdR,bdR]
 rfl
theorem oj:∀(js:List Int),List.zipWith (λa b=>a + -1*b) (List.replicate js.length 0) js=js.map λx=>-x
 | []=>rfl
 | j::js=>by
  simp only[bu,gt,ny,je,oj js]
  congr 1
  omega
theorem ya{f:Fm}(l1:f.i.length<=1000)(l2:f.o.length<=1000):kZ f.d=.ret f.neg.d:=by
 unfold kZ
 have e1:cA [dO f.i]=some (.int f.i.length):=by rw[hU];simp
 have e2:cA [dO f.o]=some (.int f.o.length):=by rw[hU];simp
 simp only[eA,gj,oMS,bdR,e1,e2,sY _ _ l1 l2,hC]
 rw[sI (by decide) (by decide) (by simp[Fm.zero];omega) (by simp[Fm.zero];omega)]
 simp only[bdR,Fm.add,Fm.zero,oj,Fm.neg]
 rw[show(0:Int) + -1*f.c = -f.c by omega]
theorem xC{w:D}{f:Fm}{r:List D}(l1:f.i.length<=1000)(l2:f.o.length<=1000):jl (.tuple (w::f.d::r))=.ret (jh f).d:=by
 unfold jl
 simp only[eA,oMS,bdR,ya l1 l2,hC,pg]
 rfl
theorem tF:bD (.str "least") (.str "least")=some true:=by decide +kernel
theorem yX:bD (.str "same") (.str "least")=some false:=by decide +kernel
theorem v9:bD (.str "same") (.str "same")=some true:=by decide +kernel
theorem yY:bD (.str "rest") (.str "least")=some false:=by decide +kernel
theorem wg:bD (.str "rest") (.str "same")=some false:=by decide +kernel
theorem Cd:bD (.str "least") (.str "rest")=some false:=by decide +kernel
theorem wb:bD (.str "same") (.str "rest")=some false:=by decide +kernel
theorem wj:bD (.str "rest") (.str "rest")=some true:=by decide +kernel
theorem ff{α:Type}(a b:α):(if false=true then a else b)=b:=rfl
structure FcOk(R S:Nat)(k:Fc):Prop where
 f:FmOk R S k.f
 m:∀f m,k=.re f m->2<=m/\m<=99
theorem Cj{k:Fc}(h:FcOk R S k):(cI k).length<=98:=by
 cases k with
 | le f=>simp[cI]
 | sa f=>simp[cI]
 | re f m =>
  have:=h.m f m rfl
  simp only[cI,zzd,ic]
  omega
theorem FC{f:Fm}(h:FmOk R S f):FmOk R S f.neg:=⟨by simp[Fm.neg,h.i],by simp[Fm.neg,h.o]⟩
theorem qg{f:Fm}(h:FmOk R S f)(k:Int):FmOk R S (f.plus k):=⟨h.i,h.o⟩
theorem BF{f:Fm}(h:FmOk R S f):FcOk R S (jh f):=⟨qg (FC h) _,λf m e=>nomatch e⟩
theorem y0{k:Fc}(h:FcOk R S k):∀d∈cI k,FcOk R S d:=by
 intro d hd
 cases k with
 | le f =>
  have:d=jh f:=by simpa[cI]using hd
  subst this;exact BF h.f
 | sa f =>
  simp only[cI,ak,List.mem_nil_iff,el]at hd
  rcases hd with rfl|rfl
  ·exact⟨qg h.f _,λf m e=>nomatch e⟩
  ·exact BF h.f
 | re f m =>
  obtain⟨j,_,rfl⟩:=List.mem_map.mp hd
  exact⟨qg h.f _,λf' m' e=>by cases e;exact h.m f m rfl⟩
theorem xS{k:Fc}(h:FcOk R S k)(hR:R<=1000)(hS:S<=1000):hW k.d=.ret (.list ((cI k).map Fc.d)):=by
 have l1:k.f.i.length<=1000:=by rw[h.f.i];exact hR
 have l2:k.f.o.length<=1000:=by rw[h.f.o];exact hS
 unfold hW
 cases k with
 | le f =>
  have e:=xC (w:=.str "least") (f:=f) (r:=[]) l1 l2
  simp only[Fc.d,dh,eA,oMS,bdR,tF,aw]
  rw[e,bdR,bdR,bdR]
  rfl
 | sa f =>
  have e:=xC (w:=.str "same") (f:=f) (r:=[]) l1 l2
  simp only[Fc.d,dh,eA,oMS,bdR,yX,v9,aw,ff,hC,pg]
  rw[e,bdR,bdR,bdR]
  rfl
 | re f m =>
  obtain⟨m1,m2⟩:=h.m f m rfl
  simp only[Fc.d,dh,eA,gj,oMS,bdR,yY,wg,ff]
  obtain⟨n,rfl⟩:=ge (show 0<=m by omega)
  have hr:=pf 1 n (by omega) (by omega)
  have hr':eC [.int 1,.int ((n:Nat):Int)]=some ((rng 1 n).map iN):=hr
  rw[hr',oMS,bdR]
  have hc:=cn (step:=λd16=>bd (bd (bd (oM (bN d16)) λx17=>jT f.d x17) λx18=>.ret (.tuple [.str "rest",x18,.int (n:Int)])) λx20=>.ret (some x20)) (e:=iN) (g:=λj=>(Fc.re (f.plus (-(j:Int))) n).d) (rng 1 n) λj _=>by
   rw[hC,oMS,bdR,pg,bdR,bdR]
   rfl
  rw[hc,bdR,cM (by rw[zzd,fZ];omega),bdR,bdR]
  have e:(rng 1 n).map (λj:Nat=>(Fc.re (f.plus (-(j:Int))) n).d)=(cI (Fc.re f n)).map Fc.d:=by
   simp only[cI,pr,rng,lu]
   refine su λj _=>?_
   show(Fc.re (f.plus (-((1+j:Nat):Int))) n).d=(Fc.re (f.plus (-((j+1:Nat):Int))) n).d
   rw[Nat.add_comm]
  rw[e]
theorem mq(a b:Int):fP (.int a) (.int b)=some (.int (a - b)):=id rfl
theorem eL{l h:Int}{d:D}(q:sW l h d=true):∃i,d=.int i/\l<=i/\i<=h:=by
 cases d with
 | int i=>simp only[sW,ag,zzi]at q;exact⟨i,rfl,q⟩
 | _=>cases q
def tmI(n:Nat)(a:Int)(p:D):Option (Int×Int):=match p with
 | .tuple [.int i,.int t]=>if sW (a+1) ((n:Int) - 1) (.int i)&&sB (.int t) && !(t==0)then some (i,t)else none
 | _=>none
theorem kM(n:Nat)(a:Int)(p:D)(ps:List D):gy n a (p::ps)=match tmI n a p with
  | some (i,t)=>(gy n i ps).map ((i.toNat,t) :: ·)
  | none=>none:=by
 by_cases h:∃i t,p=.tuple [.int i,.int t]
 ·obtain⟨i,t,rfl⟩:=h
  show(if sW (a+1) ((n:Int) - 1) (.int i)&&sB (.int t) && !(t==0)then(gy n i ps).map ((i.toNat,t) :: ·)else none)=_
  unfold tmI
  dsimp only
  split<;>rfl
 ·have e:tmI n a p=none:=by
   unfold tmI
   split
   ·exact absurd ⟨_,_,rfl⟩ h
   ·rfl
  rw[e]
  unfold gy
  split
  ·rename_i q;cases q
  ·rename_i q
   cases q
   exact absurd ⟨_,_,rfl⟩ h
  ·rfl
theorem wV(fs:List D)(a:Int){p:D}(hp:Sh p)(kn:D×D×Unit->M D):d0 (.tuple fs) (.int a) p kn=match tmI fs.length a p with
  | some (i,_)=>kn (.tuple fs,.int i,())
  | none=>.ret (.bool false):=by
 unfold d0
 have e2:bV p (.int 2)=_:=ii hp.nd 2
 rw[e2,bdR,cE,oMS,bdR,bdR]
 by_cases hs:∃x y,p=.tuple [x,y]
 ·obtain⟨x,y,rfl⟩:=hs
  have hx:=hp.t.2 x (by simp)
  have hy:=hp.t.2 y (by simp)
  have qt2:tOf 2 (.tuple [x,y])=true:=rfl
  simp only[qt2,ar,ff,dh,eA,oMS,bdR,gI,hU,mq,jc hx.nd,cE,lX hy.nd]
  cases qx:sW (a+1) ((fs.length:Int) - 1) x with
  | false =>
   have:tmI fs.length a (.tuple [x,y])=none:=by
    unfold tmI
    split
    ·rename_i q;cases q;rw[qx];rfl
    ·rfl
   rw[this]
   rfl
  | true =>
   obtain⟨i,hi,_⟩:=eL qx
   simp only[ar,ff]
   cases qy:sB y with
   | false =>
    have:tmI fs.length a (.tuple [x,y])=none:=by
     unfold tmI
     split
     ·rename_i q;cases q;rw[qx,qy];rfl
     ·rfl
    rw[this]
    rfl
   | true =>
    obtain⟨t,ht,_⟩:=eL qy
    subst hi ht
    simp only[ar,ff,eqI,oMS,bdR]
    have:tmI fs.length a (.tuple [.int i,.int t])=if !(t==0)then some (i,t)else none:=by
     show(if sW (a+1) ((fs.length:Int) - 1) (.int i)&&sB (.int t) && !(t==0)then some (i,t)else none)=_
     rw[qx,qy];rfl
    rw[this]
    cases qt:t==0<;>rfl
 ·have q:tOf 2 p=false:=by
   cases p with
   | tuple ds =>
    show decide (ds.length=2)=false
    rw[decide_eq_false_iff_not]
    intro hl
    match ds,hl with
    | [x,y],_=>exact hs ⟨x,y,rfl⟩
   | _=>rfl
  have e:tmI fs.length a p=none:=by
   unfold tmI
   split
   ·exact absurd ⟨_,_,rfl⟩ hs
   ·rfl
  rw[e,q]
  rfl
theorem pG(fs:List D):∀(ps:List D) (a:Int),(∀p∈ps,Sh p)->eB (λ(s23:D×D×Unit) d24 kn=>d0 s23.1 s23.2.1 d24 kn) ps (.tuple fs,.int a,()) (λs23=>kK s23.1 s23.2.1)=.ret (.bool (gy fs.length a ps).isSome)
 | [],a,_=>rfl
 | p::ps,a,h=>by
  have ih:=λb=>pG fs ps b λq hq=>h q (by simp[hq])
  show d0 (.tuple fs) (.int a) p (λs'=>eB _ ps s' _)=_
  rw[wV fs a (h p (by simp)),kM]
  cases tmI fs.length a p with
  | none=>rfl
  | some x =>
   dsimp only
   rw[ih x.1]
   cases gy fs.length x.1 ps<;>rfl
theorem vw(fs:List D){d:D}(h:Sh d):gC (.tuple fs) d=.ret (.bool (match d with | .tuple ps=>(gy fs.length (-1) ps).isSome|_=>false)):=by
 unfold gC
 rw[cg h.fn,oMS,bdR,bdR]
 cases d with
 | tuple ps =>
  have t1:isT "tuple" (.tuple ps)=true:=id rfl
  rw[t1]
  simp only[ar,ff]
  rw[hC,oMS,bdR,lB,oMS,bdR,gu]
  exact pG fs ps (-1) h.t.2
 | dict i=>exact absurd h.nd (by simp[nD])
 | _=>rfl
theorem tT{n:Nat}:∀{ps:List D} {a:Int} {ts:List (Nat×Int)},-1<=a->gy n a ps=some ts->(∀t∈ts,t.1<n /\ -1000000000000000<=t.2/\t.2<=1000000000000000)/\ps=ts.map λt=>.tuple [.int t.1,.int t.2]
 | [],a,ts,_,h=>by cases h;exact⟨λ_ h=>(nomatch h),rfl⟩
 | p::ps,a,ts,ha,h=>by
  rw[kM]at h
  cases e:tmI n a p with
  | none=>rw[e]at h;cases h
  | some x =>
   obtain⟨i,t⟩:=x
   rw[e]at h
   dsimp only at h
   unfold tmI at e
   split at e
   ·split at e
    ·rename_i q
     cases e
     rw[ag,ag]at q
     obtain⟨⟨q1,q2⟩,_⟩:=q
     obtain⟨i',e1,b1,b2⟩:=eL q1
     cases e1
     obtain⟨t',e2,c1,c2⟩:=eL q2
     cases e2
     cases hm:gy n i ps with
     | none=>rw[hm]at h;cases h
     | some ts' =>
      rw[hm]at h
      cases h
      obtain⟨h1,h2⟩:=tT (by omega) hm
      refine⟨λx hx=>?_,?_⟩
      ·rcases List.mem_cons.mp hx with rfl|hx
       ·exact⟨by dsimp only;omega,c1,c2⟩
       ·exact h1 x hx
      ·rw[je,<-h2]
       dsimp only
       rw[show((i.toNat:Nat):Int)=i by omega]
    ·cases e
   ·cases e
abbrev tD(t:Nat×Int):D:=.tuple [.int t.1,.int t.2]
abbrev fsD(fs:List Fc):D:=.tuple (fs.map Fc.d)
theorem lG{α:Type}(o:Option α):o=none\/∃x,o=some x:=by cases o<;>simp
theorem fc1(k:Fc):aD k.d (.int 1)=some k.f.d:=by cases k<;>exact eA _ _ _
theorem jv(R S:Nat):FmOk R S (Fm.zero R S):=⟨by simp[Fm.zero],by simp[Fm.zero]⟩
theorem kU{f g:Fm}(h1:FmOk R S f)(h2:FmOk R S g)(t:Int):FmOk R S (f.add g t):=⟨by simp[Fm.add,h1.i,h2.i],by simp[Fm.add,h1.o,h2.o]⟩
theorem yU{fs:List Fc}(h:∀k∈fs,FcOk R S k)(j:Nat):FmOk R S (fs.getD j (.le (Fm.zero R S))).f:=by
 rw[al]
 cases e:fs[j]? with
 | none=>exact jv R S
 | some k=>exact(h k (List.mem_of_getElem? e)).f
theorem sJ(R S:Nat)(fs:List Fc)(ts:List (Nat×Int))(t:Nat×Int):sumF R S fs (ts++[t])=(sumF R S fs ts).add ((fs.getD t.1 (.le (Fm.zero R S))).f) t.2:=by unfold sumF;rw[List.foldl_append];rfl
theorem mn{R S:Nat}{fs:List Fc}(h:∀k∈fs,FcOk R S k):∀(ts:List (Nat×Int)) (f:Fm),FmOk R S f->FmOk R S (ts.foldl (λf t=>f.add ((fs.getD t.1 (.le (Fm.zero R S))).f) t.2) f)
 | [],f,hf=>hf
 | t::ts,f,hf=>mn h ts _ (kU hf (yU h t.1) t.2)
section
variable {fs:List Fc} (h:∀k∈fs,FcOk R S k) (hR:R<=100) (hS:S<=100)
include h hR hS
theorem zd{ts:List (Nat×Int)}(ht:∀t∈ts,t.1<fs.length /\ -1000000000000000<=t.2/\t.2<=1000000000000000):dL (.int R) (.int S) (fsD fs) (.tuple (ts.map tD))=.ret (sumF R S fs ts).d:=by
 unfold dL
 rw[sY R S (by omega) (by omega),bdR,lB,oMS,bdR]
 refine(B8 (e:=tD) (F:=λpre=>(fsD fs,(sumF R S fs pre).d,())) ts ?_).trans rfl
 intro p t q hpq kn
 dsimp only
 unfold iE
 obtain⟨h1,h2,h3⟩:=ht t (by rw[hpq];simp)
 have hi:aD (fsD fs) (.int (t.1:Int))=some (fs[t.1]).d:=tj Fc.d fs t.1 h1
 have hg:(fs.getD t.1 (.le (Fm.zero R S)))=fs[t.1]:=by rw[al,ax h1];rfl
 have ok:=mn h p (Fm.zero R S) (jv R S)
 rw[gJ,hi,oMS,bdR,fc1,oMS,bdR,sI (by omega) (by omega) (by have:(sumF R S fs p).i.length=R:=ok.i;omega) (by have:(sumF R S fs p).o.length=S:=ok.o;omega),bdR,sJ,hg]
theorem vB{d:D}{k:D×D×D×D×Unit->M D}:∀ts:List (Nat×Int),(∀t∈ts,t.1<fs.length) ->
  eB (λ(s29:D×D×D×D×Unit) d30 kn=>dk s29.1 s29.2.1 s29.2.2.1 s29.2.2.2.1 d30 kn) (ts.map tD) (.int R,.int S,fsD fs,d,()) k=if ts.all (cS fs)then k (.int R,.int S,fsD fs,d,())else .ret (.bool false)
 | [],_=>rfl
 | t::ts,ht=>by
  have h1:=ht t (by simp)
  have hi:aD (fsD fs) (.int (t.1:Int))=some (fs[t.1]).d:=tj Fc.d fs t.1 h1
  have ih:=vB (d:=d) (k:=k) ts λq hq=>ht q (by simp[hq])
  show dk (.int R) (.int S) (fsD fs) d (tD t) (λs'=>eB _ (ts.map tD) s' k)=_
  rw[ir]
  have em:cS fs t=match fs[t.1]with | .le _=>decide (1<=t.2) | .sa _=>true | .re _ _=>false:=by
   unfold cS
   rw[ax h1]
   cases fs[t.1]<;>rfl
  rw[em]
  generalize hk:(λs'=>eB _ (ts.map tD) s' k)=kn
  unfold dk
  rw[gJ,hi,oMS,bdR]
  cases fs[t.1]with
  | le f =>
   simp only[Fc.d,dh,oMS,bdR,Cd,tF,ff,aw,ltI]
   by_cases q:1<=t.2
   ·rw[eE (by omega),de q]
    simp only[ff,ce]
    rw[<-hk]
    exact ih
   ·rw[de (by omega),eE q]
    rfl
  | sa f =>
   simp only[Fc.d,dh,oMS,bdR,wb,yX,ff,ce]
   rw[<-hk]
   exact ih
  | re f m =>
   simp only[Fc.d,dh,oMS,bdR,wj,aw]
   rfl
theorem Cr{d:D}(hd:Sh d):eF (.int R) (.int S) (fsD fs) d=.ret (.bool (gX R S fs d)):=by
 unfold eF
 rw[vw (fs.map Fc.d) hd,bdR,cE,oMS,bdR,bdR]
 unfold gX
 cases d with
 | tuple ps =>
  dsimp only
  rw[zzd]
  rcases lG (gy fs.length (-1) ps)with e|⟨ts,e⟩
  ·simp only[e,Option.isSome_none,di,aw]
  ·obtain⟨ht,hps⟩:=tT (by omega) e
   simp only[e,Option.isSome_some,ar,ff]
   subst hps
   rw[lB,oMS,bdR,gu]
   have hl:=vB h hR hS (d:=.tuple (ts.map tD)) (k:=λs29=>eM s29.1 s29.2.1 s29.2.2.1 s29.2.2.2.1) ts λt hq=>(ht t hq).1
   rw[show(ts.map λt:Nat×Int=>PyData.tuple [.int t.1,.int t.2])=ts.map tD from rfl,hl]
   cases ts.all (cS fs)with
   | false=>rfl
   | true =>
    simp only[aw,ce]
    unfold eM
    rw[zd h hR hS ht,bdR]
    have ok:=mn h ts (Fm.zero R S) (jv R S)
    have li:(sumF R S fs ts).i.length=R:=ok.i
    have lo:(sumF R S fs ts).o.length=S:=ok.o
    generalize sumF R S fs ts=g at li lo
    have ha:aX (dO g.i) (dO g.o)=some (dO (g.i++g.o)):=by
     rw[show aX (dO g.i) (dO g.o)=if(iL g.i).length+(iL g.o).length<=sizeLine then some (.tuple (iL g.i++iL g.o))else none from rfl,be (by rw[zzd,zzd];exact eg (show _<=1000 by omega) (by decide)),<-HI]
    have hc:=cn (step:=λd10=>bd (bd (oM (nA d10 (.int 0))) λb11=>.ret (.bool b11)) λx12=>.ret (some x12)) (e:=PyData.int) (g:=λx=>PyData.bool (decide (x<=0))) (g.i++g.o) λx _=>by
     rw[leI,oMS,bdR,bdR]
    have hf:v8 [.list ((g.i++g.o).map λx=>PyData.bool (decide (x<=0)))]=some ((g.i++g.o).all λx=>decide (x<=0)):=by
     show(boolsOf _).map _=_
     rw[show((g.i++g.o).map λx=>PyData.bool (decide (x<=0)))=((g.i++g.o).map λx=>decide (x<=0)).map PyData.bool from(by rw[pr];rfl),kL]
     simp
    simp only[dh,eA,gj,oMS,bdR,ltI,ha,lB]
    rw[hc,bdR,cM (by rw[zzd,zzf];omega),bdR,bdR,hf,oMS]
    cases decide (g.c<0)<;>rfl
 | dict i=>exact absurd hd.nd (by simp[nD])
 | _=>rfl
theorem sN{d:D}{m:Int}(hm:2<=m){k:D×D×D×D×D×Unit->M D}:∀ts:List (Nat×Int),(∀t∈ts,t.1<fs.length) ->
  eB (λ(s35:D×D×D×D×D×Unit) d36 kn=>cY s35.1 s35.2.1 s35.2.2.1 s35.2.2.2.1 s35.2.2.2.2.1 d36 kn) (ts.map tD) (.int R,.int S,fsD fs,.int m,d,()) k=if ts.all (cq m fs)then k (.int R,.int S,fsD fs,.int m,d,())else .ret (.bool false)
 | [],_=>rfl
 | t::ts,ht=>by
  have h1:=ht t (by simp)
  have hi:aD (fsD fs) (.int (t.1:Int))=some (fs[t.1]).d:=tj Fc.d fs t.1 h1
  have ih:=sN (d:=d) hm (k:=k) ts λq hq=>ht q (by simp[hq])
  show cY (.int R) (.int S) (fsD fs) (.int m) d (tD t) (λs'=>eB _ (ts.map tD) s' k)=_
  rw[ir]
  have em:cq m fs t=match fs[t.1]with | .le _=>false | .sa _=>true | .re _ q=>q % m==0:=by
   unfold cq
   rw[ax h1]
   cases fs[t.1]<;>rfl
  rw[em]
  generalize hk:(λs'=>eB _ (ts.map tD) s' k)=kn
  unfold cY
  rw[gJ,hi,oMS,bdR]
  cases fs[t.1]with
  | le f =>
   simp only[Fc.d,dh,oMS,bdR,tF,aw]
   rfl
  | sa f =>
   simp only[Fc.d,dh,oMS,bdR,yX,wb,ff,ce]
   rw[<-hk]
   exact ih
  | re f q =>
   simp only[Fc.d,dh,gj,oMS,bdR,yY,wj,ff,aw,BP _ _ (show 0<m by omega),neI]
   rcases ac (q % m==0)with hq|hq
   ·simp only[hq,ar,ff,ce]
    rw[<-hk]
    exact ih
   ·simp only[hq,di,aw,im,ff]
theorem Aq{m d:D}(hm:Sh m)(hd:Sh d):dU (.int R) (.int S) (fsD fs) m d=.ret (.bool (dI R S fs m d)):=by
 unfold dU
 rw[jc hm.nd,bdR,cE,oMS,bdR,bdR,vw (fs.map Fc.d) hd,bdR,cE,oMS,bdR]
 cases qm:sW 2 99 m with
 | false =>
  have:dI R S fs m d=false:=by
   unfold dI
   split
   ·rw[qm];rfl
   ·rfl
  rw[this]
  rfl
 | true =>
  obtain⟨m,rfl,m1,m2⟩:=eL qm
  simp only[ar,ff,bdR]
  unfold dI
  cases d with
  | tuple ps =>
   dsimp only
   rw[zzd,qm]
   rcases lG (gy fs.length (-1) ps)with e|⟨ts,e⟩
   ·simp only[e,Option.isSome_none,di,aw,DI]
   ·obtain⟨ht,hps⟩:=tT (by omega) e
    simp only[e,Option.isSome_some,ar,ff,ce]
    subst hps
    rw[lB,oMS,bdR,gu]
    have hl:=sN h hR hS (d:=.tuple (ts.map tD)) m1 (k:=λs35=>dZ s35.1 s35.2.1 s35.2.2.1 s35.2.2.2.1 s35.2.2.2.2.1) ts λt hq=>(ht t hq).1
    rw[show(ts.map λt:Nat×Int=>PyData.tuple [.int t.1,.int t.2])=ts.map tD from rfl,hl]
    cases ts.all (cq m fs)with
    | false=>rfl
    | true =>
     simp only[aw,ce]
     unfold dZ
     rw[zd h hR hS ht,bdR]
     have ok:=mn h ts (Fm.zero R S) (jv R S)
     have li:(sumF R S fs ts).i.length=R:=ok.i
     have lo:(sumF R S fs ts).o.length=S:=ok.o
     generalize sumF R S fs ts=g at li lo
     have ha:aX (dO g.i) (dO g.o)=some (dO (g.i++g.o)):=by
      rw[show aX (dO g.i) (dO g.o)=if(iL g.i).length+(iL g.o).length<=sizeLine then some (.tuple (iL g.i++iL g.o))else none from rfl,be (by rw[zzd,zzd];exact eg (show _<=1000 by omega) (by decide)),<-HI]
     have hc:=cn (step:=λd14=>bd (bd (bd (oM (fQ d14 (.int m))) λx15=>oM (bD x15 (.int 0))) λb16=>.ret (.bool b16)) λx17=>.ret (some x17)) (e:=PyData.int) (g:=λx=>PyData.bool (x % m==0)) (g.i++g.o) λx _=>by
      rw[BP _ _ (show 0<m by omega),oMS,bdR,eqI,oMS,bdR,bdR]
     have hf:v8 [.list ((g.i++g.o).map λx=>PyData.bool (x % m==0))]=some ((g.i++g.o).all λx=>x % m==0):=by
      show(boolsOf _).map _=_
      rw[show((g.i++g.o).map λx=>PyData.bool (x % m==0))=((g.i++g.o).map λx=>x % m==0).map PyData.bool from(by rw[pr];rfl),kL]
      simp
     simp only[dh,eA,gj,oMS,bdR,BP _ _ (show 0<m by omega),neI,ha,lB]
     rw[hc,bdR,cM (by rw[zzd,zzf];omega),bdR,bdR,hf,oMS]
     cases (g.c % m==0)<;>rfl
  | dict i=>exact absurd hd.nd (by simp[nD])
  | _=>rfl
end
theorem yz(i:Nat):cj (i+1)=fK (cj i) (eP i):=rfl
theorem zj(i:Nat):eP (i+1)=eW (eV i):=rfl
theorem DC(i:Nat):eV (i+1)=fL (jS i):=rfl
theorem C1(i:Nat):jS (i+1)=jR (cj i):=rfl
abbrev prD(p:Fc×D):D:=.tuple [p.1.d,p.2]
theorem CK(fs:List Fc)(k:Fc)(h:fs.length<=1000):aX (fsD fs) (.tuple [k.d])=some (fsD (fs++[k])):=by
 rw[show aX (fsD fs) (.tuple [k.d])=if(fs.map Fc.d).length+1<=sizeLine then some (.tuple (fs.map Fc.d++[k.d]))else none from rfl,be (by rw[zzd];exact eg (show _<=2000 by omega) (by decide)),show fsD (fs++[k])=.tuple (fs.map Fc.d++[k.d]) by simp]
section
variable (hR:R<=100) (hS:S<=100)
def PR(R S n i:Nat):Prop:=∀(fs:List Fc) (d:D),Sh d->(∀k∈fs,FcOk R S k)->fs.length+n<=1000->cj i (.int (31 - (n:Int))) (.int R) (.int S) (fsD fs) d=.ret (.bool (rf R S n fs d))
theorem sU{n i:Nat}{fs:List Fc}(hp:PR R S n i)(hf:∀k∈fs,FcOk R S k)(hl:fs.length+1+n<=1000){k:D×D×D×D×Unit->M D}:∀ps:List (Fc×D),(∀p∈ps,FcOk R S p.1/\Sh p.2) ->
  eB (λ(s14:D×D×D×D×Unit) d15 kn=>gv (cj i) s14.1 s14.2.1 s14.2.2.1 s14.2.2.2.1 d15 kn) (ps.map prD) (.int (31 - (n:Int)),.int R,.int S,fsD fs,()) k=if ps.all (λp=>rf R S n (fs++[p.1]) p.2)then k (.int (31 - (n:Int)),.int R,.int S,fsD fs,())else .ret (.bool false)
 | [],_=>rfl
 | p::ps,hq=>by
  have ih:=sU hp hf hl (k:=k) ps λq h=>hq q (by simp[h])
  obtain⟨h1,h2⟩:=hq p (by simp)
  have e:=hp (fs++[p.1]) p.2 h2 (λq h=>(List.mem_append.mp h).elim (hf q) λz=>by rw[List.mem_singleton.mp z];exact h1) (by rw[zzf];simp only[bu,tt];omega)
  show gv (cj i) _ _ _ _ (prD p) (λs'=>eB _ (ps.map prD) s' k)=_
  generalize hk:(λs'=>eB _ (ps.map prD) s' k)=kn
  unfold gv
  rw[gJ,CK fs p.1 (by omega),oMS,bdR,e,bdR,cE,oMS,bdR,bdR,ir]
  rcases ac (rf R S n (fs++[p.1]) p.2)with q|q
  ·simp only[q,ar,ff,ce]
   rw[<-hk]
   exact ih
  ·simp only[q,di,aw,im,ff]
theorem Ct{n i:Nat}{fs:List Fc}{b:D->D->D->D->D->M D}(hp:PR R S n i)(hf:∀k∈fs,FcOk R S k)(hl:fs.length+1+n<=1000){k:D×D×D×D×Unit->M D}:∀ps:List (Fc×D),(∀p∈ps,FcOk R S p.1/\Sh p.2) ->
  eB (λ(s34:D×D×D×D×Unit) d35 kn=>eU (cj i) b s34.1 s34.2.1 s34.2.2.1 s34.2.2.2.1 d35 kn) (ps.map prD) (.int (31 - ((n+1:Nat):Int)),.int R,.int S,fsD fs,()) k=if ps.all (λp=>rf R S n (fs++[p.1]) p.2)then k (.int (31 - ((n+1:Nat):Int)),.int R,.int S,fsD fs,())else .ret (.bool false)
 | [],_=>rfl
 | p::ps,hq=>by
  have ih:=Ct (b:=b) hp hf hl (k:=k) ps λq h=>hq q (by simp[h])
  obtain⟨h1,h2⟩:=hq p (by simp)
  have e:=hp (fs++[p.1]) p.2 h2 (λq h=>(List.mem_append.mp h).elim (hf q) λz=>by rw[List.mem_singleton.mp z];exact h1) (by rw[zzf];simp only[bu,tt];omega)
  show eU (cj i) b _ _ _ _ (prD p) (λs'=>eB _ (ps.map prD) s' k)=_
  generalize hk:(λs'=>eB _ (ps.map prD) s' k)=kn
  unfold eU
  rw[gJ,gI,oMS,bdR,show(31:Int) - ((n+1:Nat):Int)+1=31 - (n:Int) by omega,CK fs p.1 (by omega),oMS,bdR,e,bdR,cE,oMS,bdR,bdR,ir]
  rcases ac (rf R S n (fs++[p.1]) p.2)with q|q
  ·simp only[q,ar,ff,ce]
   rw[<-hk]
   exact ih
  ·simp only[q,di,aw,im,ff]
def shB(R S n:Nat)(fs:List Fc)(k:Fc)(d:D):Bool:=match d with
 | .tuple ps=>decide (ps.length=(cI k).length)&&(((cI k).zip ps).all λp=>rf R S n (fs++[p.1]) p.2)
 | _=>false
theorem AC:∀(ks:List Fc) (ps:List D),iG (ks.map Fc.d) ps=(ks.zip ps).map prD
 | [],_=>by simp[iG]
 | _::_,[]=>by simp[iG]
 | k::ks,p::ps=>by
  have:=AC ks ps
  unfold iG at this ⊢
  simp[this]
include hR hS
theorem AZ{fs:List Fc}(hp:PR R S n i)(hf:∀k∈fs,FcOk R S k)(hl:fs.length+1+n<=1000){k:Fc}(hk:FcOk R S k){d:D}(hd:Sh d) :
  jS (i+1) (.int (31 - (n:Int))) (.int R) (.int S) (fsD fs) k.d d=.ret (.bool (shB R S n fs k d)):=by
 rw[C1]
 unfold jR
 rw[xS hk (by omega) (by omega),bdR,BX,oMS,bdR,zzd,ii hd.nd,bdR,cE,oMS,bdR,bdR]
 cases d with
 | tuple ps =>
  unfold shB
  dsimp only
  rw[show tOf (cI k).length (.tuple ps)=decide (ps.length=(cI k).length)from rfl]
  by_cases hq:ps.length=(cI k).length
  ·simp only[de hq,ar,ff,ce]
   have hz:tE [.list ((cI k).map Fc.d),.tuple ps]=some (((cI k).zip ps).map prD):=by
    rw[show tE [.list ((cI k).map Fc.d),.tuple ps]=if((cI k).map Fc.d).length=ps.length then some (iG ((cI k).map Fc.d) ps)else none from rfl,be (by rw[zzd,hq]),AC]
   rw[hz,oMS,bdR,gu]
   have:=sU hp hf hl (k:=λs14=>lA (cj i) s14.1 s14.2.1 s14.2.2.1 s14.2.2.2.1) ((cI k).zip ps) λp h=>⟨y0 hk _ (xt h).1,hd.t.2 _ (xt h).2⟩
   rw[this]
   cases ((cI k).zip ps).all λp=>rf R S n (fs++[p.1]) p.2<;>rfl
  ·simp only[eE hq,di,aw,im]
 | dict i=>exact absurd hd.nd (by simp[nD])
 | _=>rfl
end
theorem kj{w:String}{d:D}(h:sS w d=true):d=.str w:=by
 cases d with
 | str s=>rw[show sS w (.str s)=(s==(w:Str))from rfl,Jp]at h;rw[h]
 | _=>cases h
theorem mX{d:D}{k:Fc}(h:jw R S d=some k):d=k.d/\FcOk R S k/\sC R S d=true:=by
 unfold jw at h
 split at h
 ·rename_i w f
  split at h
  ·rename_i hw
   have hw:w = "least":=by simpa using hw
   subst hw
   obtain⟨g,hg,rfl⟩:=Option.map_eq_some_iff.mp h
   obtain⟨rfl,ok,hs⟩:=e9 hg
   exact⟨rfl,⟨ok,λf m e=>nomatch e⟩,by simp[sC,hs,sS]⟩
  ·split at h
   ·rename_i hw
    have hw:w = "same":=by simpa using hw
    subst hw
    obtain⟨g,hg,rfl⟩:=Option.map_eq_some_iff.mp h
    obtain⟨rfl,ok,hs⟩:=e9 hg
    exact⟨rfl,⟨ok,λf m e=>nomatch e⟩,by simp[sC,hs,sS]⟩
   ·cases h
 ·rename_i w f m
  split at h
  ·rename_i hw
   rw[ag]at hw
   obtain⟨hw,hm⟩:=hw
   have hw:w = "rest":=by simpa using hw
   subst hw
   obtain⟨g,hg,rfl⟩:=Option.map_eq_some_iff.mp h
   obtain⟨rfl,ok,hs⟩:=e9 hg
   obtain⟨m',e,b1,b2⟩:=eL hm
   cases e
   exact⟨rfl,⟨ok,λf m' e=>by cases e;exact⟨b1,b2⟩⟩,by simp[sC,hs,sS,hm]⟩
  ·cases h
 ·cases h
theorem CV{d:D}(h:sC R S d=true):∃k,jw R S d=some k:=by
 unfold sC at h
 split at h
 ·rename_i a f
  rw[ag,ue]at h
  obtain⟨hw,hf⟩:=h
  obtain⟨g,hg⟩:=yn hf
  rcases hw with hw|hw
  ·have:=kj hw;subst this
   exact⟨.le g,by unfold jw;dsimp only;rw[be (by decide +kernel),hg];rfl⟩
  ·have:=kj hw;subst this
   exact⟨.sa g,by unfold jw;dsimp only;rw[ef (by decide +kernel),be (by decide +kernel),hg];rfl⟩
 ·rename_i a f k
  rw[ag,ag]at h
  obtain⟨⟨hw,hf⟩,hk⟩:=h
  obtain⟨g,hg⟩:=yn hf
  have:=kj hw;subst this
  obtain⟨m,rfl,_⟩:=eL hk
  exact⟨.re g m,by unfold jw;dsimp only;rw[hk,ke,be (by decide +kernel),hg];rfl⟩
 ·cases h
theorem sD{d:D}(h:jw R S d=none):sC R S d=false:=by
 cases q:sC R S d with
 | false=>rfl
 | true=>obtain⟨k,e⟩:=CV q;rw[e]at h;cases h
def csL(R S:Nat)(a b c:D):Option (List (Fc×D)):=match gA R S a,b,c with
 | some f,.int m,.tuple ps=>if sW 2 9 (.int m)&&decide ((ps.length:Int)=m)then some (ps.zipIdx.map λp=>(.re (f.plus (-(p.2:Int))) m,p.1))else none
 | _,_,_=>none
def brL(R S n:Nat)(fs:List Fc)(w a b c:D):Option (List (Fc×D)) :=
 if sS "split" w then(gA R S a).map λf=>[(.le f,b),(jh f,c)]
 else if sS "cases" w then csL R S a b c
 else if sS "know" w then(match jw R S a with
  | some k=>if shB R S n fs k b then some [(k,c)]else none
  | none=>none)
 else none
theorem iK(R S n:Nat)(fs:List Fc)(s:Str)(a b c:D):rf R S (n+1) fs (.tuple [.str s,a,b,c])=match brL R S n fs (.str s) a b c with
  | some ps=>ps.all λp=>rf R S n (fs++[p.1]) p.2
  | none=>false:=by
 show rf4 R S (rf R S n) fs s a b c=_
 unfold rf4 brL csL
 rw[show sS "split" (.str s)=(s == "split")from rfl,show sS "cases" (.str s)=(s == "cases")from rfl,show sS "know" (.str s)=(s == "know")from rfl]
 split
 ·cases gA R S a with
  | none=>rfl
  | some f=>simp[ir]
 ·split
  ·cases gA R S a with
   | none=>rfl
   | some f =>
    cases b with
    | int m =>
     cases c with
     | tuple ps =>
      dsimp only
      rcases ac (sW 2 9 (.int m)&&decide ((ps.length:Int)=m))with q|q
      ·simp only[q,ce,aw,ul]
       rfl
      ·simp only[q,im,ff]
     | _=>rfl
    | _=>rfl
  ·split
   ·cases jw R S a with
    | none=>rfl
    | some k =>
     cases b with
     | tuple ps =>
      dsimp only
      rcases ac (shB R S n fs k (.tuple ps))with q|q
      ·have q':(decide (ps.length=(cI k).length)&&(((cI k).zip ps).all λp=>rf R S n (fs++[p.1]) p.2))=true:=q
       simp only[q,q',aw,ir,zi,ke,ce]
      ·have q':(decide (ps.length=(cI k).length)&&(((cI k).zip ps).all λp=>rf R S n (fs++[p.1]) p.2))=false:=q
       simp only[q,q',ff,im]
     | _=>rfl
   ·rfl
section
variable (hR:R<=100) (hS:S<=100)
include hR hS
theorem Cu{fs:List Fc}{w a b c:D}(hb:Sh b)(hc:Sh c){ps:List (Fc×D)}(h:brL R S n fs w a b c=some ps):∀p∈ps,FcOk R S p.1/\Sh p.2:=by
 unfold brL csL at h
 split at h
 ·obtain⟨f,hf,rfl⟩:=Option.map_eq_some_iff.mp h
  obtain⟨_,ok,_⟩:=e9 hf
  intro p hp
  simp only[ak,List.mem_nil_iff,el]at hp
  rcases hp with rfl|rfl
  ·exact⟨⟨ok,λf m e=>nomatch e⟩,hb⟩
  ·exact⟨BF ok,hc⟩
 ·split at h
  ·split at h
   ·rename_i f m xs hf
    split at h
    ·rename_i hq
     cases h
     obtain⟨_,ok,_⟩:=e9 hf
     rw[ag]at hq
     obtain⟨m',e,b1,b2⟩:=eL hq.1
     cases e
     intro p hp
     obtain⟨q,hq,rfl⟩:=List.mem_map.mp hp
     exact⟨⟨qg ok _,λf m' e=>by cases e;exact⟨b1,by omega⟩⟩,hc.t.2 _ (by
      have:=List.mem_zipIdx hq
      rw[this.2.2]
      exact pI _)⟩
    ·cases h
   ·cases h
  ·split at h
   ·split at h
    ·rename_i k hk
     split at h
     ·cases h
      intro p hp
      have:p=(k,c):=by simpa using hp
      subst this
      exact⟨(mX hk).2.1,hc⟩
     ·cases h
    ·cases h
   ·cases h
theorem DB{fs:List Fc}(hp:PR R S n i)(hf:∀k∈fs,FcOk R S k)(hl:fs.length+1+n<=1000){w a b c:D}(ha:Sh a)(hb:Sh b) :
  eV (i+2) (.int (31 - ((n+1:Nat):Int))) (.int R) (.int S) (fsD fs) (.tuple [w,a,b,c])=.ret (match jw R S a with|some k=>if shB R S n fs k b then .list [prD (k,c)]else .none|none=>.none):=by
 rw[DC]
 unfold fL
 have ix3:aD (.tuple [w,a,b,c]) (.int 3)=some c:=ixT [w,a,b,c] 3 (by simp)
 rw[eA,oMS,bdR,DN ha,bdR,cE,oMS,bdR,bdR]
 rcases lG (jw R S a)with e|⟨k,e⟩
 ·simp only[e,sD e,di,aw,bdR]
 ·obtain⟨rfl,ok,hs⟩:=mX e
  simp only[e,hs,ar,ff,gI,oMS,bdR,gj]
  rw[show(31:Int) - ((n+1:Nat):Int)+1=31 - (n:Int) by omega,AZ hR hS hp hf hl ok hb,bdR,cE,oMS,bdR,bdR]
  rcases ac (shB R S n fs k b)with q|q
  ·simp only[q,ar,ff,aw,ix3,oMS,bdR]
  ·simp only[q,di,aw,ff]
end
section
variable (hR:R<=100) (hS:S<=100)
include hR hS
theorem AY{w a b c:D}(ha:Sh a):eD (.int R) (.int S) (.tuple [w,a,b,c])=.ret (match gA R S a with|some f=>.list ([(Fc.le f,b),(jh f,c)].map prD)|none=>.none):=by
 unfold eD
 have ix3:aD (.tuple [w,a,b,c]) (.int 3)=some c:=ixT [w,a,b,c] 3 (by simp)
 rw[eA,oMS,bdR,uP ha,bdR,cE,oMS,bdR,bdR]
 rcases lG (gA R S a)with e|⟨f,e⟩
 ·simp only[e,kN e,di,aw]
 ·obtain⟨rfl,ok,hs⟩:=e9 e
  have en:=xC (w:=.str "least") (f:=f) (r:=[]) (by rw[ok.i];omega) (by rw[ok.o];omega)
  simp only[e,hs,ar,ff,bdR,gj,oMS,ix3]
  rw[en,bdR,bdR,bdR,bdR]
  rfl
theorem Co{w a b c:D}(ha:Sh a)(hb:Sh b)(hc:Sh c):eG (.int R) (.int S) (.tuple [w,a,b,c])=.ret (match csL R S a b c with|some ps=>.list (ps.map prD)|none=>.none):=by
 unfold eG csL
 have ix3:aD (.tuple [w,a,b,c]) (.int 3)=some c:=ixT [w,a,b,c] 3 (by simp)
 rw[eA,oMS,bdR,gj,oMS,bdR,uP ha,bdR,cE,oMS,bdR,bdR,jc hb.nd,bdR,cE,oMS,bdR,bdR]
 rcases lG (gA R S a)with e|⟨f,e⟩
 ·simp only[e,kN e,di,aw,bdR]
 ·obtain⟨rfl,ok,hs⟩:=e9 e
  simp only[e,hs,ar,ff]
  rcases ac (sW 2 9 b)with qb|qb
  ·obtain⟨m,rfl,m1,m2⟩:=eL qb
   simp only[qb,ar,ff,ce,ix3,oMS,bdR]
   obtain⟨n,rfl⟩:=ge (show 0<=m by omega)
   rw[show bV c (.int ((n:Nat):Int))=_ from ii hc.nd n,bdR,cE,oMS,bdR,bdR]
   cases c with
   | tuple ps =>
    dsimp only
    by_cases hq:ps.length=n
    ·have q1:tOf n (.tuple ps)=true:=by show decide (ps.length=n)=true;rw[de hq]
     have q2:decide ((ps.length:Int)=(n:Int))=true:=de (by omega)
     simp only[q1,q2,ar,ff,aw]
     have he:v7 [.tuple ps]=some (ps.zipIdx.map λp=>PyData.tuple [.int (p.2:Int),p.1]):=rfl
     rw[he,oMS,bdR]
     have hcc:=cn (step:=λd14=>un2 d14 λy15 y16=>bd (bd (bd (bd (oM (bN y15)) λx17=>jT f.d x17) λx18=>.ret (.tuple [(.str "rest"),x18,.int (n:Int)])) λx19=>.ret (.tuple [x19,y16])) λx20=>.ret (some x20)) (e:=λp:D×Nat=>PyData.tuple [.int (p.2:Int),p.1]) (g:=λp=>prD (Fc.re (f.plus (-(p.2:Int))) n,p.1)) ps.zipIdx λp _=>by
      rw[gJ,hC,oMS,bdR,pg,bdR,bdR,bdR]
      rfl
     rw[hcc,bdR,iC (by rw[zzd,List.length_zipIdx];omega),bdR,bdR,qb]
     simp only[ke,aw,pr]
     rfl
    ·have q1:tOf n (.tuple ps)=false:=by show decide (ps.length=n)=false;rw[eE hq]
     have q2:decide ((ps.length:Int)=(n:Int))=false:=eE (by omega)
     simp only[q1,q2,di,aw,DI,ff]
   | dict i=>exact absurd hc.nd (by simp[nD])
   | _=>rfl
  ·simp only[qb,di,aw,bdR]
   cases b with
   | int m =>
    cases c with
    | tuple ps=>simp only[qb,im,ff]
    | _=>rfl
   | _=>rfl
theorem wy{fs:List Fc}(hp:PR R S n i)(hf:∀k∈fs,FcOk R S k)(hl:fs.length+1+n<=1000){w a b c:D}(hw:Sh w)(ha:Sh a)(hb:Sh b)(hc:Sh c) :
  eP (i+3) (.int (31 - ((n+1:Nat):Int))) (.int R) (.int S) (fsD fs) (.tuple [w,a,b,c])=.ret (match brL R S n fs w a b c with|some ps=>.list (ps.map prD)|none=>.none):=by
 rw[zj]
 unfold eW brL
 have e4:(!((([w,a,b,c]:List D).length:Int)==(4:Int)))=false:=rfl
 rw[hU,oMS,bdR,neI,oMS,bdR,e4,ff]
 simp only[dh,oMS,bdR,eqS hw]
 rcases ac (sS "split" w)with q|q
 ·simp only[q,aw]
  rw[AY hR hS ha,bdR]
  cases gA R S a<;>rfl
 ·simp only[q,ff]
  rcases ac (sS "cases" w)with q|q
  ·simp only[q,aw]
   rw[Co hR hS ha hb hc,bdR]
  ·simp only[q,ff]
   rcases ac (sS "know" w)with q|q
   ·simp only[q,aw]
    rw[DB hR hS hp hf hl ha hb,bdR]
    rcases lG (jw R S a)with e|⟨k,e⟩
    ·simp only[e]
    ·simp only[e]
     rcases ac (shB R S n fs k b)with q|q<;>simp only[q,aw,ff]<;>rfl
   ·simp only[q,ff]
theorem xj:∀(n i:Nat),4*n+1<=i->n<=31->PR R S n i
 | 0,i+1,_,_=>λfs d hd hf hl=>by
  rw[yz]
  unfold fK
  rw[show lI (.int (31 - ((0:Nat):Int))) (.int 30)=some true from rfl,oMS,bdR]
  rfl
 | n+1,i+1,hi,hn=>λfs d hd hf hl=>by
  have ih3:PR R S n (i - 3):=xj n (i - 3) (by omega) (by omega)
  have ih0:PR R S n i:=xj n i (by omega) (by omega)
  obtain⟨j,rfl⟩:∃j,i=j+3:=⟨i - 3,by omega⟩
  rw[Nat.add_sub_cancel]at ih3
  rw[yz]
  unfold fK
  have hg:lI (.int (31 - ((n+1:Nat):Int))) (.int 30)=some false:=by
   rw[show lI (.int (31 - ((n+1:Nat):Int))) (.int 30)=some (decide ((30:Int)<31 - ((n+1:Nat):Int)))from rfl,eE (by omega)]
  rw[hg,oMS,bdR,ff,cg hd.fn,oMS,bdR,bdR]
  cases d with
  | tuple ds =>
   have t1:isT "tuple" (.tuple ds)=true:=id rfl
   rw[t1]
   simp only[ar,ff,hU,oMS,bdR,eqI]
   cases ds with
   | nil=>rfl
   | cons w r =>
    have hw:=hd.t.2 w (by simp)
    have e0:(((w::r).length:Int)==0)=false:=by rw[br];simp only[bu];omega
    simp only[e0,ff,dh,oMS,bdR,eqS hw]
    rcases ac (sS "sum" w)with q|q
    ·simp only[q,aw]
     have:=kj q;subst this
     match r,hd with
     | [],_=>rfl
     | [a],hd =>
      have ha:=hd.t.2 a (by simp)
      simp only[eA,oMS,bdR]
      rw[Cr hf hR hS ha,bdR,fS]
      rfl
     | [a,b],_=>rfl
     | [a,b,c],_=>rfl
     | a::b::c::e::r,_ =>
      have:(((PyData.str "sum" :: a::b::c::e::r).length:Int)==2)=false:=by rw[br];simp only[bu];omega
      rw[this]
      rfl
    ·simp only[q,ff]
     rcases ac (sS "rest" w)with q2|q2
     ·simp only[q2,aw]
      have:=kj q2;subst this
      match r,hd with
      | [],_=>rfl
      | [a],_=>rfl
      | [a,b],hd =>
       have ha:=hd.t.2 a (by simp)
       have hb:=hd.t.2 b (by simp)
       simp only[eA,gj,oMS,bdR]
       rw[Aq hf hR hS ha hb,bdR,fS]
       rfl
      | [a,b,c],_=>rfl
      | a::b::c::e::r,_ =>
       have:(((PyData.str "rest" :: a::b::c::e::r).length:Int)==3)=false:=by rw[br];simp only[bu];omega
       rw[this]
       rfl
     ·simp only[q2,ff]
      by_cases h4:∃a b c,r=[a,b,c]
      ·obtain⟨a,b,c,rfl⟩:=h4
       have ha:=hd.t.2 a (by simp)
       have hb:=hd.t.2 b (by simp)
       have hc:=hd.t.2 c (by simp)
       rw[wy hR hS ih3 hf (by omega) hw ha hb hc,bdR]
       have er:rf R S (n+1) fs (.tuple [w,a,b,c])=match brL R S n fs w a b c with|some ps=>ps.all λp=>rf R S n (fs++[p.1]) p.2|none=>false:=by
        cases w with
        | str s=>exact iK R S n fs s a b c
        | _=>rfl
       rw[er]
       rcases lG (brL R S n fs w a b c)with e|⟨ps,e⟩
       ·rw[e]
        rfl
       ·simp only[e]
        rw[show kq (.list (ps.map prD)) .none=some false from rfl,oMS,bdR,ff,E1,oMS,bdR,gu,Ct ih0 hf (by omega) ps (Cu hR hS hb hc e)]
        cases ps.all λp=>rf R S n (fs++[p.1]) p.2<;>rfl
      ·have hb:eP (j+3) (.int (31 - ((n+1:Nat):Int))) (.int R) (.int S) (fsD fs) (.tuple (w::r))=.ret .none:=by
        rw[zj]
        unfold eW
        have e4:(!(((w::r).length:Int)==(4:Int)))=true:=by
         rw[wP,br]
         intro z
         have hl:r.length=3:=by simp only[bu]at z;omega
         match r,hl with
         | [a,b,c],_=>exact h4 ⟨a,b,c,rfl⟩
        rw[hU,oMS,bdR,neI,oMS,bdR,e4]
        rfl
       have er:rf R S (n+1) fs (.tuple (w::r))=false:=by
        cases w with
        | str s =>
         match r with
         | []=>rfl
         | [a]=>show((s == "sum")&&_)=false;rw[show(s == "sum")=sS "sum" (.str s)from rfl,q];rfl
         | [a,b]=>show((s == "rest")&&_)=false;rw[show(s == "rest")=sS "rest" (.str s)from rfl,q2];rfl
         | [a,b,c]=>exact absurd ⟨a,b,c,rfl⟩ h4
         | a::b::c::e::r=>rfl
        | _=>rfl
       rw[hb,er]
       rfl
  | dict i=>exact absurd hd.nd (by simp[nD])
  | _=>rfl
theorem lE{fs:List Fc}{d:D}(hd:Sh d)(hf:∀k∈fs,FcOk R S k)(hl:fs.length<=900):fc (.int R) (.int S) (fsD fs) d=.ret (.bool (rf R S 30 fs d)):=by
 unfold fc
 have:=xj hR hS 30 130 (by omega) (by omega) fs d hd hf (by omega)
 rw[show(.int 1:D)=.int (31 - ((30:Nat):Int))from rfl,this,bdR]
end
theorem yO{f:Fm}{s:Int}(hs:s=1\/s = -1)(k:Int)(l1:f.i.length<=1000)(l2:f.o.length<=1000):cf f.d (.int s) (.int k)=.ret (Fm.d ⟨s*f.c - k,f.i.map (s * ·),f.o.map (s * ·)⟩):=by
 have hm:∀x:Int,bw (.int s) (.int x)=some (.int (s*x)):=λx=>BO _ _ (by omega) (by omega)
 unfold cf
 have hc:∀l:List Int,bH (λd5=>bd (oM (bw (.int s) d5)) λx6=>.ret (some x6)) (iL l)=.ret (l.map λx=>PyData.int (s*x)):=λl=>cn (e:=PyData.int) l λx _=>by rw[hm,oMS,bdR]
 simp only[dh,eA,gj,oMS,bdR,hm,mq,lB]
 rw[hc,bdR,cM (by rw[zzd];omega)]
 simp only[bdR,iW,oMS]
 rw[hc,bdR,cM (by rw[zzd];omega)]
 simp only[bdR,iW,oMS]
 simp only[Fm.d,dO,iL,pr]
 rfl
theorem BW{f:Fm}(k:Int)(l1:f.i.length<=1000)(l2:f.o.length<=1000):cf f.d (.int 1) (.int k)=.ret (f.plus (-k)).d:=by
 rw[yO (.inl rfl) k l1 l2]
 have e:∀l:List Int,l.map (1 * ·)=l:=λl=>by simp
 unfold Fm.plus
 rw[e,e,show(1:Int)*f.c - k=f.c + -k by omega]
theorem BV{f:Fm}(l1:f.i.length<=1000)(l2:f.o.length<=1000):cf f.d (.int (-1)) (.int 1)=.ret (f.neg.plus (-1)).d:=by
 rw[yO (.inr rfl) 1 l1 l2]
 have e:∀l:List Int,l.map ((-1:Int) * ·)=l.map λx=>-x:=λl=>su λx _=>by omega
 unfold Fm.plus Fm.neg
 dsimp only
 rw[e,e,show(-1:Int)*f.c - 1 = -f.c + -1 by omega]
theorem rR{k:Fc}(h:FcOk R S k)(hR:R<=100)(hS:S<=100):fO k.d=.ret (.list ((cI k).map Fc.d)):=by
 have l1:k.f.i.length<=1000:=by rw[h.f.i];omega
 have l2:k.f.o.length<=1000:=by rw[h.f.o];omega
 unfold fO
 cases k with
 | le f =>
  have e:=BV (f:=f) l1 l2
  simp only[Fc.d,dh,eA,oMS,bdR,tF,aw,hC]
  rw[e,bdR,bdR,bdR,bdR]
  rfl
 | sa f =>
  have e:=BV (f:=f) l1 l2
  have e1:=BW (f:=f) 1 l1 l2
  simp only[Fc.d,dh,eA,oMS,bdR,yX,v9,aw,ff,hC]
  rw[e1,bdR,bdR,e,bdR,bdR,bdR,bdR]
  rfl
 | re f m =>
  obtain⟨m1,m2⟩:=h.m f m rfl
  simp only[Fc.d,dh,eA,gj,oMS,bdR,yY,wg,ff]
  obtain⟨n,rfl⟩:=ge (show 0<=m by omega)
  have hr':eC [.int 1,.int ((n:Nat):Int)]=some ((rng 1 n).map iN):=pf 1 n (by omega) (by omega)
  rw[hr',oMS,bdR]
  have hc:=cn (step:=λd19=>bd (bd (cf f.d (.int 1) d19) λx20=>.ret (.tuple [.str "rest",x20,.int (n:Int)])) λx22=>.ret (some x22)) (e:=iN) (g:=λj=>(Fc.re (f.plus (-(j:Int))) n).d) (rng 1 n) λj _=>by
   rw[BW (f:=f) (j:Int) l1 l2,bdR,bdR]
   rfl
  rw[hc,bdR,cM (by rw[zzd,fZ];omega),bdR,bdR]
  have e:(rng 1 n).map (λj:Nat=>(Fc.re (f.plus (-(j:Int))) n).d)=(cI (Fc.re f n)).map Fc.d:=by
   simp only[cI,pr,rng,lu]
   refine su λj _=>?_
   show(Fc.re (f.plus (-((1+j:Nat):Int))) n).d=(Fc.re (f.plus (-((j+1:Nat):Int))) n).d
   rw[Nat.add_comm]
  rw[e]
theorem wl:bD (.str "least") (.str "same")=some false:=by decide +kernel
theorem Et:fi (.str "least") (.str "rest")=some true:=by decide +kernel
theorem BM:fi (.str "rest") (.str "rest")=some false:=by decide +kernel
abbrev cmb(f:Fm):D:=.tuple [.int f.c,.list (iL (f.i++f.o))]
def may(by_:Int)(fs:List Fc)(t:Nat×Int):Bool:=if by_=0 then cS fs t else cq by_ fs t
theorem Ho(l:List Int)(i:Nat)(h:i<l.length):aD (.list (iL l)) (.int i)=some (.int l[i]):=Ez PyData.int l i h
theorem ixI(l:List Int)(i:Nat)(h:i<l.length):aD (dO l) (.int i)=some (.int l[i]):=tj PyData.int l i h
theorem HQ(a b:List Int)(h:a.length+b.length<=1000):aX (dO a) (dO b)=some (dO (a++b)):=by
 rw[show aX (dO a) (dO b)=if(iL a).length+(iL b).length<=sizeLine then some (.tuple (iL a++iL b))else none from rfl,be (by rw[zzd,zzd];exact eg h (by decide)),<-HI]
theorem yl(t:Int):∀(a b c d:List Int),a.length=c.length->List.zipWith (λx y=>x+t*y) (a++b) (c++d)=List.zipWith (λx y=>x+t*y) a c++List.zipWith (λx y=>x+t*y) b d
 | [],b,c,d,h=>by
  have:c=[]:=List.length_eq_zero_iff.mp h.symm
  subst this;rfl
 | x::a,b,[],d,h=>by cases h
 | x::a,b,y::c,d,h=>by
  simp only[rn,ny]
  rw[yl t a b c d (by simpa using h)]
theorem DP{f g:Fm}(hf:FmOk R S f)(hg:FmOk R S g)(hR:R<=100)(hS:S<=100){k:Fc}(hk:k.f=g){i t:Int}(h1 : -(2^63)<t)(h2:t<2^63){fd md:D}{kn:D×D×D×D×Unit->M D} :
  (bd (bd (bd (oM (aD k.d (.int 1))) λx50=>oM (aD x50 (.int 1))) λx52=>bd (bd (oM (aD k.d (.int 1))) λx51=>oM (aD x51 (.int 2))) λx53=>oM (aX x52 x53)) λx54=>bd (bd (bd (oM (aD (cmb f) (.int 0))) λx58=>bd (bd (oM (aD (.tuple [.int i,.int t]) (.int 1))) λx56=>bd (bd (oM (aD k.d (.int 1))) λx55=>oM (aD x55 (.int 0))) λx57=>oM (bw x56 x57)) λx59=>oM (aX x58 x59)) λx60=>bd (bd (bd (bd (oM (cA [x54])) λx61=>oM (ci [x61])) λl69=>bd (bH (λd62=>bd (bd (bd (oM (aD (cmb f) (.int 1))) λx63=>oM (aD x63 d62)) λx66=>bd (bd (oM (aD (.tuple [.int i,.int t]) (.int 1))) λx64=>bd (oM (aD x54 d62)) λx65=>oM (bw x64 x65)) λx67=>oM (aX x66 x67)) λx68=>.ret (some x68)) l69) dw) λl70=>.ret (PyData.list l70)) λx71=>.ret (.tuple [x60,x71])) λx72=>bd (oM (aD (.tuple [.int i,.int t]) (.int 0))) λx73=>kn (fd,md,x72,x73,()))=kn (fd,md,cmb (f.add g t),.int i,()):=by
 have hl:(g.i++g.o).length=R+S:=by rw[zzf,hg.i,hg.o]
 have hl2:(f.i++f.o).length=R+S:=by rw[zzf,hf.i,hf.o]
 have hc:=cn (step:=λd62=>bd (bd (bd (oM (aD (cmb f) (.int 1))) λx63=>oM (aD x63 d62)) λx66=>bd (bd (oM (aD (.tuple [.int i,.int t]) (.int 1))) λx64=>bd (oM (aD (dO (g.i++g.o)) d62)) λx65=>oM (bw x64 x65)) λx67=>oM (aX x66 x67)) λx68=>.ret (some x68)) (e:=iN) (g:=λj=>PyData.int ((f.i++f.o).getD j 0+t*(g.i++g.o).getD j 0)) (List.range (R+S)) λj hj=>by
  have hj:=List.mem_range.mp hj
  have e1:(f.i++f.o).getD j 0=(f.i++f.o)[j]:=by rw[al,ax (by omega)];rfl
  have e2:(g.i++g.o).getD j 0=(g.i++g.o)[j]:=by rw[al,ax (by omega)];rfl
  rw[eA,oMS,bdR,Ho _ j (by omega),oMS,bdR,eA,oMS,bdR,ixI _ j (by omega),oMS,bdR,BO _ _ (by omega) (by omega),oMS,bdR,gI,oMS,bdR,e1,e2]
 have hz:(List.range (R+S)).map (λj=>PyData.int ((f.i++f.o).getD j 0+t*(g.i++g.o).getD j 0))=iL ((f.add g t).i++(f.add g t).o):=by
  show _=iL (List.zipWith (λa b=>a+t*b) f.i g.i++List.zipWith (λa b=>a+t*b) f.o g.o)
  rw[<-yl t f.i f.o g.i g.o (by rw[hf.i,hg.i])]
  apply JF
  ·simp only[zzd,ic,Ba,hl,hl2,Nat.min_self]
  ·intro j q1 q2
   rw[zzd,ic]at q1
   rw[og,og,Jq,List.getElem_zipWith,al,al,ax (by omega),ax (by omega)]
   rfl
 have hlen:cA [dO (g.i++g.o)]=some (iN (R+S)):=by rw[hU,zzd,hl]
 rw[fc1,hk]
 simp only[dh,eA,gj,oMS,bdR,HQ g.i g.o (by rw[hg.i,hg.o];omega),hlen,BO t g.c (show -(2^64)<t by omega) (by omega),gI,eh (R+S) (by omega)]
 simp only[eA,oMS,bdR]at hc
 rw[hc,bdR,cM (by rw[zzd,ic];omega),bdR,bdR,bdR,hz]
 rfl
section
variable {fs:List Fc} (h:∀k∈fs,FcOk R S k) (hR:R<=100) (hS:S<=100) {m:Int} (hm:m=0\/2<=m)
include h hR hS hm
theorem DQ{f:Fm}(hf:FmOk R S f){a:Int}(ha : -1<=a){p:D}(hp:Sh p)(kn:D×D×D×D×Unit->M D) :
  db (fsD fs) (.int m) (cmb f) (.int a) p kn=match tmI fs.length a p with
   | some (i,t)=>if may m fs (i.toNat,t)then kn (fsD fs,.int m,cmb (f.add ((fs.getD i.toNat (.le (Fm.zero R S))).f) t),.int i,())else .ret .none
   | none=>.ret .none:=by
 unfold db
 by_cases hs:∃x y,p=.tuple [x,y]
 ·obtain⟨x,y,rfl⟩:=hs
  have hx:=hp.t.2 x (by simp)
  have hy:=hp.t.2 y (by simp)
  have l2:(!((([x,y]:List D).length:Int)==(2:Int)))=false:=rfl
  have t1:isT "tuple" (.tuple [x,y])=true:=id rfl
  rw[cg hp.fn,t1]
  simp only[oMS,bdR,ar,ff,hU,neI,l2,dh,eA,gI,mq,zzd,jd hx.nd,cE,Bq,BJ,jd hy.nd]
  rcases ac (sW (a+1) ((fs.length:Int) - 1) x)with qx|qx
  ·obtain⟨i,rfl,b1,b2⟩:=eL qx
   simp only[qx,ar,ff]
   rcases ac (sB y)with qy|qy
   ·obtain⟨t,rfl,c1,c2⟩:=eL qy
    have qy':sW lo 1000000000000000 (.int t)=true:=qy
    have hlo:lo = -1000000000000000:=rfl
    simp only[qy',ar,ff,eqI,oMS,bdR]
    have et:tmI fs.length a (.tuple [.int i,.int t])=if !(t==0)then some (i,t)else none:=by
     show(if sW (a+1) ((fs.length:Int) - 1) (.int i)&&sB (.int t) && !(t==0)then some (i,t)else none)=_
     rw[qx,qy];rfl
    rw[et]
    rcases ac (t==0)with qt|qt
    ·simp only[qt,aw,ar,ff]
    ·simp only[qt,ff,di,aw]
     obtain⟨j,rfl⟩:=ge (show 0<=i by omega)
     have hj:j<fs.length:=by omega
     have hi:aD (fsD fs) (.int (j:Int))=some (fs[j]).d:=tj Fc.d fs j hj
     have hg:(fs.getD j (.le (Fm.zero R S)))=fs[j]:=by rw[al,ax hj];rfl
     have okk:=h fs[j] (pI hj)
     have hgt:lI (.int t) (.int 0)=some (decide (0<t)):=rfl
     rw[show((j:Nat):Int).toNat=j from rfl]
     have em:may m fs (j,t)=match fs[j]with
       | .sa _=>true
       | .le _=>decide (m=0)&&decide (0<t)
       | .re _ q=>decide (m≠0)&&q % m==0:=by
      unfold may cS cq
      rw[ax hj]
      cases fs[j]with
      | sa f=>dsimp only;split<;>rfl
      | le f =>
       dsimp only
       split
       ·rename_i z;rw[de z,ce,decide_eq_decide];omega
       ·rename_i z;rw[eE z];rfl
      | re f q =>
       dsimp only
       split
       ·rename_i z;simp[z]
       ·rename_i z;simp[z]
     rw[em,hg,hi]
     have tl:=DP (k:=fs[j]) (i:=(j:Int)) (t:=t) hf okk.f hR hS rfl (by omega) (by omega) (fd:=fsD fs) (md:=.int m) (kn:=kn)
     rw[oMS,bdR]
     generalize fs[j]=k at tl okk ⊢
     cases k with
     | sa g =>
      have w0:aD (Fc.sa g).d (.int 0)=some (.str "same"):=dh _ _
      simp only[w0,oMS,bdR,v9,aw,cE,ar,ff]
      exact tl
     | le g =>
      have w0:aD (Fc.le g).d (.int 0)=some (.str "least"):=dh _ _
      rcases hm with rfl|hm
      ·rcases ac (decide (0<t))with qp|qp
       ·simp only[w0,oMS,bdR,wl,eqI,beq_self_eq_true,tF,hgt,qp,aw,cE,ar,ff,Js,ke]
        exact tl
       ·simp only[w0,oMS,bdR,wl,eqI,beq_self_eq_true,tF,hgt,qp,aw,cE,di,ff,DI]
      ·have m0:(m==0)=false:=by rw[br];omega
       have m1:decide (m=0)=false:=eE (by omega)
       simp only[w0,oMS,bdR,wl,eqI,m0,m1,aw,cE,di,ff,Et,im]
     | re g q =>
      have w0:aD (Fc.re g q).d (.int 0)=some (.str "rest"):=dh _ _
      have w2:aD (Fc.re g q).d (.int 2)=some (.int q):=gj _ _ _ _
      rcases hm with rfl|hm
      ·simp only[w0,oMS,bdR,wg,yY,eqI,beq_self_eq_true,aw,cE,di,ff,ne_eq,not_true,decide_false,im]
      ·have m0:(m==0)=false:=by rw[br];omega
       have m1:decide (m≠0)=true:=de (by omega)
       rcases ac (q % m==0)with qq|qq
       ·simp only[w0,w2,oMS,bdR,wg,eqI,m0,m1,cE,di,aw,ff,BM,BP _ _ (show 0<m by omega),neI,qq,ar,ce]
        exact tl
       ·simp only[w0,w2,oMS,bdR,wg,eqI,m0,m1,cE,di,aw,ff,BM,BP _ _ (show 0<m by omega),neI,qq,ce]
   ·have qy':sW lo 1000000000000000 y=false:=qy
    simp only[qy',di,aw,bdR]
    have:tmI fs.length a (.tuple [.int i,y])=none:=by
     unfold tmI
     split
     ·rename_i q;cases q;rw[qx,qy];rfl
     ·rfl
    rw[this]
  ·simp only[qx,di,aw]
   have:tmI fs.length a (.tuple [x,y])=none:=by
    unfold tmI
    split
    ·rename_i q;cases q;rw[qx];rfl
    ·rfl
   rw[this]
 ·have e:tmI fs.length a p=none:=by
   unfold tmI
   split
   ·exact absurd ⟨_,_,rfl⟩ hs
   ·rfl
  rw[e,cg hp.fn,oMS,bdR,bdR]
  cases p with
  | tuple ds =>
   have t1:isT "tuple" (.tuple ds)=true:=id rfl
   have l2:(!((ds.length:Int)==(2:Int)))=true:=by
    rw[wP,br]
    intro z
    have hl:ds.length=2:=by omega
    match ds,hl with
    | [x,y],_=>exact hs ⟨x,y,rfl⟩
   rw[t1]
   simp only[ar,ff,hU,oMS,bdR,neI,l2,aw]
  | dict i=>exact absurd hp.nd (by simp[nD])
  | _=>rfl
theorem zf:∀(ps:List D) (a:Int) (f:Fm),FmOk R S f -> -1<=a->(∀p∈ps,Sh p) ->
  eB (λ(s74:D×D×D×D×Unit) d75 kn=>db s74.1 s74.2.1 s74.2.2.1 s74.2.2.2.1 d75 kn) ps (fsD fs,.int m,cmb f,.int a,()) (λs74=>iV s74.1 s74.2.1 s74.2.2.1 s74.2.2.2.1)
   = .ret (match gy fs.length a ps with|some ts=>if ts.all (may m fs)then cmb (ts.foldl (λf t=>f.add ((fs.getD t.1 (.le (Fm.zero R S))).f) t.2) f)else .none|none=>.none)
 | [],a,f,_,_,_=>rfl
 | p::ps,a,f,hf,ha,hp=>by
  show db (fsD fs) (.int m) (cmb f) (.int a) p (λs'=>eB _ ps s' _)=_
  rw[DQ h hR hS hm hf ha (hp p (by simp)),kM]
  rcases lG (tmI fs.length a p)with e|⟨⟨i,t⟩,e⟩
  ·simp only[e]
  ·have hi : -1<=i:=by
    unfold tmI at e
    split at e
    ·split at e
     ·rename_i q
      cases e
      rw[ag,ag]at q
      obtain⟨i',e1,b1,b2⟩:=eL q.1.1
      cases e1
      omega
     ·cases e
    ·cases e
   have ih:=zf ps i (f.add ((fs.getD i.toNat (.le (Fm.zero R S))).f) t) (kU hf (yU h i.toNat) t) hi λq hq=>hp q (by simp[hq])
   simp only[e]
   rw[ih]
   rcases lG (gy fs.length i ps)with e2|⟨ts,e2⟩
   ·simp only[e2,Option.map_none,ite_self]
   ·simp only[e2,wT,ir,Ix]
    rcases ac (may m fs (i.toNat,t))with q|q
    ·simp only[q,aw,ce]
    ·simp only[q,ff,im]
end
theorem Hg(k:Nat)(h:k<=1000):qu (.list [.int 0]) (.int k)=some (iL (List.replicate k 0)):=by
 have h1:decide (-(2^63)<=(k:Int))=true:=de (by omega)
 have h2:decide ((k:Int)<2^63)=true:=de (by omega)
 have h3:decide (([PyData.int 0]:List D).length*(k:Int).toNat<=sizeLine)=true:=de (by simp;exact eg h (by decide))
 have:∀k:Nat,(List.replicate k [PyData.int 0]).flatten=iL (List.replicate k 0):=λk=>by
  induction k with
  | zero=>rfl
  | succ k ih=>rw[gt,pi,ih];rfl
 have hb:(decide (-(2^63)<=(k:Int))&&decide ((k:Int)<2^63)&&decide (([PyData.int 0]:List D).length*(k:Int).toNat<=sizeLine))=true:=by
  rw[h1,h2,h3];rfl
 unfold qu
 simp only[hb,aw]
 rw[lu,this]
def cmO(R S:Nat)(fs:List Fc)(m:Int)(d:D):Option Fm:=match d with
 | .tuple ps=>match gy fs.length (-1) ps with
  | some ts=>if ts.all (may m fs)then some (sumF R S fs ts)else none
  | none=>none
 | _=>none
def cmD:Option Fm->D
 | some f=>cmb f
 | none=>.none
section
variable {fs:List Fc} (h:∀k∈fs,FcOk R S k) (hR:R<=100) (hS:S<=100) {m:Int} (hm:m=0\/2<=m)
include h hR hS hm
theorem qI{d:D}(hd:Sh d):d7 (sz R S) (fsD fs) d (.int m)=.ret (cmD (cmO R S fs m d)):=by
 unfold d7
 rw[cg hd.fn,oMS,bdR,bdR]
 cases d with
 | tuple ps =>
  have t1:isT "tuple" (.tuple ps)=true:=id rfl
  have z0:aD (sz R S) (.int 0)=some (.int R):=rfl
  have z1:aD (sz R S) (.int 1)=some (.int S):=rfl
  have ea:aX (.int (R:Int)) (.int (S:Int))=some (.int ((R+S:Nat):Int)):=by rw[gI];simp
  rw[t1]
  simp only[ar,ff]
  rw[z0,oMS,bdR,z1,oMS,bdR,ea,oMS,bdR,Hg (R+S) (by omega),oMS,bdR,bdR,bdR,hC,oMS,bdR,lB,oMS,bdR,gu]
  have hz:(PyData.tuple [.int 0,.list (iL (List.replicate (R+S) 0))])=cmb (Fm.zero R S):=by
   show _=PyData.tuple [.int 0,.list (iL (List.replicate R 0++List.replicate S 0))]
   rw[List.replicate_append_replicate]
  rw[hz]
  rw[zf h hR hS hm ps (-1) (Fm.zero R S) (jv R S) (by omega) hd.t.2]
  unfold cmO
  dsimp only
  rcases lG (gy fs.length (-1) ps)with e|⟨ts,e⟩
  ·simp only[e]
   rfl
  ·simp only[e]
   rcases ac (ts.all (may m fs))with q|q
   ·simp only[q,aw]
    rfl
   ·simp only[q,ff]
    rfl
 | dict i=>exact absurd hd.nd (by simp[nD])
 | _=>rfl
end
theorem Cs(R S:Nat)(fs:List Fc)(d:D):gX R S fs d=match cmO R S fs 0 d with
  | some f=>decide (f.c<0)&&(f.i++f.o).all λx=>decide (x<=0)
  | none=>false:=by
 unfold gX cmO
 cases d with
 | tuple ps =>
  dsimp only
  cases gy fs.length (-1) ps with
  | none=>rfl
  | some ts =>
   dsimp only
   rw[show(may 0 fs)=cS fs from funext λt=>rfl]
   rcases ac (ts.all (cS fs))with q|q
   ·simp only[q,aw,ce]
   ·simp only[q,ff,im]
 | _=>rfl
theorem Ar(R S:Nat)(fs:List Fc){m:Int}(hm:2<=m)(h99:sW 2 99 (.int m)=true)(d:D):dI R S fs (.int m) d=match cmO R S fs m d with
  | some f=>!(f.c % m==0)&&(f.i++f.o).all λx=>x % m==0
  | none=>false:=by
 unfold dI cmO
 cases d with
 | tuple ps =>
  dsimp only
  rw[h99]
  cases gy fs.length (-1) ps with
  | none=>rfl
  | some ts =>
   dsimp only
   rw[show(may m fs)=cq m fs from funext λt=>by unfold may;rw[ef (by omega)]]
   rcases ac (ts.all (cq m fs))with q|q
   ·simp only[q,aw,ce]
   ·simp only[q,ff,im,DI]
 | _=>rfl
theorem Cm{fs:List Fc}(h:∀k∈fs,FcOk R S k){m:Int}{d:D}{f:Fm}(e:cmO R S fs m d=some f):FmOk R S f:=by
 unfold cmO at e
 split at e
 ·split at e
  ·split at e
   ·cases e
    exact mn h _ _ (jv R S)
   ·cases e
  ·cases e
 ·cases e
def unB:D->Bool
 | .bool b=>b
 | _=>false
theorem BH(l:List Bool):jF (.bool false) (.list (l.map PyData.bool))=some (l.all λb=>b):=by
 have e:=oz (l.map PyData.bool) unB
 rw[pr,ul]at e
 have e1:l.map ((λd=>PyData.bool (unB d))∘PyData.bool)=l.map PyData.bool:=su λb _=>rfl
 rw[e1]at e
 exact e
theorem zW(l:List Bool):PyData.canLayAll0 (l.map PyData.bool)=true:=mQ λd hd=>by
 obtain⟨x,_,rfl⟩:=List.mem_map.mp hd
 simp[PyData.canLay0]
theorem FE(l:List Bool):fi (.list (l.map PyData.bool)) (.list [])=some (!l.isEmpty):=by
 have hd:PyData.depthAll (l.map PyData.bool)<=1:=mT λd hd=>by
  obtain⟨x,_,rfl⟩:=List.mem_map.mp hd
  simp[PyData.depth]
 have h2:(PyData.list (l.map PyData.bool)).depth<=1000:=by simp only[PyData.depth];omega
 unfold fi qN
 rw[be (by simp[PyData.canLay0,zW,h2,PyData.canLayAll0])]
 cases l<;>simp[PyData.eqv,PyData.eqvAll]
theorem FD(l:List Int):fi (.list (iL l)) (.list [])=some (!l.isEmpty):=by
 have hl:PyData.canLayAll0 (iL l)=true:=mQ λd hd=>by
  obtain⟨x,_,rfl⟩:=List.mem_map.mp hd
  simp[PyData.canLay0]
 have hd:PyData.depthAll (iL l)<=1:=mT λd hd=>by
  obtain⟨x,_,rfl⟩:=List.mem_map.mp hd
  simp[PyData.depth]
 have h2:(PyData.list (iL l)).depth<=1000:=by simp only[PyData.depth];omega
 unfold fi qN
 rw[be (by simp[PyData.canLay0,hl,h2,PyData.canLayAll0])]
 cases l<;>simp[PyData.eqv,PyData.eqvAll]
theorem tq:∀l:List Int,intsOf (iL l)=some l
 | []=>rfl
 | a::l=>by
  show(match intsOf (iL l)with|some l=>some (a::l)|none=>none)=_
  rw[tq l]
theorem max_le{l:List Int}(h:l≠[]):∃v,Ad [.list (iL l)]=some (.int v)/\decide (v<=0)=l.all λx=>decide (x<=0):=by
 obtain⟨h1,h2⟩:=td h
 refine⟨vW l,?_,?_⟩
 ·cases l with
  | nil=>exact absurd rfl h
  | cons a r =>
   show(match intsOf (iL (a::r))with|some (n::r)=>some (PyData.int (vW (n::r)))|_=>none)=_
   rw[tq]
 ·rw[ID,zzi,List.all_eq_true]
  constructor
  ·intro q x hx
   have:=h1 x hx
   rw[zzi];omega
  ·intro q
   have:=q _ h2
   rwa [zzi]at this
theorem yL(i:Nat):bX (i+1)=eI (bX i) (hZ i):=rfl
theorem Dy(i:Nat):hZ (i+1)=iF (bX i):=rfl
def PL(R S n i:Nat):Prop:=∀(fs:List Fc) (d:D),Sh d->(∀k∈fs,FcOk R S k)->fs.length+n<=1000->bX i (sz R S) (fsD fs) d (.int (31 - (n:Int)))=.ret (.bool (rf R S n fs d))
section
variable (hR:R<=100) (hS:S<=100)
theorem PL.at(hp:PL R S n i){fs:List Fc}(hf:∀k∈fs,FcOk R S k)(hl:fs.length+1+n<=1000){k:Fc}(hk:FcOk R S k){d:D}(hd:Sh d):bX i (sz R S) (fsD (fs++[k])) d (.int (31 - (n:Int)))=.ret (.bool (rf R S n (fs++[k]) d)) :=
 hp (fs++[k]) d hd (λq h=>(List.mem_append.mp h).elim (hf q) λz=>by rw[List.mem_singleton.mp z];exact hk) (by rw[zzf];simp only[bu,tt];omega)
include hR hS
theorem vX{fs:List Fc}(hp:PL R S n i)(hf:∀k∈fs,FcOk R S k)(hl:fs.length+1+n<=1000){k:Fc}(hk:FcOk R S k){d:D}(hd:Sh d) :
  hZ (i+1) (sz R S) (fsD fs) k.d d (.int (31 - (n:Int)))=.ret (.bool (shB R S n fs k d)):=by
 rw[Dy]
 unfold iF
 rw[rR hk hR hS,bdR,cg hd.fn,oMS,bdR,bdR]
 cases d with
 | tuple ps =>
  have t1:isT "tuple" (.tuple ps)=true:=id rfl
  rw[t1]
  unfold shB
  dsimp only
  simp only[ar,ff,hU,BX,oMS,bdR,neI,zzd]
  by_cases hq:ps.length=(cI k).length
  ·have e:((ps.length:Int)==((cI k).length:Int))=true:=by rw[hq];simp
   have dl:=Cj hk
   simp only[e,ar,ff,de hq,ce]
   rw[eh (cI k).length (by omega),oMS,bdR]
   have hz:((cI k).zip ps).length=(cI k).length:=by rw[List.length_zip,hq,Nat.min_self]
   have hc:=cn (step:=λd8=>bd (bd (bd (bd (oM (aD (.list ((cI k).map Fc.d)) d8)) λx9=>.ret (.tuple [x9])) λx10=>oM (aX (fsD fs) x10)) λx11=>bd (oM (aD (.tuple ps) d8)) λx12=>bX i (sz R S) x11 x12 (.int (31 - (n:Int)))) λx13=>.ret (some x13)) (e:=iN)
    (g:=λj=>PyData.bool ((((cI k).zip ps).map λp=>rf R S n (fs++[p.1]) p.2).getD j false)) (List.range (cI k).length) λj hj=>by
    have hj:=List.mem_range.mp hj
    have hj2:j<ps.length:=by omega
    have i1:aD (.list ((cI k).map Fc.d)) (.int (j:Int))=some (cI k)[j].d:=Ez Fc.d (cI k) j hj
    have i2:aD (.tuple ps) (.int (j:Int))=some ps[j]:=ixT ps j hj2
    rw[i1,oMS,bdR,bdR,CK fs _ (by omega),oMS,bdR,i2,oMS,bdR,hp.at hf hl (y0 hk _ (pI hj)) (hd.t.2 _ (pI hj2)),bdR,al,ou,ax (by rw[hz];exact hj)]
    simp
   have hm:(List.range (cI k).length).map (λj=>PyData.bool ((((cI k).zip ps).map λp=>rf R S n (fs++[p.1]) p.2).getD j false))=(((cI k).zip ps).map λp=>rf R S n (fs++[p.1]) p.2).map PyData.bool:=by
    apply JF
    ·simp[hq]
    ·intro j q1 q2
     rw[zzd,zzd]at q2
     rw[og,og,Jq,al,ax (by rw[zzd];exact q2)]
     rfl
   rw[hc,bdR,cM (by rw[zzd,ic];omega),bdR,bdR,hm,BH,oMS,bdR,bdR,ul]
   rfl
  ·have e:((ps.length:Int)==((cI k).length:Int))=false:=by rw[br];omega
   simp only[e,di,aw,eE hq,im]
 | dict i=>exact absurd hd.nd (by simp[nD])
 | _=>rfl
theorem xG{fs:List Fc}{w a b c:D}(hw:Sh w)(ha:Sh a)(hb:Sh b)(hc:Sh c)(hs:sS "split" w=true\/sS "cases" w=true) :
  fg (sz R S) (.tuple [w,a,b,c])=.ret (.list (((brL R S n fs w a b c).getD []).map prD)):=by
 unfold fg
 have e4:(!((([w,a,b,c]:List D).length:Int)==(4:Int)))=false:=rfl
 have ix3:aD (.tuple [w,a,b,c]) (.int 3)=some c:=ixT [w,a,b,c] 3 (by simp)
 rw[hU,oMS,bdR,neI,oMS,bdR,e4,ff]
 simp only[dh,eA,gj,ix3,oMS,bdR,lR ha,cE,eqS hw]
 rcases lG (gA R S a)with e|⟨f,e⟩
 ·have hn:brL R S n fs w a b c=none:=by
   unfold brL csL
   rcases ac (sS "split" w)with q|q
   ·simp only[q,aw,e,Option.map_none]
   ·rcases hs with h|h
    ·rw[q]at h;cases h
    ·simp only[q,h,ff,aw,e]
  rw[hn]
  simp only[kN e,di,aw]
  rfl
 ·obtain⟨rfl,ok,hsf⟩:=e9 e
  have l1:f.i.length<=1000:=by rw[ok.i];omega
  have l2:f.o.length<=1000:=by rw[ok.o];omega
  simp only[hsf,ar,ff]
  unfold brL
  rcases ac (sS "split" w)with q|q
  ·simp only[q,aw,e,hC,oMS,bdR]
   rw[BV l1 l2,bdR,bdR,bdR,bdR,bdR]
   rfl
  ·have q2:sS "cases" w=true:=by
    rcases hs with h|h
    ·rw[q]at h;cases h
    ·exact h
   simp only[q,q2,ff,aw,jd hb.nd,cE,bdR,oMS]
   unfold csL
   rcases ac (sW 2 9 b)with qb|qb
   ·obtain⟨m,rfl,m1,m2⟩:=eL qb
    obtain⟨j,rfl⟩:=ge (show 0<=m by omega)
    simp only[qb,ar,ff,e,ce]
    rw[cg hc.fn,oMS,bdR,bdR]
    cases c with
    | tuple ps =>
     have t1:isT "tuple" (.tuple ps)=true:=id rfl
     rw[t1]
     simp only[ar,ff,hU,oMS,bdR,neI]
     by_cases hq:ps.length=j
     ·have z1:((ps.length:Int)==(j:Int))=true:=by rw[hq];simp
      have z2:decide ((ps.length:Int)=(j:Int))=true:=de (by omega)
      simp only[z1,z2,qb,ar,ff,aw,ke,Option.getD_some]
      rw[eh j (by omega),oMS,bdR]
      have hcc:=cn (step:=λd33=>bd (bd (bd (cf f.d (.int 1) d33) λx35=>.ret (.tuple [.str "rest",x35,.int (j:Int)])) λx37=>bd (oM (aD (.tuple ps) d33)) λx39=>.ret (.tuple [x37,x39])) λx40=>.ret (some x40)) (e:=iN) (g:=λt=>prD (Fc.re (f.plus (-(t:Int))) j,ps.getD t .none)) (List.range j) λt ht=>by
       have ht:=List.mem_range.mp ht
       have ht2:t<ps.length:=by omega
       have i2:aD (.tuple ps) (.int (t:Int))=some ps[t]:=ixT ps t ht2
       rw[BW (t:Int) l1 l2,bdR,bdR,i2,oMS,bdR,bdR,al,ax ht2]
       rfl
      rw[hcc,bdR,cM (by rw[zzd,ic];omega),bdR,bdR]
      have hm:(List.range j).map (λt:Nat=>prD (Fc.re (f.plus (-(t:Int))) j,ps.getD t .none))=(ps.zipIdx.map λp=>(Fc.re (f.plus (-(p.2:Int))) (j:Int),p.1)).map prD:=by
       apply JF
       ·simp[hq]
       ·intro t q1 q2
        rw[zzd,ic]at q1
        rw[og,og,og,Jq,List.getElem_zipIdx,al,ax (by omega)]
        simp
      rw[hm]
     ·have z1:((ps.length:Int)==(j:Int))=false:=by rw[br];omega
      have z2:decide ((ps.length:Int)=(j:Int))=false:=eE (by omega)
      simp only[z1,z2,di,aw,DI,ff]
      rfl
    | dict i=>exact absurd hc.nd (by simp[nD])
    | _=>rfl
   ·simp only[qb,di,aw,bdR,e]
    cases b with
    | int m =>
     cases c with
     | tuple ps=>simp only[qb,im,ff];rfl
     | _=>rfl
    | _=>rfl
end
theorem Bb{fs:List Fc}{w:D}{r:List D}(h:isT "str" w=false):rf R S n fs (.tuple (w::r))=false:=by
 cases n with
 | zero=>rfl
 | succ n =>
  cases w with
  | str s=>exact absurd h (by rw[show isT "str" (.str s)=true from rfl];decide)
  | _=>rfl
theorem inW{d:D}(h:Sh d):lh d (.list [(.str "split"),(.str "cases")])=some (sS "split" d||sS "cases" d):=by
 have hw:PyData.canLayAll0 [(.str "split"),(.str "cases")]=true:=by simp[PyData.canLayAll0,PyData.canLay0,cQ]
 have hi:iH d [(.str "split"),(.str "cases")]=true:=by unfold iH;simp[h.lay,h.deep,hw]
 have he:([(.str "split"),(.str "cases")]:List D).any (λy=>PyData.eqv y d)=(sS "split" d||sS "cases" d):=by
  cases d<;>simp[PyData.eqv,sS]
  rename_i s
  have e:∀a b:Str,(a==b)=(b==a):=λa b=>by
   rw[ID];simp;exact eq_comm
  rw[e,e (Str.ofString "cases")]
 show(if iH _ _ then _ else none)=_
 rw[be hi,he]
theorem Ge{fs:List Fc}{w a b c:D}{ps:List (Fc×D)}(h:brL R S n fs w a b c=some ps):ps.isEmpty=false/\ps.length<=9:=by
 unfold brL csL at h
 split at h
 ·obtain⟨f,hf,rfl⟩:=Option.map_eq_some_iff.mp h
  exact⟨rfl,by simp⟩
 ·split at h
  ·split at h
   ·rename_i f m xs hf
    split at h
    ·rename_i hq
     cases h
     rw[ag,zzi]at hq
     obtain⟨m',e,b1,b2⟩:=eL hq.1
     cases e
     refine⟨?_,by rw[zzd,List.length_zipIdx];omega⟩
     cases xs with
     | nil=>have:=hq.2;simp at this;omega
     | cons x xs=>rfl
    ·cases h
   ·cases h
  ·split at h
   ·split at h
    ·split at h
     ·cases h;exact⟨rfl,by simp⟩
     ·cases h
    ·cases h
   ·cases h
def noD(m:Int)(x:Int):Option Int:=if x % m==0 then none else some x
theorem B9(m:Int):∀l:List Int,l.filterMap (λx=>(noD m x).map PyData.int)=iL (l.filterMap (noD m))
 | []=>rfl
 | a::l=>by
  have ih:=B9 m l
  rw[ot,ot,ih]
  cases noD m a<;>rfl
theorem IJ(l:List Int)(m:Int)(hm:0<m):bH (λd34=>bd (bd (oM (fQ d34 (.int m))) λx36=>oM (fi x36 (.int 0))) λb37=>if b37 then .ret (some d34)else .ret none) (iL l)=.ret (iL (l.filterMap (noD m))):=by
 rw[wv (g:=λx=>(noD m x).map PyData.int) l λx _=>by
  rw[kx _ _ hm,oMS,bdR,neI,oMS,bdR]
  unfold noD
  cases (x % m==0)<;>rfl,B9]
theorem yG(m:Int):∀l:List Int,(l.filterMap (noD m)).isEmpty=l.all λx=>x % m==0
 | []=>rfl
 | a::l=>by
  have ih:=yG m l
  rw[ot,ir]
  unfold noD at ih ⊢
  rcases ac (a % m==0)with q|q
  ·simp only[q,aw,ce];exact ih
  ·simp only[q,ff,im];rfl
section
variable (hR:R<=100) (hS:S<=100) (hRS:1<=R+S)
include hR hS hRS
theorem xm:∀(n i:Nat),2*n+1<=i->n<=31->PL R S n i
 | 0,i+1,_,_=>λfs d hd hf hl=>by
  rw[yL]
  unfold eI
  rw[show lI (.int (31 - ((0:Nat):Int))) (.int 30)=some true from rfl,oMS,bdR]
  rfl
 | n+1,i+1,hi,hn=>λfs d hd hf hl=>by
  have ih0:PL R S n i:=xm n i (by omega) (by omega)
  have ih1:PL R S n (i - 1):=xm n (i - 1) (by omega) (by omega)
  obtain⟨j,rfl⟩:∃j,i=j+1:=⟨i - 1,by omega⟩
  rw[Nat.add_sub_cancel]at ih1
  rw[yL]
  unfold eI
  have hg:lI (.int (31 - ((n+1:Nat):Int))) (.int 30)=some false:=by
   rw[show lI (.int (31 - ((n+1:Nat):Int))) (.int 30)=some (decide ((30:Int)<31 - ((n+1:Nat):Int)))from rfl,eE (by omega)]
  have hdp:aX (.int (31 - ((n+1:Nat):Int))) (.int 1)=some (.int (31 - (n:Int))):=by rw[gI,show(31:Int) - ((n+1:Nat):Int)+1=31 - (n:Int) by omega]
  rw[hg,oMS,bdR,ff,cg hd.fn,oMS,bdR,bdR]
  cases d with
  | tuple ds =>
   have t1:isT "tuple" (.tuple ds)=true:=id rfl
   rw[t1]
   simp only[ar,ff,hU,oMS,bdR,ltI]
   match ds,hd with
   | [],_=>rfl
   | [w],_=>cases w<;>rfl
   | w::a::r,hd =>
    have hw:=hd.t.2 w (by simp)
    have ha:=hd.t.2 a (by simp)
    have e0:decide (((w::a::r).length:Int)<2)=false:=eE (by simp only[bu];omega)
    simp only[e0,ff,dh,eA,oMS,bdR,cg hw.fn,eqS hw]
    rcases ac (isT "str" w)with qs|qs
    ·simp only[qs,ar,ff]
     rcases ac (sS "sum" w)with q|q
     ·simp only[q,aw]
      have:=kj q;subst this
      rw[qI hf hR hS (.inl rfl) ha,bdR,eqI,oMS,bdR]
      match r with
      | [] =>
       have e2:((([PyData.str "sum",a]:List D).length:Int)==2)=true:=rfl
       rw[e2,be rfl,show rf R S (n+1) fs (.tuple [.str "sum",a])=gX R S fs a from rfl,Cs]
       rcases lG (cmO R S fs 0 a)with e|⟨f,e⟩
       ·rw[e];rfl
       ·have ok:=Cm hf e
        have hne:f.i++f.o≠[]:=λz=>by
         have:=congrArg List.length z
         rw[zzf,ok.i,ok.o]at this
         simp at this
         omega
        obtain⟨v,e1,e2⟩:=max_le hne
        simp only[e,cmD]
        have x0:aD (cmb f) (.int 0)=some (.int f.c):=rfl
        have x1:aD (cmb f) (.int 1)=some (.list (iL (f.i++f.o))):=rfl
        rw[show lH (cmb f) .none=some true from rfl,oMS,bdR,be rfl,x0,oMS,bdR,ltI,oMS,bdR,x1,oMS,bdR,e1,oMS,bdR,leI,oMS,e2,uK,bdR,bdR]
      | b::r =>
       have e2:(((PyData.str "sum" :: a::b::r).length:Int)==2)=false:=by rw[br];simp only[bu];omega
       rw[e2,ff,bdR,bdR]
       match r with
       | []=>rfl
       | [c]=>rfl
       | c::e::r=>rfl
     ·simp only[q,ff]
      rcases ac (sS "rest" w)with q2|q2
      ·simp only[q2,aw]
       have:=kj q2;subst this
       rw[neI,oMS,bdR]
       match r,hd with
       | [],_=>rfl
       | [b],hd =>
        have hb:=hd.t.2 b (by simp)
        have e2:(!((([PyData.str "rest",a,b]:List D).length:Int)==3))=false:=rfl
        rw[e2,ff,jd ha.nd,bdR,cE,oMS,bdR,bdR,show rf R S (n+1) fs (.tuple [.str "rest",a,b])=dI R S fs a b from rfl]
        rcases ac (sW 2 99 a)with qa|qa
        ·obtain⟨m,rfl,m1,m2⟩:=eL qa
         simp only[qa,ar,ff,gj,oMS,bdR]
         rw[qI hf hR hS (.inr m1) hb,bdR,Ar R S fs m1 qa]
         rcases lG (cmO R S fs m b)with e|⟨f,e⟩
         ·rw[e];rfl
         ·simp only[e,cmD]
          have ok:=Cm hf e
          have x0:aD (cmb f) (.int 0)=some (.int f.c):=rfl
          have x1:aD (cmb f) (.int 1)=some (.list (iL (f.i++f.o))):=rfl
          have hl:((f.i++f.o).filterMap (noD m)).length<=200:=eg (List.length_filterMap_le _ _) (by rw[zzf,ok.i,ok.o];omega)
          rw[show kq (cmb f) .none=some false from rfl,oMS,bdR,ff,x1,oMS,bdR,E1,oMS,bdR,IJ _ _ (by omega),bdR,cM (by rw[zzd];omega),bdR,bdR,FD,oMS,bdR,yG]
          rcases ac ((f.i++f.o).all λx=>x % m==0)with qq|qq
          ·simp only[qq,ar,ff,ke]
           rw[x0,oMS,bdR,kx _ _ (by omega),oMS,bdR,neI,oMS,bdR,bdR]
          ·simp only[qq,di,aw,DI]
        ·simp only[qa,di,aw]
         unfold dI
         cases a with
         | int m =>
          cases b with
          | tuple ps=>dsimp only;rw[qa];rfl
          | _=>rfl
         | _=>rfl
       | [b,c],_=>rfl
       | b::c::e::r,_ =>
        have:(!(((PyData.str "rest" :: a::b::c::e::r).length:Int)==3))=true:=by
         rw[wP,br];simp only[bu];omega
        rw[this]
        rfl
      ·simp only[q2,ff]
       by_cases h4:∃b c,r=[b,c]
       ·obtain⟨b,c,rfl⟩:=h4
        have hb:=hd.t.2 b (by simp)
        have hc:=hd.t.2 c (by simp)
        have ix3:aD (.tuple [w,a,b,c]) (.int 3)=some c:=ixT [w,a,b,c] 3 (by simp)
        have e4:(!((([w,a,b,c]:List D).length:Int)==(4:Int)))=false:=rfl
        have er:rf R S (n+1) fs (.tuple [w,a,b,c])=match brL R S n fs w a b c with|some ps=>ps.all λp=>rf R S n (fs++[p.1]) p.2|none=>false:=by
         cases w with
         | str s=>exact iK R S n fs s a b c
         | _=>rfl
        rw[er]
        rcases ac (sS "know" w)with q3|q3
        ·have:=kj q3;subst this
         simp only[q3,aw,neI,oMS,bdR,e4,ff,xH ha,cE,gj,ix3]
         unfold brL
         rw[show sS "split" (.str "know")=false from by decide +kernel,show sS "cases" (.str "know")=false from by decide +kernel,show sS "know" (.str "know")=true from by decide +kernel,ff,ff,be rfl]
         rcases lG (jw R S a)with e|⟨k,e⟩
         ·simp only[e,sD e,di,aw]
         ·obtain⟨rfl,ok,hs⟩:=mX e
          simp only[e,hs,ar,ff,hdp,oMS,bdR]
          rw[vX hR hS ih1 hf (by omega) ok hb,bdR,fS,bdR]
          rcases ac (shB R S n fs k b)with q|q
          ·simp only[q,aw]
           rw[CK fs k (by omega),oMS,bdR,ih0.at hf (by omega) ok hc,bdR,fS,bdR,bdR]
           simp only[ir,zi,ke]
          ·simp only[q,ff]
           rfl
        ·simp only[q3,ff,inW hw,oMS,bdR]
         rcases ac (sS "split" w||sS "cases" w)with q4|q4
         ·simp only[q4,aw]
          rw[xG (n:=n) (fs:=fs) hR hS hw ha hb hc (by simpa using q4),bdR]
          rcases lG (brL R S n fs w a b c)with e|⟨ps,e⟩
          ·rw[e];rfl
          ·simp only[e,Option.getD_some]
           have hok:=Cu hR hS hb hc e
           obtain⟨hne,hln⟩:=Ge e
           have hcc:=cn (step:=λd72=>un2 d72 λy73 y74=>bd (bd (oM (aX (fsD fs) (.tuple [y73]))) λx75=>bd (oM (aX (.int (31 - ((n+1:Nat):Int))) (.int 1))) λx76=>bX (j+1) (sz R S) x75 y74 x76) λx77=>.ret (some x77)) (e:=prD) (g:=λp=>PyData.bool (rf R S n (fs++[p.1]) p.2)) ps λp hp=>by
            obtain⟨k1,k2⟩:=hok p hp
            rw[gJ,CK fs p.1 (by omega),oMS,bdR,hdp,oMS,bdR,ih0.at hf (by omega) k1 k2,bdR]
           rw[E1,oMS,bdR,hcc,bdR,cM (by rw[zzd];omega),bdR,bdR]
           rw[show ps.map (λp=>PyData.bool (rf R S n (fs++[p.1]) p.2))=(ps.map λp=>rf R S n (fs++[p.1]) p.2).map PyData.bool by rw[pr];rfl,FE,oMS,bdR,List.isEmpty_map,hne,be (by decide),BH,oMS,bdR,bdR,ul]
           rfl
         ·simp only[q4,ff]
          have e:brL R S n fs w a b c=none:=by
           rw[Bool.or_eq_false_iff]at q4
           unfold brL
           rw[q4.1,q4.2,q3,ff,ff,ff]
          rw[e]
          rfl
       ·have h4l:(!(((w::a::r).length:Int)==(4:Int)))=true:=by
         rw[wP,br]
         intro z
         have hl:r.length=2:=by simp only[bu]at z;omega
         match r,hl with
         | [b,c],_=>exact h4 ⟨b,c,rfl⟩
        have er:rf R S (n+1) fs (.tuple (w::a::r))=false:=by
         cases w with
         | str s =>
          match r with
          | []=>show((s == "sum")&&_)=false;rw[show(s == "sum")=sS "sum" (.str s)from rfl,q];rfl
          | [b]=>show((s == "rest")&&_)=false;rw[show(s == "rest")=sS "rest" (.str s)from rfl,q2];rfl
          | [b,c]=>exact absurd ⟨b,c,rfl⟩ h4
          | b::c::e::r=>rfl
         | _=>rfl
        rw[er]
        rcases ac (sS "know" w)with q3|q3
        ·simp only[q3,aw,neI,oMS,bdR,h4l]
        ·simp only[q3,ff,inW hw,oMS,bdR]
         have hwy:fg (sz R S) (.tuple (w::a::r))=.ret (.list []):=by
          unfold fg
          rw[hU,oMS,bdR,neI,oMS,bdR,h4l,be rfl,bdR,be rfl]
         rw[hwy,ite_self,bdR]
         rfl
    ·simp only[qs,di,aw]
     rw[Bb qs]
  | dict i=>exact absurd hd.nd (by simp[nD])
  | _=>rfl
theorem rQ{fs:List Fc}{d:D}(hd:Sh d)(hf:∀k∈fs,FcOk R S k)(hl:fs.length<=900):bX 65 (sz R S) (fsD fs) d (.int 1)=.ret (.bool (rf R S 30 fs d)):=by
 have:=xm hR hS hRS 30 65 (by omega) (by omega) fs d hd hf (by omega)
 rw[show(.int 1:D)=.int (31 - ((30:Nat):Int))from rfl,this]
end
mutual
def Sk(B:Nat):D->Prop
 | .list ds=>Sks B ds
 | .tuple ds=>Sks B ds
 | .none=>True
 | .bool _=>True
 | .int i=>i.natAbs<B
 | .str s=>dn s=true
 | .dict _=>False
def Sks(B:Nat):List D->Prop
 | []=>True
 | d::r=>Sk B d/\Sks B r
end
theorem vd{B:Nat}:∀{ds:List D},Sks B ds↔∀d∈ds,Sk B d
 | []=>by simp[Sks]
 | e::r=>by
  simp only[Sks,ak,forall_eq_or_imp]
  rw[vd]
theorem skT{ds:List D}:Sk B (.tuple ds)↔∀d∈ds,Sk B d:=by simp only[Sk];exact vd
theorem skL{ds:List D}:Sk B (.list ds)↔∀d∈ds,Sk B d:=by simp only[Sk];exact vd
theorem skI{i:Int}:Sk B (.int i)↔i.natAbs<B:=by simp only[Sk]
theorem skW{s:Str}(h:dn s=true):Sk B (.str s):=by simp only[Sk];exact h
mutual
theorem Sk.le{C:Nat}(hl:B<=C):∀{d:D},Sk B d->Sk C d
 | .list ds,h=>by simp only[Sk]at h ⊢;exact Sks.le hl h
 | .tuple ds,h=>by simp only[Sk]at h ⊢;exact Sks.le hl h
 | .none,h=>by simp only[Sk]
 | .bool _,h=>by simp only[Sk]
 | .int i,h=>by simp only[Sk]at h ⊢;omega
 | .str s,h=>by simp only[Sk]at h ⊢;exact h
 | .dict _,h=>by simp only[Sk]at h
theorem Sks.le{C:Nat}(hl:B<=C):∀{ds:List D},Sks B ds->Sks C ds
 | [],h=>by simp only[Sks]
 | d::r,h=>by simp only[Sks]at h ⊢;exact⟨Sk.le hl h.1,Sks.le hl h.2⟩
end
mutual
theorem Sk.sm(hl:B<=10^19):∀{d:D},Sk B d->Sm d
 | .list ds,h=>by simp only[Sk]at h;simp only[Sm];exact Sks.sm hl h
 | .tuple ds,h=>by simp only[Sk]at h;simp only[Sm];exact Sks.sm hl h
 | .none,h=>by simp only[Sm]
 | .bool _,h=>by simp only[Sm]
 | .int i,h=>by simp only[Sk]at h;simp only[Sm];omega
 | .str s,h=>by simp only[Sk]at h;simp only[Sm];exact h
 | .dict _,h=>by simp only[Sk]at h
theorem Sks.sm(hl:B<=10^19):∀{ds:List D},Sks B ds->Sms ds
 | [],h=>by simp only[Sms]
 | d::r,h=>by simp only[Sks]at h;simp only[Sms];exact⟨Sk.sm hl h.1,Sks.sm hl h.2⟩
end
theorem gZ:∀a b:List D,L4.szs (a++b)=L4.szs a+L4.szs b
 | [],b=>by simp[L4.szs]
 | d::r,b=>by simp only[rn,L4.szs];rw[gZ r b];omega
theorem tU(ds:List D)(n:Nat):L4.szs (ds.take n)+L4.szs (ds.drop n)=L4.szs ds:=by
 rw[<-gZ,List.take_append_drop]
theorem EV{ds:List D}(h:n<ds.length):L4.szs (ds.take n)+L4.sz ds[n]+L4.szs (ds.drop (n+1))=L4.szs ds:=by
 have:=tU ds n
 rw[At h]at this
 simp only[L4.szs]at this
 omega
theorem yq:∀ds:List D,L4.szs ds.reverse=L4.szs ds
 | []=>rfl
 | d::r=>by rw[DE,gZ,yq r];simp only[L4.szs];omega
theorem dp_tuple{ds:List D}:(PyData.tuple ds).depth<=n+1↔∀d∈ds,d.depth<=n:=by
 constructor
 ·intro h d hd
  simp only[PyData.depth]at h
  exact xR (by omega) hd
 ·intro h
  have:=mT h
  simp only[PyData.depth];omega
theorem px{ds:List D}:(PyData.list ds).depth=(PyData.tuple ds).depth:=by simp only[PyData.depth]
structure Bd(B:Nat)(d r:D):Prop where
 sk:Sk (3*B) r
 sz:L4.sz r<=2*L4.sz d+2
 dp:r.depth<=d.depth+1
theorem Av(a b:List D)(h:a.length+b.length<=100000):aX (.tuple a) (.tuple b)=some (.tuple (a++b)):=be (eg h (by decide))
theorem menu{f:List D}{P:D->Prop}{m:List D}{b:Nat}(hm:m.length=b)(hb:0<b)(hb2:b<1000)(h:∀d∈m,P d)(hf:Fd T f)(hT:T<=100000) :
  ∃(r:Int) (x:D) (f':List D),aH f (.int b)=.ret (.int r,f')/\aD (.list m) (.int r)=some x/\P x/\Fd (T+1) f':=by
 obtain⟨r,f',t1,t2,t3,t4⟩:=cF hf (by omega) (m:=b) (by omega) (by omega)
 obtain⟨x,hx,e⟩:=Cy m r t2 (by omega)
 exact⟨r,x,f',t1,e,h x hx,t4⟩
theorem Ci(ds:List D):1<=(PyData.tuple ds).depth:=by simp only[PyData.depth];omega
theorem FA{f:List D}{d:D}(hB:1000000000000002<=B)(h:Sk B d)(hl:L4.sz d<=30000)(hf:Fd T f)(hT:T<=90000) :
  ∃r f',d6 f d=.ret (r,f')/\Bd B d r/\Fd (T+2) f':=by
 have w0:∀(s:String),dn s=true->Bd B d (.str s):=λs hs=>⟨skW hs,by simp only[L4.sz];omega,by simp only[PyData.depth];omega⟩
 have i0:∀i:Int,i.natAbs<3*B->Bd B d (.int i):=λi hi=>⟨skI.mpr hi,by simp only[L4.sz];omega,by simp only[PyData.depth];omega⟩
 have b0:∀b:Bool,Bd B d (.bool b):=λb=>⟨by simp only[Sk],by simp only[L4.sz];omega,by simp only[PyData.depth];omega⟩
 have n0:Bd B d .none:=⟨by simp only[Sk],by simp only[L4.sz];omega,by simp only[PyData.depth];omega⟩
 have t0:Bd B d (.tuple []):=⟨skT.mpr (λ_ h=>by cases h),by simp only[L4.sz,L4.szs];omega,by simp only[PyData.depth,PyData.depthAll];omega⟩
 unfold d6
 have small:∀b:Bool,∃r f',(bd (aH f (.int 6)) λr7=>bd (oM (aD (.list [.bool b,(.int 0),(.int 1),.none,(.str ""),(.tuple [])]) r7.1)) λx8=>M.ret (x8,r7.2))=.ret (r,f')/\Bd B d r/\Fd (T+2) f':=λb=>by
  obtain⟨r,x,f',m1,m2,m3,m4⟩:=menu (P:=Bd B d) (m:=[.bool b,(.int 0),(.int 1),.none,(.str ""),(.tuple [])]) (b:=6) rfl (by decide) (by decide) (by
   intro d hd
   simp only[ak,ai,el]at hd
   rcases hd with rfl|rfl|rfl|rfl|rfl|rfl
   ·exact b0 _
   ·exact i0 _ (by omega)
   ·exact i0 _ (by omega)
   ·exact n0
   ·exact w0 _ (by decide +kernel)
   ·exact t0) hf (by omega)
  have m1':aH f (.int 6)=.ret (.int r,f'):=m1
  simp only[m1',bdR,m2,oMS]
  exact⟨_,_,rfl,m3,m4.le (by omega)⟩
 cases d with
 | none=>exact small true
 | bool b =>
  have t1:isT "bool" (.bool b)=true:=id rfl
  simp only[t1,cg (lx (d:=.bool b) rfl),aw,bdR,cE,oMS]
  exact small (!b)
 | int i =>
  have h':i.natAbs<B:=skI.mp h
  have t1:isT "bool" (.int i)=false:=id rfl
  have t2:kq (.int i) .none=some false:=id rfl
  have t3:isT "int" (.int i)=true:=id rfl
  have mul2:bw (.int 2) (.int i)=some (.int (2*i)):=iM _ _ (by decide) (by decide)
  simp only[cg (lx (d:=.int i) rfl),t1,t2,t3,oMS,bdR,gI,mq,mul2,eqI,Bq]
  rw[ef (by decide),bdR,ef (by decide),be trivial]
  obtain⟨r,x,f',m1,m2,m3,m4⟩:=menu (P:=Bd B (.int i)) (m:=[.int (i+1),.int (i - 1),.int (0 - i),.int (2*i),.bool (i==1),.none,.str "1",.int (1000000000000000+1),.tuple [.int i]]) (b:=9) rfl (by decide) (by decide) (by
   intro d hd
   simp only[ak,ai,el]at hd
   rcases hd with rfl|rfl|rfl|rfl|rfl|rfl|rfl|rfl|rfl
   ·exact i0 _ (by omega)
   ·exact i0 _ (by omega)
   ·exact i0 _ (by omega)
   ·exact i0 _ (by omega)
   ·exact b0 _
   ·exact n0
   ·exact w0 _ (by decide +kernel)
   ·exact i0 _ (by omega)
   ·exact⟨skT.mpr λx hx=>by
     rw[List.mem_singleton.mp hx]
     exact skI.mpr (by omega),by simp only[L4.sz,L4.szs];omega,by simp only[PyData.depth,PyData.depthAll];omega⟩) hf (by omega)
  have m1':aH f (.int 9)=.ret (.int r,f'):=m1
  simp only[m1',bdR,m2,oMS]
  exact⟨_,_,rfl,m3,m4.le (by omega)⟩
 | str s =>
  have t1:isT "bool" (.str s)=false:=id rfl
  have t2:kq (.str s) .none=some false:=id rfl
  have t3:isT "int" (.str s)=false:=id rfl
  have t4:isT "str" (.str s)=true:=id rfl
  simp only[cg (lx (d:=.str s) rfl),t1,t2,t3,t4,oMS,bdR]
  rw[ef (by decide),bdR,ef (by decide),ef (by decide),be trivial,HR _ _ (by decide),oMS,bdR]
  obtain⟨r,x,f',m1,m2,m3,m4⟩:=menu (P:=Bd B (.str s)) (m:=[(.str "sum"),(.str "rest"),(.str "split"),(.str "cases"),(.str "know"),(.str "never"),(.str "in")]++[(.str "stays"),(.str "meet"),(.str "on"),(.str "end"),(.str "least"),(.str "same"),(.str "")]) (b:=14) rfl (by decide) (by decide) (by
   intro d hd
   simp only[rn,JL,ak,ai,el]at hd
   rcases hd with rfl|rfl|rfl|rfl|rfl|rfl|rfl|rfl|rfl|rfl|rfl|rfl|rfl|rfl<;>exact w0 _ (by decide +kernel)) hf (by omega)
  have m1':aH f (.int 14)=.ret (.int r,f'):=m1
  simp only[m1',bdR,m2,oMS]
  exact⟨_,_,rfl,m3,m4.le (by omega)⟩
 | list ds =>
  have t1:isT "bool" (.list ds)=false:=id rfl
  have t2:kq (.list ds) .none=some false:=id rfl
  have t3:isT "int" (.list ds)=false:=id rfl
  have t4:isT "str" (.list ds)=false:=id rfl
  have t5:isT "list" (.list ds)=true:=id rfl
  have t6:cw [.list ds]=some (.tuple ds):=id rfl
  simp only[cg (lx (d:=.list ds) rfl),t1,t2,t3,t4,t5,t6,oMS,bdR]
  rw[ef (by decide),bdR,ef (by decide),ef (by decide),ef (by decide),be trivial]
  exact⟨_,_,rfl,⟨skT.mpr (skL.mp (h.le (by omega))),by simp only[L4.sz];omega,by rw[px];omega⟩,hf.le (by omega)⟩
 | dict ds=>simp only[Sk]at h
 | tuple ds =>
  have hs:L4.sz (.tuple ds)=1+L4.szs ds:=by simp only[L4.sz]
  have hl':ds.length<=30000:=by have:=pd ds;omega
  have he:∀d∈ds,Sk (3*B) d:=λd hd=>(skT.mp h d hd).le (by omega)
  obtain⟨p,hp⟩:∃p,(PyData.tuple ds).depth=p+1:=⟨(PyData.tuple ds).depth - 1,by have:=Ci ds;omega⟩
  have hd:∀d∈ds,d.depth<=p:=dp_tuple.mp (by omega)
  have mk:∀l:List D,(∀d∈l,d∈ds\/d=.int 0)->L4.szs l<=2*L4.szs ds+1->Bd B (.tuple ds) (.tuple l):=λl hm hz=>⟨skT.mpr λd hd=>by
   rcases hm d hd with q|rfl
   ·exact he d q
   ·exact skI.mpr (by omega),by simp only[L4.sz];omega,by
   rw[hp]
   refine eg (dp_tuple (n:=p+1).mpr λd q=>?_) (bo _)
   rcases hm d q with q|rfl
   ·have:=hd d q;omega
   ·simp only[PyData.depth];omega⟩
  have t1:isT "bool" (.tuple ds)=false:=id rfl
  have t2:kq (.tuple ds) .none=some false:=id rfl
  have t3:isT "int" (.tuple ds)=false:=id rfl
  have t4:isT "str" (.tuple ds)=false:=id rfl
  have t5:isT "list" (.tuple ds)=false:=id rfl
  have t6:qM [.tuple ds]=some ds:=id rfl
  have t7:xP (.tuple ds)=some (.tuple ds.reverse):=id rfl
  simp only[cg (lx (d:=.tuple ds) rfl),t1,t2,t3,t4,t5,oMS,bdR,hU,gI]
  rw[ef (by decide),bdR,ef (by decide),ef (by decide),ef (by decide),ef (by decide)]
  obtain⟨q,f1,q1,q2,q3,q4⟩:=cF hf (by omega) (m:=(ds.length:Int)+1) (by omega) (by omega)
  obtain⟨q,rfl⟩:=ge q2
  rw[q1]
  have hmax:Ad [.int 0,.int ((q:Int) - 1)]=some (.int ((q - 1:Nat):Int)):=by
   show some (PyData.int (if(q:Int) - 1>0 then(q:Int) - 1 else 0))=_
   congr 2
   split<;>omega
  have hq1:(q:Int)+1=((q+1:Nat):Int):=by omega
  simp only[bdR,oMS,jt,oU,gI,mq,hmax,hq1,t6,t7]
  simp only[qQ,qP]
  have l1:(ds.take q).length+(ds.drop (q+1)).length<=ds.length:=by simp only[ls,um];omega
  have l2:(ds.take q).length+(ds.drop (q - 1)).length<=ds.length+1:=by simp only[ls,um];omega
  have l3:(ds.drop q).length+(ds.take q).length<=ds.length:=by simp only[ls,um];omega
  rw[Av _ _ (eg l1 (by omega)),Av _ _ (eg l2 (by omega)),Av _ _ (eg l3 (by omega)),Av ds _ (by simp;omega)]
  simp only[bdR,oMS]
  rw[HR _ _ (by simp)]
  simp only[bdR,oMS]
  have z1:=tU ds q
  have z2:=tU ds (q+1)
  have z3:=tU ds (q - 1)
  obtain⟨r,x,f',m1,m2,m3,m4⟩:=menu (P:=Bd B (.tuple ds)) (m:=[.tuple (ds.take q++ds.drop (q+1)),.tuple (ds.take q++ds.drop (q - 1)),.tuple ds.reverse,.list ds,.tuple []]++[.tuple (ds.drop q++ds.take q),.tuple (ds++[.int 0]),.tuple [.tuple ds]]) (b:=8) rfl (by decide) (by decide) (by
   intro d hd
   simp only[rn,JL,ak,ai,el]at hd
   rcases hd with rfl|rfl|rfl|rfl|rfl|rfl|rfl|rfl
   ·refine mk _ (λd hd=>.inl ?_) (by rw[gZ];omega)
    rcases List.mem_append.mp hd with hd|hd
    ·exact mo hd
    ·exact ng hd
   ·refine mk _ (λd hd=>.inl ?_) (by rw[gZ];omega)
    rcases List.mem_append.mp hd with hd|hd
    ·exact mo hd
    ·exact ng hd
   ·exact mk _ (λd hd=>.inl (List.mem_reverse.mp hd)) (by rw[yq];omega)
   ·exact⟨skL.mpr he,by simp only[L4.sz];omega,by rw[px];omega⟩
   ·exact t0
   ·refine mk _ (λd hd=>.inl ?_) (by rw[gZ];omega)
    rcases List.mem_append.mp hd with hd|hd
    ·exact ng hd
    ·exact mo hd
   ·refine mk _ (λd hd=>?_) (by rw[gZ];simp only[L4.szs,L4.sz];omega)
    rcases List.mem_append.mp hd with hd|hd
    ·exact .inl hd
    ·exact .inr (List.mem_singleton.mp hd)
   ·refine⟨skT.mpr λd hd=>?_,by simp only[L4.sz,L4.szs];omega,dp_tuple.mpr λd hd=>?_⟩
    ·rw[List.mem_singleton.mp hd]
     exact skT.mpr he
    ·rw[List.mem_singleton.mp hd]
     omega) q4 (by omega)
  have m1':aH f1 (.int 8)=.ret (.int r,f'):=m1
  simp only[m1',bdR,m2,oMS]
  exact⟨_,_,rfl,m3,m4.le (by omega)⟩
end K62
namespace L4
open PySem PySem.Spec PyProof.Rows L2 L3
abbrev kvM(m:Mt):D×D:=(pD (m.1,m.2.1),pD m.2.2)
structure Ahd(n a b:Nat)(ms:List Mt):Prop where
 ok:∀m∈ms,MtOk n m
 so:ms.Pairwise λm m'=>plt (m.1,m.2.1) (m'.1,m'.2.1)
 ah:∀m∈ms,plt (m.1,m.2.1) (a,b)
 le:ms.length<=a*n+b
theorem H9{S:Type}(p:Nat×Nat)(k:D->D->M S):un2 (pD p) k=k (iN p.1) (iN p.2):=id rfl
theorem HY(as bs:List D):xO [.tuple as,.tuple bs]=some (iG as bs):=id rfl
def tab(n:Nat)(f:Nat->Nat):List Nat:=(List.range n).map f
abbrev Ji(n:Nat)(f:Nat->Nat):List D:=(tab n f).map iN
def up(f:Nat->Nat)(i v:Nat):Nat->Nat:=λr=>if r=i then v else f r
def cnt(hs:List Nat)(r:Nat):Nat:=hs.count r
def Jm(f:Nat->Nat)(m:Mt):Bool:=let w:=if m.1=m.2.1 then 2 else 1;decide (w<=f m.1)&&decide (w<=f m.2.1)
def Jl(f:Nat->Nat)(m:Mt):Nat->Nat :=
 let f1:=up f m.1 (f m.1 - 1)
 let f2:=up f1 m.2.1 (f1 m.2.1 - 1)
 let f3:=up f2 m.2.2.1 (f2 m.2.2.1+1)
 up f3 m.2.2.2 (f3 m.2.2.2+1)
theorem xQ{d:D}(h:Sm d):bD (.str d.shown) (.str d.shown)=some true:=by
 obtain⟨t1,t2⟩:=h.text
 unfold bD qN
 rw[be]
 ·simp[PyData.eqv]
 ·simp[PyData.canLay0,t2,PyData.depth]
def Jf(bs:List Bool):D:=if bs.all id then .str "yes" else if bs.any id then .str "both" else .str "no"
theorem rY{α β:Type}(p:α->Bool)(g:α->β):∀l:List α,(l.filterMap λk=>if p k=true then some (g k)else none)=(l.filter p).map g
 | []=>rfl
 | a::r=>by
  rw[ot,List.filter_cons,rY p g r]
  cases p a<;>rfl
end L4
namespace K62
open PySem PySem.Spec PyProof.Rows L2 L3 L4
variable {R S n T i j c B b:Nat}{k:Fc}{ts:List (Nat×Int)}{x s a:Int}{h g:Fm}{fs1 fs2 l:List Fc}
theorem FY{ds:List D}(h1:(PyData.tuple ds).canLay0=true)(h2:(PyData.tuple ds).depth<=1000):bD (.tuple ds) (.tuple [])=some ds.isEmpty:=by
 unfold bD qN
 rw[be (by
  rw[h1]
  simp[h2,PyData.canLayAll0,PyData.canLay0])]
 cases ds<;>simp[PyData.eqv,PyData.eqvAll]
theorem uY{B:Nat}(hB:1000000000000002<=B)(hB2:B<=10^19):∀(i deep T:Nat) (f:List D) (d:D),deep<i->deep<=10->Sk B d->L4.sz d<=30000->d.depth<=100->Fd T f->T+10*deep<=80000 ->
  ∃r f',cP i f d (.int deep)=.ret (r,f')/\Bd B d r/\Fd (T+5*(deep+1)) f'
 | 0,deep,T,f,d,hi,_,_,_,_,_,_=>by omega
 | i+1,deep,T,f,d,hi,hd,h,hz,hp,hf,hT=>by
  have od:∀(g:List D) (T':Nat),Fd T' g->T'<=T+2->∃r f',(bd (d6 g d) λr20=>M.ret (r20.1,r20.2))=.ret (r,f')/\Bd B d r/\Fd (T+5*(deep+1)) f':=λg T' hg hT'=>by
   obtain⟨r,f',e1,e2,e3⟩:=FA hB h hz hg (by omega)
   rw[e1,bdR]
   exact⟨r,f',rfl,e2,e3.le (by omega)⟩
  show ∃r f',ja (cP i) f d (.int deep)=.ret (r,f')/\_
  unfold ja
  cases d with
  | tuple ds =>
   have t1:isT "tuple" (.tuple ds)=true:=id rfl
   rw[cg (lx (d:=.tuple ds) rfl),oMS,bdR,bdR,t1,ar,ef (by decide),FY (h.sm hB2).lay (by omega),oMS,bdR]
   cases ds with
   | nil=>exact od f T hf (by omega)
   | cons a r =>
    show ∃r' f',(if false=true then _ else _)=_/\_
    rw[ef (by decide)]
    have e0:bD (.int deep) (.int 0)=some ((deep:Int)==0):=eqI _ _
    rw[e0,oMS,bdR]
    by_cases hz0:(deep:Int)=0
    ·have:((deep:Int)==0)=true:=by simp[hz0]
     rw[this,be rfl]
     exact od f T hf (by omega)
    ·have:((deep:Int)==0)=false:=by rw[br];exact hz0
     rw[this,ef (by decide)]
     obtain⟨q,f1,q1,q2,q3,q4⟩:=cF hf (by omega) (m:=7) (by decide) (by decide)
     rw[q1,bdR]
     have e1:bD (.int q) (.int 0)=some (q==0):=eqI _ _
     simp only[e1,oMS,bdR]
     by_cases hq:q=0
     ·have:(q==0)=true:=by simp[hq]
      rw[this,be rfl]
      exact od f1 (T+1) q4 (by omega)
     ·have:(q==0)=false:=by rw[br];exact hq
      rw[this,ef (by decide)]
      have hsz:L4.sz (.tuple (a::r))=1+L4.szs (a::r):=by simp only[L4.sz]
      have hl:(a::r).length<=30000:=by have:=pd (a::r);omega
      have hpos:0<(a::r).length:=by simp
      obtain⟨p,f2,p1,p2,p3,p4⟩:=cF q4 (by omega) (m:=((a::r).length:Int)) (by omega) (by omega)
      obtain⟨p,rfl⟩:=ge p2
      have hp':p<(a::r).length:=by omega
      have hat:=EV hp'
      obtain⟨c,hc⟩:∃c,(a::r)[p]'hp'=c:=⟨_,rfl⟩
      rw[hc]at hat
      have e2:aD (.tuple (a::r)) (.int p)=some c:=by rw[<-hc];exact ixT (a::r) p hp'
      have hc':c∈a::r:=by rw[<-hc];exact pI _
      have e3:(deep:Int) - 1=((deep - 1:Nat):Int):=by omega
      obtain⟨y,hy⟩:∃y,(PyData.tuple (a::r)).depth=y+1:=⟨(PyData.tuple (a::r)).depth - 1,by have:=Ci (a::r);omega⟩
      have hdd:∀d∈a::r,d.depth<=y:=dp_tuple.mp (by omega)
      have hdc:=hdd c hc'
      obtain⟨x,f3,x1,x2,x3⟩:=uY hB hB2 i (deep - 1) (T+1+1) f2 c (by omega) (by omega) (skT.mp h c hc') (by omega) (by omega) p4 (by omega)
      have e4:(p:Int)+1=((p+1:Nat):Int):=by omega
      simp only[hU,oMS,bdR]
      rw[p1]
      simp only[bdR,jt,oU,oMS,e2,mq,e3,x1,gI,e4,qQ,qP]
      have l1:((a::r).take p).length+([x]:List D).length<=100000:=by simp only[ls,bu,tt]at *;omega
      have l2:(((a::r).take p)++[x]).length+((a::r).drop (p+1)).length=(a::r).length:=by
       simp only[zzf,ls,um,bu,tt]at *;omega
      rw[Av _ _ l1,oMS,bdR,Av _ _ (by omega),oMS,bdR]
      have hxs:=x2.sz
      have hxd:=x2.dp
      refine⟨_,_,rfl,⟨skT.mpr λd hd=>?_,?_,?_⟩,x3.le (by omega)⟩
      ·rcases List.mem_append.mp hd with hd|hd
       ·rcases List.mem_append.mp hd with hd|hd
        ·exact(skT.mp h d (mo hd)).le (by omega)
        ·rw[List.mem_singleton.mp hd]
         exact x2.sk
       ·exact(skT.mp h d (ng hd)).le (by omega)
      ·simp only[L4.sz]
       rw[gZ,gZ]
       simp only[L4.szs]at hat ⊢
       omega
      ·rw[hy]
       refine dp_tuple.mpr λd hd=>?_
       rcases List.mem_append.mp hd with hd|hd
       ·rcases List.mem_append.mp hd with hd|hd
        ·have:=hdd d (mo hd);omega
        ·rw[List.mem_singleton.mp hd]
         omega
       ·have:=hdd d (ng hd);omega
  | none=>exact od f T hf (by omega)
  | bool b=>exact od f T hf (by omega)
  | int b=>exact od f T hf (by omega)
  | str b=>exact od f T hf (by omega)
  | list b=>exact od f T hf (by omega)
  | dict b=>simp only[Sk]at h
structure FsOk(R S:Nat)(fs:List Fc):Prop where
 ok:∀k∈fs,FcOk R S k
 len:fs.length<=10
 sk:∀k∈fs,Sk 100000 k.d
 sz:∀k∈fs,L4.sz k.d<=50
 dp:∀k∈fs,k.d.depth<=5
structure Th(d:D):Prop where
 sk:Sk (10^18) d
 sz:L4.sz d<=29000
 dp:d.depth<=50
theorem Th.sh{d:D}(h:Th d):Sh d:=⟨h.sk.sm (by decide),by have:=h.sz;omega,by have:=h.dp;omega⟩
theorem A9{fs:List Fc}{d:D}(hR:R<=100)(hS:S<=100)(hRS:1<=R+S)(hf:FsOk R S fs)(h:Th d):bP (sz R S) (fsD fs) d=.ret (.bool true):=by
 unfold bP
 have e5:aD (sz R S) (.int 0)=some (.int R):=rfl
 have e6:aD (sz R S) (.int 1)=some (.int S):=rfl
 have hl:=hf.len
 have hd1:Sm (.tuple [fsD fs,d]):=by
  refine Sk.sm (B:=10^18) (by decide) (skT.mpr λx hx=>?_)
  simp only[ak,ai,el]at hx
  rcases hx with rfl|rfl
  ·refine skT.mpr λx hx=>?_
   obtain⟨k,hk,rfl⟩:=List.mem_map.mp hx
   exact(hf.sk k hk).le (by decide)
  ·exact h.sk
 have hd2:L4.sz (.tuple [fsD fs,d])<=30000:=by
  have:=wX (B:=50) (ds:=fs.map Fc.d) λx hx=>by
   obtain⟨k,hk,rfl⟩:=List.mem_map.mp hx
   exact hf.sz k hk
  rw[zzd]at this
  have:=h.sz
  simp only[L4.sz,L4.szs]
  omega
 have hd3:(PyData.tuple [fsD fs,d]).depth<=60:=by
  refine dp_tuple (n:=59).mpr λx hx=>?_
  simp only[ak,ai,el]at hx
  rcases hx with rfl|rfl
  ·refine dp_tuple (n:=58).mpr λx hx=>?_
   obtain⟨k,hk,rfl⟩:=List.mem_map.mp hx
   have:=hf.dp k hk;omega
  ·have:=h.dp;omega
 have r1:=Bc hd1 hd2 hd3
 have r2:=xQ hd1
 have q1:∀b:Bool,kF [.bool b]=some (.str (PyData.bool b).shown):=λb=>Bc (by simp[Sm]) (by simp[L4.sz]) (by simp[PyData.depth])
 have q2:∀b:Bool,bD (.str (PyData.bool b).shown) (.str (PyData.bool b).shown)=some true:=λb=>xQ (by simp[Sm])
 rw[r1,oMS,bdR,e5,oMS,bdR,e6,oMS,bdR,lE hR hS h.sh hf.ok (by omega),bdR,q1,oMS,bdR,rQ hR hS hRS h.sh hf.ok (by omega),bdR,q1,oMS,bdR,q2,oMS,bdR,be rfl,bdR,r2,oMS,bdR,bdR]
abbrev pT(t:Nat×Int):D:=.tuple [.int (t.1:Int),.int t.2]
def Ri(n:Nat):Int->List (Nat×Int)->Prop
 | _,[]=>True
 | a,t::r=>(a<(t.1:Int)/\t.1<n/\sB (.int t.2)=true/\t.2≠0)/\Ri n (t.1:Int) r
theorem o8{n:Nat}:∀{ts:List (Nat×Int)} {a:Int},Ri n a ts->gy n a (ts.map pT)=some ts
 | [],a,_=>rfl
 | (i,t)::r,a,h=>by
  obtain⟨⟨h1,h2,h3,h4⟩,h5⟩:=h
  show gy n a (.tuple [.int (i:Int),.int t]::r.map pT)=_
  unfold gy
  have e:(sW (a+1) ((n:Int) - 1) (.int (i:Int))&&sB (.int t) && !(t==0))=true:=by
   have h4':(t==0)=false:=by rw[br];exact h4
   have h1':a<(i:Int):=h1
   have h2':i<n:=h2
   rw[show sW (a+1) ((n:Int) - 1) (.int (i:Int))=(decide (a+1<=(i:Int))&&decide ((i:Int)<=(n:Int) - 1))from rfl,de (by omega),de (by omega),show sB (.int t)=true from h3,h4']
   rfl
  rw[be e,o8 h5]
  rfl
theorem o7{n:Nat}:∀{ps:List D} {a:Int} {ts:List (Nat×Int)},-1<=a->gy n a ps=some ts->ps=ts.map pT/\Ri n a ts
 | [],a,ts,_,h=>by cases h;exact⟨rfl,trivial⟩
 | p::ps,a,ts,ha,h=>by
  rw[kM]at h
  cases e:tmI n a p with
  | none=>rw[e]at h;cases h
  | some x =>
   obtain⟨i,t⟩:=x
   rw[e]at h
   obtain⟨ts',e',rfl⟩:=Option.map_eq_some_iff.mp h
   unfold tmI at e
   split at e
   ·rename_i i' t'
    split at e
    ·rename_i hq
     cases e
     rw[ag,ag]at hq
     obtain⟨⟨q1,q2⟩,q3⟩:=hq
     obtain⟨i',e1,b1,b2⟩:=eL q1
     cases e1
     obtain⟨j,rfl⟩:=ge (show 0<=i by omega)
     obtain⟨e2,e3⟩:=o7 (by omega) e'
     refine⟨by rw[e2];rfl,⟨?_,?_,q2,?_⟩,e3⟩
     ·show a<((j:Int).toNat:Int);omega
     ·show(j:Int).toNat<n;omega
     ·simpa using q3
    ·cases e
   ·cases e
def sh1(b:Nat)(t:Nat×Int):Nat×Int:=(t.1+(if b<=t.1 then 1 else 0),t.2)
def shI(b:Nat)(a:Int):Int:=a+if(b:Int)<=a then 1 else 0
theorem E0{c:Int}(h:a<c):shI b a<shI b c:=by unfold shI;split<;>split<;>omega
theorem D6{n b:Nat}:∀{ts:List (Nat×Int)} {a:Int},Ri n a ts->Ri (n+1) (shI b a) (ts.map (sh1 b))
 | [],a,_=>trivial
 | (i,t)::r,a,h=>by
  obtain⟨⟨h1,h2,h3,h4⟩,h5⟩:=h
  have e:(((sh1 b (i,t)).1:Nat):Int)=shI b (i:Int):=by
   unfold sh1 shI
   by_cases q:b<=i
   ·rw[be q,be (by omega)];rfl
   ·rw[ef q,ef (by omega)];rfl
  refine⟨⟨?_,?_,h3,h4⟩,?_⟩
  ·rw[e];exact E0 h1
  ·show i+(if b<=i then 1 else 0)<n+1
   have:i<n:=h2
   split<;>omega
  ·have:=D6 (b:=b) h5
   rw[e]
   exact this
theorem yv{n m:Nat}(hm:n<=m):∀{ts:List (Nat×Int)} {a:Int},Ri n a ts->Ri m a ts
 | [],a,_=>trivial
 | (i,t)::r,a,h=>⟨⟨h.1.1,cr h.1.2.1 hm,h.1.2.2⟩,yv hm h.2⟩
theorem xN(fs1 fs2:List Fc)(k:Fc)(i:Nat):(fs1++k::fs2)[i+if fs1.length<=i then 1 else 0]? = (fs1++fs2)[i]?:=by
 by_cases h:fs1.length<=i
 ·rw[be h,u8 (by omega),u8 h,show i+1 - fs1.length=(i - fs1.length)+1 by omega,List.getElem?_cons_succ]
 ·rw[ef h,Nat.add_zero,ev (by omega),ev (by omega)]
theorem AX(fs1 fs2:List Fc)(k:Fc)(ts:List (Nat×Int)):sumF R S (fs1++k::fs2) (ts.map (sh1 fs1.length))=sumF R S (fs1++fs2) ts:=by
 unfold sumF
 rw[List.foldl_map]
 congr 1
 funext f t
 show f.add (((fs1++k::fs2).getD (t.1+if fs1.length<=t.1 then 1 else 0) _).f) t.2=_
 rw[al,xN,al]
theorem zT(fs1 fs2:List Fc)(k:Fc)(t:Nat×Int):cS (fs1++k::fs2) (sh1 fs1.length t)=cS (fs1++fs2) t:=by
 unfold cS
 show(match (fs1++k::fs2)[t.1+if fs1.length<=t.1 then 1 else 0]? with|some (.le _)=>decide (1<=t.2)|some (.sa _)=>true|_=>false)=_
 rw[xN]
 all_goals rfl
theorem xD(m:Int)(fs1 fs2:List Fc)(k:Fc)(t:Nat×Int):cq m (fs1++k::fs2) (sh1 fs1.length t)=cq m (fs1++fs2) t:=by
 unfold cq
 show(match (fs1++k::fs2)[t.1+if fs1.length<=t.1 then 1 else 0]? with|some (.sa _)=>true|some (.re _ k)=>k % m==0|_=>false)=_
 rw[xN]
 all_goals rfl
def shP(b:Nat)(d:D):D:=match d with
 | .tuple [.int i,t]=>.tuple [.int (i+if(b:Int)<=i then 1 else 0),t]
 | d=>d
def shT(b:Nat)(d:D):D:=match d with
 | .tuple ps=>.tuple (ps.map (shP b))
 | d=>d
def shL(g:D->D)(d:D):D:=match d with
 | .tuple ps=>.tuple (ps.map g)
 | d=>d
def shD(b:Nat):Nat->D->D
 | 0=>λd=>d
 | i+1=>λd=>match d with
  | .tuple [.str w,x]=>.tuple [.str w,shT b x]
  | .tuple [.str w,m,x]=>.tuple [.str w,m,shT b x]
  | .tuple [.str w,a,x,y]=>if w == "split" then .tuple [.str w,a,shD b i x,shD b i y]else if w == "cases" then .tuple [.str w,a,x,shL (shD b i) y]else .tuple [.str w,a,shL (shD b i) x,shD b i y]
  | d=>d
theorem GE(b:Nat)(t:Nat×Int):shP b (pT t)=pT (sh1 b t):=by
 show PyData.tuple [.int ((t.1:Int)+if(b:Int)<=(t.1:Int)then 1 else 0),.int t.2]=.tuple [.int ((t.1+(if b<=t.1 then 1 else 0):Nat):Int),.int t.2]
 by_cases q:b<=t.1
 ·rw[be q,be (by omega)];rfl
 ·rw[ef q,ef (by omega)];rfl
theorem EY(b:Nat)(ts:List (Nat×Int)):(ts.map pT).map (shP b)=(ts.map (sh1 b)).map pT:=by
 rw[pr,pr]
 exact su λt _=>GE b t
theorem ym{ps:List D}(h:gy (fs1++fs2).length (-1) ps=some ts):gy (fs1++k::fs2).length (-1) (ps.map (shP fs1.length))=some (ts.map (sh1 fs1.length)):=by
 obtain⟨rfl,hr⟩:=o7 (by omega) h
 rw[EY]
 have:=D6 (b:=fs1.length) hr
 rw[show shI fs1.length (-1) = -1 by unfold shI;rw[ef (by omega)];rfl]at this
 rw[show(fs1++k::fs2).length=(fs1++fs2).length+1 by simp;omega]
 exact o8 this
theorem Cq{d:D}(h:gX R S (fs1++fs2) d=true):gX R S (fs1++k::fs2) (shT fs1.length d)=true:=by
 unfold gX at h
 split at h
 ·rename_i ps
  split at h
  ·rename_i ts e
   unfold gX shT
   dsimp only
   rw[ym e]
   dsimp only
   rw[AX,ul,show(cS (fs1++k::fs2))∘sh1 fs1.length=cS (fs1++fs2)from funext λt=>zT fs1 fs2 k t]
   exact h
  ·cases h
 ·cases h
theorem Ap{m d:D}(h:dI R S (fs1++fs2) m d=true):dI R S (fs1++k::fs2) m (shT fs1.length d)=true:=by
 unfold dI at h
 split at h
 ·rename_i m ps
  rw[ag]at h
  obtain⟨h0,h⟩:=h
  split at h
  ·rename_i ts e
   unfold dI shT
   dsimp only
   rw[ym e,h0]
   dsimp only
   rw[AX,ul,show(cq m (fs1++k::fs2))∘sh1 fs1.length=cq m (fs1++fs2)from funext λt=>xD m fs1 fs2 k t]
   exact h
  ·cases h
 ·cases h
theorem CS{α:Type}{as:List α}{ps:List D}{P:α×D->Bool}(hl:ps.length=as.length)(h:(as.zip ps).all P=true):∀p∈ps,∃a,P (a,p)=true:=by
 intro p hp
 obtain⟨j,hj,rfl⟩:=List.mem_iff_getElem.mp hp
 have h2:j<as.length:=by omega
 refine⟨as[j],List.all_eq_true.mp h _ ?_⟩
 have:(as.zip ps)[j]'(by rw[List.length_zip];omega)=(as[j],ps[j]):=List.getElem_zip
 rw[<-this]
 exact pI _
theorem wN{ps:List D}{P:D×Nat->Bool}(h:ps.zipIdx.all P=true):∀p∈ps,∃j,P (p,j)=true:=by
 intro p hp
 obtain⟨j,hj,rfl⟩:=List.mem_iff_getElem.mp hp
 refine⟨j,List.all_eq_true.mp h _ ?_⟩
 have:(ps.zipIdx)[j]'(by rw[List.length_zipIdx];omega)=(ps[j],j):=by rw[List.getElem_zipIdx];simp
 rw[<-this]
 exact pI _
theorem CG(fs1 fs2:List Fc)(k q:Fc):(fs1++k::fs2)++[q]=fs1++k::(fs2++[q]):=by simp
theorem D8{R S:Nat}{k:Fc}{fs1:List Fc}:∀(n i:Nat) (fs2:List Fc) (d:D),n<=i->rf R S n (fs1++fs2) d=true->rf R S n (fs1++k::fs2) (shD fs1.length i d)=true
 | 0,i,fs2,d,_,h=>by cases h
 | n+1,0,fs2,d,hi,h=>by omega
 | n+1,i+1,fs2,d,hi,h=>by
  have ih:=D8 (R:=R) (S:=S) (k:=k) (fs1:=fs1) n i
  unfold rf at h
  split at h
  ·rename_i w a
   rw[ag]at h
   show(w == "sum" && gX R S (fs1++k::fs2) (shT fs1.length a))=true
   rw[h.1,Cq h.2];rfl
  ·rename_i w a b
   rw[ag]at h
   show(w == "rest" && dI R S (fs1++k::fs2) a (shT fs1.length b))=true
   rw[h.1,Ap h.2];rfl
  ·rename_i w a b c
   unfold rf4 at h
   rcases ac (w == "split")with q|q
   ·rw[q,be rfl]at h
    rw[show shD fs1.length (i+1) (.tuple [.str w,a,b,c])=.tuple [.str w,a,shD fs1.length i b,shD fs1.length i c]from by
     show(if(w == "split")=true then _ else _)=_
     rw[q,be rfl]]
    show rf4 R S (rf R S n) (fs1++k::fs2) w a _ _=true
    unfold rf4
    rw[q,be rfl]
    split at h
    ·rename_i f e
     rw[ag,wE,wE]at h
     show(_&&_)=true
     rw[CG,CG,ih _ _ (by omega) h.1,ih _ _ (by omega) h.2]
     rfl
    ·cases h
   ·rw[q,ff]at h
    rcases ac (w == "cases")with q2|q2
    ·rw[q2,be rfl]at h
     rw[show shD fs1.length (i+1) (.tuple [.str w,a,b,c])=.tuple [.str w,a,b,shL (shD fs1.length i) c]from by
      show(if(w == "split")=true then _ else if(w == "cases")=true then _ else _)=_
      rw[q,ff,q2,be rfl]]
     show rf4 R S (rf R S n) (fs1++k::fs2) w a _ _=true
     unfold rf4
     rw[q,ff,q2,be rfl]
     split at h
     ·rename_i f m ps e
      rw[ag,ag]at h
      rw[e]
      show(sW 2 9 (.int m)&&decide (((ps.map (shD fs1.length i)).length:Int)=m)&&((ps.map (shD fs1.length i)).zipIdx.all _))=true
      rw[zzd,h.1.1,h.1.2,ce,ce,List.zipIdx_map,ul]
      refine List.all_eq_true.mpr λp hp=>?_
      have:=List.all_eq_true.mp h.2 p hp
      rw[wE]at this
      show rf R S n ((fs1++k::fs2)++[.re (f.plus (-(p.2:Int))) m]) (shD fs1.length i p.1)=true
      rw[CG]
      exact ih _ _ (by omega) this
     ·cases h
    ·rw[q2,ff]at h
     rw[show shD fs1.length (i+1) (.tuple [.str w,a,b,c])=.tuple [.str w,a,shL (shD fs1.length i) b,shD fs1.length i c]from by
      show(if(w == "split")=true then _ else if(w == "cases")=true then _ else _)=_
      rw[q,ff,q2,ff]]
     show rf4 R S (rf R S n) (fs1++k::fs2) w a _ _=true
     unfold rf4
     rw[q,ff,q2,ff]
     rcases ac (w == "know")with q3|q3
     ·rw[q3,be rfl]at h ⊢
      split at h
      ·rename_i k2 ps e
       rw[ag,ag]at h
       rw[e]
       show(decide ((ps.map (shD fs1.length i)).length=(cI k2).length)&&(((cI k2).zip (ps.map (shD fs1.length i))).all _)&&_)=true
       rw[wE]at h
       rw[zzd,h.1.1,ce,CG,ih _ _ (by omega) h.2,ke,List.zip_map_right,ul]
       refine List.all_eq_true.mpr λp hp=>?_
       have:=List.all_eq_true.mp h.1.2 p hp
       rw[wE]at this
       show rf R S n ((fs1++k::fs2)++[p.1]) (shD fs1.length i p.2)=true
       rw[CG]
       exact ih _ _ (by omega) this
      ·cases h
     ·rw[q3,ff]at h
      cases h
  ·cases h
theorem yx{R S:Nat}:∀(n:Nat) (fs:List Fc) (d:D),rf R S n fs d=true->rf R S (n+1) fs d=true
 | 0,fs,d,h=>by cases h
 | n+1,fs,d,h=>by
  have ih:=yx (R:=R) (S:=S) n
  unfold rf at h
  split at h
  ·exact h
  ·exact h
  ·rename_i w a b c
   show rf4 R S (rf R S (n+1)) fs w a b c=true
   unfold rf4 at h ⊢
   split
   ·rename_i q
    rw[be q]at h
    split at h
    ·rename_i f e
     rw[ag]at h
     show(_&&_)=true
     rw[ih _ _ h.1,ih _ _ h.2];rfl
    ·cases h
   ·rename_i q
    rw[ef q]at h
    split
    ·rename_i q2
     rw[be q2]at h
     split at h
     ·rename_i f m ps e
      rw[ag]at h
      show(_&&_&&_)=true
      rw[h.1,ce]
      exact List.all_eq_true.mpr λp hp=>ih _ _ (List.all_eq_true.mp h.2 p hp)
     ·cases h
    ·rename_i q2
     rw[ef q2]at h
     split
     ·rename_i q3
      rw[be q3]at h
      split at h
      ·rename_i k ps e
       rw[ag,ag]at h
       show(_&&_&&_)=true
       rw[h.1.1,ce,ih _ _ h.2,ke]
       exact List.all_eq_true.mpr λp hp=>ih _ _ (List.all_eq_true.mp h.1.2 p hp)
      ·cases h
     ·rename_i q3
      rw[ef q3]at h
      cases h
  ·cases h
theorem GN{m:Nat}{fs:List Fc}{d:D}(hl:n<=m)(h:rf R S n fs d=true):rf R S m fs d=true:=by
 obtain⟨k,rfl⟩:=Nat.exists_eq_add_of_le hl
 clear hl
 induction k with
 | zero=>exact h
 | succ k ih=>exact yx _ _ _ ih
structure Lk(d e:D):Prop where
 sz:L4.sz e=L4.sz d
 dp:e.depth=d.depth
 sk:∀B,Sk B d->Sk (B+1) e
structure LkL(d e:List D):Prop where
 sz:L4.szs e=L4.szs d
 dp:PyData.depthAll e=PyData.depthAll d
 sk:∀B,Sks B d->Sks (B+1) e
theorem Lk.refl(d:D):Lk d d:=⟨rfl,rfl,λB h=>h.le (by omega)⟩
theorem LkL.nil:LkL [] []:=⟨rfl,rfl,λB h=>h⟩
theorem LkL.cons{a b:D}{r s:List D}(h:Lk a b)(g:LkL r s):LkL (a::r) (b::s):=⟨by simp only[L4.szs];rw[h.sz,g.sz],by simp only[PyData.depthAll];rw[h.dp,g.dp],λB q=>by simp only[Sks]at q ⊢;exact⟨h.sk B q.1,g.sk B q.2⟩⟩
theorem LkL.t{r s:List D}(h:LkL r s):Lk (.tuple r) (.tuple s):=⟨by simp only[L4.sz];rw[h.sz],by simp only[PyData.depth];rw[h.dp],λB q=>by simp only[Sk]at q ⊢;exact h.sk B q⟩
theorem LkL.map{g:D->D}(h:∀d,Lk d (g d)):∀r:List D,LkL r (r.map g)
 | []=>LkL.nil
 | d::r=>LkL.cons (h d) (LkL.map h r)
theorem EZ(b:Nat)(d:D):Lk d (shP b d):=by
 unfold shP
 split
 ·rename_i i t
  refine(LkL.cons (a:=.int i) ⟨by simp only[L4.sz],by simp only[PyData.depth],λB q=>skI.mpr (by have:=skI.mp q;split<;>omega)⟩ (LkL.cons (Lk.refl t) LkL.nil)).t
 ·exact Lk.refl _
theorem A2(b:Nat)(d:D):Lk d (shT b d):=by
 unfold shT
 split
 ·exact(LkL.map (EZ b) _).t
 ·exact Lk.refl _
theorem A3{g:D->D}(h:∀d,Lk d (g d))(d:D):Lk d (shL g d):=by
 unfold shL
 split
 ·exact(LkL.map h _).t
 ·exact Lk.refl _
theorem A4(b:Nat):∀(i:Nat) (d:D),Lk d (shD b i d)
 | 0,d=>Lk.refl d
 | i+1,d=>by
  have ih:=A4 b i
  unfold shD
  split
  ·exact(LkL.cons (Lk.refl _) (LkL.cons (A2 b _) LkL.nil)).t
  ·exact(LkL.cons (Lk.refl _) (LkL.cons (Lk.refl _) (LkL.cons (A2 b _) LkL.nil))).t
  ·split
   ·exact(LkL.cons (Lk.refl _) (LkL.cons (Lk.refl _) (LkL.cons (ih _) (LkL.cons (ih _) LkL.nil)))).t
   ·split
    ·exact(LkL.cons (Lk.refl _) (LkL.cons (Lk.refl _) (LkL.cons (Lk.refl _) (LkL.cons (A3 ih _) LkL.nil)))).t
    ·exact(LkL.cons (Lk.refl _) (LkL.cons (Lk.refl _) (LkL.cons (A3 ih _) (LkL.cons (ih _) LkL.nil)))).t
  ·exact Lk.refl _
theorem ls1(i:Nat):bW (i+1)=gp (bW i):=rfl
theorem vF(b:Nat)(t:Nat×Int):un2 (pT t) (λy6 y7=>bd (bd (bd (bd (bd (oM (uq y6 (.int (b:Int)))) λb8=>.ret (.bool b8)) λx9=>oM (nU [x9])) λx10=>oM (aX y6 x10)) λx11=>.ret (.tuple [x11,y7])) λx12=>(.ret (some x12):M (Option D)))=.ret (some (shP b (pT t))):=by
 rw[gJ,show uq (.int (t.1:Int)) (.int (b:Int))=some (decide ((b:Int)<=(t.1:Int)))from rfl,oMS,bdR,bdR,show nU [.bool (decide ((b:Int)<=(t.1:Int)))]=some (.int (if decide ((b:Int)<=(t.1:Int))then 1 else 0))from rfl,oMS,bdR,gI,oMS,bdR,bdR]
 simp only[zzi]
 rfl
theorem IP(w:Str)(hw:dn w=true):lh (.str w) (.list [(.str "sum"),(.str "rest")])=some (w == "sum" || w == "rest"):=by
 have h0:PyData.canLay0 (.str w)=true:=by
  unfold dn at hw
  simp only[ag]at hw
  simp[PyData.canLay0,hw.1.1]
 have hl:PyData.canLayAll0 [(.str "sum"),(.str "rest")]=true:=by simp[PyData.canLayAll0,PyData.canLay0,cQ]
 have hi:iH (.str w) [(.str "sum"),(.str "rest")]=true:=by unfold iH;simp[h0,hl,PyData.depth]
 show(if iH _ _ then _ else none)=_
 rw[be hi]
 simp only[List.any_cons,List.any_nil,PyData.eqv,Bool.or_false]
 have e:∀a b:Str,(a==b)=(b==a):=λa b=>by
  rw[ID];simp;exact eq_comm
 rw[e,e (Str.ofString "rest")]
theorem IM(a b:D):aD (.tuple [a,b]) (.int (-1))=some b:=rfl
theorem IL(a b c:D):aD (.tuple [a,b,c]) (.int (-1))=some c:=rfl
theorem HJ(a b:D):L4.cutD [a,b] none (some (-1))=[a]:=rfl
theorem HH(a b c:D):L4.cutD [a,b,c] none (some (-1))=[a,b]:=rfl
theorem pN{R S b:Nat}:∀(n i:Nat) (fs:List Fc) (d:D),n<=i->Sh d->rf R S n fs d=true->bW i d (.int (b:Int))=.ret (shD b i d)
 | 0,i,fs,d,_,_,h=>by cases h
 | n+1,0,fs,d,hi,_,h=>by omega
 | n+1,i+1,fs,d,hi,hd,h=>by
  have ih:=pN (R:=R) (S:=S) (b:=b) n i
  rw[ls1]
  unfold gp
  unfold rf at h
  split at h
  ·rename_i w a
   rw[ag]at h
   obtain⟨h1,h2⟩:=h
   have h1:w = "sum":=by simpa using h1
   subst h1
   have ha:=hd.t.2 a (by simp)
   unfold gX at h2
   split at h2
   ·rename_i ps
    split at h2
    ·rename_i ts e
     obtain⟨rfl,_⟩:=o7 (by omega) e
     have hl:=ha.t.1
     have e1:lh (.str "sum") (.list [(.str "sum"),(.str "rest")])=some true:=by decide +kernel
     have e2:=cn (step:=λd5=>un2 d5 (λy6 y7=>bd (bd (bd (bd (bd (oM (uq y6 (.int (b:Int)))) λb8=>.ret (.bool b8)) λx9=>oM (nU [x9])) λx10=>oM (aX y6 x10)) λx11=>.ret (.tuple [x11,y7])) λx12=>(.ret (some x12):M (Option D)))) (e:=pT) (g:=λt=>shP b (pT t)) ts λt _=>vF b t
     have e3:dw (ts.map λt=>shP b (pT t))=.ret (ts.map λt=>shP b (pT t)):=iC (by rw[zzd]at *;omega)
     simp only[dh,oMS,bdR,e1,aw,hC,IM,lB,e2,e3,jt,oU,iW,HJ]
     rw[va _ _ (by simp),oMS,bdR]
     show _=M.ret (PyData.tuple [.str "sum",.tuple ((ts.map pT).map (shP b))])
     rw[pr]
     rfl
    ·cases h2
   ·cases h2
  ·rename_i w a c
   rw[ag]at h
   obtain⟨h1,h2⟩:=h
   have h1:w = "rest":=by simpa using h1
   subst h1
   have hc:=hd.t.2 c (by simp)
   unfold dI at h2
   split at h2
   ·rename_i m ps
    rw[ag]at h2
    obtain⟨_,h2⟩:=h2
    split at h2
    ·rename_i ts e
     obtain⟨rfl,_⟩:=o7 (by omega) e
     have hl:=hc.t.1
     have e1:lh (.str "rest") (.list [(.str "sum"),(.str "rest")])=some true:=by decide +kernel
     have e2:=cn (step:=λd5=>un2 d5 (λy6 y7=>bd (bd (bd (bd (bd (oM (uq y6 (.int (b:Int)))) λb8=>.ret (.bool b8)) λx9=>oM (nU [x9])) λx10=>oM (aX y6 x10)) λx11=>.ret (.tuple [x11,y7])) λx12=>(.ret (some x12):M (Option D)))) (e:=pT) (g:=λt=>shP b (pT t)) ts λt _=>vF b t
     have e3:dw (ts.map λt=>shP b (pT t))=.ret (ts.map λt=>shP b (pT t)):=iC (by rw[zzd]at *;omega)
     simp only[dh,oMS,bdR,e1,aw,hC,IL,lB,e2,e3,jt,oU,iW,HH]
     rw[va _ _ (by simp),oMS,bdR]
     show _=M.ret (PyData.tuple [.str "rest",.int m,.tuple ((ts.map pT).map (shP b))])
     rw[pr]
     rfl
    ·cases h2
   ·cases h2
  ·rename_i w a x y
   have hx:=hd.t.2 x (by simp)
   have hy:=hd.t.2 y (by simp)
   have ix3:aD (.tuple [.str w,a,x,y]) (.int 3)=some y:=ixT [.str w,a,x,y] 3 (by simp)
   have c2:L4.cutD [.str w,a,x,y] none (some 2)=[.str w,a]:=qQ _ 2
   have c3:L4.cutD [.str w,a,x,y] none (some 3)=[.str w,a,x]:=qQ _ 3
   unfold rf4 at h
   simp only[dh,oMS,bdR]
   rcases ac (w == "split")with q|q
   ·have:w = "split":=by simpa using q
    subst this
    rw[q,be rfl]at h
    split at h
    ·rename_i f e
     rw[ag]at h
     have e1:lh (.str "split") (.list [(.str "sum"),(.str "rest")])=some false:=by decide +kernel
     have e2:bD (.str "split") (.str "split")=some true:=by decide +kernel
     simp only[e1,e2,oMS,bdR,ff,aw,jt,oU,gj,ix3,ih _ _ (show n<=i by omega) hx h.1,ih _ _ (show n<=i by omega) hy h.2,c2]
     rw[va _ _ (by simp),oMS,bdR]
     show _=M.ret (if(Str.ofString "split" == Str.ofString "split")=true then PyData.tuple [.str "split",a,shD b i x,shD b i y]else if(Str.ofString "split" == Str.ofString "cases")=true then PyData.tuple [.str "split",a,x,shL (shD b i) y]else PyData.tuple [.str "split",a,shL (shD b i) x,shD b i y])
     rw[q,be rfl]
     rfl
    ·cases h
   ·rw[q,ff]at h
    rcases ac (w == "cases")with q2|q2
    ·have:w = "cases":=by simpa using q2
     subst this
     rw[q2,be rfl]at h
     split at h
     ·rename_i f m ps e
      rw[ag]at h
      have hps:∀p∈ps,bW i p (.int (b:Int))=.ret (shD b i p):=λp hp=>by
       obtain⟨j,hj⟩:=wN h.2 p hp
       exact ih _ _ (by omega) (hy.t.2 p hp) hj
      have hl:=hy.t.1
      have e1:lh (.str "cases") (.list [(.str "sum"),(.str "rest")])=some false:=by decide +kernel
      have e2:bD (.str "cases") (.str "split")=some false:=by decide +kernel
      have e4:bD (.str "cases") (.str "cases")=some true:=by decide +kernel
      have e5:=kG (step:=λd36=>bd (bW i d36 (.int (b:Int))) λx37=>.ret (some x37)) (g:=shD b i) ps λp hp=>by rw[hps p hp,bdR]
      have e6:dw (ps.map (shD b i))=.ret (ps.map (shD b i)):=iC (by rw[zzd];omega)
      simp only[e1,e2,e4,oMS,bdR,ff,aw,jt,oU,ix3,lB,e5,e6,iW,c3]
      rw[va _ _ (by simp),oMS,bdR]
      show _=M.ret (if(Str.ofString "cases" == Str.ofString "split")=true then PyData.tuple [.str "cases",a,shD b i (.int m),shD b i (.tuple ps)]else if(Str.ofString "cases" == Str.ofString "cases")=true then PyData.tuple [.str "cases",a,(.int m),shL (shD b i) (.tuple ps)]else PyData.tuple [.str "cases",a,shL (shD b i) (.int m),shD b i (.tuple ps)])
      rw[q,ff,q2,be rfl]
      rfl
     ·cases h
    ·rw[q2,ff]at h
     rcases ac (w == "know")with q3|q3
     ·have:w = "know":=by simpa using q3
      subst this
      rw[q3,be rfl]at h
      split at h
      ·rename_i k ps e
       rw[ag,ag,zzi]at h
       have hps:∀p∈ps,bW i p (.int (b:Int))=.ret (shD b i p):=λp hp=>by
        obtain⟨j,hj⟩:=CS h.1.1 h.1.2 p hp
        exact ih _ _ (by omega) (hx.t.2 p hp) hj
       have hl:=hx.t.1
       have e1:lh (.str "know") (.list [(.str "sum"),(.str "rest")])=some false:=by decide +kernel
       have e2:bD (.str "know") (.str "split")=some false:=by decide +kernel
       have e4:bD (.str "know") (.str "cases")=some false:=by decide +kernel
       have e5:=kG (step:=λd36=>bd (bW i d36 (.int (b:Int))) λx37=>.ret (some x37)) (g:=shD b i) ps λp hp=>by rw[hps p hp,bdR]
       have e6:dw (ps.map (shD b i))=.ret (ps.map (shD b i)):=iC (by rw[zzd];omega)
       simp only[e1,e2,e4,oMS,bdR,ff,jt,oU,gj,ix3,lB,e5,e6,iW,c2,ih _ _ (show n<=i by omega) hy h.2]
       rw[va _ _ (by simp),oMS,bdR]
       show _=M.ret (if(Str.ofString "know" == Str.ofString "split")=true then PyData.tuple [.str "know",a,shD b i (.tuple ps),shD b i y]else if(Str.ofString "know" == Str.ofString "cases")=true then PyData.tuple [.str "know",a,(.tuple ps),shL (shD b i) y]else PyData.tuple [.str "know",a,shL (shD b i) (.tuple ps),shD b i y])
       rw[q,ff,q2,ff]
       rfl
      ·cases h
     ·rw[q3,ff]at h
      cases h
  ·cases h
structure FB(m:Nat)(f:Fm):Prop where
 c:f.c.natAbs<=m
 i:∀x∈f.i,x.natAbs<=m
 o:∀x∈f.o,x.natAbs<=m
theorem FB.le{a:Nat}{f:Fm}(h:FB a f)(hl:a<=b):FB b f:=⟨eg h.c hl,λx q=>eg (h.i x q) hl,λx q=>eg (h.o x q) hl⟩
theorem sM(h:x.natAbs<=1000):sB (.int x)=true:=by
 show(decide (lo<=x)&&decide (x<=1000000000000000))=true
 unfold lo
 rw[de (by omega),de (by omega)];rfl
theorem D5{l:List Int}(hl:l.length=n)(h:∀x∈l,x.natAbs<=1000):sA n (dO l)=true:=by
 show(decide ((iL l).length=n)&&(iL l).all sB)=true
 rw[zzd,de hl,ce,ul]
 exact List.all_eq_true.mpr λx hx=>sM (h x hx)
theorem FB.form{f:Fm}(h:FB c f)(hc:c<=1000)(ok:FmOk R S f):gA R S f.d=some f:=by
 have h:=h.le hc
 show(if sF R S f.d=true then some (⟨f.c,jk (iL f.i),jk (iL f.o)⟩:Fm)else none)=_
 have:sF R S f.d=true:=by
  show(sB (.int f.c)&&sA R (dO f.i)&&sA S (dO f.o))=true
  rw[sM h.c,D5 ok.i h.i,D5 ok.o h.o];rfl
 rw[be this,uL,uL]
theorem FB.fact(h:FB c k.f)(hc:c<=1000)(ok:FcOk R S k):jw R S k.d=some k:=by
 have e:=h.form hc ok.f
 cases k with
 | le f =>
  have e:gA R S f.d=some f:=e
  unfold jw Fc.d
  dsimp only
  rw[be (by decide +kernel),e];rfl
 | sa f =>
  have e:gA R S f.d=some f:=e
  unfold jw Fc.d
  dsimp only
  rw[ef (by decide +kernel),be (by decide +kernel),e];rfl
 | re f m =>
  have e:gA R S f.d=some f:=e
  obtain⟨m1,m2⟩:=ok.m f m rfl
  unfold jw Fc.d
  dsimp only
  rw[be (by
   rw[show sW 2 99 (.int m)=(decide (2<=m)&&decide (m<=99))from rfl,de m1,de m2]
   decide +kernel),e];rfl
theorem wY:∀l:List Int,L4.szs (iL l)=l.length
 | []=>rfl
 | a::l=>by show L4.szs (PyData.int a::iL l)=_;simp only[L4.szs,L4.sz];rw[wY l,bu];omega
theorem EJ(l:List Int):(dO l).depth<=1:=dp_tuple.mpr λd hd=>by
 obtain⟨x,_,rfl⟩:=List.mem_map.mp hd
 simp[PyData.depth]
theorem D3{l:List Int}(h:∀x∈l,x.natAbs<B):Sk B (dO l):=skT.mpr λd hd=>by
 obtain⟨x,hx,rfl⟩:=List.mem_map.mp hd
 exact skI.mpr (h x hx)
theorem tw{f:Fm}(ok:FmOk R S f):L4.sz f.d=4+R+S:=by
 simp only[L4.sz,L4.szs]
 rw[wY,wY,ok.i,ok.o];omega
theorem tB(f:Fm):f.d.depth<=2:=dp_tuple.mpr λd hd=>by
 simp only[ak,ai,el]at hd
 rcases hd with rfl|rfl|rfl
 ·simp[PyData.depth]
 ·exact EJ _
 ·exact EJ _
theorem tx{f:Fm}(h:FB c f)(hl:c<B):Sk B f.d:=skT.mpr λd hd=>by
 simp only[ak,ai,el]at hd
 rcases hd with rfl|rfl|rfl
 ·exact skI.mpr (by have:=h.c;omega)
 ·exact D3 λx hx=>by have:=h.i x hx;omega
 ·exact D3 λx hx=>by have:=h.o x hx;omega
theorem EQ:dn "least" = true:=by decide +kernel
theorem Gu:dn "same" = true:=by decide +kernel
theorem AN:dn "rest" = true:=by decide +kernel
theorem vo:dn "sum" = true:=by decide +kernel
theorem wO:dn "split" = true:=by decide +kernel
theorem wQ:dn "cases" = true:=by decide +kernel
theorem vp:dn "know" = true:=by decide +kernel
theorem Ca(ok:FcOk R S k):L4.sz k.d<=7+R+S:=by
 have:=tw ok.f
 cases k<;>simp only[Fc.d,Fc.f,L4.sz,L4.szs]at * <;> omega
theorem Cc(k:Fc):k.d.depth<=3:=by
 have:=tB k.f
 cases k<;>(refine dp_tuple.mpr λd hd=>?_;simp only[ak,ai,el]at hd)
 ·rcases hd with rfl|rfl
  ·simp[PyData.depth]
  ·exact this
 ·rcases hd with rfl|rfl
  ·simp[PyData.depth]
  ·exact this
 ·rcases hd with rfl|rfl|rfl
  ·simp[PyData.depth]
  ·exact this
  ·simp[PyData.depth]
theorem Cb(ok:FcOk R S k)(h:FB c k.f)(hl:c<B)(hB:100<=B):Sk B k.d:=by
 have:=tx h hl
 cases k<;>(refine skT.mpr λd hd=>?_;simp only[ak,ai,el]at hd)
 ·rcases hd with rfl|rfl
  ·exact skW EQ
  ·exact this
 ·rcases hd with rfl|rfl
  ·exact skW Gu
  ·exact this
 ·rename_i f m
  obtain⟨m1,m2⟩:=ok.m f m rfl
  rcases hd with rfl|rfl|rfl
  ·exact skW AN
  ·exact this
  ·exact skI.mpr (by omega)
theorem vc{b:Int}{x y:Nat}(h:a.natAbs<=x)(g:b.natAbs<=y):(a+b).natAbs<=x+y:=by omega
theorem vb{b:Int}{x y:Nat}(h:a.natAbs<=x)(g:b.natAbs<=y):(a*b).natAbs<=x*y:=by
 rw[Int.natAbs_mul];exact Nat.mul_le_mul h g
theorem FB.add{a:Nat}{f:Fm}{t:Int}(h:FB a f)(k:FB b g)(ht:t.natAbs<=c):FB (a+c*b) (f.add g t):=by
 have hz:∀l m:List Int,(∀x∈l,x.natAbs<=a)->(∀x∈m,x.natAbs<=b)->∀x∈List.zipWith (λa b=>a+t*b) l m,x.natAbs<=a+c*b:=by
  intro l
  induction l with
  | nil=>intro m _ _ x hx;simp at hx
  | cons y l ih =>
   intro m h1 h2 x hx
   cases m with
   | nil=>simp at hx
   | cons z m =>
    rw[ny]at hx
    rcases List.mem_cons.mp hx with rfl|hx
    ·exact vc (h1 y (by simp)) (vb ht (h2 z (by simp)))
    ·exact ih m (λx q=>h1 x (by simp[q])) (λx q=>h2 x (by simp[q])) x hx
 exact⟨vc h.c (vb ht k.c),hz _ _ h.i k.i,hz _ _ h.o k.o⟩
theorem FB.zero(R S:Nat):FB 0 (Fm.zero R S):=⟨by simp[Fm.zero],λx hx=>by
 have:x=0:=gn hx
 subst this;simp,λx hx=>by
 have:x=0:=gn hx
 subst this;simp⟩
theorem FB.plus{f:Fm}(h:FB c f){k:Int}{d:Nat}(hk:k.natAbs<=d):FB (c+d) (f.plus k):=⟨vc h.c hk,λx q=>eg (h.i x q) (by omega),λx q=>eg (h.o x q) (by omega)⟩
theorem EK(ds:List D)(lo hi:Option Int):fH (.list ds) lo hi=some (.list (L4.cutD ds lo hi)):=id rfl
theorem iA{f:Fm}(hf:FmOk R S f)(hg:FmOk R S g)(hR:R<=100)(hS:S<=100){t:Int}(ht:t.natAbs<=1000):dE f.d g.d (.int t)=.ret (f.add g t).d:=by
 have hm:∀x:Int,bw (.int t) (.int x)=some (.int (t*x)):=λx=>iM _ _ (by omega) (by omega)
 have hz:∀(l m:List Int),l.length<=100->m.length=l.length->bH (λd3=>bd (bd (oM (aD (dO l) d3)) λx7=>bd (bd (oM (aD (dO m) d3)) λx6=>oM (bw (.int t) x6)) λx8=>oM (aX x7 x8)) λx9=>.ret (some x9)) ((List.range l.length).map iN)=.ret (iL (List.zipWith (λa b=>a+t*b) l m)):=by
  intro l m hl hlm
  rw[cn (g:=λj=>.int (l.getD j 0+t*m.getD j 0)) (List.range l.length) λj hj=>by
   have hj:=List.mem_range.mp hj
   have i1:aD (dO l) (iN j)=some (.int l[j]):=ixI l j hj
   have i2:aD (dO m) (iN j)=some (.int (m[j]'(by omega))):=ixI m j (by omega)
   rw[i1,oMS,bdR,i2,oMS,bdR,hm,oMS,bdR,gI,oMS,bdR,al,ax hj,al,ax (by omega)]
   rfl]
  congr 1
  apply JF
  ·simp[hlm]
  ·intro j q1 q2
   rw[zzd,ic]at q1
   rw[og,Jq,og,List.getElem_zipWith,al,ax q1,al,ax (by omega)]
   rfl
 have h1:=hz f.i g.i (by rw[hf.i];omega) (by rw[hf.i,hg.i])
 have h2:=hz f.o g.o (by rw[hf.o];omega) (by rw[hf.o,hg.o])
 have l1:∀(l m:List Int),l.length<=100->m.length=l.length->dw (iL (List.zipWith (λa b=>a+t*b) l m))=.ret (iL (List.zipWith (λa b=>a+t*b) l m)):=λl m hl hlm=>cM (by simp[hlm];omega)
 unfold dE
 simp only[dh,eA,gj,oMS,bdR,hU,zzd]
 rw[eh _ (by rw[hf.i];omega),oMS,bdR,h1,bdR,l1 _ _ (by rw[hf.i];omega) (by rw[hf.i,hg.i]),bdR,bdR,iW,oMS,bdR,eh _ (by rw[hf.o];omega),oMS,bdR,h2,bdR,l1 _ _ (by rw[hf.o];omega) (by rw[hf.o,hg.o]),bdR,bdR,iW,oMS,bdR,hm,oMS,bdR,gI,oMS,bdR,bdR]
 rfl
theorem jf{f:List D}(hR:R<=100)(hS:S<=100)(hf:Fd T f)(hT:T<=90000):∃g f',cN f (sz R S)=.ret (g.d,f')/\FmOk R S g/\FB 3 g/\Fd (T+1+R+S) f':=by
 unfold cN
 have z0:aD (sz R S) (.int 0)=some (.int R):=rfl
 have z1:aD (sz R S) (.int 1)=some (.int S):=rfl
 have n1:bN (.int 1)=some (.int (-1)):=rfl
 have n2:bN (.int 2)=some (.int (-2)):=rfl
 simp only[n1,n2,oMS,bdR,z0,z1,gI]
 rw[show(1:Int)+R+S=((1+R+S:Nat):Int) by omega,eh _ (by omega),oMS,bdR]
 obtain⟨xs,s',c1,⟨f',rfl,hf'⟩,hl,hx⟩:=nV (step:=λ(s10:List D×D×D×Unit) d11=>bd (aH s10.1 (.int 7)) λr12=>bd (oM (aD s10.2.2.1 r12.1)) λx13=>.ret (some x13,(r12.2,s10.2.1,s10.2.2.1,()))) (P:=λj s=>∃f,s=(f,sz R S,.list (iL [0,1,-1,2,0,-2,3]),())/\Fd (T+j) f) (e:=PyData.int) (R:=λx=>x.natAbs<=3) ((List.range (1+R+S)).map iN) 0 (f,sz R S,.list (iL [0,1,-1,2,0,-2,3]),()) (by
   rintro j s d hd ⟨g,rfl,hg⟩
   have hj:j<1+R+S:=by
    have:=(List.getElem?_eq_some_iff.mp hd).1
    simpa using this
   obtain⟨r,x,g',m1,m2,⟨y,rfl,hy⟩,m4⟩:=menu (P:=λd=>∃x:Int,d=.int x/\x.natAbs<=3) (m:=iL [0,1,-1,2,0,-2,3]) (b:=7) rfl (by decide) (by decide) (by
    intro d hd
    obtain⟨x,hx,rfl⟩:=List.mem_map.mp hd
    refine⟨x,rfl,?_⟩
    simp only[ak,ai,el]at hx
    rcases hx with rfl|rfl|rfl|rfl|rfl|rfl|rfl<;>decide) hg (by omega)
   refine⟨y,(g',sz R S,.list (iL [0,1,-1,2,0,-2,3]),()),?_,⟨g',rfl,by rw[<-Nat.add_assoc,<-Nat.add_assoc]at *;exact m4.le (by omega)⟩,hy⟩
   dsimp only
   rw[show aH g (.int 7)=_ from m1,bdR,m2,oMS,bdR]) ⟨f,rfl,hf.le (by omega)⟩
 rw[show(PyData.list [.int 0,.int 1,.int (-1),.int 2,.int 0,.int (-2),.int 3])=.list (iL [0,1,-1,2,0,-2,3])from rfl,c1,bdR]
 rw[zzd,ic]at hl hf'
 match xs,hl,hx with
 | [],hl,_=>simp only[tt]at hl;omega
 | x::ys,hl,hx =>
  have hy:ys.length=R+S:=by simp only[bu]at hl;omega
  have q1:L4.cutD (iL (x::ys)) (some 1) (some (1+(R:Int)))=iL (ys.take R):=by
   rw[show(1:Int)+(R:Int)=((1+R:Nat):Int) by omega,show(1:Int)=((1:Nat):Int)from rfl,Ck _ 1 (1+R) (by omega) (by rw[zzd,bu];omega),show 1+R - 1=R by omega]
   show(iL ys).take R=_
   rw[<-List.map_take]
  have q2:L4.cutD (iL (x::ys)) (some (1+(R:Int))) none=iL (ys.drop R):=by
   rw[show(1:Int)+(R:Int)=((1+R:Nat):Int) by omega,qP,show 1+R=R+1 by omega]
   show(iL ys).drop R=_
   rw[<-List.map_drop]
  have q0:aD (.list (iL (x::ys))) (.int 0)=some (.int x):=Ho (x::ys) 0 (by simp)
  refine⟨⟨x,ys.take R,ys.drop R⟩,f',?_,⟨by simp[hy],by simp[hy]⟩,⟨hx x (by simp),λz hz=>hx z (by simp[mo hz]),λz hz=>hx z (by simp[ng hz])⟩,hf'.le (by omega)⟩
  dsimp only
  rw[cM (by rw[zzd,bu];omega),bdR]
  simp only[q0,oMS,bdR,jt,z0,gI,EK,q1,q2,iW]
theorem DL{f:List D}(hR:R<=100)(hS:S<=100)(hf:Fd T f)(hT:T<=90000):∃g f',iT f (sz R S)=.ret (g.d,f')/\FmOk R S g/\FB 4 g/\g.c<0/\(∀x∈g.i++g.o,x<=0)/\Fd (T+1+R+S) f':=by
 unfold iT
 have z0:aD (sz R S) (.int 0)=some (.int R):=rfl
 have z1:aD (sz R S) (.int 1)=some (.int S):=rfl
 have n1:bN (.int 1)=some (.int (-1)):=rfl
 have n2:bN (.int 2)=some (.int (-2)):=rfl
 have n3:bN (.int 3)=some (.int (-3)):=rfl
 simp only[n1,n2,n3,oMS,bdR,z0,z1,gI]
 rw[show(R:Int)+S=((R+S:Nat):Int) by omega,eh _ (by omega),oMS,bdR]
 obtain⟨ys,s',c1,⟨f',rfl,hf'⟩,hl,hx⟩:=nV (step:=λ(s10:List D×D×D×Unit) d11=>bd (aH s10.1 (.int 6)) λr12=>bd (oM (aD s10.2.2.1 r12.1)) λx13=>.ret (some x13,(r12.2,s10.2.1,s10.2.2.1,()))) (P:=λj s=>∃f,s=(f,sz R S,.list (iL [0,-1,0,-3,0,-2]),())/\Fd (T+j) f) (e:=PyData.int) (R:=λx=>x.natAbs<=3/\x<=0) ((List.range (R+S)).map iN) 0 (f,sz R S,.list (iL [0,-1,0,-3,0,-2]),()) (by
   rintro j s d hd ⟨g,rfl,hg⟩
   have hj:j<R+S:=by
    have:=(List.getElem?_eq_some_iff.mp hd).1
    simpa using this
   obtain⟨r,x,g',m1,m2,⟨y,rfl,hy⟩,m4⟩:=menu (P:=λd=>∃x:Int,d=.int x/\x.natAbs<=3/\x<=0) (m:=iL [0,-1,0,-3,0,-2]) (b:=6) rfl (by decide) (by decide) (by
    intro d hd
    obtain⟨x,hx,rfl⟩:=List.mem_map.mp hd
    refine⟨x,rfl,?_⟩
    simp only[ak,ai,el]at hx
    rcases hx with rfl|rfl|rfl|rfl|rfl|rfl<;>decide) hg (by omega)
   refine⟨y,(g',sz R S,.list (iL [0,-1,0,-3,0,-2]),()),?_,⟨g',rfl,by rw[<-Nat.add_assoc,<-Nat.add_assoc]at *;exact m4.le (by omega)⟩,hy⟩
   dsimp only
   rw[show aH g (.int 6)=_ from m1,bdR,m2,oMS,bdR]) ⟨f,rfl,hf.le (by omega)⟩
 rw[show(PyData.list [.int 0,.int (-1),.int 0,.int (-3),.int 0,.int (-2)])=.list (iL [0,-1,0,-3,0,-2])from rfl,c1,bdR]
 rw[zzd,ic]at hl hf'
 obtain⟨r,f2,t1,t2,t3,t4⟩:=cF hf' (by omega) (m:=4) (by decide) (by decide)
 have q1:L4.cutD (iL ys) none (some (R:Int))=iL (ys.take R):=by rw[qQ,<-List.map_take]
 have q2:L4.cutD (iL ys) (some (R:Int)) none=iL (ys.drop R):=by rw[qP,<-List.map_drop]
 refine⟨⟨-1 - r,ys.take R,ys.drop R⟩,f2,?_,⟨by simp[hl],by simp[hl]⟩,⟨by show(-1 - r).natAbs<=4;omega,λz hz=>by have:=(hx z (mo hz)).1;omega,λz hz=>by have:=(hx z (ng hz)).1;omega⟩,by show -1 - r<0;omega,λz hz=>?_,t4.le (by omega)⟩
 ·dsimp only
  rw[cM (by rw[zzd];omega),bdR]
  rw[show aH f' (.int 4)=_ from t1]
  simp only[oMS,bdR,jt,z0,mq,EK,q1,q2,iW]
 ·rcases List.mem_append.mp hz with q|q
  ·exact(hx z (mo q)).2
  ·exact(hx z (ng q)).2
theorem rc{fs:List Fc}(hr:Ri fs.length (-1) ts)(hm:∀t∈ts,cS fs t=true)(hc:(sumF R S fs ts).c<0)(hx:∀x∈(sumF R S fs ts).i++(sumF R S fs ts).o,x<=0):gX R S fs (.tuple (ts.map pT))=true:=by
 unfold gX
 dsimp only
 rw[o8 hr]
 dsimp only
 rw[List.all_eq_true.mpr hm,de hc,ce,ce]
 exact List.all_eq_true.mpr λx q=>de (hx x q)
theorem tM{fs:List Fc}{m:Int}(h2:2<=m)(h99:m<=99)(hr:Ri fs.length (-1) ts)(hm:∀t∈ts,cq m fs t=true)(hc:(sumF R S fs ts).c % m≠0)(hx:∀x∈(sumF R S fs ts).i++(sumF R S fs ts).o,x % m=0):dI R S fs (.int m) (.tuple (ts.map pT))=true:=by
 unfold dI
 dsimp only
 rw[o8 hr,show sW 2 99 (.int m)=(decide (2<=m)&&decide (m<=99))from rfl,de h2,de h99]
 dsimp only
 rw[List.all_eq_true.mpr hm,show((sumF R S fs ts).c % m==0)=false from by rw[br];exact hc,ce,di,ce,ce]
 exact List.all_eq_true.mpr λx q=>by rw[Jp];exact hx x q
abbrev dr(ts:List (Nat×Int)):D:=.tuple [.str "sum",.tuple (ts.map pT)]
abbrev dS(m:Int)(ts:List (Nat×Int)):D:=.tuple [.str "rest",.int m,.tuple (ts.map pT)]
theorem xh{fs:List Fc}(h:gX R S fs (.tuple (ts.map pT))=true):rf R S (n+1) fs (dr ts)=true:=by
 have e:rf R S (n+1) fs (dr ts)=(((("sum" : String):Str) == "sum")&&gX R S fs (.tuple (ts.map pT))):=rfl
 rw[e,h];decide +kernel
theorem yw{fs:List Fc}{m:Int}(h:dI R S fs (.int m) (.tuple (ts.map pT))=true):rf R S (n+1) fs (dS m ts)=true:=by
 have e:rf R S (n+1) fs (dS m ts)=(((("rest" : String):Str) == "rest")&&dI R S fs (.int m) (.tuple (ts.map pT))):=rfl
 rw[e,h];decide +kernel
structure Mu(v:Int)(f g:Fm):Prop where
 i:g.i=f.i.map (v * ·)
 o:g.o=f.o.map (v * ·)
theorem Mu.one(f:Fm):Mu 1 f f:=⟨by simp,by simp⟩
theorem Mu.plus(f:Fm)(k:Int):Mu 1 f (f.plus k):=⟨by simp[Fm.plus],by simp[Fm.plus]⟩
theorem Mu.neg(f:Fm)(k:Int):Mu (-1) f (f.neg.plus k):=⟨by simp[Fm.plus,Fm.neg],by simp[Fm.plus,Fm.neg]⟩
theorem vt{f:Fm}{v u t:Int}(ok:FmOk R S f)(hg:Mu v f g)(hh:Mu u f h)(e:s*v+t*u=0):(((Fm.zero R S).add g s).add h t).c=s*g.c+t*h.c/\∀x∈(((Fm.zero R S).add g s).add h t).i++(((Fm.zero R S).add g s).add h t).o,x=0:=by
 have hz:∀l:List Int,∀x∈List.zipWith (λa b=>a+t*b) (List.zipWith (λa b=>a+s*b) (List.replicate l.length 0) (l.map (v * ·))) (l.map (u * ·)),x=0:=by
  intro l
  induction l with
  | nil=>intro x hx;simp at hx
  | cons y l ih =>
   intro x hx
   rw[bu,gt,je,je,ny,ny]at hx
   rcases List.mem_cons.mp hx with rfl|hx
   ·have:0+s*(v*y)+t*(u*y)=(s*v+t*u)*y:=by rw[Int.add_mul,Int.mul_assoc,Int.mul_assoc,Int.zero_add]
    rw[this,e,Int.zero_mul]
   ·exact ih x hx
 refine⟨?_,λx hx=>?_⟩
 ·show 0+s*g.c+t*h.c=_
  rw[Int.zero_add]
 ·rcases List.mem_append.mp hx with q|q
  ·have q:x∈List.zipWith (λa b=>a+t*b) (List.zipWith (λa b=>a+s*b) (List.replicate R 0) g.i) h.i:=q
   rw[hg.i,hh.i,<-ok.i]at q
   exact hz f.i x q
  ·have q:x∈List.zipWith (λa b=>a+t*b) (List.zipWith (λa b=>a+s*b) (List.replicate S 0) g.o) h.o:=q
   rw[hg.o,hh.o,<-ok.o]at q
   exact hz f.o x q
theorem uO{fs:List Fc}(h:fs[i]? = some k):i<fs.length:=(List.getElem?_eq_some_iff.mp h).1
section
variable {fs:List Fc} {t:Int} {l:Fc} {f:Fm} {v u:Int}
theorem sum2(hk:fs[i]? = some k)(hl:fs[j]? = some l):sumF R S fs [(i,s),(j,t)]=((Fm.zero R S).add k.f s).add l.f t:=by
 show((Fm.zero R S).add (fs.getD i _).f s).add (fs.getD j _).f t=_
 rw[al,al,hk,hl]
 rfl
theorem ri2(hij:i<j)(hk:fs[i]? = some k)(hl:fs[j]? = some l)(hs:s.natAbs<=1000)(ht:t.natAbs<=1000)(s0:s≠0)(t0:t≠0):Ri fs.length (-1) [(i,s),(j,t)] :=
 ⟨⟨by show(-1:Int)<(i:Int);omega,uO hk,sM hs,s0⟩,⟨by show(i:Int)<(j:Int);omega,uO hl,sM ht,t0⟩,trivial⟩
theorem pj(hij:i<j)(hk:fs[i]? = some k)(hl:fs[j]? = some l)(hs:s.natAbs<=1000)(ht:t.natAbs<=1000)(s0:s≠0)(t0:t≠0)(ok:FmOk R S f)(h1:Mu v f k.f)(h2:Mu u f l.f)(e:s*v+t*u=0)(m1:cS fs (i,s)=true)(m2:cS fs (j,t)=true)(hc:s*k.f.c+t*l.f.c<0):rf R S (n+1) fs (dr [(i,s),(j,t)])=true:=by
 obtain⟨z1,z2⟩:=vt ok h1 h2 e
 refine xh (rc (ri2 hij hk hl hs ht s0 t0) (λq hq=>?_) ?_ ?_)
 ·simp only[ak,ai,el]at hq
  rcases hq with rfl|rfl
  ·exact m1
  ·exact m2
 ·rw[sum2 hk hl,z1];exact hc
 ·rw[sum2 hk hl];exact λx hx=>by rw[z2 x hx];decide
theorem ql{m:Int}(h2':2<=m)(h99:m<=99)(hij:i<j)(hk:fs[i]? = some k)(hl:fs[j]? = some l)(hs:s.natAbs<=1000)(ht:t.natAbs<=1000)(s0:s≠0)(t0:t≠0)(ok:FmOk R S f)(h1:Mu v f k.f)(h2:Mu u f l.f)(e:s*v+t*u=0)(m1:cq m fs (i,s)=true)(m2:cq m fs (j,t)=true)(hc:(s*k.f.c+t*l.f.c) % m≠0):rf R S (n+1) fs (dS m [(i,s),(j,t)])=true:=by
 obtain⟨z1,z2⟩:=vt ok h1 h2 e
 refine yw (tM h2' h99 (ri2 hij hk hl hs ht s0 t0) (λq hq=>?_) ?_ ?_)
 ·simp only[ak,ai,el]at hq
  rcases hq with rfl|rfl
  ·exact m1
  ·exact m2
 ·rw[sum2 hk hl,z1];exact hc
 ·rw[sum2 hk hl];exact λx hx=>by rw[z2 x hx,Int.zero_emod]
end
theorem gf{fs:List Fc}{f:Fm}{t:Int}(h:fs[i]? = some (.le f))(ht:1<=t):cS fs (i,t)=true:=by
 unfold cS;dsimp only;rw[h];exact de ht
theorem ji{fs:List Fc}{f:Fm}{t:Int}(h:fs[i]? = some (.sa f)):cS fs (i,t)=true:=by
 unfold cS;dsimp only;rw[h]
theorem qG{fs:List Fc}{f:Fm}{m t:Int}(h:fs[i]? = some (.sa f)):cq m fs (i,t)=true:=by
 unfold cq;dsimp only;rw[h]
theorem gg{fs:List Fc}{f:Fm}{m k t:Int}(h:fs[i]? = some (.re f k))(hk:k % m=0):cq m fs (i,t)=true:=by
 unfold cq;dsimp only;rw[h];rw[Jp];exact hk
theorem dX(fs:List Fc)(k:Fc):(fs++[k])[fs.length]? = some k:=by simp
theorem jQ{fs:List Fc}(h:fs[i]? = some k)(q:Fc):(fs++[q])[i]? = some k:=by
 rw[ev (uO h),h]
def fU(i n:Nat):Fc->List D
 | .re _ m=>List.replicate (m.toNat - 1) (dS m [(i,1),(n,-1)])
 | .sa _=>[dr [(i,-1),(n,1)],dr [(i,1),(n,1)]]
 | .le _=>[dr [(i,1),(n,1)]]
theorem A0{fs:List Fc}(h:fs[i]? = some k)(ok:FcOk R S k):shB R S (n+1) fs k (.tuple (fU i fs.length k))=true:=by
 have hi:=uO h
 have hf:=ok.f
 unfold shB
 dsimp only
 have nt:∀f:Fm,(jh f).f=f.neg.plus (-1):=λf=>rfl
 have kept:∀f:Fm,FmOk R S f->k.f=f->cS (fs++[jh f]) (i,1)=true->rf R S (n+1) (fs++[jh f]) (dr [(i,1),(fs.length,1)])=true:=λf hf e hm =>
  pj (f:=f) (v:=1) (u:=-1) hi (jQ h _) (dX fs _) (by decide) (by decide) (by decide) (by decide) hf (by rw[e];exact Mu.one f) (by rw[nt];exact Mu.neg f _) (by decide) hm (gf (dX fs _) (by decide)) (by
   rw[e,nt]
   show 1*f.c+1*(-f.c + -1)<0
   omega)
 cases k with
 | le f =>
  show(decide ([dr [(i,1),(fs.length,1)]].length=[jh f].length)&&(([jh f].zip [dr [(i,1),(fs.length,1)]]).all λp=>rf R S (n+1) (fs++[p.1]) p.2))=true
  simp only[List.zip_cons_cons,List.zip_nil_right,ir,zi,ke,bu,tt,Js,ce]
  exact kept f hf rfl (gf (jQ h _) (by decide))
 | sa f =>
  show(decide ([dr [(i,-1),(fs.length,1)],dr [(i,1),(fs.length,1)]].length=[Fc.le (f.plus (-1)),jh f].length)&&(([Fc.le (f.plus (-1)),jh f].zip [dr [(i,-1),(fs.length,1)],dr [(i,1),(fs.length,1)]]).all λp=>rf R S (n+1) (fs++[p.1]) p.2))=true
  simp only[List.zip_cons_cons,List.zip_nil_right,ir,zi,ke,bu,tt,Js,ce]
  rw[kept f hf rfl (ji (jQ h _)),ke]
  exact pj (f:=f) (v:=1) (u:=1) hi (jQ h _) (dX fs _) (by decide) (by decide) (by decide) (by decide) hf (Mu.one f) (Mu.plus f (-1)) (by decide) (ji (jQ h _)) (gf (dX fs _) (by decide)) (by
   show -1*f.c+1*(f.c + -1)<0
   omega)
 | re f m =>
  obtain⟨m1,m2⟩:=ok.m f m rfl
  have hl:(cI (.re f m)).length=m.toNat - 1:=by simp[cI]
  show(decide ((List.replicate (m.toNat - 1) (dS m [(i,1),(fs.length,-1)])).length=(cI (.re f m)).length)&&_)=true
  rw[hl,ve,de rfl,ce]
  refine List.all_eq_true.mpr λp hp=>?_
  obtain⟨p1,p2⟩:=p
  have q1:=(xt hp).1
  have q2:=gn (xt hp).2
  obtain⟨j,hj,rfl⟩:=List.mem_map.mp q1
  have hj:=List.mem_range.mp hj
  dsimp only at q2 ⊢
  rw[q2]
  refine ql (f:=f) (v:=1) (u:=1) m1 m2 hi (jQ h _) (dX fs _) (by decide) (by decide) (by decide) (by decide) hf (Mu.one f) (Mu.plus f _) (by decide) (gg (jQ h _) (Jx)) (gg (dX fs _) (Jx)) ?_
  show(1*f.c + -1*(f.c + -((j+1:Nat):Int))) % m≠0
  rw[show 1*f.c + -1*(f.c + -((j+1:Nat):Int))=((j+1:Nat):Int) by omega,Int.emod_eq_of_lt (by omega) (by omega)]
  omega
structure FsG(R S:Nat)(fs:List Fc):Prop where
 ok:∀k∈fs,FcOk R S k
 fb:∀k∈fs,FB 900 k.f
 mx:∀k∈fs,∀f m,k=.re f m->m<=45
 pos:1<=fs.length
 len:fs.length<=4
def gz:Nat->Nat
 | 0=>110
 | 1=>610
 | 2=>1850
 | _=>5570
structure Wy(R S t:Nat)(fs:List Fc)(w:D):Prop where
 rf:rf R S (2+t) fs w=true
 sk:Sk (1000+t) w
 sz:L4.sz w<=gz t
 dp:w.depth<=8+2*t
 si:∀s r,w=.tuple (.str s::r)->(s == "sum" || s == "rest")=true->L4.sz w<=20
theorem EF{t:Nat}:gz t<=5570:=by unfold gz;split<;>decide
theorem yT{t x:Nat}(ht:t<3)(h:x<=3*gz t+20\/x<=gz t+500):x<=gz (t+1):=by
 match t,ht with
 | 0,_=>simp only[gz]at *;omega
 | 1,_=>simp only[gz]at *;omega
 | 2,_=>simp only[gz]at *;omega
theorem Wy.sh{t:Nat}{fs:List Fc}{w:D}(h:Wy R S t fs w)(ht:t<=3):Sh w:=by
 refine⟨h.sk.sm ?_,?_,?_⟩
 ·have:(1000+3:Nat)<=10^19:=by decide
  omega
 ·have:=h.sz
  have:=@EF t
  omega
 ·have:=h.dp
  omega
theorem yy{fs:List Fc}{w:D}(h:rf R S n fs w=true):∃s r,w=.tuple (.str s::r):=by
 cases n with
 | zero=>cases h
 | succ n =>
  unfold rf at h
  split at h
  ·exact⟨_,_,rfl⟩
  ·exact⟨_,_,rfl⟩
  ·exact⟨_,_,rfl⟩
  ·cases h
theorem vH{fs:List Fc}{a b c:D}{f:Fm}(ha:gA R S a=some f)(hb:rf R S n (fs++[.le f]) b=true)(hc:rf R S n (fs++[jh f]) c=true):rf R S (n+1) fs (.tuple [.str "split",a,b,c])=true:=by
 rw[iK]
 unfold brL
 rw[be (by decide +kernel),ha]
 simp[hb,hc]
theorem vI{fs:List Fc}{a:D}{m:Int}{ps:List D}{f:Fm}(ha:gA R S a=some f)(h2:2<=m)(h9:m<=9)(hl:(ps.length:Int)=m)(hp:∀(j:Nat) (p:D),ps[j]? = some p->rf R S n (fs++[.re (f.plus (-(j:Int))) m]) p=true):rf R S (n+1) fs (.tuple [.str "cases",a,.int m,.tuple ps])=true:=by
 rw[iK]
 unfold brL csL
 rw[ef (by decide +kernel),be (by decide +kernel),ha]
 dsimp only
 rw[be (by rw[show sW 2 9 (.int m)=(decide (2<=m)&&decide (m<=9))from rfl,de h2,de h9,de hl];rfl)]
 dsimp only
 rw[ul]
 refine List.all_eq_true.mpr λq hq=>?_
 obtain⟨q1,q2⟩:=q
 have:=List.mem_zipIdx hq
 have e:ps[q2]? = some q1:=by
  rw[this.2.2,ax (by omega)]
  simp
 exact hp q2 q1 e
theorem C3{fs:List Fc}{a b c:D}(ha:jw R S a=some k)(hb:shB R S n fs k b=true)(hc:rf R S n (fs++[k]) c=true):rf R S (n+1) fs (.tuple [.str "know",a,b,c])=true:=by
 rw[iK]
 unfold brL
 rw[ef (by decide +kernel),ef (by decide +kernel),be (by decide +kernel),ha]
 dsimp only
 rw[be hb]
 simp[hc]
theorem FF(a:D)(k:Nat)(h:k<=1000):dF (.tuple [a]) (.int k)=some (.tuple (List.replicate k a)):=by
 rw[yH _ _ _ (by omega) (by omega) (by simp;exact eg h (by decide)),lu]
 simp
theorem sk4{a b c d:D}(h1:Sk B a)(h2:Sk B b)(h3:Sk B c)(h4:Sk B d):Sk B (.tuple [a,b,c,d]):=skT.mpr λx hx=>by
 simp only[ak,ai,el]at hx
 rcases hx with rfl|rfl|rfl|rfl<;>assumption
theorem dp4{p:Nat}{a b c d:D}(h1:a.depth<=p)(h2:b.depth<=p)(h3:c.depth<=p)(h4:d.depth<=p):(PyData.tuple [a,b,c,d]).depth<=p+1:=dp_tuple.mpr λx hx=>by
 simp only[ak,ai,el]at hx
 rcases hx with rfl|rfl|rfl|rfl<;>assumption
theorem o9(a:D):∀n,L4.szs (List.replicate n a)=n*L4.sz a
 | 0=>by simp[L4.szs]
 | n+1=>by rw[gt];simp only[L4.szs];rw[o9 a n,Nat.succ_mul];omega
theorem vL{t:Int}(hi:i<=10)(hn:n<=10)(hs:s.natAbs<=10)(ht:t.natAbs<=10):Sk 1000 (.tuple ([(i,s),(n,t)].map pT))/\L4.sz (.tuple ([(i,s),(n,t)].map pT))=7/\(PyData.tuple ([(i,s),(n,t)].map pT)).depth<=2:=by
 have p1:∀(i:Nat) (s:Int),i<=10->s.natAbs<=10->Sk 1000 (pT (i,s))/\(pT (i,s)).depth<=1:=λi s hi hs=>⟨skT.mpr λx hx=>by
  simp only[ak,ai,el]at hx
  rcases hx with rfl|rfl
  ·exact skI.mpr (by omega)
  ·exact skI.mpr (by omega),dp_tuple.mpr λx hx=>by
  simp only[ak,ai,el]at hx
  rcases hx with rfl|rfl<;>simp[PyData.depth]⟩
 refine⟨skT.mpr λx hx=>?_,by simp[L4.sz,L4.szs],dp_tuple.mpr λx hx=>?_⟩
 ·simp only[je,List.map_nil,ak,ai,el]at hx
  rcases hx with rfl|rfl
  ·exact(p1 _ _ hi hs).1
  ·exact(p1 _ _ hn ht).1
 ·simp only[je,List.map_nil,ak,ai,el]at hx
  rcases hx with rfl|rfl
  ·exact(p1 _ _ hi hs).2
  ·exact(p1 _ _ hn ht).2
theorem tV{t:Int}(hi:i<=10)(hn:n<=10)(hs:s.natAbs<=10)(ht:t.natAbs<=10):Sk 1000 (dr [(i,s),(n,t)])/\L4.sz (dr [(i,s),(n,t)])=9/\(dr [(i,s),(n,t)]).depth<=3:=by
 obtain⟨h1,h2,h3⟩:=vL hi hn hs ht
 refine⟨skT.mpr λx hx=>?_,by rw[show dr [(i,s),(n,t)]=.tuple [.str "sum",.tuple ([(i,s),(n,t)].map pT)]from rfl,L4.sz,L4.szs,L4.szs,L4.szs,h2,L4.sz],dp_tuple.mpr λx hx=>?_⟩
 ·simp only[ak,ai,el]at hx
  rcases hx with rfl|rfl
  ·exact skW vo
  ·exact h1
 ·simp only[ak,ai,el]at hx
  rcases hx with rfl|rfl
  ·simp[PyData.depth]
  ·exact h3
theorem ud{t m:Int}(hm:m.natAbs<=99)(hi:i<=10)(hn:n<=10)(hs:s.natAbs<=10)(ht:t.natAbs<=10):Sk 1000 (dS m [(i,s),(n,t)])/\L4.sz (dS m [(i,s),(n,t)])=10/\(dS m [(i,s),(n,t)]).depth<=3:=by
 obtain⟨h1,h2,h3⟩:=vL hi hn hs ht
 refine⟨skT.mpr λx hx=>?_,by rw[show dS m [(i,s),(n,t)]=.tuple [.str "rest",.int m,.tuple ([(i,s),(n,t)].map pT)]from rfl,L4.sz,L4.szs,L4.szs,L4.szs,L4.szs,h2,L4.sz,L4.sz],dp_tuple.mpr λx hx=>?_⟩
 ·simp only[ak,ai,el]at hx
  rcases hx with rfl|rfl|rfl
  ·exact skW AN
  ·exact skI.mpr (by omega)
  ·exact h1
 ·simp only[ak,ai,el]at hx
  rcases hx with rfl|rfl|rfl
  ·simp[PyData.depth]
  ·simp[PyData.depth]
  ·exact h3
theorem A1(hi:i<=10)(hn:n<=10)(ok:FcOk R S k)(mx:∀f m,k=.re f m->m<=45):Sk 1000 (.tuple (fU i n k))/\L4.sz (.tuple (fU i n k))<=441/\(PyData.tuple (fU i n k)).depth<=4:=by
 have h:∀x∈fU i n k,Sk 1000 x/\L4.sz x<=10/\x.depth<=3:=by
  intro x hx
  have a1:=tV (i:=i) (n:=n) (s:=1) (t:=1) hi hn (by decide) (by decide)
  have a2:=tV (i:=i) (n:=n) (s:=-1) (t:=1) hi hn (by decide) (by decide)
  cases k with
  | le f =>
   rw[List.mem_singleton.mp hx]
   exact⟨a1.1,by omega,a1.2.2⟩
  | sa f =>
   simp only[fU,ak,ai,el]at hx
   rcases hx with rfl|rfl
   ·exact⟨a2.1,by omega,a2.2.2⟩
   ·exact⟨a1.1,by omega,a1.2.2⟩
  | re f m =>
   obtain⟨m1,m2⟩:=ok.m f m rfl
   rw[gn hx]
   have a3:=ud (i:=i) (n:=n) (s:=1) (t:=-1) (m:=m) (by omega) hi hn (by decide) (by decide)
   exact⟨a3.1,by omega,a3.2.2⟩
 have hl:(fU i n k).length<=44:=by
  cases k with
  | le f=>simp[fU]
  | sa f=>simp[fU]
  | re f m =>
   have:=mx f m rfl
   simp only[fU,ve];omega
 have hz:=wX (B:=10) λx hx=>(h x hx).2.1
 exact⟨skT.mpr λx hx=>(h x hx).1,by simp only[L4.sz];omega,dp_tuple.mpr λx hx=>(h x hx).2.2⟩
theorem Hh(fs:List Fc):cA [fsD fs]=some (.int (fs.length:Int)):=by rw[hU,zzd]
theorem ns4{w:String}(h:((w:Str) == "sum" || (w:Str) == "rest")=false){r:List D}{P:Prop}:∀s r',PyData.tuple (.str w::r)=.tuple (.str s::r')->(s == "sum" || s == "rest")=true->P:=by
 intro s r' e hs
 injection e with e
 injection e with e1 e2
 injection e1 with e1
 rw[<-e1,h]at hs
 cases hs
theorem Af{t:Nat}{f:List D}{fs:List Fc}{w:D}(hR:R<=5)(hS:S<=3)(hf:Fd T f)(hT:T<=80000)(ht:t<3)(hfs:FsG R S fs)(hw:Wy R S t fs w) :
  ∃w' f',eR f (sz R S) (fsD fs) w=.ret (w',f')/\Wy R S (t+1) fs w'/\Fd (T+20) f':=by
 unfold eR
 have sh:=hw.sh (by omega)
 have hlen:=hfs.len
 have hpos:=hfs.pos
 obtain⟨g,f1,s1,s2,s3,s4⟩:=jf (R:=R) (S:=S) (by omega) (by omega) hf (by omega)
 obtain⟨r,f2,t1,t2,t3,t4⟩:=cF s4 (by omega) (m:=4) (by decide) (by decide)
 obtain⟨later,hlater⟩:∃l,shD fs.length 8 w=l:=⟨_,rfl⟩
 have lk:=A4 fs.length 8 w
 rw[hlater]at lk
 have lsz:=lk.sz
 have ldp:=lk.dp
 have lsk:=lk.sk _ hw.sk
 have hsz:=hw.sz
 have hdp:=hw.dp
 have lrf:∀k:Fc,rf R S (2+t) (fs++[k]) later=true:=λk=>by
  have:=D8 (R:=R) (S:=S) (k:=k) (fs1:=fs) (2+t) 8 [] w (by omega) (by rw[wn];exact hw.rf)
  rw[hlater]at this
  exact this
 rw[Hh,oMS,bdR,pN (b:=fs.length) (2+t) 8 fs w (by omega) sh hw.rf,bdR,s1,bdR]
 dsimp only
 rw[hlater,show aH f1 (.int 4)=_ from t1,bdR]
 dsimp only
 have gF:=s3.form (by decide) s2
 have gz':=tw s2
 have gd:=tB g
 have gk:=tx s3 (B:=1000+(t+1)) (by omega)
 rw[eqI,oMS,bdR]
 by_cases r0:r=0
 ·rw[show(r==0)=true by simp[r0],be rfl]
  refine⟨_,_,rfl,⟨?_,?_,?_,?_,?_⟩,t4.le (by omega)⟩
  ·rw[show 2+(t+1)=(2+t)+1 by omega]
   exact vH gF (lrf _) (lrf _)
  ·exact sk4 (skW wO) gk lsk lsk
  ·refine yT ht (.inl ?_)
   simp only[L4.szs,L4.sz]at gz' ⊢
   omega
  ·rw[show 8+2*(t+1)=(9+2*t)+1 by omega]
   exact dp4 (by simp[PyData.depth]) (by omega) (by omega) (by omega)
  ·exact ns4 (by decide +kernel)
 ·rw[show(r==0)=false by rw[br];exact r0,ff,eqI,oMS,bdR]
  by_cases r1:r=1
  ·rw[show(r==1)=true by simp[r1],be rfl]
   obtain⟨s,rr,rfl⟩:=yy hw.rf
   have hws:dn s=true:=by
    have:=skT.mp hw.sk (.str s) (by simp)
    simpa only[Sk]using this
   rw[dh,oMS,bdR,IP s hws,oMS,bdR,bdR]
   have e3:∀b:Bool,nU [.bool b]=some (.int (if b then 1 else 0)):=λb=>rfl
   rw[e3,oMS,bdR]
   have mul7:∀x:Int,bw (.int 7) (.int x)=some (.int (7*x)):=λx=>iM _ _ (by decide) (by decide)
   rw[mul7,oMS,bdR,gI,oMS,bdR,bdR,bdR]
   obtain⟨q,x,f3,m1,m2,⟨m,rfl,mm1,mm2,mm3⟩,m4⟩:=menu (P:=λd=>∃m:Nat,d=.int (m:Int)/\2<=m/\m<=9/\((s == "sum" || s == "rest")=false->m<=3)) (m:=[.int 2,.int 3,.int (2+7*(if(s == "sum" || s == "rest")then 1 else 0))]) (b:=3) rfl (by decide) (by decide) (by
    intro d hd
    simp only[ak,ai,el]at hd
    rcases hd with rfl|rfl|rfl
    ·exact⟨2,rfl,by decide,by decide,λ_=>by decide⟩
    ·exact⟨3,rfl,by decide,by decide,λ_=>by decide⟩
    ·rcases ac (s == "sum" || s == "rest")with q|q
     ·rw[q];exact⟨9,rfl,by decide,by decide,λh=>by cases h⟩
     ·rw[q];exact⟨2,rfl,by decide,by decide,λ_=>by decide⟩) t4 (by omega)
   rw[show aH f2 (.int 3)=_ from m1,bdR]
   dsimp only
   rw[m2,oMS,bdR,FF later m (by omega),oMS,bdR,bdR]
   refine⟨_,_,rfl,⟨?_,?_,?_,?_,?_⟩,m4.le (by omega)⟩
   ·rw[show 2+(t+1)=(2+t)+1 by omega]
    refine vI gF (by omega) (by omega) (by rw[ve]) λj p hp=>?_
    obtain⟨hj,rfl⟩:=List.getElem?_eq_some_iff.mp hp
    rw[List.getElem_replicate]
    exact lrf _
   ·refine sk4 (skW wQ) gk (skI.mpr (by omega)) (skT.mpr λx hx=>?_)
    rw[gn hx]
    exact lsk
   ·rcases ac (s == "sum" || s == "rest")with q|q
    ·have hz:=hw.si s rr rfl q
     refine yT ht (.inr ?_)
     simp only[L4.szs,L4.sz]at gz' hz ⊢
     rw[o9,lsz]
     have:m*L4.sz (.tuple (.str s::rr))<=9*20:=Nat.mul_le_mul mm2 (by simp only[L4.szs,L4.sz];omega)
     omega
    ·have hm:=mm3 q
     refine yT ht (.inl ?_)
     simp only[L4.szs,L4.sz]at gz' ⊢
     rw[o9,lsz]
     have:m*L4.sz (.tuple (.str s::rr))<=3*gz t:=Nat.mul_le_mul hm hsz
     omega
   ·rw[show 8+2*(t+1)=(9+2*t)+1 by omega]
    refine dp4 (by simp[PyData.depth]) (by omega) (by simp[PyData.depth]) ?_
    rw[show 9+2*t=(8+2*t)+1 by omega]
    refine dp_tuple.mpr λx hx=>?_
    rw[gn hx]
    omega
   ·exact ns4 (by decide +kernel)
  ·rw[show(r==1)=false by rw[br];exact r1,ff,bdR]
   obtain⟨i,f3,i1,i2,i3,i4⟩:=cF t4 (by omega) (m:=(fs.length:Int)) (by omega) (by omega)
   obtain⟨i,rfl⟩:=ge i2
   have hi:i<fs.length:=by omega
   rw[i1,bdR]
   dsimp only
   have hix:aD (fsD fs) (.int (i:Int))=some (fs[i]).d:=tj Fc.d fs i hi
   obtain⟨k,hk⟩:∃k,fs[i]=k:=⟨_,rfl⟩
   have hk':fs[i]? = some k:=by rw[ax hi,hk]
   have hmem:k∈fs:=by rw[<-hk];exact pI hi
   have kok:=hfs.ok k hmem
   have kfb:=hfs.fb k hmem
   have kmx:=hfs.mx k hmem
   obtain⟨l1,l2,l3⟩:=A1 (i:=i) (n:=fs.length) (by omega) (by omega) kok kmx
   have ksz:=Ca kok
   have kdp:=Cc k
   have ksk:=Cb (B:=1000+(t+1)) kok kfb (by omega) (by omega)
   have fin:∃w' f',(M.ret (.tuple [.str "know",k.d,.tuple (fU i fs.length k),later],f3):M (D×List D))=.ret (w',f')/\Wy R S (t+1) fs w'/\Fd (T+20) f':=by
    refine⟨_,_,rfl,⟨?_,?_,?_,?_,?_⟩,i4.le (by omega)⟩
    ·rw[show 2+(t+1)=(2+t)+1 by omega]
     have hs:=A0 (R:=R) (S:=S) (n:=1+t) hk' kok
     rw[show 1+t+1=2+t by omega]at hs
     exact C3 (kfb.fact (by decide) kok) hs (lrf k)
    ·exact sk4 (skW vp) ksk (l1.le (by omega)) lsk
    ·refine yT ht (.inr ?_)
     rw[show L4.sz (.tuple [.str "know",k.d,.tuple (fU i fs.length k),later])=1+(1+(L4.sz k.d+(L4.sz (.tuple (fU i fs.length k))+(L4.sz later+0))))from by simp only[L4.szs,L4.sz]]
     omega
    ·rw[show 8+2*(t+1)=(9+2*t)+1 by omega]
     exact dp4 (by simp[PyData.depth]) (by omega) (by omega) (by omega)
    ·exact ns4 (by decide +kernel)
   rw[hix,hk,oMS,bdR]
   unfold eJ iS
   cases k with
   | le f =>
    simp only[Fc.d,dh,oMS,bdR,Cd,wl,ff]
    exact fin
   | sa f =>
    simp only[Fc.d,dh,oMS,bdR,wb,v9,ff,aw,hC]
    exact fin
   | re f m =>
    obtain⟨mm1,mm2⟩:=kok.m f m rfl
    obtain⟨m,rfl⟩:=ge (show 0<=m by omega)
    have hr':eC [.int 1,.int (m:Int)]=some ((rng 1 m).map iN):=pf 1 m (by omega) (by omega)
    simp only[Fc.d,dh,gj,oMS,bdR,wj,aw,hC,hr']
    rw[cn (g:=λ_=>dS (m:Int) [(i,1),(fs.length,-1)]) (rng 1 m) λj _=>rfl,bdR,cM (by rw[zzd,fZ];omega),bdR,bdR,iW,oMS,bdR,List.map_const',fZ]
    exact fin
structure SI(R S:Nat)(m:Int)(j:Nat)(fs:List Fc)(ts:List (Nat×Int))(h:Fm):Prop where
 len:fs.length=j
 ok:∀k∈fs,FcOk R S k
 fb:∀k∈fs,FB 900 k.f
 mx:∀k∈fs,∀f m,k=.re f m->m<=45
 ri:Ri j (-1) ts
 tl:ts.length<=j
 ta:∀t∈ts,t.1<=10/\t.2.natAbs<=10
 sm:sumF R S fs ts=h
 hok:FmOk R S h
 my:∀t∈ts,may m fs t=true
theorem D7{n:Nat}:∀{ts:List (Nat×Int)} {a:Int},Ri n a ts->∀t∈ts,t.1<n
 | [],_,_,t,h=>by cases h
 | q::r,a,hr,t,h=>by
  rcases List.mem_cons.mp h with rfl|h
  ·exact hr.1.2.1
  ·exact D7 hr.2 t h
theorem yu{n:Nat}{x:Int}(hx:x.natAbs<=1000)(h0:x≠0):∀{ts:List (Nat×Int)} {a:Int},a<(n:Int)->Ri n a ts->Ri (n+1) a (ts++[(n,x)])
 | [],a,ha,_=>⟨⟨ha,Nat.lt_succ_self n,sM hx,h0⟩,trivial⟩
 | q::r,a,ha,hr=>⟨⟨hr.1.1,Nat.lt_succ_of_lt hr.1.2.1,hr.1.2.2⟩,yu hx h0 (by have:=hr.1.2.1;omega) hr.2⟩
theorem B7{fs:List Fc}{z:Fc}(h:i<fs.length):(fs++[k]).getD i z=fs.getD i z:=by
 rw[al,al,ev h]
theorem v5{R S:Nat}{fs:List Fc}{k:Fc}:∀(ts:List (Nat×Int)) (f:Fm),(∀t∈ts,t.1<fs.length)->ts.foldl (λf t=>f.add (((fs++[k]).getD t.1 (.le (Fm.zero R S))).f) t.2) f=ts.foldl (λf t=>f.add ((fs.getD t.1 (.le (Fm.zero R S))).f) t.2) f
 | [],f,_=>rfl
 | t::ts,f,h=>by
  rw[Ix,Ix,B7 (h t (by simp)),v5 ts _ λq hq=>h q (by simp[hq])]
theorem CY{fs:List Fc}(h:∀t∈ts,t.1<fs.length):sumF R S (fs++[k]) ts=sumF R S fs ts:=v5 ts _ h
theorem Dv{m:Int}{fs:List Fc}{t:Nat×Int}(h:t.1<fs.length):may m (fs++[k]) t=may m fs t:=by
 unfold may cS cq
 rw[ev h]
theorem qF{P:Fc->Prop}{fs:List Fc}(h:∀q∈fs,P q)(hk:P k):∀q∈fs++[k],P q:=λq hq=>(List.mem_append.mp hq).elim (h q) λz=>by rw[List.mem_singleton.mp z];exact hk
section
variable {m:Int} {fs:List Fc}
theorem SI.zero(R S:Nat)(m:Int):SI R S m 0 [] [] (Fm.zero R S):=⟨rfl,(λ_ h=>nomatch h),(λ_ h=>nomatch h),(λ_ h=>nomatch h),trivial,bo _,(λ_ h=>nomatch h),rfl,jv R S,(λ_ h=>nomatch h)⟩
theorem SI.fact(H:SI R S m j fs ts h)(ok:FcOk R S k)(fb:FB 900 k.f)(mx:∀f m,k=.re f m->m<=45):SI R S m (j+1) (fs++[k]) ts h:=by
 have hlt:=D7 H.ri
 have hl:=H.len
 exact⟨by rw[zzf,hl];rfl,qF H.ok ok,qF H.fb fb,qF H.mx mx,yv (by omega) H.ri,by have:=H.tl;omega,H.ta,by rw[CY λt q=>by rw[hl];exact hlt t q,H.sm],H.hok,λt q=>by rw[Dv (by rw[hl];exact hlt t q)];exact H.my t q⟩
theorem SI.time(H:SI R S m j fs ts h)(hj:j<=10)(ok:FcOk R S k)(fb:FB 900 k.f)(mx:∀f m,k=.re f m->m<=45)(hx:x.natAbs<=10)(h0:x≠0)(hm:may m (fs++[k]) (j,x)=true):SI R S m (j+1) (fs++[k]) (ts++[(j,x)]) (h.add k.f x):=by
 have F:=H.fact ok fb mx
 have hl:=H.len
 refine⟨F.len,F.ok,F.fb,F.mx,yu (by omega) h0 (by omega) H.ri,by rw[zzf];have:=H.tl;simp only[bu,tt];omega,λt q=>?_,?_,kU H.hok ok.f x,λt q=>?_⟩
 ·rcases List.mem_append.mp q with q|q
  ·exact H.ta t q
  ·rw[List.mem_singleton.mp q];exact⟨hj,hx⟩
 ·rw[sJ,F.sm]
  congr 1
  show((fs++[k]).getD j _).f=k.f
  rw[<-hl,al,dX]
  rfl
 ·rcases List.mem_append.mp q with q|q
  ·exact F.my t q
  ·rw[List.mem_singleton.mp q];exact hm
end
theorem wz(hg:FmOk R S g)(hh:FmOk R S h):h.add (g.add h (-1)) 1=g:=by
 have hz:∀l m:List Int,l.length=m.length->List.zipWith (λa b=>a+1*b) m (List.zipWith (λa b=>a + -1*b) l m)=l:=by
  intro l
  induction l with
  | nil=>intro m e;cases m with
   | nil=>rfl
   | cons _ _=>simp at e
  | cons y l ih =>
   intro m e
   cases m with
   | nil=>simp at e
   | cons z m =>
    rw[ny,ny,ih m (by simpa using e),show z+1*(y + -1*z)=y by omega]
 cases g with
 | mk c i o =>
  show(⟨_,_,_⟩:Fm)=_
  congr 1
  ·show h.c+1*(c + -1*h.c)=c;omega
  ·exact hz i h.i (by rw[hg.i,hh.i])
  ·exact hz o h.o (by rw[hg.o,hh.o])
theorem AR(h:∀t∈ts,t.1<=10/\t.2.natAbs<=10):Sk 1000 (.tuple (ts.map pT))/\L4.sz (.tuple (ts.map pT))=1+ts.length*3/\(PyData.tuple (ts.map pT)).depth<=2:=by
 refine⟨skT.mpr λx hx=>?_,?_,dp_tuple.mpr λx hx=>?_⟩
 ·obtain⟨t,ht,rfl⟩:=List.mem_map.mp hx
  obtain⟨h1,h2⟩:=h t ht
  refine skT.mpr λx hx=>?_
  simp only[ak,ai,el]at hx
  rcases hx with rfl|rfl
  ·exact skI.mpr (by omega)
  ·exact skI.mpr (by omega)
 ·simp only[L4.sz]
  rw[yt (B:=3) λt=>by simp[L4.sz,L4.szs]]
 ·obtain⟨t,ht,rfl⟩:=List.mem_map.mp hx
  refine dp_tuple.mpr λx hx=>?_
  simp only[ak,ai,el]at hx
  rcases hx with rfl|rfl<;>simp[PyData.depth]
theorem SI.fsg{m:Int}{fs:List Fc}(H:SI R S m j fs ts h)(h1:1<=j)(h4:j<=4):FsG R S fs:=⟨H.ok,H.fb,H.mx,by rw[H.len];exact h1,by rw[H.len];exact h4⟩
theorem SI.sumW{fs:List Fc}(H:SI R S 0 j fs ts h)(h4:j<=4)(hc:h.c<0)(hx:∀x∈h.i++h.o,x<=0):Wy R S 0 fs (dr ts):=by
 obtain⟨k1,k2,k3⟩:=AR H.ta
 have hl:=H.tl
 have hz:L4.sz (dr ts)<=20:=by
  rw[show L4.sz (dr ts)=1+(1+(L4.sz (.tuple (ts.map pT))+0))from by simp only[L4.sz,L4.szs]]
  omega
 refine⟨xh (rc (by rw[H.len];exact H.ri) (λt q=>H.my t q) (by rw[H.sm];exact hc) (by rw[H.sm];exact hx)),skT.mpr λx hx=>?_,by show _<=110;omega,?_,λ_ _ _ _=>hz⟩
 ·simp only[ak,ai,el]at hx
  rcases hx with rfl|rfl
  ·exact skW vo
  ·exact k1
 ·refine dp_tuple (n:=7).mpr λx hx=>?_
  simp only[ak,ai,el]at hx
  rcases hx with rfl|rfl
  ·simp[PyData.depth]
  ·omega
theorem SI.restW{m:Int}{fs:List Fc}(H:SI R S m j fs ts h)(h4:j<=4)(m2:2<=m)(m9:m<=9)(hc:h.c % m≠0)(hx:∀x∈h.i++h.o,x % m=0):Wy R S 0 fs (dS m ts):=by
 obtain⟨k1,k2,k3⟩:=AR H.ta
 have hl:=H.tl
 have hz:L4.sz (dS m ts)<=20:=by
  rw[show L4.sz (dS m ts)=1+(1+(1+(L4.sz (.tuple (ts.map pT))+0)))from by simp only[L4.sz,L4.szs]]
  omega
 refine⟨yw (tM m2 (by omega) (by rw[H.len];exact H.ri) (λt q=>by have:=H.my t q;unfold may at this;rwa [ef (by omega)]at this) (by rw[H.sm];exact hc) (by rw[H.sm];exact hx)),skT.mpr λx hx=>?_,by show _<=110;omega,?_,λ_ _ _ _=>hz⟩
 ·simp only[ak,ai,el]at hx
  rcases hx with rfl|rfl|rfl
  ·exact skW AN
  ·exact skI.mpr (by omega)
  ·exact k1
 ·refine dp_tuple (n:=7).mpr λx hx=>?_
  simp only[ak,ai,el]at hx
  rcases hx with rfl|rfl|rfl
  ·simp[PyData.depth]
  ·simp[PyData.depth]
  ·omega
theorem mP(l:List D)(d:D)(h:l.length<=1000):jj l [d]=some (l++[d]):=be (Nat.lt_of_le_of_lt h (by decide))
theorem uN(R S:Nat)(hR:R<=100)(hS:S<=100){α:Type}{k:D->M α}:(bd (bd (bd (oM (aD (sz R S) (.int 0))) λx1=>oM (dF (.tuple [(.int 0)]) x1)) λx2=>bd (bd (oM (aD (sz R S) (.int 1))) λx3=>oM (dF (.tuple [(.int 0)]) x3)) λx4=>.ret (.tuple [(.int 0),x2,x4])) k)=k (Fm.zero R S).d:=by
 have z0:aD (sz R S) (.int 0)=some (.int R):=rfl
 have z1:aD (sz R S) (.int 1)=some (.int S):=rfl
 rw[z0,oMS,bdR,zR R (by omega),oMS,bdR,z1,oMS,bdR,zR S (by omega),oMS,bdR,bdR]
 rfl
theorem Hf:fi (.str "same") (.str "rest")=some true:=by decide +kernel
def SP(R S T:Nat)(m:Int)(j:Nat)(f:List D)(fs:List Fc)(ts:List (Nat×Int))(h:Fm):Prop:=Fd (T+20*j) f/\SI R S m j fs ts h/\FB (21*j) h
theorem yJ{fs:List Fc}{f:Fm}(e:k=.le f)(hl:fs.length=j)(hx:1<=x):may 0 (fs++[k]) (j,x)=true:=by
 subst e hl
 exact gf (dX fs _) hx
theorem uJ{fs:List Fc}{f:Fm}(e:k=.sa f)(hl:fs.length=j):may 0 (fs++[k]) (j,x)=true:=by
 subst e hl
 exact ji (dX fs _)
def Out(R S T:Nat)(x:M (D×List D)):Prop:=∃fs w f',x=.ret (.tuple [fsD fs,w],f')/\FsG R S fs/\Wy R S 0 fs w/\Fd (T+100) f'
theorem sL(fs:List Fc)(k:Fc):fs.map Fc.d++[k.d]=(fs++[k]).map Fc.d:=by simp
theorem vE(ts:List (Nat×Int))(j:Nat)(x:Int):ts.map pT++[.tuple [.int (j:Int),.int x]]=(ts++[(j,x)]).map pT:=by simp
theorem uf{d:D}(h:((List.range n).map iN)[j]? = some d):j<n/\d=.int (j:Int):=by
 have hj:=(List.getElem?_eq_some_iff.mp h).1
 rw[zzd,ic]at hj
 rw[ou,List.getElem?_range hj]at h
 exact⟨hj,(Option.some.inj h).symm⟩
theorem Dx{f:List D}(hR:R<=5)(hS:S<=3)(hf:Fd T f)(hT:T<=80000):Out R S T (gw f (sz R S)):=by
 unfold gw
 rw[uN R S (by omega) (by omega)]
 obtain⟨n,f1,n1,n2,n3,n4⟩:=cF hf (by omega) (m:=3) (by decide) (by decide)
 obtain⟨n,rfl⟩:=ge n2
 rw[n1,bdR]
 dsimp only
 rw[eh n (by omega),oMS,bdR]
 have e0:∀b:Bool,nU [.bool b]=some (.int (if b then 1 else 0)):=λb=>rfl
 refine pw (R:=Out R S T) (P:=λj s=>j<=n/\∃f fs ts h,s=(f,sz R S,fs.map Fc.d,ts.map pT,h.d,())/\SP R S (T+1) 0 j f fs ts h) _ _ ?_ ⟨by omega,f1,[],[],Fm.zero R S,rfl,n4,SI.zero R S 0,FB.zero R S⟩ ?_
 ·rintro j s d hd ⟨hjn,f2,fs,ts,h,rfl,p1,p2,p3⟩ kn hk
  obtain⟨hj,rfl⟩:=uf hd
  dsimp only
  have hl:=p2.len
  have htl:=p2.tl
  unfold jn
  obtain⟨g,f3,s1,s2,s3,s4⟩:=jf (R:=R) (S:=S) (by omega) (by omega) p1 (by omega)
  obtain⟨q,f4,q1,q2,q3,q4⟩:=cF s4 (by omega) (m:=3) (by decide) (by decide)
  have mf:∀d:D,jj (fs.map Fc.d) [d]=some (fs.map Fc.d++[d]):=λd=>mP _ _ (by rw[zzd];omega)
  have mt:∀d:D,jj (ts.map pT) [d]=some (ts.map pT++[d]):=λd=>mP _ _ (by rw[zzd];omega)
  have timed:∀(k:Fc) (x:Int) (f':List D),k.f=g->(∀f m,k=.re f m->m<=45)->FcOk R S k->x.natAbs<=7->x≠0->may 0 (fs++[k]) (j,x)=true->Fd (T+1+20*j+1+R+S+3) f' ->
    Out R S T (kn (f',sz R S,fs.map Fc.d++[k.d],ts.map pT++[.tuple [.int (j:Int),.int x]],(h.add g x).d,())):=λk x f' hk' mx ok hx h0 hm hf'=>by
   rw[sL,vE,<-hk']
   refine hk _ ⟨by omega,f',fs++[k],ts++[(j,x)],h.add k.f x,rfl,hf'.le (by omega),p2.time (by omega) ok (by rw[hk'];exact s3.le (by decide)) mx (by omega) h0 hm,?_⟩
   rw[hk']
   exact(p3.add s3 hx).le (by omega)
  rw[s1,bdR]
  dsimp only
  rw[q1,bdR]
  dsimp only
  obtain⟨q5,x,f5,m1,m2,⟨y,rfl,y1,y2⟩,m4⟩:=menu (P:=λd=>∃m:Int,d=.int m/\1<=m/\m<=7) (m:=[(.int 1),(.int 2),(.int 7)]) (b:=3) rfl (by decide) (by decide) (by
   intro d hd
   simp only[ak,ai,el]at hd
   rcases hd with rfl|rfl|rfl
   ·exact⟨1,rfl,by decide,by decide⟩
   ·exact⟨2,rfl,by decide,by decide⟩
   ·exact⟨7,rfl,by decide,by decide⟩) q4 (by omega)
  obtain⟨b,f6,b1,b2,b3,b4⟩:=cF m4 (by omega) (m:=2) (by decide) (by decide)
  have m1':aH f4 (.int 3)=.ret (.int q5,f5):=m1
  have mulS:∀i j:Int,i.natAbs<=10->bw (.int i) (.int j)=some (.int (i*j)):=λi j hi=>iM _ _ (by omega) (by omega)
  have hq:q=0\/q=1\/q=2:=by omega
  rcases hq with rfl|rfl|rfl
  ·rw[show aD (.list [(.str "least"),(.str "same"),(.str "rest")]) (.int 0)=some (.str "least")from rfl,oMS,bdR,Cd,oMS,bdR,ff,bdR,mf,oMS,bdR,Et,oMS,bdR,be rfl,m1',bdR]
   dsimp only
   rw[m2,oMS,bdR,hC,oMS,bdR,bdR,bdR,wl,oMS,bdR,bdR,e0,oMS,bdR,b1,bdR]
   dsimp only
   rw[show(if false=true then(1:Int)else 0)=0 from rfl,mulS _ _ (by decide),oMS,bdR,Int.zero_mul,show aD (.list [.int 1,.int (-1)]) (.int 0)=some (.int 1)from rfl,oMS,bdR,mulS _ _ (by omega),oMS,bdR,mt,oMS,bdR,iA p2.hok s2 (by omega) (by omega) (by omega),bdR]
   exact timed (.le g) (y*1) f6 rfl (λf m e=>nomatch e) ⟨s2,λf m e=>nomatch e⟩ (by omega) (by omega) (yJ rfl hl (by omega)) (b4.le (by omega))
  ·rw[show aD (.list [(.str "least"),(.str "same"),(.str "rest")]) (.int 1)=some (.str "same")from rfl,oMS,bdR,wb,oMS,bdR,ff,bdR,mf,oMS,bdR,Hf,oMS,bdR,be rfl,m1',bdR]
   dsimp only
   rw[m2,oMS,bdR,hC,oMS,bdR,bdR,bdR,v9,oMS,bdR,bdR,e0,oMS,bdR,b1,bdR]
   dsimp only
   rw[show(if true=true then(1:Int)else 0)=1 from rfl,mulS _ _ (by decide),oMS,bdR,Int.one_mul]
   have hb:b=0\/b=1:=by omega
   rcases hb with rfl|rfl
   ·rw[show aD (.list [.int 1,.int (-1)]) (.int 0)=some (.int 1)from rfl,oMS,bdR,mulS _ _ (by omega),oMS,bdR,mt,oMS,bdR,iA p2.hok s2 (by omega) (by omega) (by omega),bdR]
    exact timed (.sa g) (y*1) f6 rfl (λf m e=>nomatch e) ⟨s2,λf m e=>nomatch e⟩ (by omega) (by omega) (uJ rfl hl) (b4.le (by omega))
   ·rw[show aD (.list [.int 1,.int (-1)]) (.int 1)=some (.int (-1))from rfl,oMS,bdR,mulS _ _ (by omega),oMS,bdR,mt,oMS,bdR,iA p2.hok s2 (by omega) (by omega) (by omega),bdR]
    exact timed (.sa g) (y * -1) f6 rfl (λf m e=>nomatch e) ⟨s2,λf m e=>nomatch e⟩ (by omega) (by omega) (uJ rfl hl) (b4.le (by omega))
  ·rw[show aD (.list [(.str "least"),(.str "same"),(.str "rest")]) (.int 2)=some (.str "rest")from rfl,oMS,bdR,wj,oMS,bdR,be rfl,bdR,mf,oMS,bdR,BM,oMS,bdR,ff]
   have e:(PyData.tuple [.str "rest",g.d,.int 5])=(Fc.re g 5).d:=rfl
   have fin:∀f':List D,Fd (T+1+20*j+1+R+S+1) f'->Out R S T (kn (f',sz R S,(fs++[Fc.re g 5]).map Fc.d,ts.map pT,h.d,())):=λf' hf' =>
    hk _ ⟨by omega,f',fs++[.re g 5],ts,h,rfl,hf'.le (by omega),p2.fact (k:=.re g 5) ⟨s2,λf m e=>by cases e;decide⟩ (s3.le (by decide)) (λf m e=>by cases e;decide),p3.le (by omega)⟩
   rw[e,sL]
   exact fin f4 q4
 ·rintro s ⟨_,f2,fs,ts,h,rfl,p1,p2,p3⟩
  rw[zzd,ic]at p1 p2 p3
  dsimp only
  unfold jo
  have hl:=p2.len
  have htl:=p2.tl
  obtain⟨g,f3,s1,s2,s3,s4,s5,s6⟩:=DL (R:=R) (S:=S) (by omega) (by omega) p1 (by omega)
  obtain⟨q,f4,q1,q2,q3,q4⟩:=cF s6 (by omega) (m:=2) (by decide) (by decide)
  have mf:∀d:D,jj (fs.map Fc.d) [d]=some (fs.map Fc.d++[d]):=λd=>mP _ _ (by rw[zzd];omega)
  have mt:∀d:D,jj (ts.map pT) [d]=some (ts.map pT++[d]):=λd=>mP _ _ (by rw[zzd];omega)
  have lok:FmOk R S (g.add h (-1)):=kU s2 p2.hok _
  have lfb:FB 900 (g.add h (-1)):=(s3.add p3 (c:=1) (by decide)).le (by omega)
  have fin:∀k:Fc,k.f=g.add h (-1)->(∀f m,k=.re f m->m<=45)->FcOk R S k->may 0 (fs++[k]) (n,1)=true->Out R S T (.ret (.tuple [fsD (fs++[k]),dr (ts++[(n,1)])],f4)):=λk hk mx ok hm=>by
   have:=p2.time (by omega) ok (by rw[hk];exact lfb) mx (x:=1) (by decide) (by decide) hm
   rw[hk,wz s2 p2.hok]at this
   exact⟨_,_,_,rfl,this.fsg (by omega) (by omega),this.sumW (by omega) s4 s5,q4.le (by omega)⟩
  rw[s1,bdR]
  dsimp only
  rw[hC,oMS,bdR,iA s2 p2.hok (by omega) (by omega) (by decide),bdR,q1,bdR]
  dsimp only
  have BY:∀k:Fc,fP (.int (((fs++[k]).map Fc.d).length:Int)) (.int 1)=some (.int (n:Int)):=λk=>by
   rw[mq,zzd,zzf,hl,JN,show((n+1:Nat):Int) - 1=(n:Int) by omega]
  have hq:q=0\/q=1:=by omega
  rcases hq with rfl|rfl
  ·rw[show aD (.list [(.str "least"),(.str "same")]) (.int 0)=some (.str "least")from rfl,oMS,bdR,mf,oMS,bdR,show(PyData.tuple [.str "least",(g.add h (-1)).d])=(Fc.le (g.add h (-1))).d from rfl,sL,BX,oMS,bdR,BY,oMS,bdR,bdR,mt,oMS,bdR,iW,oMS,bdR,iW,oMS,bdR,bdR,bdR,vE]
   exact fin (.le (g.add h (-1))) rfl (λf m e=>nomatch e) ⟨lok,λf m e=>nomatch e⟩ (yJ rfl hl (by decide))
  ·rw[show aD (.list [(.str "least"),(.str "same")]) (.int 1)=some (.str "same")from rfl,oMS,bdR,mf,oMS,bdR,show(PyData.tuple [.str "same",(g.add h (-1)).d])=(Fc.sa (g.add h (-1))).d from rfl,sL,BX,oMS,bdR,BY,oMS,bdR,bdR,mt,oMS,bdR,iW,oMS,bdR,iW,oMS,bdR,bdR,bdR,vE]
   exact fin (.sa (g.add h (-1))) rfl (λf m e=>nomatch e) ⟨lok,λf m e=>nomatch e⟩ (uJ rfl hl)
theorem Dw{fs:List Fc}{f:Fm}{m:Int}(hm:2<=m)(hl:fs.length=j):may m (fs++[.sa f]) (j,x)=true:=by
 subst hl
 unfold may
 rw[ef (by omega)]
 exact qG (dX fs _)
theorem yI{fs:List Fc}{f:Fm}{m c:Int}(hm:2<=m)(hl:fs.length=j):may m (fs++[.re f (m*c)]) (j,x)=true:=by
 subst hl
 unfold may
 rw[ef (by omega)]
 exact gg (dX fs _) (Int.mul_emod_right m c)
theorem BS{f:List D}(hR:R<=5)(hS:S<=3)(hf:Fd T f)(hT:T<=80000):Out R S T (gx f (sz R S)):=by
 unfold gx
 obtain⟨q0,x0,f0,a1,a2,⟨m,rfl,mm1,mm2⟩,a4⟩:=menu (P:=λd=>∃m:Int,d=.int m/\2<=m/\m<=9) (m:=[(.int 2),(.int 3),(.int 7),(.int 9)]) (b:=4) rfl (by decide) (by decide) (by
   intro d hd
   simp only[ak,ai,el]at hd
   rcases hd with rfl|rfl|rfl|rfl
   ·exact⟨2,rfl,by decide,by decide⟩
   ·exact⟨3,rfl,by decide,by decide⟩
   ·exact⟨7,rfl,by decide,by decide⟩
   ·exact⟨9,rfl,by decide,by decide⟩) hf (by omega)
 rw[show aH f (.int 4)=_ from a1,bdR]
 dsimp only
 rw[a2,oMS,bdR,uN R S (by omega) (by omega)]
 obtain⟨n,f1,n1,n2,n3,n4⟩:=cF a4 (by omega) (m:=3) (by decide) (by decide)
 obtain⟨n,rfl⟩:=ge n2
 rw[n1,bdR]
 dsimp only
 rw[eh n (by omega),oMS,bdR]
 have mulM:∀j:Int,bw (.int m) (.int j)=some (.int (m*j)):=λj=>iM _ _ (by omega) (by omega)
 refine pw (R:=Out R S T) (P:=λj s=>j<=n/\∃f fs ts h,s=(f,sz R S,.int m,fs.map Fc.d,ts.map pT,h.d,())/\SP R S (T+2) m j f fs ts h) _ _ ?_ ⟨by omega,f1,[],[],Fm.zero R S,rfl,n4,SI.zero R S m,FB.zero R S⟩ ?_
 ·rintro j s d hd ⟨hjn,f2,fs,ts,h,rfl,p1,p2,p3⟩ kn hk
  obtain⟨hj,rfl⟩:=uf hd
  dsimp only
  have hl:=p2.len
  have htl:=p2.tl
  unfold jp
  obtain⟨g,f3,s1,s2,s3,s4⟩:=jf (R:=R) (S:=S) (by omega) (by omega) p1 (by omega)
  obtain⟨q,f4,q1,q2,q3,q4⟩:=cF s4 (by omega) (m:=2) (by decide) (by decide)
  have mf:∀d:D,jj (fs.map Fc.d) [d]=some (fs.map Fc.d++[d]):=λd=>mP _ _ (by rw[zzd];omega)
  have mt:∀d:D,jj (ts.map pT) [d]=some (ts.map pT++[d]):=λd=>mP _ _ (by rw[zzd];omega)
  have j3:∀(k:Fc) (f':List D),k.f=g->(∀f m,k=.re f m->m<=45)->FcOk R S k->(∀x,may m (fs++[k]) (j,x)=true)->Fd (T+2+20*j+1+R+S+3) f' ->
    Out R S T (eH kn f' (sz R S) (.int m) (fs.map Fc.d) (ts.map pT) h.d (.int (j:Int)) g.d k.d):=λk f' hk' mx ok hm hf'=>by
   unfold eH
   obtain⟨q5,x,f5,m1,m2,⟨y,rfl,y1,y2⟩,m4⟩:=menu (P:=λd=>∃m:Int,d=.int m/\m.natAbs<=5/\m≠0) (m:=[(.int 1),(.int (-1)),(.int 2),(.int 5)]) (b:=4) rfl (by decide) (by decide) (by
    intro d hd
    simp only[ak,ai,el]at hd
    rcases hd with rfl|rfl|rfl|rfl
    ·exact⟨1,rfl,by decide,by decide⟩
    ·exact⟨-1,rfl,by decide,by decide⟩
    ·exact⟨2,rfl,by decide,by decide⟩
    ·exact⟨5,rfl,by decide,by decide⟩) hf' (by omega)
   have m1':aH f' (.int 4)=.ret (.int q5,f5):=m1
   rw[mf,oMS,bdR,hC,oMS,bdR,bdR,bdR,m1',bdR]
   dsimp only
   rw[m2,oMS,bdR,mt,oMS,bdR,iA p2.hok s2 (by omega) (by omega) (by omega),bdR,sL,vE,<-hk']
   refine hk _ ⟨by omega,f5,fs++[k],ts++[(j,y)],h.add k.f y,rfl,m4.le (by omega),p2.time (by omega) ok (by rw[hk'];exact s3.le (by decide)) mx (by omega) y2 (hm y),?_⟩
   rw[hk']
   exact(p3.add s3 y1).le (by omega)
  rw[s1,bdR]
  dsimp only
  rw[q1,bdR]
  dsimp only
  have hq:q=0\/q=1:=by omega
  rcases hq with rfl|rfl
  ·rw[show aD (.list [(.str "same"),(.str "rest")]) (.int 0)=some (.str "same")from rfl,oMS,bdR,wb,oMS,bdR,ff]
   exact j3 (.sa g) f4 rfl (λf m e=>nomatch e) ⟨s2,λf m e=>nomatch e⟩ (λx=>Dw mm1 hl) (q4.le (by omega))
  ·rw[show aD (.list [(.str "same"),(.str "rest")]) (.int 1)=some (.str "rest")from rfl,oMS,bdR,wj,oMS,bdR,be rfl]
   obtain⟨q5,x,f5,m1,m2,⟨y,rfl,y1⟩,m4⟩:=menu (P:=λd=>∃m:Int,d=.int m/\(m=1\/m=2\/m=5)) (m:=[(.int 1),(.int 2),(.int 5)]) (b:=3) rfl (by decide) (by decide) (by
    intro d hd
    simp only[ak,ai,el]at hd
    rcases hd with rfl|rfl|rfl
    ·exact⟨1,rfl,by decide⟩
    ·exact⟨2,rfl,by decide⟩
    ·exact⟨5,rfl,by decide⟩) q4 (by omega)
   have hy:2<=m*y/\m*y<=45:=by
    rcases y1 with rfl|rfl|rfl<;>omega
   have m1':aH f4 (.int 3)=.ret (.int q5,f5):=m1
   rw[m1',bdR]
   dsimp only
   rw[m2,oMS,bdR,mulM,oMS,bdR]
   exact j3 (.re g (m*y)) f5 rfl (λf m e=>by cases e;exact hy.2) ⟨s2,λf m e=>by cases e;exact⟨hy.1,by omega⟩⟩ (λx=>yI mm1 hl) (m4.le (by omega))
 ·rintro s ⟨_,f2,fs,ts,h,rfl,p1,p2,p3⟩
  rw[zzd,ic]at p1 p2 p3
  dsimp only
  unfold jq
  have hl:=p2.len
  have htl:=p2.tl
  obtain⟨g,f3,s1,s2,s3,s6⟩:=jf (R:=R) (S:=S) (by omega) (by omega) p1 (by omega)
  obtain⟨r,f4,r1,r2,r3,r4⟩:=cF s6 (by omega) (m:=m - 1) (by omega) (by omega)
  obtain⟨q5,x,f5,m1,m2,⟨y,rfl,y1⟩,m4⟩:=menu (P:=λd=>∃m:Int,d=.int m/\(m=1\/m=3)) (m:=[(.int 1),(.int 3)]) (b:=2) rfl (by decide) (by decide) (by
    intro d hd
    simp only[ak,ai,el]at hd
    rcases hd with rfl|rfl
    ·exact⟨1,rfl,by decide⟩
    ·exact⟨3,rfl,by decide⟩) r4 (by omega)
  have m1':aH f4 (.int 2)=.ret (.int q5,f5):=m1
  have hy:2<=m*y/\m*y<=45:=by
   rcases y1 with rfl|rfl<;>omega
  have mf:∀d:D,jj (fs.map Fc.d) [d]=some (fs.map Fc.d++[d]):=λd=>mP _ _ (by rw[zzd];omega)
  have mt:∀d:D,jj (ts.map pT) [d]=some (ts.map pT++[d]):=λd=>mP _ _ (by rw[zzd];omega)
  have hG:∃G:Fm,G=⟨1+r,g.i.map (m * ·),g.o.map (m * ·)⟩:=⟨_,rfl⟩
  obtain⟨G,hG⟩:=hG
  have Gok:FmOk R S G:=by rw[hG];exact⟨by rw[zzd];exact s2.i,by rw[zzd];exact s2.o⟩
  have Gb:FB 27 G:=by
   have hz:∀l:List Int,(∀x∈l,x.natAbs<=3)->∀x∈l.map (m * ·),x.natAbs<=27:=λl hl x hx=>by
    obtain⟨y,hy,rfl⟩:=List.mem_map.mp hx
    exact vb (x:=9) (y:=3) (by omega) (hl y hy)
   rw[hG]
   exact⟨by show(1+r).natAbs<=27;omega,hz _ s3.i,hz _ s3.o⟩
  have lok:FmOk R S (G.add h (-1)):=kU Gok p2.hok _
  have lfb:FB 900 (G.add h (-1)):=(Gb.add p3 (c:=1) (by decide)).le (by omega)
  have hcm:∀l:List Int,bH (λd12=>bd (oM (bw (.int m) d12)) λx13=>.ret (some x13)) (iL l)=.ret (iL (l.map (m * ·))):=λl=>by
   rw[cn (g:=λx=>.int (m*x)) l λx _=>by rw[mulM,oMS,bdR]]
   show _=M.ret ((l.map (m * ·)).map PyData.int)
   rw[pr]
   rfl
  rw[s1,bdR]
  simp only[eA,gj,oMS,bdR,lB]
  rw[hcm,bdR,cM (by rw[zzd,zzd,s2.i];omega),bdR,bdR,iW,oMS,bdR,mq,oMS,bdR,r1,bdR]
  dsimp only
  rw[gI,oMS,bdR,hcm,bdR,cM (by rw[zzd,zzd,s2.o];omega),bdR,bdR,iW,oMS,bdR,hC,oMS,bdR]
  rw[show(PyData.tuple [.int (1+r),.tuple (iL (g.i.map (m * ·))),.tuple (iL (g.o.map (m * ·)))])=G.d by rw[hG],iA Gok p2.hok (by omega) (by omega) (by decide),bdR,m1',bdR]
  dsimp only
  rw[m2,oMS,bdR,mulM,oMS,bdR,mf,oMS,bdR,show(PyData.tuple [.str "rest",(G.add h (-1)).d,.int (m*y)])=(Fc.re (G.add h (-1)) (m*y)).d from rfl,sL,BX,oMS,bdR,mq,zzd,zzf,hl,JN,show((n+1:Nat):Int) - 1=(n:Int) by omega,oMS,bdR,bdR,mt,oMS,bdR,iW,oMS,bdR,iW,oMS,bdR,bdR,bdR,vE]
  have:=p2.time (by omega) (k:=.re (G.add h (-1)) (m*y)) ⟨lok,λf m e=>by cases e;exact⟨hy.1,by omega⟩⟩ lfb (λf m e=>by cases e;exact hy.2) (x:=1) (by decide) (by decide) (yI mm1 hl)
  rw[show(Fc.re (G.add h (-1)) (m*y)).f=G.add h (-1)from rfl,wz Gok p2.hok]at this
  refine⟨_,_,_,rfl,this.fsg (by omega) (by omega),this.restW (by omega) mm1 mm2 ?_ ?_,m4.le (by omega)⟩
  ·rw[hG]
   show(1+r) % m≠0
   rw[Int.emod_eq_of_lt (by omega) (by omega)]
   omega
  ·intro x hx
   rw[hG]at hx
   have hx:x∈g.i.map (m * ·)++g.o.map (m * ·):=hx
   rw[<-HI]at hx
   obtain⟨z,_,rfl⟩:=List.mem_map.mp hx
   exact Int.mul_emod_right m z
theorem BK{m:Int}(h:2<=m):(-1:Int) % m≠0:=by
 intro e
 have h1:=Int.dvd_of_emod_eq_zero e
 have h2:m ∣ 1:=by
  have:=Int.dvd_neg.mpr h1
  simpa using this
 have:=Int.le_of_dvd (by decide) h2
 omega
theorem zip2(t:Int):∀l:List Int,List.zipWith (λa b=>a+t*b) (List.replicate l.length 0) l=l.map (t * ·)
 | []=>rfl
 | y::l=>by
  rw[bu,gt,ny,zip2 t l,je,Int.zero_add]
theorem Du(g:Fm):Mu (-1) g (jh (g.plus (-1))).f:=⟨by
 show(g.i.map λx=>-x)=_
 exact su λx _=>by omega,by
 show(g.o.map λx=>-x)=_
 exact su λx _=>by omega⟩
theorem HK(a b c:D):L4.cutD [a,b,c] (some 1) none=[b,c]:=qP [a,b,c] 1
theorem BU{f:List D}(hR:R<=5)(hS:S<=3)(hf:Fd T f)(hT:T<=80000):Out R S T (dA f (sz R S)):=by
 unfold dA
 obtain⟨g,f1,s1,s2,s3,s4⟩:=jf (R:=R) (S:=S) (by omega) (by omega) hf (by omega)
 obtain⟨b,f2,t1,t2,t3,t4⟩:=cF s4 (by omega) (m:=2) (by decide) (by decide)
 rw[s1,bdR]
 dsimp only
 rw[uN R S (by omega) (by omega),t1,bdR]
 dsimp only
 rw[eqI,oMS,bdR]
 have lok:FmOk R S (g.plus (-1)):=qg s2 _
 have lfb:FB 4 (g.plus (-1)):=s3.plus (k:=-1) (d:=1) (by decide)
 have elss:(PyData.tuple [.int (g.c - 1),dO g.i,dO g.o])=(g.plus (-1)).d:=rfl
 by_cases hb:b=0
 ·rw[show(b==0)=true by simp[hb],be rfl]
  obtain⟨od,hod⟩:∃od:Fm,od=(⟨-1,List.replicate R 0,List.replicate S 0⟩:Fm).add g 2:=⟨_,rfl⟩
  have zok:FmOk R S ⟨-1,List.replicate R 0,List.replicate S 0⟩:=⟨by simp,by simp⟩
  have ook:FmOk R S od:=by rw[hod];exact kU zok s2 2
  have zfb:FB 1 ⟨-1,List.replicate R 0,List.replicate S 0⟩:=⟨by show(-1:Int).natAbs<=1;decide,λx hx=>by rw[gn hx];decide,λx hx=>by rw[gn hx];decide⟩
  have ofb:FB 7 od:=by rw[hod];exact(zfb.add s3 (c:=2) (by decide)).le (by decide)
  have omu:Mu 2 g od:=by
   rw[hod]
   refine⟨?_,?_⟩
   ·show List.zipWith (λa b=>a+2*b) (List.replicate R 0) g.i=_
    rw[<-s2.i,zip2]
   ·show List.zipWith (λa b=>a+2*b) (List.replicate S 0) g.o=_
    rw[<-s2.o,zip2]
  have oc:od.c = -1+2*g.c:=by rw[hod];rfl
  simp only[hC,oMS,bdR,jt,oU,HK]
  rw[va _ _ (by simp),oMS,bdR,show(PyData.tuple ([.int (-1)]++[dO (Fm.zero R S).i,dO (Fm.zero R S).o]))=(⟨-1,List.replicate R 0,List.replicate S 0⟩:Fm).d from rfl,iA zok s2 (by omega) (by omega) (by decide),bdR,<-hod]
  simp only[dh,oMS,bdR,mq]
  rw[va _ _ (by simp),oMS,bdR]
  refine⟨[.sa od],_,_,rfl,⟨λk hk=>?_,λk hk=>?_,λk hk=>?_,by simp,by simp⟩,?_,t4.le (by omega)⟩
  ·rw[List.mem_singleton.mp hk];exact⟨ook,λf m e=>nomatch e⟩
  ·rw[List.mem_singleton.mp hk];exact ofb.le (by decide)
  ·rw[List.mem_singleton.mp hk];exact λf m e=>nomatch e
  have w1:=tV (i:=0) (n:=1) (s:=-1) (t:=2) (by decide) (by decide) (by decide) (by decide)
  have w2:=tV (i:=0) (n:=1) (s:=1) (t:=2) (by decide) (by decide) (by decide) (by decide)
  have gsz:=tw lok
  show Wy R S 0 [.sa od] (.tuple [.str "split",(g.plus (-1)).d,dr [(0,-1),(1,2)],dr [(0,1),(1,2)]])
  refine⟨?_,sk4 (skW wO) (tx lfb (by decide)) w1.1 w2.1,?_,?_,ns4 (by decide +kernel)⟩
  ·refine vH (n:=1) (lfb.form (by decide) lok) ?_ ?_
   ·refine pj (f:=g) (k:=.sa od) (l:=.le (g.plus (-1))) (v:=2) (u:=1) (by decide) rfl rfl (by decide) (by decide) (by decide) (by decide) s2 omu (Mu.plus g (-1)) (by decide) (ji (f:=od) rfl) (gf (f:=g.plus (-1)) rfl (by decide)) ?_
    show -1*od.c+2*(g.c + -1)<0
    rw[oc];omega
   ·refine pj (f:=g) (k:=.sa od) (l:=jh (g.plus (-1))) (v:=2) (u:=-1) (by decide) rfl rfl (by decide) (by decide) (by decide) (by decide) s2 omu (Du g) (by decide) (ji (f:=od) rfl) (gf (f:=(g.plus (-1)).neg.plus (-1)) rfl (by decide)) ?_
    show 1*od.c+2*(-(g.c + -1) + -1)<0
    rw[oc];omega
  ·rw[show L4.sz (.tuple [.str "split",(g.plus (-1)).d,dr [(0,-1),(1,2)],dr [(0,1),(1,2)]])=1+(1+(L4.sz (g.plus (-1)).d+(L4.sz (dr [(0,-1),(1,2)])+(L4.sz (dr [(0,1),(1,2)])+0))))from by simp only[L4.szs,L4.sz]]
   show _<=110
   omega
  ·exact dp4 (p:=7) (by simp[PyData.depth]) (by have:=tB (g.plus (-1));omega) (by omega) (by omega)
 ·rw[show(b==0)=false by rw[br];exact hb,ff]
  obtain⟨q0,x0,f3,a1,a2,⟨m,rfl,mm1,mm2⟩,a4⟩:=menu (P:=λd=>∃m:Nat,d=.int (m:Int)/\2<=m/\m<=9) (m:=[(.int 2),(.int 3),(.int 9)]) (b:=3) rfl (by decide) (by decide) (by
   intro d hd
   simp only[ak,ai,el]at hd
   rcases hd with rfl|rfl|rfl
   ·exact⟨2,rfl,by decide,by decide⟩
   ·exact⟨3,rfl,by decide,by decide⟩
   ·exact⟨9,rfl,by decide,by decide⟩) t4 (by omega)
  rw[show aH f2 (.int 3)=_ from a1,bdR]
  dsimp only
  have hr':eC [.int 1,.int (m:Int)]=some ((rng 1 m).map iN):=pf 1 m (by omega) (by omega)
  simp only[a2,hC,oMS,bdR,jt,oU,HK,dh,mq,hr']
  rw[va _ _ (by simp),oMS,bdR,bdR,bdR]
  have gm:Mu 1 g g:=Mu.one g
  refine pw (R:=Out R S T) (P:=λj s=>s=(f3,g.d,.int (m:Int),fsD [.re g m,.sa (g.plus (-1))],dS m [(1,1),(2,-1)]::List.replicate j (dS m [(0,1),(2,-1)]),())/\j<=m - 1) _ _ ?_ ⟨rfl,by omega⟩ ?_
  ·rintro j s d hd ⟨rfl,hj⟩ kn hk
   have hj':=(List.getElem?_eq_some_iff.mp hd).1
   rw[zzd,fZ]at hj'
   dsimp only
   unfold iQ
   rw[hC,oMS,bdR,bdR,bdR,bdR,mP _ _ (by simp;omega),oMS,bdR]
   refine hk _ ⟨?_,by omega⟩
   rw[List.replicate_succ',<-rn]
   rfl
  ·rintro s ⟨rfl,hj⟩
   rw[zzd,fZ]
   dsimp only
   unfold iR
   rw[iW,oMS,bdR,bdR,bdR]
   have kok:FcOk R S (.re g m):=⟨s2,λf m' e=>by cases e;exact⟨by omega,by omega⟩⟩
   refine⟨[.re g m,.sa (g.plus (-1))],_,_,rfl,⟨λk hk=>?_,λk hk=>?_,λk hk=>?_,by simp,by simp⟩,?_,a4.le (by omega)⟩
   ·simp only[ak,ai,el]at hk
    rcases hk with rfl|rfl
    ·exact kok
    ·exact⟨lok,λf m e=>nomatch e⟩
   ·simp only[ak,ai,el]at hk
    rcases hk with rfl|rfl
    ·exact s3.le (by decide)
    ·exact lfb.le (by decide)
   ·simp only[ak,ai,el]at hk
    rcases hk with rfl|rfl
    ·exact λf m e=>by cases e;omega
    ·exact λf m e=>nomatch e
   have w1:=ud (i:=1) (n:=2) (s:=1) (t:=-1) (m:=m) (by omega) (by decide) (by decide) (by decide) (by decide)
   have w2:=ud (i:=0) (n:=2) (s:=1) (t:=-1) (m:=m) (by omega) (by decide) (by decide) (by decide) (by decide)
   have gsz:=tw s2
   have hall:∀x∈dS m [(1,1),(2,-1)]::List.replicate (m - 1) (dS m [(0,1),(2,-1)]),x=dS m [(1,1),(2,-1)]\/x=dS m [(0,1),(2,-1)]:=λx hx=>by
    rcases List.mem_cons.mp hx with h|h
    ·exact .inl h
    ·exact .inr (gn h)
   refine⟨?_,sk4 (skW wQ) (tx s3 (by decide)) (skI.mpr (by omega)) (skT.mpr λx hx=>?_),?_,?_,ns4 (by decide +kernel)⟩
   ·refine vI (n:=1) (s3.form (by decide) s2) (by omega) (by omega) (by simp;omega) λj p hp=>?_
    cases j with
    | zero =>
     have hp:dS m [(1,1),(2,-1)]=p:=Option.some.inj hp
     subst hp
     refine ql (f:=g) (k:=.sa (g.plus (-1))) (l:=.re (g.plus (-((0:Nat):Int))) m) (v:=1) (u:=1) (by omega) (by omega) (by decide) rfl rfl (by decide) (by decide) (by decide) (by decide) s2 (Mu.plus g _) (Mu.plus g _) (by decide) (qG (f:=g.plus (-1)) rfl) (gg (f:=g.plus (-((0:Nat):Int))) rfl Jx) ?_
     show(1*(g.c + -1) + -1*(g.c + -((0:Nat):Int))) % (m:Int)≠0
     rw[show 1*(g.c + -1) + -1*(g.c + -((0:Nat):Int)) = -1 by omega]
     exact BK (by omega)
    | succ j =>
     rw[List.getElem?_cons_succ]at hp
     obtain⟨hj,hp⟩:=List.getElem?_eq_some_iff.mp hp
     rw[ve]at hj
     rw[List.getElem_replicate]at hp
     subst hp
     refine ql (f:=g) (k:=.re g m) (l:=.re (g.plus (-((j+1:Nat):Int))) m) (v:=1) (u:=1) (by omega) (by omega) (by decide) rfl rfl (by decide) (by decide) (by decide) (by decide) s2 gm (Mu.plus g _) (by decide) (gg (f:=g) rfl Jx) (gg (f:=g.plus (-((j+1:Nat):Int))) rfl Jx) ?_
     show(1*g.c + -1*(g.c + -((j+1:Nat):Int))) % (m:Int)≠0
     rw[show 1*g.c + -1*(g.c + -((j+1:Nat):Int))=((j+1:Nat):Int) by omega,Int.emod_eq_of_lt (by omega) (by omega)]
     omega
   ·rcases hall x hx with rfl|rfl
    ·exact w1.1
    ·exact w2.1
   ·rw[show L4.sz (.tuple [.str "cases",g.d,.int (m:Int),.tuple (dS m [(1,1),(2,-1)]::List.replicate (m - 1) (dS m [(0,1),(2,-1)]))])=1+(1+(L4.sz g.d+(1+(1+(L4.sz (dS m [(1,1),(2,-1)])+L4.szs (List.replicate (m - 1) (dS m [(0,1),(2,-1)])))+0))))from by simp only[L4.szs,L4.sz],o9,w2.2.1,w1.2.1]
    show _<=110
    omega
   ·refine dp4 (p:=7) (by simp[PyData.depth]) (by have:=tB g;omega) (by simp[PyData.depth]) (dp_tuple (n:=6).mpr λx hx=>?_)
    rcases hall x hx with rfl|rfl
    ·omega
    ·omega
abbrev z1(R S:Nat):Fm:=⟨-1,List.replicate R 0,List.replicate S 0⟩
abbrev k0(R S:Nat):Fc:=.le (z1 R S)
theorem Gs(R S:Nat):FmOk R S (z1 R S):=⟨by simp,by simp⟩
theorem D1(R S:Nat):FB 1 (z1 R S):=⟨by show(-1:Int).natAbs<=1;decide,λx hx=>by rw[gn hx];decide,λx hx=>by rw[gn hx];decide⟩
theorem yQ(R S:Nat):FcOk R S (k0 R S):=⟨Gs R S,λf m e=>nomatch e⟩
structure LW(R S m:Nat)(w:D):Prop where
 rf:∀(n:Nat) (fs:List Fc),rf R S n (k0 R S::fs) w=decide (m<=n)
 sk:Sk 1000 w
 sz:L4.sz w+40<=60*m
 dp:w.depth<=2*m+5
theorem qH(R S:Nat):LW R S 1 (dr [(0,1)]):=by
 obtain⟨h1,h2,h3⟩:=AR (ts:=[(0,1)]) λt q=>by rw[List.mem_singleton.mp q];decide
 refine⟨λn fs=>?_,skT.mpr λx hx=>?_,?_,dp_tuple (n:=6).mpr λx hx=>?_⟩
 ·cases n with
  | zero=>rfl
  | succ n =>
   rw[de (by omega)]
   refine xh (rc ⟨⟨by decide,by simp,sM (by decide),by decide⟩,trivial⟩ (λt q=>?_) ?_ λx hx=>?_)
   ·rw[List.mem_singleton.mp q]
    exact gf (f:=z1 R S) rfl (by decide)
   ·show 0+1*(-1:Int)<0;decide
   ·have e:sumF R S (k0 R S::fs) [(0,1)]=(Fm.zero R S).add (z1 R S) 1:=rfl
    rw[e]at hx
    have hz:∀n:Nat,∀x∈List.zipWith (λa b:Int=>a+1*b) (List.replicate n 0) (List.replicate n 0),x=0:=λn x hx=>by
     rw[List.zipWith_replicate]at hx
     exact gn hx
    rcases List.mem_append.mp hx with q|q
    ·rw[hz R x q];decide
    ·rw[hz S x q];decide
 ·simp only[ak,ai,el]at hx
  rcases hx with rfl|rfl
  ·exact skW vo
  ·exact h1
 ·rw[show L4.sz (dr [(0,1)])=1+(1+(L4.sz (.tuple ([(0,1)].map pT))+0))from by simp only[L4.sz,L4.szs],h2]
  decide
 ·simp only[ak,ai,el]at hx
  rcases hx with rfl|rfl
  ·simp[PyData.depth]
  ·omega
theorem dle(m n:Nat)(h:1<=m):(decide (1<=n)&&decide (m<=n))=decide (m+1<=n+1):=by
 rw[ID]
 simp only[ag,zzi]
 omega
theorem Fy{w:D}{p:Nat}(h:Sk 1000 w)(hd:w.depth<=p):Sk 1000 (.tuple [w])/\L4.sz (.tuple [w])=1+L4.sz w/\(PyData.tuple [w]).depth<=p+1:=⟨skT.mpr λx hx=>by rw[List.mem_singleton.mp hx];exact h,by simp only[L4.sz,L4.szs];omega,dp_tuple.mpr λx hx=>by rw[List.mem_singleton.mp hx];exact hd⟩
section
variable {m:Nat} {w:D} (hR:R<=5) (hS:S<=3) (hm:1<=m) (hg:FmOk R S g) (gb:FB 3 g) (hw:LW R S m w)
include hR hS hm hg gb hw
theorem BQ:LW R S (m+1) (.tuple [.str "split",g.d,dr [(0,1)],w]):=by
 have o:=qH R S
 have gz':=tw hg
 have gd:=tB g
 refine⟨λn fs=>?_,sk4 (skW wO) (tx gb (by decide)) o.sk hw.sk,?_,?_⟩
 ·cases n with
  | zero=>rw[eE (by omega)];rfl
  | succ n =>
   rw[iK]
   unfold brL
   rw[be (by decide +kernel),gb.form (by decide) hg]
   show([(Fc.le g,dr [(0,1)]),(jh g,w)].all λp=>rf R S n ((k0 R S::fs)++[p.1]) p.2)=_
   simp only[ir,zi,ke,rn,o.rf,hw.rf]
   exact dle m n hm
 ·rw[show L4.sz (.tuple [.str "split",g.d,dr [(0,1)],w])=1+(1+(L4.sz g.d+(L4.sz (dr [(0,1)])+(L4.sz w+0))))from by simp only[L4.szs,L4.sz]]
  have:=hw.sz
  have h1:L4.sz (dr [(0,1)])=6:=by simp[L4.sz,L4.szs]
  omega
 ·have:=hw.dp
  have:=o.dp
  exact dp4 (p:=2*(m+1)+4) (by simp[PyData.depth]) (by omega) (by omega) (by omega)
theorem BR:LW R S (m+1) (.tuple [.str "cases",g.d,.int 2,.tuple [w,dr [(0,1)]]]):=by
 have o:=qH R S
 have gz':=tw hg
 have gd:=tB g
 refine⟨λn fs=>?_,sk4 (skW wQ) (tx gb (by decide)) (skI.mpr (by decide)) (skT.mpr λx hx=>?_),?_,?_⟩
 ·cases n with
  | zero=>rw[eE (by omega)];rfl
  | succ n =>
   rw[iK]
   unfold brL csL
   rw[ef (by decide +kernel),be (by decide +kernel),gb.form (by decide) hg]
   show([(Fc.re (g.plus (-((0:Nat):Int))) 2,w),(Fc.re (g.plus (-((1:Nat):Int))) 2,dr [(0,1)])].all λp=>rf R S n ((k0 R S::fs)++[p.1]) p.2)=_
   simp only[ir,zi,ke,rn,o.rf,hw.rf]
   rw[Bool.and_comm]
   exact dle m n hm
 ·simp only[ak,ai,el]at hx
  rcases hx with rfl|rfl
  ·exact hw.sk
  ·exact o.sk
 ·rw[show L4.sz (.tuple [.str "cases",g.d,.int 2,.tuple [w,dr [(0,1)]]])=1+(1+(L4.sz g.d+(1+(1+(L4.sz w+(L4.sz (dr [(0,1)])+0))+0))))from by simp only[L4.szs,L4.sz]]
  have:=hw.sz
  have h1:L4.sz (dr [(0,1)])=6:=by simp[L4.sz,L4.szs]
  omega
 ·have:=hw.dp
  have:=o.dp
  refine dp4 (p:=2*(m+1)+4) (by simp[PyData.depth]) (by omega) (by simp[PyData.depth]) ?_
  rw[show 2*(m+1)+4=(2*m+5)+1 by omega]
  refine dp_tuple.mpr λx hx=>?_
  simp only[ak,ai,el]at hx
  rcases hx with rfl|rfl
  ·omega
  ·omega
omit hm hg gb in
theorem yK{v:D}{m':Nat}(hv:LW R S m' v)(hmm:m'=1\/m=1)(h1:1<=m')(h2:1<=m):LW R S (m+m') (.tuple [.str "know",(k0 R S).d,.tuple [v],w]):=by
 have gz':=Ca (yQ R S)
 have gd:=Cc (k0 R S)
 obtain⟨v1,v2,v3⟩:=Fy hv.sk hv.dp
 refine⟨λn fs=>?_,sk4 (skW vp) (Cb (yQ R S) (D1 R S) (by decide) (by decide)) v1 hw.sk,?_,?_⟩
 ·cases n with
  | zero=>rw[eE (by omega)];rfl
  | succ n =>
   rw[iK]
   unfold brL
   rw[ef (by decide +kernel),ef (by decide +kernel),be (by decide +kernel),(D1 R S).fact (k:=k0 R S) (by decide) (yQ R S)]
   dsimp only
   have e:shB R S n (k0 R S::fs) (k0 R S) (.tuple [v])=decide (m'<=n):=by
    show(decide (1=1)&&([(jh (z1 R S),v)].all λp=>rf R S n ((k0 R S::fs)++[p.1]) p.2))=_
    simp only[ir,zi,ke,rn,hv.rf,Js,ce]
   rw[e]
   rcases ac (decide (m'<=n))with q|q
   ·rw[q,be rfl]
    show([(k0 R S,w)].all λp=>rf R S n ((k0 R S::fs)++[p.1]) p.2)=_
    simp only[ir,zi,ke,rn,hw.rf]
    rw[zzi]at q
    exact decide_eq_decide.mpr (by omega)
   ·rw[q,ff]
    rw[decide_eq_false_iff_not]at q
    show false=_
    rw[eE (by omega)]
 ·rw[show L4.sz (.tuple [.str "know",(k0 R S).d,.tuple [v],w])=1+(1+(L4.sz (k0 R S).d+(L4.sz (.tuple [v])+(L4.sz w+0))))from by simp only[L4.szs,L4.sz],v2]
  have:=hw.sz
  have:=hv.sz
  omega
 ·have:=hw.dp
  have:=hv.dp
  exact dp4 (p:=2*(m+m')+4) (by simp[PyData.depth]) (by omega) (by omega) (by omega)
end
theorem Eu{m:Nat}{kn:List D×D×D×D×D×D×Unit->M (D×List D)}{f:List D}{M1 form way inner:D}{q:Int}{X:M (D×List D)->Prop}(hR:R<=5)(hS:S<=3)(hi:LW R S m inner)(hm:1<=m)(hw:LW R S (m+1) way)(hk:∀w,LW R S (m+1) w->X (kn (f,sz R S,M1,form,(k0 R S).d,w,()))):X (cZ kn f (sz R S) M1 form (k0 R S).d way inner (.int q)):=by
 unfold cZ
 rw[eqI,oMS,bdR]
 rcases ac (q==2)with e|e
 ·rw[e,be rfl]
  exact hk _ (yK (v:=dr [(0,1)]) hR hS hi (qH R S) (.inl rfl) (by decide) hm)
 ·rw[e,ff]
  exact hk _ hw
theorem Ew{m:Nat}{kn:List D×D×D×D×D×D×Unit->M (D×List D)}{f:List D}{M1 form way inner:D}{q:Int}{X:M (D×List D)->Prop}(hR:R<=5)(hS:S<=3)(hi:LW R S m inner)(hm:1<=m)(hw:LW R S (m+1) way)(hk:∀w,LW R S (m+1) w->X (kn (f,sz R S,M1,form,(k0 R S).d,w,()))):X (da kn f (sz R S) M1 form (k0 R S).d way inner (.int q)):=by
 unfold da
 rw[eqI,oMS,bdR]
 rcases ac (q==1)with e|e
 ·rw[e,be rfl]
  have:=yK (v:=inner) (w:=dr [(0,1)]) hR hS (qH R S) hi (.inr rfl) hm (by decide)
  rw[Nat.add_comm]at this
  exact Eu hR hS hi hm this hk
 ·rw[e,ff]
  exact Eu hR hS hi hm hw hk
theorem yN{m:Nat}{f:List D}(hR:R<=5)(hS:S<=3)(hm:1<=m)(hm4:m<=40)(hf:Fd T f)(hT:T<=80000):∃f',bI f (sz R S) (.int (m:Int))=.ret (.bool true,f')/\Fd (T+60) f':=by
 unfold bI
 obtain⟨g,f1,s1,s2,s3,s4⟩:=jf (R:=R) (S:=S) (by omega) (by omega) hf (by omega)
 have z0:aD (sz R S) (.int 0)=some (.int R):=rfl
 have zz:aD (sz R S) (.int 1)=some (.int S):=rfl
 rw[s1,bdR]
 dsimp only
 rw[hC,oMS,bdR,z0,oMS,bdR,zR R (by omega),oMS,bdR,zz,oMS,bdR,zR S (by omega),oMS,bdR,bdR,bdR,mq,oMS,bdR,show(m:Int) - 1=((m - 1:Nat):Int) by omega,eh _ (by omega),oMS,bdR]
 refine pw (R:=λx=>∃f':List D,x=.ret (PyData.bool true,f')/\Fd (T+60) f') (P:=λj s=>j<=m - 1/\∃(f':List D) (w:D),s=(f',sz R S,PyData.int (m:Int),g.d,(k0 R S).d,w,())/\LW R S (j+1) w/\Fd (T+9+j) f') _ _ ?_ ⟨by omega,f1,_,rfl,qH R S,s4.le (by omega)⟩ ?_
 ·rintro j s d hd ⟨hj,f2,w,rfl,hw,hf2⟩ kn hk
  obtain⟨hj',rfl⟩:=uf hd
  dsimp only
  unfold gE
  obtain⟨q,f3,q1,q2,q3,q4⟩:=cF hf2 (by omega) (m:=5) (by decide) (by decide)
  rw[q1,bdR]
  dsimp only
  rw[eqI,oMS,bdR]
  have hk':∀w,LW R S (j+1+1) w->∃f',kn (f3,sz R S,.int (m:Int),g.d,(k0 R S).d,w,())=.ret (.bool true,f')/\Fd (T+60) f':=λw hw=>hk _ ⟨by omega,f3,w,rfl,hw,q4.le (by omega)⟩
  rcases ac (q==0)with e|e
  ·rw[e,be rfl]
   exact Ew (X:=λx=>∃f':List D,x=.ret (PyData.bool true,f')/\Fd (T+60) f') hR hS hw (by omega) (BR hR hS (by omega) s2 s3 hw) hk'
  ·rw[e,ff]
   exact Ew (X:=λx=>∃f':List D,x=.ret (PyData.bool true,f')/\Fd (T+60) f') hR hS hw (by omega) (BQ hR hS (by omega) s2 s3 hw) hk'
 ·rintro s ⟨_,f2,w,rfl,hw,hf2⟩
  rw[zzd,ic]at hw hf2
  dsimp only
  unfold gG
  have sh:Sh w:=⟨hw.sk.sm (by decide),by have:=hw.sz;omega,by have:=hw.dp;omega⟩
  have e:=lE (R:=R) (S:=S) (fs:=[k0 R S]) (by omega) (by omega) sh (λk hk=>by rw[List.mem_singleton.mp hk];exact yQ R S) (by simp)
  rw[hw.rf 30 []]at e
  have e':fc (.int (R:Int)) (.int (S:Int)) (.tuple [(k0 R S).d]) w=.ret (.bool (decide (m - 1+1<=30))):=e
  have hd:decide ((m:Int)<=30)=decide (m - 1+1<=30):=decide_eq_decide.mpr (by omega)
  have q1:∀b:Bool,kF [.bool b]=some (.str (PyData.bool b).shown):=λb=>Bc (by simp[Sm]) (by simp[L4.sz]) (by simp[PyData.depth])
  have q2:∀b:Bool,bD (.str (PyData.bool b).shown) (.str (PyData.bool b).shown)=some true:=λb=>xQ (by simp[Sm])
  rw[z0,oMS,bdR,zz,oMS,bdR,e',bdR,q1,oMS,bdR,leI,oMS,bdR,bdR,hd,q1,oMS,bdR,q2,oMS,bdR,bdR]
  exact⟨_,rfl,hf2.le (by omega)⟩
theorem FsG.sub{fs:List Fc}(hR:R<=5)(hS:S<=3)(h:FsG R S fs)(hl:∀k∈l,k∈fs)(hn:l.length<=10):FsOk R S l:=⟨λk q=>h.ok k (hl k q),hn,λk q=>Cb (h.ok k (hl k q)) (h.fb k (hl k q)) (by decide) (by decide),λk q=>by have:=Ca (h.ok k (hl k q));omega,λk q=>by have:=Cc k;omega⟩
structure Got(R S:Nat)(fs:List Fc)(w:D):Prop where
 hR:R<=5
 hS:S<=3
 rs:1<=R+S
 g:FsG R S fs
 rf:rf R S 30 fs w=true
 sk:Sk 1000000000000002 w
 sz:L4.sz w<=5570
 dp:w.depth<=14
theorem Got.th{fs:List Fc}{w:D}(h:Got R S fs w):Th w:=⟨h.sk.le (by decide),by have:=h.sz;omega,by have:=h.dp;omega⟩
section
variable {fs:List Fc} {w:D} (G:Got R S fs w)
include G
theorem Got.right(hl:∀k∈l,k∈fs)(hn:l.length<=10){d:D}(h:Th d):bP (K62.sz R S) (fsD l) d=.ret (.bool true):=A9 (by have:=G.hR;omega) (by have:=G.hS;omega) G.rs (G.g.sub G.hR G.hS hl hn) h
theorem Got.rightF{d:D}(h:Th d):bP (K62.sz R S) (fsD fs) d=.ret (.bool true):=G.right (λ_ q=>q) (by have:=G.g.len;omega) h
theorem E9{kn2:D×Unit->M D}{s:D}{f:List D}{res:M D}(hf:Fd T f)(hT:T<=70000)(hk:kn2 (s,())=res):nY kn2 s f (K62.sz R S) (fsD fs)=res:=by
 unfold nY
 obtain⟨f1,a1,a2⟩:=yN (m:=30) G.hR G.hS (by decide) (by decide) hf (by omega)
 obtain⟨f2,b1,b2⟩:=yN (m:=31) G.hR G.hS (by decide) (by decide) a2 (by omega)
 rw[show bI f (K62.sz R S) (.int 30)=_ from a1,bdR]
 dsimp only
 rw[fS,bdR]
 show(if false=true then _ else _)=_
 rw[ff,show bI f1 (K62.sz R S) (.int 31)=_ from b1,bdR]
 dsimp only
 rw[fS,bdR]
 exact hk
theorem E6{kn2:D×Unit->M D}{s d:D}{f:List D}{kn:D×List D×D×D×Unit->M D}(h:Th d):nX kn2 s f (K62.sz R S) (fsD fs) d kn=kn (s,f,K62.sz R S,fsD fs,()):=by
 unfold nX
 rw[G.rightF h,bdR,cE,oMS,bdR,bdR]
 rfl
theorem GY{kn2:D×Unit->M D}{s:D}{f:List D}{res:M D}(hf:Fd T f)(hT:T<=70000)(hk:kn2 (s,())=res):qZ kn2 s f (K62.sz R S) (fsD fs) w=res:=by
 unfold qZ
 obtain⟨x,r,rfl⟩:=yy G.rf
 have hth:=G.th
 rw[show qM [.tuple (.str x::r)]=some (.str x::r)from rfl,oMS,bdR,bdR,bdR,lB,oMS,bdR]
 refine mR (P:=λ_ st=>st=(s,f,K62.sz R S,fsD fs,())) _ 0 _ _ ?_ rfl ?_
 ·intro j st d hd _ _ hp kn hkn
  subst hp
  have hsz:=hth.sz
  have hdp:=hth.dp
  have a1:∀{d:D},Sk (10^18) d->L4.sz d<=100->d.depth<=5->Th d:=λh1 h2 h3=>⟨h1,by omega,by omega⟩
  have one:∀(a:D),Sk (10^18) a->L4.sz a<=10->a.depth<=4->Th (.tuple [a]):=λa h1 h2 h3=>a1 (skT.mpr λx hx=>by rw[List.mem_singleton.mp hx];exact h1) (by simp only[L4.sz,L4.szs];omega) (dp_tuple.mpr λx hx=>by rw[List.mem_singleton.mp hx];exact h3)
  have wd:∀(v:String),dn v=true->Sk (10^18) (.str v)/\L4.sz (.str v)<=10/\(PyData.str v).depth<=4:=λv hv=>⟨skW hv,by simp[L4.sz],by simp[PyData.depth]⟩
  have hd':Th d:=by
   simp only[ak,ai,el]at hd
   rcases hd with rfl|rfl|rfl|rfl|rfl|rfl|rfl|rfl|rfl|rfl|rfl
   ·exact a1 (by simp only[Sk]) (by simp[L4.sz]) (by simp[PyData.depth])
   ·exact a1 (by simp only[Sk]) (by simp[L4.sz]) (by simp[PyData.depth])
   ·exact a1 (skT.mpr λ_ h=>by cases h) (by simp[L4.sz,L4.szs]) (by simp[PyData.depth,PyData.depthAll])
   ·exact one _ (wd _ vo).1 (wd _ vo).2.1 (wd _ vo).2.2
   ·refine a1 (skT.mpr λx hx=>?_) (by simp[L4.sz,L4.szs]) (by simp[PyData.depth,PyData.depthAll])
    simp only[ak,ai,el]at hx
    rcases hx with rfl|rfl
    ·exact skW vo
    ·exact skT.mpr λ_ h=>by cases h
   ·exact one _ (wd _ vp).1 (wd _ vp).2.1 (wd _ vp).2.2
   ·have gsz:=G.sz
    have gdp:=G.dp
    refine⟨skL.mpr λx hx=>by rw[List.mem_singleton.mp hx];exact hth.sk,by rw[L4.sz,L4.szs,L4.szs];omega,?_⟩
    rw[px]
    exact dp_tuple (n:=49).mpr λx hx=>by rw[List.mem_singleton.mp hx];omega
   ·exact⟨skL.mpr (skT.mp hth.sk),by rw[L4.sz];rw[L4.sz]at hsz;exact hsz,by rw[px];exact hdp⟩
   ·have gsz:=G.sz
    have gdp:=G.dp
    exact⟨skT.mpr λx hx=>by rw[List.mem_singleton.mp hx];exact hth.sk,by rw[L4.sz,L4.szs,L4.szs];omega,dp_tuple (n:=49).mpr λx hx=>by rw[List.mem_singleton.mp hx];omega⟩
   ·exact a1 (wd _ vo).1 (by simp[L4.sz]) (by simp[PyData.depth])
   ·exact a1 (skI.mpr (by decide)) (by simp[L4.sz]) (by simp[PyData.depth])
  dsimp only
  rw[E6 G hd']
  exact hkn _ rfl
 ·intro st hp
  subst hp
  exact E9 G hf hT hk
theorem GK{kn2:D×Unit->M D}{s:D}{f:List D}{kn:D×List D×D×D×D×Unit->M D}(hl:∀k∈l,k∈fs)(hn:l.length<=10):qW kn2 s f (K62.sz R S) (fsD fs) w (fsD l) kn=kn (s,f,K62.sz R S,fsD fs,w,()):=by
 unfold qW
 rw[G.right hl hn G.th,bdR,cE,oMS,bdR,bdR]
 rfl
omit G in
theorem Gc(fs:List Fc)(lo hi:Option Int):∃l:List Fc,L4.cutD (fs.map Fc.d) lo hi=l.map Fc.d/\(∀k∈l,k∈fs)/\l.length<=fs.length:=by
 unfold L4.cutD
 rw[<-List.map_drop,<-List.map_take]
 refine⟨_,rfl,λk hk=>ng (mo hk),?_⟩
 rw[ls,um]
 omega
theorem GZ{kn2:D×Unit->M D}{s:D}{f:List D}{res:M D}(hf:Fd T f)(hT:T<=70000)(hk:kn2 (s,())=res):q8 kn2 s f (K62.sz R S) (fsD fs) w=res:=by
 unfold q8
 have hlen:=G.g.len
 obtain⟨l1,e1,m1,n1⟩:=Gc fs (some 1) none
 obtain⟨l2,e2,m2,n2⟩:=Gc fs none (some (-1))
 obtain⟨l3,e3,m3,n3⟩:=Gc fs none (some 1)
 have er:xP (fsD fs)=some (fsD fs.reverse):=by
  show some (PyData.tuple (fs.map Fc.d).reverse)=_
  rw[<-List.map_reverse]
 have ea:aX (fsD fs) (.tuple (l3.map Fc.d))=some (fsD (fs++l3)):=by
  rw[va _ _ (by rw[zzd,zzd];omega),<-HI]
 rw[jt,bdR,oU,e1,oMS,bdR,er,oMS,bdR,hC,oMS,bdR,jt,bdR,oU,e2,oMS,bdR,bdR,oU,e3,oMS,bdR,ea,oMS,bdR,bdR,lB,oMS,bdR]
 refine mR (P:=λ_ st=>st=(s,f,K62.sz R S,fsD fs,w,())) _ 0 _ _ ?_ rfl ?_
 ·intro j st d hd _ _ hp kn hkn
  subst hp
  have hd':∃l,d=fsD l/\(∀k∈l,k∈fs)/\l.length<=10:=by
   simp only[ak,ai,el]at hd
   rcases hd with rfl|rfl|rfl|rfl|rfl
   ·exact⟨l1,rfl,m1,by omega⟩
   ·exact⟨fs.reverse,rfl,λk q=>List.mem_reverse.mp q,by rw[List.length_reverse];omega⟩
   ·exact⟨l2,rfl,m2,by omega⟩
   ·exact⟨fs++l3,rfl,λk q=>(List.mem_append.mp q).elim id (m3 k),by rw[zzf];omega⟩
   ·exact⟨[],rfl,(λ_ q=>nomatch q),by decide⟩
  obtain⟨l,rfl,h1,h2⟩:=hd'
  dsimp only
  rw[GK G h1 h2]
  exact hkn _ rfl
 ·intro st hp
  subst hp
  exact GY G hf hT hk
theorem GL{kn2:D×Unit->M D}{s d:D}{f:List D}{kn:D×List D×D×D×D×Unit->M D}{res:M D}(hf:Fd T f)(hT:T<=70000)(hk:∀f',Fd (T+100) f'->kn (s,f',K62.sz R S,fsD fs,w,())=res):qX kn2 s f (K62.sz R S) (fsD fs) w d kn=res:=by
 unfold qX
 have gsz:=G.sz
 have gdp:=G.dp
 obtain⟨r,f1,a1,a2,a3⟩:=uY (B:=1000000000000002) (by decide) (by decide) 9 8 T f w (by decide) (by decide) G.sk (by omega) (by omega) hf (by omega)
 have b1:=a2.sz
 have b2:=a2.dp
 obtain⟨q,f2,c1,c2,c3⟩:=uY (B:=3*1000000000000002) (by decide) (by decide) 9 8 _ f1 r (by decide) (by decide) a2.sk (by omega) (by omega) a3 (by omega)
 have d1:=c2.sz
 have d2:=c2.dp
 have t1:Th r:=⟨a2.sk.le (by decide),by omega,by omega⟩
 have t2:Th q:=⟨c2.sk.le (by decide),by omega,by omega⟩
 rw[show cP 9 f w (.int 8)=_ from a1,bdR]
 dsimp only
 rw[G.rightF t1,bdR,cE,oMS,bdR,bdR]
 show(if false=true then _ else _)=_
 rw[ff,show cP 9 f1 r (.int 8)=_ from c1,bdR]
 dsimp only
 rw[G.rightF t2,bdR,fS,bdR]
 show(if false=true then _ else _)=_
 rw[ff]
 exact hk f2 (c3.le (by omega))
theorem G0{kn2:D×Unit->M D}{s:D}{f:List D}{res:M D}(hf:Fd T f)(hT:T<=60000)(hk:kn2 (s,())=res):q9 kn2 s f (K62.sz R S) (fsD fs) w=res:=by
 unfold q9
 have z0:aD (K62.sz R S) (.int 0)=some (.int R):=rfl
 have z1:aD (K62.sz R S) (.int 1)=some (.int S):=rfl
 have hR:=G.hR
 have hS:=G.hS
 have e:=lE (R:=R) (S:=S) (fs:=fs) (d:=w) (by omega) (by omega) G.th.sh G.g.ok (by have:=G.g.len;omega)
 rw[G.rf]at e
 rw[z0,oMS,bdR,z1,oMS,bdR,e,bdR,show lH (.bool true) (.bool true)=some false from rfl,oMS,bdR,ff,show ci [.int 6]=some ((List.range 6).map iN)from eh 6 (by decide),oMS,bdR]
 refine mR (P:=λj st=>∃f',st=(s,f',K62.sz R S,fsD fs,w,())/\Fd (T+100*j) f') _ 0 _ _ ?_ ⟨f,rfl,hf.le (by omega)⟩ ?_
 ·rintro j st d hd _ hj ⟨f',rfl,hf'⟩ kn hkn
  have hj:j<6:=by simpa using hj
  dsimp only
  exact GL G hf' (by omega) λf2 hf2=>hkn _ ⟨f2,rfl,hf2.le (by omega)⟩
 ·rintro st ⟨f',rfl,hf'⟩
  have hf':Fd (T+600) f':=hf'.le (by simp)
  exact GZ G hf' (by omega) hk
end
theorem xJ{fs:List Fc}{w:D}(hR:R<=5)(hS:S<=3)(hRS:1<=R+S)(hg:FsG R S fs)(hw:Wy R S 0 fs w){kn2:D×Unit->M D}{s:D}{f:List D}{res:M D}(hf:Fd T f)(hT:T<=50000)(hk:kn2 (s,())=res):jm kn2 s f (sz R S) (fsD fs) w=res:=by
 unfold jm
 obtain⟨n,f1,n1,n2,n3,n4⟩:=cF hf (by omega) (m:=4) (by decide) (by decide)
 obtain⟨n,rfl⟩:=ge n2
 rw[n1,bdR]
 dsimp only
 rw[eh n (by omega),oMS,bdR]
 refine mR (P:=λj st=>j<=n/\∃f' w',st=(s,f',sz R S,fsD fs,w',())/\Wy R S j fs w'/\Fd (T+1+20*j) f') _ 0 _ _ ?_ ⟨by omega,f1,w,rfl,hw,n4⟩ ?_
 ·rintro j st d hd _ hj ⟨hjn,f',w',rfl,hw',hf'⟩ kn hkn
  have hj:j<n:=by simpa using hj
  dsimp only
  unfold wx
  obtain⟨w2,f2,a1,a2,a3⟩:=Af hR hS hf' (by omega) (by omega) hg hw'
  rw[a1,bdR]
  exact hkn _ ⟨by omega,f2,w2,rfl,a2,a3.le (by omega)⟩
 ·rintro st ⟨hjn,f',w',rfl,hw',hf'⟩
  rw[zzd,ic,Nat.zero_add]at hw' hf'
  have hn:n<=3:=by omega
  have G:Got R S fs w':=⟨hR,hS,hRS,hg,GN (by omega) hw'.rf,hw'.sk.le (by omega),eg hw'.sz EF,by have:=hw'.dp;omega⟩
  exact G0 G hf' (by omega) hk
theorem FO:nZ=jm:=rfl
theorem GM{ns:List Int}{k:Int}{kn2:D×Unit->M D}{res:M D}(hn:ns.length<=63)(hk:kn2 (.list (ns.map PyData.int),())=res):qY (.list (ns.map PyData.int)) (.int k) kn2=res:=by
 unfold qY
 obtain⟨f0,a1,a2⟩:=DM ns k hn
 obtain⟨r,f1,b1,b2,b3,b4⟩:=cF a2 (by decide) (m:=5) (by decide) (by decide)
 obtain⟨s,f2,c1,c2,c3,c4⟩:=cF b4 (by decide) (m:=3) (by decide) (by decide)
 obtain⟨t,f3,d1,d2,d3,d4⟩:=cF c4 (by decide) (m:=5) (by decide) (by decide)
 rw[a1,bdR,b1,bdR]
 dsimp only
 rw[gI,oMS,bdR,c1,bdR]
 dsimp only
 rw[gI,oMS,bdR,d1,bdR]
 dsimp only
 obtain⟨R,hR⟩:∃R:Nat,1+r=R:=⟨(1+r).toNat,by omega⟩
 obtain⟨S,hS⟩:∃S:Nat,1+s=S:=⟨(1+s).toNat,by omega⟩
 rw[hR,hS]
 have hR5:R<=5:=by omega
 have hS3:S<=3:=by omega
 have hRS:1<=R+S:=by omega
 rw[FO,ltI,oMS,bdR]
 have need:∀(f':List D) (T:Nat),Fd T f'->T<=1000->(bd (dA f' (sz R S)) λr14=>un2 r14.1 λy15 y16=>jm kn2 (.list (ns.map PyData.int)) r14.2 (sz R S) y15 y16)=res:=λf' T hf' hT=>by
  obtain⟨fs,w,f4,e1,e2,e3,e4⟩:=BU (R:=R) (S:=S) hR5 hS3 hf' (by omega)
  rw[e1,bdR,gJ]
  exact xJ hR5 hS3 hRS e2 e3 e4 (by omega) hk
 by_cases ht:t<2
 ·rw[de ht,be rfl]
  obtain⟨fs,w,f4,e1,e2,e3,e4⟩:=Dx (R:=R) (S:=S) hR5 hS3 d4 (by decide)
  rw[e1,bdR,gJ,eqI,oMS,bdR,show(t==4)=false by rw[br];omega,ff]
  exact xJ hR5 hS3 hRS e2 e3 e4 (by decide) hk
 ·rw[eE ht,ff]
  obtain⟨fs,w,f4,e1,e2,e3,e4⟩:=BS (R:=R) (S:=S) hR5 hS3 d4 (by decide)
  rw[e1,bdR,gJ,eqI,oMS,bdR]
  by_cases h4:t=4
  ·rw[show(t==4)=true by simp[h4],be rfl]
   exact need f4 _ e4 (by decide)
  ·rw[show(t==4)=false by rw[br];exact h4,ff]
   exact xJ hR5 hS3 hRS e2 e3 e4 (by decide) hk
theorem main(ns:List Int)(hn:ns.length<=63):zh (.list (ns.map PyData.int))=.ret (.bool true):=by
 unfold zh
 rw[show ci [.int 8]=some ((List.range 8).map iN)from eh 8 (by decide),oMS,bdR]
 refine mR (P:=λ_ st=>st=(.list (ns.map PyData.int),())) _ 0 _ _ ?_ rfl ?_
 ·intro j st d hd _ _ hp kn hkn
  subst hp
  obtain⟨i,_,rfl⟩:=List.mem_map.mp hd
  exact GM hn (hkn _ rfl)
 ·intro st hp
  subst hp
  rfl
end K62
namespace PySem.W.Fast
def tw17157134458399092570:=()
def tw602685452600757562:=()
def tw18115325210487085567:=()
def tw423262052201827069:=()
def tw1360283190377373377:=()
def tw10779631173268147061:=()
def tw10504534561129185185:=()
def tw6290127292669912649:=()
def tw2656735532674951566:=()
def tw13917459590752029450:=()
def tw14271436735826754776:=()
def tw15934664027881480753:=()
def tw9552418478897671306:=()
def tw10046313761152413251:=()
def tw3590750389434401763:=()
def tw9610986438761132342:=()
def tw13324947599483547617:=()
def tw16565213749388195062:=()
def tw2914435368802891086:=()
def tw13749451121488110417:=()
def tw1476507145984634639:=()
def tw6241887844635326211:=()
def tw1836945641332545572:=()
def tw9839628985731518922:=()
def tw8025145419840671140:=()
def tw6889838222971706527:=()
def tw11009585571758531354:=()
def tw3805087264373984111:=()
def tw4098959439239380021:=()
def tw4822468264563734288:=()
def tw6179707957997995503:=()
def tw16578035474665005965:=()
def tw12332119171028116542:=()
def tw16486985672242070643:=()
def tw14711507236612974638:=()
def tw8708588742948635036:=()
def tw8805927037080564916:=()
def tw9753739450071108519:=()
def tw9039245513719121563:=()
def tw5035992750071337383:=()
def tw16976179012535163262:=()
def tw6323264370708961855:=()
def tw3544866290784189326:=()
def tw13242665199625380704:=()
def tw16220838324694292950:=()
def tw3270152731919695943:=()
def tw10868572446165338402:=()
def tw16137076401137100660:=()
def tw17220345710286354661:=()
def tw3984515424065050262:=()
def tw10035612582886312510:=()
def tw10927627497100660190:=()
def tw10537779701160074751:=()
def tw1185125699109408808:=()
def tw3867878062409475644:=()
def tw1988719364045080889:=()
def tw15540291294631836214:=()
def tw6602604593956872946:=()
def tw11907985491550585668:=()
def tw10932063996595902457:=()
def tw9552314118709310851:=()
def tw17057812132965374735:=()
def tw6484529864105963844:=()
def tw17876793722407734028:=()
def tw5512035824631502831:=()
def tw9441960359125515881:=()
def tw653191909044719331:=()
def tw6800800421748587599:=()
def tw12093637379511305967:=()
def tw5818121035415548675:=()
def tw2393421437312776689:=()
def tw14146843341625990762:=()
def tw12424872289366819670:=()
def tw17268463550807019434:=()
def tw6958648320007103345:=()
def tw13971109780517773677:=()
def tw15692199726674063799:=()
def tw4209468054854625261:=()
def tw5173779793609986180:=()
def tw10950473407153461004:=()
def tw8000915319123074127:=()
def tw14252728877708749921:=()
def tw14959904923211359822:=()
def tw839820044727692360:=()
def tw8802178313417901132:=()
def tw3799824909451139302:=()
def tw4853077099361106372:=()
def tw15814408305175055400:=()
def tw3221328256663036793:=()
def tw10315657014411048641:=()
end PySem.W.Fast
namespace K62
open PySem PySem.Spec PyProof.Rows L2 L3 L4
theorem all_mk{l:PySem.W.OpenLaw}{w:World}{K:Fg}{h:Heap}{mg:zzl}{fa:Addr}(X:K.In h)(G:h.Ns mainGlobals mg)(hfa:mg "law" = some (.ref fa))(p0:Fa K "is_whole" lC)(p1:Fa K "is_within" j6)(p2:Fa K "is_tuple_of" iX)(p3:Fa K "is_bounded" jz)(p4:Fa K "are_bounded" iY)(p5:Fa K "is_form" nh)(p6:Fa K "plus" xg)(p7:Fa K "summed" pR)(p8:Fa K "nought" pS)(p9:Fa K "against" nk)(p10:Fa K "is_fact" nj)(p11:Fa K "not_of" pU)(p12:Fa K "denials_of" jA)(p13:Fa K "split_branches" fV)(p14:Fa K "cases_branches" fX)(p15:Fa K "shows_at" jy)(p16:Fa K "know_branches" eS)(p17:Fa K "branches_at" gq)(p18:Fa K "come_together" gK)(p19:Fa K "are_times" j7)(p20:Fa K "refutes_by_sum" fW)(p21:Fa K "refutes_by_rest" fk)(p22:Fa K "refutes_at" g6)(p23:Fa K "refutes" m6)(p24:Fa K "_law_feed" kh)(p25:Fa K "_law_take" j9)(p26:Fa K "_law_is_whole" gL)(p27:Fa K "_law_are_whole" fY)(p28:Fa K "_law_is_form" il)(p29:Fa K "_law_is_fact" iq)(p30:Fa K "_law_less" kb)(p31:Fa K "_law_against" iw)(p32:Fa K "_law_come_to" iu)(p33:Fa K "_law_ways" j8)(p34:Fa K "_law_shown" g9)(p35:Fa K "_law_refuted" fq)(p36:Fa K "_law_kept" kf)(p37:Fa K "_law_goal" kg)(p38:Fa K "_law_plus" ka)(p39:Fa K "_law_small" jB)(p40:Fa K "_law_summed" iZ)(p41:Fa K "_law_rested" i5)(p42:Fa K "_law_needing" ik)(p43:Fa K "_law_shifted" fm)(p44:Fa K "_law_deeper" i6)(p45:Fa K "_law_odd" lD)(p46:Fa K "_law_bent" iJ)(p47:Fa K "_law_right" jC)(p48:Fa K "_law_long_right" fw)(p49:Fa K "law" A6)(kc0:Kc K "GREATEST" (.int 1000000000000000))(kc1:Kc K "MOST_DIVIDES" (.int 99))(kc2:Kc K "MOST_WITHIN" (.int 30))(kc3:Kc K "MOST_RESTS" (.int 99))(kc4:Kc K "MOST_CASES" (.int 9))(bz:(BL.all λx=>Hq (PySem.W.nsIn K mainGlobals x))=true) :
  ∃fd:FuncData,(∀(s:Shared) (v:Value),BindsTo s fd ⟨[v],[]⟩ [("_law_script",v)])/\∀base:Heap,K.In base->base.Ns mainGlobals mg->FnOk l.prog w K mg base (CX1 l.prog w) 140 fa fd ["_law_script"] (spD K 1 uI):=by
 obtain⟨f0,fd0,a0,F0⟩:=p0
 obtain⟨f1,fd1,a1,F1⟩:=p1
 obtain⟨f2,fd2,a2,F2⟩:=p2
 obtain⟨f3,fd3,a3,F3⟩:=p3
 obtain⟨f4,fd4,a4,F4⟩:=p4
 obtain⟨f5,fd5,a5,F5⟩:=p5
 obtain⟨f6,fd6,a6,F6⟩:=p6
 obtain⟨f7,fd7,a7,F7⟩:=p7
 obtain⟨f8,fd8,a8,F8⟩:=p8
 obtain⟨f9,fd9,a9,F9⟩:=p9
 obtain⟨f10,fd10,a10,F10⟩:=p10
 obtain⟨f11,fd11,a11,F11⟩:=p11
 obtain⟨f12,fd12,a12,F12⟩:=p12
 obtain⟨f13,fd13,a13,F13⟩:=p13
 obtain⟨f14,fd14,a14,F14⟩:=p14
 obtain⟨f15,fd15,a15,F15⟩:=p15
 obtain⟨f16,fd16,a16,F16⟩:=p16
 obtain⟨f17,fd17,a17,F17⟩:=p17
 obtain⟨f18,fd18,a18,F18⟩:=p18
 obtain⟨f19,fd19,a19,F19⟩:=p19
 obtain⟨f20,fd20,a20,F20⟩:=p20
 obtain⟨f21,fd21,a21,F21⟩:=p21
 obtain⟨f22,fd22,a22,F22⟩:=p22
 obtain⟨f23,fd23,a23,F23⟩:=p23
 obtain⟨f24,fd24,a24,F24⟩:=p24
 obtain⟨f25,fd25,a25,F25⟩:=p25
 obtain⟨f26,fd26,a26,F26⟩:=p26
 obtain⟨f27,fd27,a27,F27⟩:=p27
 obtain⟨f28,fd28,a28,F28⟩:=p28
 obtain⟨f29,fd29,a29,F29⟩:=p29
 obtain⟨f30,fd30,a30,F30⟩:=p30
 obtain⟨f31,fd31,a31,F31⟩:=p31
 obtain⟨f32,fd32,a32,F32⟩:=p32
 obtain⟨f33,fd33,a33,F33⟩:=p33
 obtain⟨f34,fd34,a34,F34⟩:=p34
 obtain⟨f35,fd35,a35,F35⟩:=p35
 obtain⟨f36,fd36,a36,F36⟩:=p36
 obtain⟨f37,fd37,a37,F37⟩:=p37
 obtain⟨f38,fd38,a38,F38⟩:=p38
 obtain⟨f39,fd39,a39,F39⟩:=p39
 obtain⟨f40,fd40,a40,F40⟩:=p40
 obtain⟨f41,fd41,a41,F41⟩:=p41
 obtain⟨f42,fd42,a42,F42⟩:=p42
 obtain⟨f43,fd43,a43,F43⟩:=p43
 obtain⟨f44,fd44,a44,F44⟩:=p44
 obtain⟨f45,fd45,a45,F45⟩:=p45
 obtain⟨f46,fd46,a46,F46⟩:=p46
 obtain⟨f47,fd47,a47,F47⟩:=p47
 obtain⟨f48,fd48,a48,F48⟩:=p48
 obtain⟨f49,fd49,a49,F49⟩:=p49
 cases hfa.symm.trans (am X G a49)
 have B:BN mg:=HM X G bz
 have Kn:KN mg:=⟨vZ X G kc0,vZ X G kc1,vZ X G kc2,vZ X G kc3,vZ X G kc4⟩
 refine⟨fd49,λs v=>?_,λbase _ _=>?_⟩
 ·obtain⟨_,_,_,_,_,_,_,_,_,rfl,_⟩:=F49.ex
  exact .of_eq rfl
 have gbG:=vO (P:=l.prog) (w:=w) (base:=base) F0 (am X G a0) B Kn
 have gau:=uv (P:=l.prog) (w:=w) (base:=base) F1 (am X G a1) B Kn gbG
 have gap:=qw (P:=l.prog) (w:=w) (base:=base) F2 (am X G a2) B Kn
 have gaG:=rM (P:=l.prog) (w:=w) (base:=base) F3 (am X G a3) B Kn gau
 have gbc:=qz (P:=l.prog) (w:=w) (base:=base) F4 (am X G a4) B Kn gap gaG
 have ga7:=xx (P:=l.prog) (w:=w) (base:=base) F5 (am X G a5) B Kn gbc gap gaG
 have gbz:=Ds (P:=l.prog) (w:=w) (base:=base) F6 (am X G a6) B Kn
 have gbw:=zN (P:=l.prog) (w:=w) (base:=base) F7 (am X G a7) B Kn
 have gbx:=zO (P:=l.prog) (w:=w) (base:=base) F8 (am X G a8) B Kn
 have gbM:=xB (P:=l.prog) (w:=w) (base:=base) F9 (am X G a9) B Kn gbw gbx
 have gbu:=xy (P:=l.prog) (w:=w) (base:=base) F10 (am X G a10) B Kn gau ga7
 have gbn:=zP (P:=l.prog) (w:=w) (base:=base) F11 (am X G a11) B Kn gbz gbM
 have gbb:=rN (P:=l.prog) (w:=w) (base:=base) F12 (am X G a12) B Kn gbn gbz
 have gaQ:=mE (P:=l.prog) (w:=w) (base:=base) F13 (am X G a13) B Kn ga7 gbn
 have gaR:=mH (P:=l.prog) (w:=w) (base:=base) F14 (am X G a14) B Kn ga7 gau gap gbz
 have gaL:=nF (P:=l.prog) (w:=w) (base:=base) F18 (am X G a18) B Kn gbx gbw
 have ga9:=uz (P:=l.prog) (w:=w) (base:=base) F19 (am X G a19) B Kn gap gau gaG
 have gaP:=mF (P:=l.prog) (w:=w) (base:=base) F20 (am X G a20) B Kn gaL ga9
 have gaM:=lJ (P:=l.prog) (w:=w) (base:=base) F21 (am X G a21) B Kn gaL gau ga9
 have R_shows_at:=uu (P:=l.prog) (w:=w) (base:=base) F15 (am X G a15) F22 (am X G a22) F17 (am X G a17) F16 (am X G a16) B Kn gbb gap gaP gaM gaQ gaR gbu 130
 have gbZ:=R_shows_at.1
 have gbv:=R_shows_at.2.1
 have gbW:=R_shows_at.2.2.1
 have gbV:=R_shows_at.2.2.2
 have ga8:=xu (P:=l.prog) (w:=w) (base:=base) F23 (am X G a23) B Kn gbv
 have gbD:=uG (P:=l.prog) (w:=w) (base:=base) F24 (am X G a24) B Kn
 have gah:=uB (P:=l.prog) (w:=w) (base:=base) F25 (am X G a25) B Kn
 have gan:=nG (P:=l.prog) (w:=w) (base:=base) F26 (am X G a26) B Kn
 have gaS:=mI (P:=l.prog) (w:=w) (base:=base) F27 (am X G a27) B Kn gan
 have gaJ:=oH (P:=l.prog) (w:=w) (base:=base) F28 (am X G a28) B Kn gaS
 have gaW:=oI (P:=l.prog) (w:=w) (base:=base) F29 (am X G a29) B Kn gaJ gan
 have gaK:=uD (P:=l.prog) (w:=w) (base:=base) F30 (am X G a30) B Kn
 have gaX:=oK (P:=l.prog) (w:=w) (base:=base) F31 (am X G a31) B Kn gaK
 have gaT:=oJ (P:=l.prog) (w:=w) (base:=base) F32 (am X G a32) B Kn gan
 have gbe:=uA (P:=l.prog) (w:=w) (base:=base) F33 (am X G a33) B Kn gaJ gan gaK
 have R__law_refuted:=nC (P:=l.prog) (w:=w) (base:=base) F35 (am X G a35) F34 (am X G a34) B Kn gaT gbe gan gaW gaX 65
 have gbi:=R__law_refuted.1
 have gbX:=R__law_refuted.2
 have gbp:=uE (P:=l.prog) (w:=w) (base:=base) F36 (am X G a36) B Kn
 have gbC:=uF (P:=l.prog) (w:=w) (base:=base) F37 (am X G a37) B Kn gah
 have gaF:=uC (P:=l.prog) (w:=w) (base:=base) F38 (am X G a38) B Kn
 have gar:=rO (P:=l.prog) (w:=w) (base:=base) F39 (am X G a39) B Kn gah
 have gbq:=qA (P:=l.prog) (w:=w) (base:=base) F40 (am X G a40) B Kn gaF gah gar gbC
 have gbr:=qB (P:=l.prog) (w:=w) (base:=base) F41 (am X G a41) B Kn gar gah gaF
 have gbj:=oG (P:=l.prog) (w:=w) (base:=base) F42 (am X G a42) B Kn gar gah gaF
 have gbh:=oF (P:=l.prog) (w:=w) (base:=base) F43 (am X G a43) B Kn 8
 have gbs:=qC (P:=l.prog) (w:=w) (base:=base) F44 (am X G a44) B Kn gbh gar gah gbp
 have gbl:=vQ (P:=l.prog) (w:=w) (base:=base) F45 (am X G a45) B Kn gah
 have gbt:=uH (P:=l.prog) (w:=w) (base:=base) F46 (am X G a46) B Kn gah gbl 9
 have ga6:=rP (P:=l.prog) (w:=w) (base:=base) F47 (am X G a47) B Kn ga8 gbi
 have gaV:=lK (P:=l.prog) (w:=w) (base:=base) F48 (am X G a48) B Kn gar gah ga8
 exact FU F49 B Kn gbD gah gbq gbr gbj gbs ga8 gbt ga6 gaV
theorem walk{l:PySem.W.OpenLaw}{q:Program}{loose:List Str}{XP:(Str->Option Value)->Heap->Prop}{YP:World->Heap->Prop}{d:DefRec}{K:Params->Fg}(main:∀ns:List Int,ns.length<=63->zh (.list (ns.map PyData.int))=.ret (.bool true))(hn:l.most=some 63)(hdf:d.params.defaults=[])
  (hY:∀(w:World) (h:Heap),YP w h->(K w.params).In h)
  (F:∀(w:World) (mg:zzl) (fa:Addr) (h:Heap),(K w.params).In h->h.Ns mainGlobals mg->mg d.name=some (.ref fa) ->
   ∃fd:FuncData,(∀(s:Shared) (u:Value),BindsTo s fd ⟨[u],[]⟩ [("_law_script",u)])/\∀base:Heap,(K w.params).In base->base.Ns mainGlobals mg->FnOk l.prog w (K w.params) mg base (CX1 l.prog w) 140 fa fd ["_law_script"] (spD (K w.params) 1 uI)) :
  PySem.W.WalkO q loose XP YP l.row.toRowW d [] (λf vs=>PySem.call f vs) :=
 L2.walk_of (n:=63) (k:=140) (x := "_law_script") (CX:=λw=>CX1 l.prog w) (sp:=λw=>spD (K w.params) 1 uI) hn (by decide) hdf ⟨rfl,by decide,by decide,rfl⟩ hY F (λw H a ns hl _ hS=>zX hS (main ns hl)) λ_ _ _ _ _ ⟨_,_,_,_,_,_,_,_,_,_,z⟩=>z
end K62
open PySem PySem.W PyProof.Rows L4
set_option maxRecDepth 100000 in
set_option maxHeartbeats 0 in
theorem PySem.Challenge.cw_passersby_k62_refutations_judged_holds : PySem.Challenge.rw_passersby_k62_refutations_judged.Holds := by
 w_on;o_law;k_head;(case hw=>w_witness2)
 k_fill
 refine K62.walk (l:=PySem.Challenge.rw_passersby_k62_refutations_judged) K62.main rfl rfl (λw h Y=>PySem.W.kIn_of Y) ?F
 case F =>
  intro w mg fa h KX G hmg
  refine' K62.all_mk KX G hmg (bG ?a0 ?l0 ?c0 ?k0) (bG ?a1 ?l1 ?c1 ?k1) (bG ?a2 ?l2 ?c2 ?k2) (bG ?a3 ?l3 ?c3 ?k3) (bG ?a4 ?l4 ?c4 ?k4) (bG ?a5 ?l5 ?c5 ?k5) (bG ?a6 ?l6 ?c6 ?k6) (bG ?a7 ?l7 ?c7 ?k7) (bG ?a8 ?l8 ?c8 ?k8) (bG ?a9 ?l9 ?c9 ?k9) (bG ?a10 ?l10 ?c10 ?k10) (bG ?a11 ?l11 ?c11 ?k11) (bG ?a12 ?l12 ?c12 ?k12) (bG ?a13 ?l13 ?c13 ?k13) (bG ?a14 ?l14 ?c14 ?k14) (bG ?a15 ?l15 ?c15 ?k15) (bG ?a16 ?l16 ?c16 ?k16) (bG ?a17 ?l17 ?c17 ?k17) (bG ?a18 ?l18 ?c18 ?k18) (bG ?a19 ?l19 ?c19 ?k19) (bG ?a20 ?l20 ?c20 ?k20) (bG ?a21 ?l21 ?c21 ?k21) (bG ?a22 ?l22 ?c22 ?k22) (bG ?a23 ?l23 ?c23 ?k23) (bG ?a24 ?l24 ?c24 ?k24) (bG ?a25 ?l25 ?c25 ?k25) (bG ?a26 ?l26 ?c26 ?k26) (bG ?a27 ?l27 ?c27 ?k27) (bG ?a28 ?l28 ?c28 ?k28) (bG ?a29 ?l29 ?c29 ?k29) (bG ?a30 ?l30 ?c30 ?k30) (bG ?a31 ?l31 ?c31 ?k31) (bG ?a32 ?l32 ?c32 ?k32) (bG ?a33 ?l33 ?c33 ?k33) (bG ?a34 ?l34 ?c34 ?k34) (bG ?a35 ?l35 ?c35 ?k35) (bG ?a36 ?l36 ?c36 ?k36) (bG ?a37 ?l37 ?c37 ?k37) (bG ?a38 ?l38 ?c38 ?k38) (bG ?a39 ?l39 ?c39 ?k39) (bG ?a40 ?l40 ?c40 ?k40) (bG ?a41 ?l41 ?c41 ?k41) (bG ?a42 ?l42 ?c42 ?k42) (bG ?a43 ?l43 ?c43 ?k43) (bG ?a44 ?l44 ?c44 ?k44) (bG ?a45 ?l45 ?c45 ?k45) (bG ?a46 ?l46 ?c46 ?k46) (bG ?a47 ?l47 ?c47 ?k47) (bG ?a48 ?l48 ?c48 ?k48) (bG ?a49 ?l49 ?c49 ?k49) (vY ?ga0 ?gb0) (vY ?ga1 ?gb1) (vY ?ga2 ?gb2) (vY ?ga3 ?gb3) (vY ?ga4 ?gb4) ?bz
  (case a0|l0|c0|k0|a1|l1|c1|k1|a2|l2|c2|k2|a3|l3|c3|k3|a4|l4|c4|k4|a5|l5|c5|k5|a6|l6|c6|k6|a7|l7|c7|k7|a8|l8|c8|k8|a9|l9|c9|k9|a10|l10|c10|k10|a11|l11|c11|k11|a12|l12|c12|k12|a13|l13|c13|k13|a14|l14|c14|k14|a15|l15|c15|k15|a16|l16|c16|k16|a17|l17|c17|k17|a18|l18|c18|k18|a19|l19|c19|k19|a20|l20|c20|k20|a21|l21|c21|k21|a22|l22|c22|k22|a23|l23|c23|k23|a24|l24|c24|k24|a25|l25|c25|k25|a26|l26|c26|k26|a27|l27|c27|k27|a28|l28|c28|k28|a29|l29|c29|k29|a30|l30|c30|k30|a31|l31|c31|k31|a32|l32|c32|k32|a33|l33|c33|k33|a34|l34|c34|k34|a35|l35|c35|k35|a36|l36|c36|k36|a37|l37|c37|k37|a38|l38|c38|k38|a39|l39|c39|k39|a40|l40|c40|k40|a41|l41|c41|k41|a42|l42|c42|k42|a43|l43|c43|k43|a44|l44|c44|k44|a45|l45|c45|k45|a46|l46|c46|k46|a47|l47|c47|k47|a48|l48|c48|k48|a49|l49|c49|k49|ga0=>k_is)
  (case gb0=>first|exact⟨_,rfl⟩|rfl)
  (case ga1=>k_is)
  (case gb1=>first|exact⟨_,rfl⟩|rfl)
  (case ga2=>k_is)
  (case gb2=>first|exact⟨_,rfl⟩|rfl)
  (case ga3=>k_is)
  (case gb3=>first|exact⟨_,rfl⟩|rfl)
  (case ga4=>k_is)
  (case gb4=>first|exact⟨_,rfl⟩|rfl)
  (case bz=>kernel_rfl)
